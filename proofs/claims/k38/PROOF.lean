import PyProof.Rows.All
import Wide.All
import OpenK.AllK
import Wide.FinOn
import Lean
import PyProof.EqAt
import PyProof.EqKinds
import PyProof.TupleCall
import PySem.Challenge.RW_overlaid_k38_texts_of_numbers
set_option Elab.async false
set_option linter.all false
set_option maxRecDepth 100000
namespace L2
open PySem PySem.Spec PyProof.Rows
abbrev aj:=Sum Int Str
def fk:aj→Value→Bool
 | .inl k,v=>Value.isInt k v
 | .inr x,v=>Value.isStrOf x v
def wH(w:World):aj→Int
 | .inl k=>hashInt k
 | .inr x=>hashStr w x
theorem dt:∀{k:aj} {v:Value},fk k v=true→(∃i t,k=Sum.inl i∧v=Value.int i t)∨(∃x t,k=Sum.inr x∧v=Value.str x t)
 | .inl i,v,h=>by
   obtain⟨t,e⟩:=Value.isInt_shape (k:=i) (v:=v) h
   exact .inl ⟨i,t,rfl,e⟩
 | .inr x,v,h=>by
   obtain⟨t,e⟩:=Value.isStrOf_shape (x:=x) (v:=v) h
   exact .inr ⟨x,t,rfl,e⟩
theorem sE(i:Int)(t:Tok):fk (.inl i) (.int i t)=true:=by simp[fk,Value.isInt]
theorem sF(x:Str)(t:Tok):fk (.inr x) (.str x t)=true:=by simp[fk,Value.isStrOf]
theorem uC(a b:Int):decide ((Sum.inl a:aj)=Sum.inl b)=(a == b):=by
 by_cases e:a=b
 ·subst e;simp
 ·have h:¬(Sum.inl a:aj)=Sum.inl b:=fun q=>e (Sum.inl.inj q)
  rw[decide_eq_false h]
  exact(beq_eq_false_iff_ne.mpr e).symm
theorem rH(a b:Str):decide ((Sum.inr a:aj)=Sum.inr b)=decide (a=b):=by
 by_cases e:a=b
 ·subst e;simp
 ·have h:¬(Sum.inr a:aj)=Sum.inr b:=fun q=>e (Sum.inr.inj q)
  rw[decide_eq_false h,decide_eq_false e]
theorem zF(a:Int)(b:Str):decide ((Sum.inl a:aj)=Sum.inr b)=false:=decide_eq_false (fun q=>nomatch q)
theorem uG(a:Str)(b:Int):decide ((Sum.inr a:aj)=Sum.inl b)=false:=decide_eq_false (fun q=>nomatch q)
def bN(prog:Program)(w:World):PySem.KeyKind prog w aj where
 is:=fk
 hash:=wH w
 inj:=fun v a b ha hb=>by
  rcases dt ha with⟨i,t,rfl,rfl⟩ | ⟨x,t,rfl,rfl⟩
  ·rcases dt hb with⟨j,u,rfl,e⟩ | ⟨y,u,rfl,e⟩
   ·injection e with e1 _;rw[e1]
   ·exact nomatch e
  ·rcases dt hb with⟨j,u,rfl,e⟩ | ⟨y,u,rfl,e⟩
   ·exact nomatch e
   ·injection e with e1 _;rw[e1]
 byValue:=fun k v h=>by
  rcases dt h with⟨i,t,rfl,rfl⟩ | ⟨x,t,rfl,rfl⟩ <;> rfl
 pyHash:=fun hv h=>by
  rcases dt hv with⟨i,t,rfl,rfl⟩ | ⟨x,t,rfl,rfl⟩
  ·exact wpAny_pyHash_int h
  ·exact wpAny_pyHash_str h
 eqBool:=fun hu hv h=>by
  rcases dt hu with⟨i,t,rfl,rfl⟩ | ⟨x,t,rfl,rfl⟩
  ·rcases dt hv with⟨j,u,rfl,rfl⟩ | ⟨y,u,rfl,rfl⟩
   ·rw[uC] at h;exact wpAny_eqBool_int h
   ·rw[zF] at h;exact SeqAt.EqAt.int_str i t y u _ _ _ _ h
  ·rcases dt hv with⟨j,u,rfl,rfl⟩ | ⟨y,u,rfl,rfl⟩
   ·rw[uG] at h;exact SeqAt.EqAt.str_int x t j u _ _ _ _ h
   ·rw[rH] at h;exact wpAny_eqBool_str h
 «strs»:=fun k x t v h=>by
  rcases dt h with⟨i,u,rfl,e⟩ | ⟨y,u,rfl,e⟩
  ·exact nomatch e
  ·injection e with e1 _
   subst e1
   cases v <;> rfl
theorem sG(prog:Program)(w:World)(i:Int)(t:Tok):(bN prog w).is (.inl i) (.int i t)=true:=sE i t
theorem rW(prog:Program)(w:World)(x:Str)(t:Tok):(bN prog w).is (.inr x) (.str x t)=true:=sF x t
inductive V where
 | non | bl (b:Bool) | int (i:Int) | str (x:Str) | byt (b:Array UInt8) | flt (b:UInt64) | ref (a:Addr) | ty (n:String)
 deriving DecidableEq
def RelV:V→Value→Prop
 | .non,u=>u=Value.none
 | .bl b,u=>u=Value.bool b
 | .int i,u=>∃t,u=Value.int i t
 | .str x,u=>∃t,u=Value.str x t
 | .byt b,u=>∃t,u=Value.bytes b t
 | .flt b,u=>∃t,u=Value.float b t
 | .ref a,u=>u=Value.ref a
 | .ty n,u=>u=Value.type n
abbrev Vals:List V→List Value→Prop:=Paired RelV
theorem Vals.length{xs:List V}{us:List Value}(r:Vals xs us):xs.length=us.length:=Paired.length r
theorem Vals.get:∀{xs:List V} {us:List Value} {i:Nat} {x:V},Vals xs us→xs[i]?=some x→∃u,us[i]?=some u∧RelV x u
 | _,_,_,_,.nil,e=>by simp at e
 | _,_,0,_,.cons r _,e=>by simp at e;subst e;exact⟨_,rfl,r⟩
 | _,_,i+1,x,.cons _ t,e=>by
   obtain⟨u,h1,h2⟩:=Vals.get (i:=i) (x:=x) t (by simpa using e)
   exact⟨u,by simpa using h1,h2⟩
theorem Vals.set{x:V}{u:Value}(r:RelV x u):∀{xs:List V} {us:List Value} (i:Nat),Vals xs us→Vals (xs.set i x) (us.set i u)
 | _,_,_,.nil=>.nil
 | _,_,0,.cons _ t=>.cons r t
 | _,_,i+1,.cons q t=>.cons q (Vals.set r i t)
theorem Vals.append:∀{xs ys:List V} {us ws:List Value},Vals xs us→Vals ys ws→Vals (xs++ys) (us++ws)
 | _,_,_,_,.nil,s=>s
 | _,_,_,_,.cons r t,s=>.cons r (Vals.append t s)
theorem Vals.take:∀{xs:List V} {us:List Value} (n:Nat),Vals xs us→Vals (xs.take n) (us.take n)
 | _,_,0,_=>.nil
 | _,_,_+1,.nil=>.nil
 | _,_,n+1,.cons r t=>.cons r (Vals.take n t)
theorem Vals.drop:∀{xs:List V} {us:List Value} (n:Nat),Vals xs us→Vals (xs.drop n) (us.drop n)
 | _,_,0,r=>r
 | _,_,_+1,.nil=>.nil
 | _,_,n+1,.cons _ t=>Vals.drop n t
def RelO:Option V→Option Value→Prop
 | some v,some u=>RelV v u
 | none,none=>True
 | _,_=>False
def KV{κ:Type}:List (κ×V)→List (κ×Value)→Prop:=Paired fun(p:κ×V) (q:κ×Value)=>p.1=q.1∧RelV p.2 q.2
def kV:aj→V
 | .inl i=>.int i
 | .inr x=>.str x
inductive HO where
 | lst (xs:List V)
 | tup (xs:List V)
 | dK (kvs:List (aj×V)) | dT (kvs:List (List aj×V))
 | set (S:Int→Bool) (n:Nat)
 | ins (C dx:Addr) (fs:List (Str×V))
 | own (x:Addr)
 | xd (fs:List (Str×V))
 | met (f x:Addr)
 | rng (lo hi:Int)
 | frz (o:Obj) (u:HO)
 | tbl (ps:Array Value)
 | ext (φ:Heap→Prop)
abbrev Hp:=Addr→Option HO
def upd(H:Hp)(a:Addr)(o:HO):Hp:=fun b=>if b=a then some o else H b
theorem ad{H:Hp}{a:Addr}{o:HO}:upd H a o a=some o:=by unfold upd;rw[if_pos rfl]
theorem ah{H:Hp}{a b:Addr}{o:HO}(h:b≠a):upd H a o b=H b:=by unfold upd;rw[if_neg h]
theorem bh{H:Hp}{a b:Addr}{o u:HO}(h:H a=some o)(h':H b=some u)(d:o≠u):a≠b:=by
 intro e;subst e;rw[h] at h';exact d (Option.some.inj h')
theorem aD{H:Hp}{a b:Addr}{o:HO}(h:H a=some o)(h':H b=none):a≠b:=by
 intro e;subst e;rw[h] at h';cases h'
section
variable(P:Program)(w:World)
def ObjOk(H:Hp)(h:Heap)(a:Addr):HO→Prop
 | .lst xs=>xs.length≤sizeLine∧∃(its:List Value) (n:Nat),Vals xs its∧h.get? a=some {cls:=.type "list",data:=.seq its.toArray n}
 | .tup xs=>xs.length≤sizeLine∧∃its:List Value,Vals xs its∧IsTup h a its.toArray
 | .dK kvs=>kvs.length≤sizeLine∧(a == sysModules)=false∧∃vs,KV kvs vs∧h.DictOf (bN P w) a vs
 | .dT kvs=>kvs.length≤sizeLine∧(a == sysModules)=false∧∃xs:List (List aj×Addr×Value),
  Paired (fun(p:List aj×V) (q:List aj×Addr×Value)=>p.1=q.1∧H q.2.1=some (.tup (p.1.map kV))∧RelV p.2 q.2.2) kvs xs∧
  ∃o es ep,h.get? a=some o∧o.ExactDict∧o.data=.dict es ep∧es.toList=xs.map (entryOfKey (tupleKind (bN P w)))∧(xs.map (·.1)).Nodup
 | .set S n=>h.SetOf (intKind P w) a S n
 | .ins C dx fs=>H dx=some (.own a)∧fs.length≤1000∧dx≠a∧h.get? a=some (PySem.W.instObj C dx)∧
  ∃mA,h.Ns1 dx mA∧(∀f,RelO (fs.lookup f) (mA f))∧PySem.Within mA (fs.map (·.1))
 | .own _=>∃o,h.get? a=some o
 | .xd fs=>∃mA,h.Ns1 a mA∧∀f,RelO (fs.lookup f) (mA f)
 | .rng lo hi=>∃t u v,h.get? a=some {cls:=.type "range",data:=.fields #[.int lo t,.int hi u,.int 1 v]}
 | .frz o u=>h.get? a=some o∧ObjOk H h a u
 | .tbl ps=>h.get? a=some {cls:=.none,data:=.fields ps}
 | .met f x=>h.get? a=some (PySem.W.methodObj (.ref f) (.ref x))
 | .ext φ=>φ h∧(∃o,h.get? a=some o)∧∀h1 h2:Heap,φ h1→(∀o,h1.get? a=some o→h2.get? a=some o)→φ h2
def HOk(H:Hp)(h:Heap):Prop:=∀a o,H a=some o→ObjOk P w H h a o
end
section
variable{P:Program}{w:World}{H H':Hp}{h h':Heap}{a:Addr}{o:HO}
theorem ObjOk.lt(x:ObjOk P w H h a o):a<h.objs.size:=by
 cases o with
 | lst xs=>obtain⟨_,_,_,_,e⟩:=x;exact Heap.lt_size e
 | tup xs=>obtain⟨_,_,_,p⟩:=x;exact p.lt
 | dK kvs=>obtain⟨_,_,_,_,o,_,_,e,_⟩:=x;exact Heap.lt_size e
 | dT kvs=>obtain⟨_,_,_,_,o,_,_,e,_⟩:=x;exact Heap.lt_size e
 | set S n=>obtain⟨o,_,_,_,e,_⟩:=x;exact Heap.lt_size e
 | ins C dx fs=>obtain⟨_,_,_,e,_⟩:=x;exact Heap.lt_size e
 | own y=>obtain⟨_,e⟩:=x;exact Heap.lt_size e
 | xd fs=>obtain⟨_,⟨_,_,_,e,_⟩,_⟩:=x;exact Heap.lt_size e
 | rng lo hi=>obtain⟨_,_,_,e⟩:=x;exact Heap.lt_size e
 | frz ob u=>obtain⟨e,_⟩:=x;exact Heap.lt_size e
 | tbl ps=>exact Heap.lt_size (show h.get? a=some _ from x)
 | met f y=>exact Heap.lt_size (show h.get? a=some _ from x)
 | ext φ=>obtain⟨_,⟨_,e⟩,_⟩:=x;exact Heap.lt_size e
theorem Paired.mapP{α β:Type}{F G:α→β→Prop}:∀{l₁:List α} {l₂:List β},Paired F l₁ l₂→(∀a b,F a b→G a b)→Paired G l₁ l₂
 | _,_,.nil,_=>.nil
 | _,_,.cons r t,f=>.cons (f _ _ r) (Paired.mapP t f)
theorem ObjOk.stay(x:ObjOk P w H h a o)(k:∀b u,(b=a∨H b=some (.own a))→h.get? b=some u→h'.get? b=some u)(ho:∀b,H b=some (.own a)→H' b=some (.own a))(ht:∀b xs,H b=some (.tup xs)→H' b=some (.tup xs)):ObjOk P w H' h' a o:=by
 induction o with
 | lst xs=>obtain⟨z,its,n,r,e⟩:=x;exact⟨z,its,n,r,k _ _ (.inl rfl) e⟩
 | tup xs=>obtain⟨z,its,r,ob,e,c⟩:=x;exact⟨z,its,r,ob,k _ _ (.inl rfl) e,c⟩
 | dK kvs=>obtain⟨z,y,vs,r,ob,es,ep,e,c⟩:=x;exact⟨z,y,vs,r,ob,es,ep,k _ _ (.inl rfl) e,c⟩
 | dT kvs=>
   obtain⟨z,y,xs,r,ob,es,ep,e,c⟩:=x
   exact⟨z,y,xs,Paired.mapP r fun p q z=>⟨z.1,ht _ _ z.2.1,z.2.2⟩,ob,es,ep,k _ _ (.inl rfl) e,c⟩
 | set S n=>obtain⟨ob,es,ep,t,e,c⟩:=x;exact⟨ob,es,ep,t,k _ _ (.inl rfl) e,c⟩
 | ins C dx fs=>
   obtain⟨d,z,ne,e,mA,⟨od,es,ep,e2,c⟩,r⟩:=x
   exact⟨ho _ d,z,ne,k _ _ (.inl rfl) e,mA,⟨od,es,ep,k _ _ (.inr d) e2,c⟩,r⟩
 | own y=>obtain⟨ob,e⟩:=x;exact⟨ob,k _ _ (.inl rfl) e⟩
 | xd fs=>obtain⟨mA,⟨od,es,ep,e,c⟩,r⟩:=x;exact⟨mA,⟨od,es,ep,k _ _ (.inl rfl) e,c⟩,r⟩
 | rng lo hi=>obtain⟨t,u,v,e⟩:=x;exact⟨t,u,v,k _ _ (.inl rfl) e⟩
 | frz ob u ih=>obtain⟨e,q⟩:=x;exact⟨k _ _ (.inl rfl) e,ih q⟩
 | tbl ps=>
   have e:h.get? a=some {cls:=.none,data:=.fields ps}:=x
   show h'.get? a=some {cls:=.none,data:=.fields ps}
   exact k a _ (.inl rfl) e
 | met f y=>
   have e:h.get? a=some (PySem.W.methodObj (.ref f) (.ref y)):=x
   show h'.get? a=some (PySem.W.methodObj (.ref f) (.ref y))
   exact k a _ (.inl rfl) e
 | ext φ=>obtain⟨p,⟨o,e⟩,st⟩:=x;exact⟨st _ _ p fun o q=>k _ _ (.inl rfl) q,⟨o,k _ _ (.inl rfl) e⟩,st⟩
theorem HOk.lt(x:HOk P w H h)(e:H a=some o):a<h.objs.size:=(x a o e).lt
theorem HOk.fresh(x:HOk P w H h)(e:h.objs.size≤a):H a=none:=by
 cases q:H a with
 | none=>rfl
 | some u=>exact absurd (Nat.lt_of_lt_of_le (x.lt q) e) (Nat.lt_irrefl _)
theorem HOk.kept(x:HOk P w H h)(k:∀b u,h.get? b=some u→h'.get? b=some u):HOk P w H h':=fun a o e=>
 (x a o e).stay (fun b u _ q=>k b u q) (fun _ q=>q) fun _ _ q=>q
theorem HOk.laid(x:HOk P w H h)(k:∀b u,h.get? b=some u→h'.get? b=some u)(hp:h.objs.size≤a)(new:ObjOk P w (upd H a o) h' a o):HOk P w (upd H a o) h':=fun b u e=>by
 have hn:=x.fresh hp
 by_cases hb:b=a
 ·subst hb;rw[ad] at e;cases e;exact new
 ·rw[ah hb] at e
  exact(x b u e).stay (fun c v _ q=>k c v q) (fun c q=>by rw[ah (aD q hn)];exact q) fun c xs q=>by rw[ah (aD q hn)];exact q
end
def Rd(H:Hp)(a:Addr)(u:HO):Prop:=H a=some u∨∃o,H a=some (.frz o u)
theorem Rd.ok{P:Program}{w:World}{H:Hp}{h:Heap}{a:Addr}{u:HO}(r:Rd H a u)(x:HOk P w H h):ObjOk P w H h a u:=by
 rcases r with r | ⟨o,r⟩
 ·exact x a u r
 ·obtain⟨_,q⟩:=x a _ r
  exact q
def fK:Option HO→Prop
 | some (.lst _)=>True
 | some (.dK _)=>True
 | some (.dT _)=>True
 | some (.set _ _)=>True
 | some (.ins _ _ _)=>True
 | some (.ext _)=>True
 | _=>False
section
variable{P:Program}{w:World}{H:Hp}{h h':Heap}{x e:Addr}{o':HO}
theorem HOk.write(ok:HOk P w H h)(mu:fK (H x))(he:e=x∨H e=some (.own x))(k:∀b u,b≠e→h.get? b=some u→h'.get? b=some u)(heo:∃u,h'.get? e=some u)(new:ObjOk P w (upd H x o') h' x o'):HOk P w (upd H x o') h':=fun b u q=>by
 have nown:∀c y,H c=some (.own y)→c≠x:=fun c y r z=>by subst z;rw[r] at mu;exact mu
 have ntup:∀c xs,H c=some (.tup xs)→c≠x:=fun c xs r z=>by subst z;rw[r] at mu;exact mu
 by_cases hb:b=x
 ·subst hb;rw[ad] at q;cases q;exact new
 ·rw[ah hb] at q
  by_cases hbe:b=e
  ·have q':H b=some (.own x):=by
    rcases he with z | z
    ·exact absurd (hbe.trans z) hb
    ·rw[hbe];exact z
   rw[q] at q';cases q'
   obtain⟨v,hv⟩:=heo
   exact⟨v,by rw[hbe];exact hv⟩
  ·refine(ok b u q).stay (fun c v hc r=>k c v ?_ r) (fun c r=>by rw[ah (nown c b r)];exact r) fun c xs r=>by rw[ah (ntup c xs r)];exact r
   rcases hc with rfl | hc
   ·exact hbe
   ·rintro rfl
    rcases he with z | z
    ·exact nown c b hc z
    ·rw[hc] at z;cases z;exact hb rfl
end
structure Un(fs ex:List Addr)(H H':Hp)(h h':Heap):Prop where
 keep:∀b o,h.get? b=some o→H b=none→b∉fs→b∉ex→h'.get? b=some o
 slot:∀b o,h.get? b=some o→H b=none→b∈fs→b∉ex→∃sl,h'.get? b=some {o with slots:=sl}
 free:∀b o,h.get? b=some o→H b=none→b∉ex→H' b=none
 there:∀b o,h.get? b=some o→b∉ex→∃o',h'.get? b=some o'
 tups:∀b xs,H b=some (.tup xs)→H' b=some (.tup xs)
 frzs:∀b o u,H b=some (.frz o u)→H' b=some (.frz o u)
 tbls:∀b ps,H b=some (.tbl ps)→∃more,H' b=some (.tbl (ps++more))
section
variable{fs fs' ex ex':List Addr}{H H1 H2:Hp}{h h1 h2 h':Heap}{a x e:Addr}{o:HO}
theorem Un.any(u:Un fs ex H H1 h h1){b:Addr}{ob:Obj}(q:h.get? b=some ob)(n:H b=none)(hx:b∉ex):∃sl,h1.get? b=some {ob with slots:=sl}:=by
 by_cases hb:b∈fs
 ·exact u.slot b ob q n hb hx
 ·exact⟨ob.slots,u.keep b ob q n hb hx⟩
theorem Un.kept(k:∀b u,h.get? b=some u→h'.get? b=some u):Un fs ex H H h h':=
 ⟨fun b ob q _ _ _=>k b ob q,fun b ob q _ _ _=>⟨ob.slots,k b ob q⟩,fun _ _ _ n _=>n,fun b ob q _=>⟨ob,k b ob q⟩,fun _ _ q=>q,fun _ _ _ q=>q,fun _ ps q=>⟨#[],by rw[q];simp⟩⟩
theorem Un.refl:Un fs ex H H h h:=Un.kept fun _ _ q=>q
theorem Un.laid(k:∀b u,h.get? b=some u→h'.get? b=some u)(hp:h.objs.size≤a)(hn:H a=none):Un fs ex H (upd H a o) h h' where
 keep:=fun b u q _ _ _=>k b u q
 slot:=fun b u q _ _ _=>⟨u.slots,k b u q⟩
 free:=fun b u q n _=>by rw[ah (Nat.ne_of_lt (Nat.lt_of_lt_of_le (Heap.lt_size q) hp))];exact n
 there:=fun b u q _=>⟨u,k b u q⟩
 tups:=fun b xs q=>by rw[ah (aD q hn)];exact q
 frzs:=fun b u xs q=>by rw[ah (aD q hn)];exact q
 tbls:=fun b ps q=>⟨#[],by rw[ah (aD q hn),q];simp⟩
theorem Un.write(mu:fK (H x))(he:e=x∨H e=some (.own x))(k:∀b u,b≠e→h.get? b=some u→h'.get? b=some u)(heo:∃u,h'.get? e=some u):Un fs ex H (upd H x o) h h':=by
 have hx:∀b,H b=none→b≠x:=fun b n z=>by subst z;rw[n] at mu;exact mu
 have hb:∀b,H b=none→b≠e:=fun b n z=>by
  subst z
  rcases he with r | r
  ·exact hx b n r
  ·rw[n] at r;cases r
 have hm:∀b u,H b=some u→¬fK (some u)→b≠x:=fun b u q nm z=>by subst z;rw[q] at mu;exact nm mu
 refine⟨fun b u q n _ _=>k b u (hb b n) q,fun b u q n _ _=>⟨u.slots,k b u (hb b n) q⟩,fun b u q n _=>by rw[ah (hx b n)];exact n,fun b u q _=>?_,
  fun b xs q=>by rw[ah (hm b _ q fun z=>z)];exact q,fun b u xs q=>by rw[ah (hm b _ q fun z=>z)];exact q,fun b ps q=>⟨#[],by rw[ah (hm b _ q fun z=>z),q];simp⟩⟩
 by_cases hbe:b=e
 ·subst hbe;exact heo
 ·exact⟨u,k b u hbe q⟩
end
def dG(h:Heap)(H:Hp):List Addr:=(List.range h.objs.size).filter fun a=>(H a).isSome
def dk(h:Heap)(H:Hp):Heap:=PySem.W.hideAll h (dG h H)
theorem yK(h:Heap)(H:Hp):(dk h H).objs.size=h.objs.size:=PySem.W.hideAll_size _ _
theorem jE{h:Heap}{H:Hp}{b:Addr}{o:Obj}(e:h.get? b=some o)(n:H b=none):(dk h H).get? b=some o:=
 PySem.W.hideAll_get _ e fun hm=>by
  have q:(H b).isSome=true:=(List.mem_filter.mp hm).2
  rw[n] at q;simp at q
theorem u5{h:Heap}{H:Hp}{b:Addr}{o:Obj}(e:(dk h H).get? b=some o):h.get? b=some o∧H b=none:=by
 have e':h.get? b=some o:=PySem.W.of_hideAll (dG h H) e
 refine⟨e',?_⟩
 cases q:H b with
 | none=>rfl
 | some x=>
   have hm:b∈dG h H:=List.mem_filter.mpr ⟨List.mem_range.mpr (Heap.lt_size e'),by simp[q]⟩
   have z:(dk h H).get? b=none:=PySem.W.hideAll_none (dG h H) hm
   rw[z] at e;cases e
def xq(g h:Heap)(L:Addr):List (Addr×Obj):=(List.range h.objs.size).filterMap fun a=>if a=L∨(g.get? a).isSome=true then none else(h.get? a).map fun o=>(a,o)
def aq(g h:Heap)(L d:Addr):List (Addr×Obj):=(xq g h L).filter fun p=>decide (p.1≠d)
structure Mod(K:PySem.W.Frag)(mg:Str→Option Value)(base:Heap):Prop where
 kin:K.In base
 glob:base.Ns mainGlobals mg
 blt:∃mb,base.Ns builtinsNs mb∧∀x:Str,x≠"__name__"→mb x=bootBuiltins x
 nolimit:base.NoLimit
structure Cx where
 prog:Program
 w:World
 K:PySem.W.Frag
 mg:Str→Option Value
 base:Heap
 A:Around
 N:List Str
 s₀:Shared
 H₀:Hp
 env:Env
 outer:List Env
 stack:List Env
 ex:List Addr
 fn:Str→Bool
 calm:Bool
 pn:List (Addr×Obj)
 xe:Value→Shared→Prop
def aF(l:List Env):List Addr:=l.filterMap (·.frame)
abbrev Cx.fs(X:Cx):List Addr:=aF X.outer
def iP(sc:Scope)(x:Str):Prop:=sc.names.lookup x=some .local∨sc.names.lookup x=some .cell∨sc.names.lookup x=some .free
def dZ(sc:Scope)(x:Str):Prop:=sc.names.lookup x=some .local∨sc.names.lookup x=some .cell
def sP(env:Env)(h:Heap)(m:Str→Option Value)(x:Str)(u:Value):Prop:=
 (env.kindOf x=some .local∧m x=some u)∨((env.kindOf x=some .cell∨env.kindOf x=some .free)∧∃c,env.cells.lookup x=some c∧h.IsCell c (some u))
structure Cx.Ok(X:Cx):Prop where
 mod:Mod X.K X.mg X.base
 kind:X.env.scope.kind=.function
 glob:X.env.globals=mainGlobals
 blt:X.env.builtins=builtinsNs
 above:X.s₀.heap.objs.size≤X.env.locals
 inj:∀x y c,X.env.cells.lookup x=some c→X.env.cells.lookup y=some c→x=y
 has:∀x,(X.env.kindOf x=some .cell∨X.env.kindOf x=some .free)→∃c,X.env.cells.lookup x=some c
 cab:∀x c,X.fn x=true→X.env.cells.lookup x=some c→X.s₀.heap.objs.size≤c
 hd:X.calm=true→X.A.handled=none
 frames:X.A.frames=some X.stack
 stk:X.stack=X.outer∨(X.stack=X.env::X.outer∧X.env.frame=some X.env.locals)
 exf:∀b∈X.ex,b≠X.env.locals∧∀x c,X.env.cells.lookup x=some c→c≠b
 bs:∀b o,X.base.get? b=some o→X.s₀.heap.get? b=some o∧X.H₀ b=none
 bsz:X.base.objs.size≤X.s₀.heap.objs.size
 noex:∀b o,X.base.get? b=some o→b∉X.ex
 exfs:∀b∈X.ex,b∉X.fs
 funs:X.s₀.heap.FunFrames X.base X.outer
 frf:∀b∈X.fs,X.H₀ b=none
structure Inv(X:Cx)(pins:List (Addr×Obj))(σ:List (Option V))(H:Hp)(s:Shared):Prop where
 ok:X.Ok
 os:s.os=X.s₀.os
 bare:AllBare s.gens
 base:Un X.fs X.ex X.H₀ H X.s₀.heap s.heap
 loc:∃m,s.heap.Ns X.env.locals m∧∀(i:Nat) (x:Str) (v:V),X.N[i]?=some x→σ[i]?=some (some v)→iP X.env.scope x→∃u,RelV v u∧sP X.env s.heap m x u
 cell:∀x c,X.env.cells.lookup x=some c→∃v,s.heap.IsCell c v
 free:H X.env.locals=none
 freeC:∀x c,X.env.cells.lookup x=some c→H c=none
 pin:∀p∈X.pn++pins,s.heap.get? p.1=some p.2∧H p.1=none∧p.1≠X.env.locals∧p.1∉X.fs∧∀v,p.2.data≠ .cell v
 hok:HOk X.prog X.w H s.heap
 len:σ.length=X.N.length
section
variable{X:Cx}{pins:List (Addr×Obj)}{σ:List (Option V)}{H H':Hp}{s:Shared}{h':Heap}
theorem Cx.Ok.nofr(ok:X.Ok){b:Addr}{o:Obj}(e:X.base.get? b=some o):b∉X.fs:=fun hb=>by
 have:=(ok.funs.mem hb).1
 rw[e] at this;cases this
theorem Inv.bs(I:Inv X pins σ H s):∀b o,X.base.get? b=some o→s.heap.get? b=some o∧H b=none:=fun b o e=>
 ⟨I.base.keep b o (I.ok.bs b o e).1 (I.ok.bs b o e).2 (I.ok.nofr e) (I.ok.noex b o e),I.base.free b o (I.ok.bs b o e).1 (I.ok.bs b o e).2 (I.ok.noex b o e)⟩
theorem Inv.bk(I:Inv X pins σ H s):∀b o,X.base.get? b=some o→s.heap.get? b=some o:=fun b o e=>(I.bs b o e).1
theorem Inv.mod(I:Inv X pins σ H s):Mod X.K X.mg X.base:=I.ok.mod
theorem Inv.kIn(I:Inv X pins σ H s):X.K.In s.heap:=I.ok.mod.kin.keeps I.bk
theorem Inv.nolimit(I:Inv X pins σ H s):s.heap.NoLimit:=I.ok.mod.nolimit.keeps I.bk
theorem Inv.lt(I:Inv X pins σ H s):X.env.locals<s.heap.objs.size:=let ⟨_,hn,_⟩:=I.loc;hn.lt
theorem Inv.sz(I:Inv X pins σ H s):X.s₀.heap.objs.size≤s.heap.objs.size:=Nat.le_trans I.ok.above (Nat.le_of_lt I.lt)
theorem Inv.nofs(I:Inv X pins σ H s){a:Addr}(h:s.heap.objs.size≤a):a∉X.fs:=fun hb=>by
 obtain⟨_,o,ho,_⟩:=I.ok.funs.mem hb
 exact absurd (Nat.lt_of_lt_of_le (Heap.lt_size ho) (Nat.le_trans I.sz h)) (Nat.lt_irrefl _)
theorem Inv.cne(I:Inv X pins σ H s):∀x c,X.env.cells.lookup x=some c→c≠X.env.locals:=fun x c e z=>by
 obtain⟨v,o,ho,hd⟩:=I.cell x c e
 obtain⟨m,⟨o',es,ep,ho',hd',_⟩,_⟩:=I.loc
 rw[z,ho'] at ho;cases ho;rw[hd'] at hd;cases hd
theorem Inv.funs(I:Inv X pins σ H s):s.heap.FunFrames X.base X.outer:=by
 have all:∀(l:List Env),(∀b∈aF l,b∈X.fs)→X.s₀.heap.FunFrames X.base l→s.heap.FunFrames X.base l:=by
  intro l
  induction l with
  | nil=>intro _ _;trivial
  | cons env r ih=>
    intro hs hl
    obtain⟨hk,⟨L,o,hf,hn,ho,hd⟩,hr⟩:=hl
    have hL:L∈X.fs:=hs L (by unfold aF;rw[List.filterMap_cons,hf];exact List.mem_cons_self)
    obtain⟨sl,e⟩:=I.base.slot L o ho (I.ok.frf L hL) hL fun z=>I.ok.exfs L z hL
    exact⟨hk,⟨L,_,hf,hn,e,hd⟩,ih (fun b hb=>hs b (by unfold aF;rw[List.filterMap_cons,hf];exact List.mem_cons_of_mem _ hb)) hr⟩
 exact all X.outer (fun _ hb=>hb) I.ok.funs
theorem Inv.stack(I:Inv X pins σ H s):s.heap.FunFrames X.base X.stack:=by
 rcases I.ok.stk with e | ⟨e,hf⟩
 ·rw[e];exact I.funs
 ·rw[e]
  obtain⟨m,hn,_⟩:=I.loc
  refine .cons (by rw[I.ok.kind];decide) hf hn ?_ I.funs
  exact Heap.get?_none_of_le (Nat.le_trans I.ok.bsz I.ok.above)
theorem Inv.stkSub(I:Inv X pins σ H s):∀b∈aF X.stack,b∈X.env.locals::X.fs:=fun b hb=>by
 rcases I.ok.stk with e | ⟨e,hf⟩
 ·rw[e] at hb;exact List.mem_cons_of_mem _ hb
 ·rw[e] at hb
  unfold aF at hb
  rw[List.filterMap_cons,hf] at hb
  exact hb
theorem Inv.stkFree(I:Inv X pins σ H s):∀b∈aF X.stack,H b=none:=fun b hb=>by
 rcases List.mem_cons.mp (I.stkSub b hb) with e | hb
 ·rw[e];exact I.free
 ·obtain⟨_,o,ho,_⟩:=I.ok.funs.mem hb
  exact I.base.free b o ho (I.ok.frf b hb) fun z=>I.ok.exfs b z hb
theorem Inv.step{g':Array GenState}{t':Nat}{d':Drawn}{ch:List Addr}(I:Inv X pins σ H s)(hch:∀b∈ch,(b∈X.ex∨X.s₀.heap.objs.size≤b)∧b≠X.env.locals∧(∀x c,X.env.cells.lookup x=some c→c≠b)∧∀p∈X.pn++pins,p.1≠b)(keep:∀b o,b≠X.env.locals→b∉X.fs→b∉ch→s.heap.get? b=some o→H b=none→h'.get? b=some o)(slot:∀b o,b≠X.env.locals→b∈X.fs→b∉ch→s.heap.get? b=some o→H b=none→∃sl,h'.get? b=some {o with slots:=sl})(free:∀b o,b∉ch→s.heap.get? b=some o→H b=none→H' b=none)(there:∀b o,b∉ch→s.heap.get? b=some o→∃o',h'.get? b=some o')(tups:∀b xs,H b=some (.tup xs)→H' b=some (.tup xs))(frzs:∀b o u,H b=some (.frz o u)→H' b=some (.frz o u))(tbls:∀b ps,H b=some (.tbl ps)→∃more,H' b=some (.tbl (ps++more)))(ns:∀m,s.heap.Ns X.env.locals m→h'.Ns X.env.locals m)(hok:HOk X.prog X.w H' h')(hg:AllBare g'):Inv X pins σ H' {s with heap:=h',gens:=g',drawn:=d',toks:=t'}:=by
 have neL:∀b o,X.s₀.heap.get? b=some o→b≠X.env.locals:=fun b o e=>Nat.ne_of_lt (Nat.lt_of_lt_of_le (Heap.lt_size e) I.ok.above)
 have neC:∀b o,X.s₀.heap.get? b=some o→b∉X.ex→b∉ch:=fun b o e hx hb=>by
  rcases(hch b hb).1 with z | z
  ·exact hx z
  ·exact absurd (Nat.lt_of_lt_of_le (Heap.lt_size e) z) (Nat.lt_irrefl _)
 have cellK:∀x c,X.env.cells.lookup x=some c→∀v,s.heap.IsCell c v→h'.IsCell c v:=fun x c e v ⟨o,ho,hd⟩=>by
  have nch:c∉ch:=fun z=>(hch c z).2.2.1 x c e rfl
  by_cases hc:c∈X.fs
  ·obtain⟨sl,q⟩:=slot c o (I.cne x c e) hc nch ho (I.freeC x c e)
   exact⟨_,q,hd⟩
  ·exact⟨o,keep c o (I.cne x c e) hc nch ho (I.freeC x c e),hd⟩
 refine⟨I.ok,I.os,hg,⟨fun b o e n hb hx=>?_,fun b o e n hb hx=>?_,fun b o e n hx=>?_,fun b o e hx=>?_,fun b xs e=>tups b xs (I.base.tups b xs e),fun b o xs e=>frzs b o xs (I.base.frzs b o xs e),fun b ps e=>?_⟩,?_,fun x c e=>?_,?_,fun x c e=>?_,fun p hp=>?_,hok,I.len⟩
 ·exact keep b o (neL b o e) hb (neC b o e hx) (I.base.keep b o e n hb hx) (I.base.free b o e n hx)
 ·obtain⟨sl,e1⟩:=I.base.slot b o e n hb hx
  obtain⟨sl',e2⟩:=slot b _ (neL b o e) hb (neC b o e hx) e1 (I.base.free b o e n hx)
  exact⟨sl',e2⟩
 ·obtain⟨o',e1⟩:=I.base.there b o e hx
  exact free b o' (neC b o e hx) e1 (I.base.free b o e n hx)
 ·obtain⟨o',e1⟩:=I.base.there b o e hx
  exact there b o' (neC b o e hx) e1
 ·obtain⟨m1,e1⟩:=I.base.tbls b ps e
  obtain⟨m2,e2⟩:=tbls b _ e1
  exact⟨m1++m2,by rw[e2,Array.append_assoc]⟩
 ·obtain⟨m,hn,hl⟩:=I.loc
  refine⟨m,ns m hn,fun i x v e1 e2 e3=>?_⟩
  obtain⟨u,r,l⟩:=hl i x v e1 e2 e3
  refine⟨u,r,?_⟩
  rcases l with l | ⟨k,c,e,z⟩
  ·exact .inl l
  ·exact .inr ⟨k,c,e,cellK x c e _ z⟩
 ·obtain⟨v,z⟩:=I.cell x c e
  exact⟨v,cellK x c e v z⟩
 ·obtain⟨m,⟨o,_,_,ho,_⟩,_⟩:=I.loc
  exact free _ o (fun z=>(hch _ z).2.1 rfl) ho I.free
 ·obtain⟨v,o,ho,hd⟩:=I.cell x c e
  exact free c o (fun z=>(hch c z).2.2.1 x c e rfl) ho (I.freeC x c e)
 ·obtain⟨e,n,ne,nf,d⟩:=I.pin p hp
  have nch:p.1∉ch:=fun z=>(hch p.1 z).2.2.2 p hp rfl
  exact⟨keep p.1 p.2 ne nf nch e n,free p.1 p.2 nch e n,ne,nf,d⟩
theorem Inv.un{t':Nat}(I:Inv X pins σ H s)(u:Un X.fs [] H H' s.heap h')(hok:HOk X.prog X.w H' h'):Inv X pins σ H' {s with heap:=h',toks:=t'}:=by
 obtain⟨m,⟨o,es,ep,ho,r⟩,_⟩:=id I.loc
 obtain⟨sl,hL⟩:=u.any ho I.free (by simp)
 exact I.step (g':=s.gens) (d':=s.drawn) (ch:=[]) (fun _ z=>nomatch z) (fun b o _ hb _ e n=>u.keep b o e n hb (by simp)) (fun b o _ hb _ e n=>u.slot b o e n hb (by simp)) (fun b o _ e n=>u.free b o e n (by simp)) (fun b o _ e=>u.there b o e (by simp)) u.tups u.frzs u.tbls (fun m' hm=>by
  obtain⟨o',es',ep',ho',r'⟩:=hm
  rw[ho] at ho';cases ho'
  exact⟨_,es',ep',hL,r'⟩) hok I.bare
theorem Inv.call{g':Array GenState}{t':Nat}{d':Drawn}{ch:List Addr}(I:Inv X pins σ H s)(u:Un (aF X.stack) ch H H' s.heap h')(hok:HOk X.prog X.w H' h')(hg:AllBare g')(hch:∀b∈ch,(b∈X.ex∨X.s₀.heap.objs.size≤b)∧b≠X.env.locals∧(∀x c,X.env.cells.lookup x=some c→c≠b)∧∀p∈X.pn++pins,p.1≠b):Inv X pins σ H' {s with heap:=h',gens:=g',drawn:=d',toks:=t'}:=by
 obtain⟨m,⟨o,es,ep,ho,r⟩,_⟩:=id I.loc
 obtain⟨sl,hL⟩:=u.any ho I.free fun z=>(hch _ z).2.1 rfl
 exact I.step (ch:=ch) hch (fun b o hL hb hc e n=>u.keep b o e n (fun z=>(List.mem_cons.mp (I.stkSub b z)).elim hL hb) hc) (fun b o _ _ hc e n=>u.any e n hc) (fun b o hc e n=>u.free b o e n hc) (fun b o hc e=>u.there b o e hc) u.tups u.frzs u.tbls (fun m' hm=>by
  obtain⟨o',es',ep',ho',r'⟩:=hm
  rw[ho] at ho';cases ho'
  exact⟨_,es',ep',hL,r'⟩) hok hg
theorem Inv.turned{t':Nat}{it:Addr}(I:Inv X pins σ H s)(k:∀b o,b≠it→s.heap.get? b=some o→h'.get? b=some o)(hn:H it=none)(hL:it≠X.env.locals)(h1:it∈X.ex∨X.s₀.heap.objs.size≤it)(h2:∀x c,X.env.cells.lookup x=some c→c≠it)(h3:∀p∈X.pn++pins,p.1≠it):Inv X pins σ H {s with heap:=h',toks:=t'}:=by
 have nit:∀b u,H b=some u→b≠it:=fun b u e z=>by rw[z,hn] at e;cases e
 refine I.step (g':=s.gens) (d':=s.drawn) (ch:=[it]) (fun b hb=>?_) (fun b o _ _ hc e _=>k b o (fun z=>hc (by simp[z])) e) (fun b o _ _ hc e _=>⟨o.slots,k b o (fun z=>hc (by simp[z])) e⟩) (fun _ _ _ _ n=>n)
  (fun b o hc e=>⟨o,k b o (fun z=>hc (by simp[z])) e⟩) (fun _ _ e=>e) (fun _ _ _ e=>e) (fun b ps e=>⟨#[],by rw[e];simp⟩) (fun m hm=>?_) (fun b u e=>?_) I.bare
 ·have e:b=it:=by simpa using hb
  subst e
  exact⟨h1,hL,h2,h3⟩
 ·obtain⟨o,es,ep,ho,r⟩:=hm
  exact⟨o,es,ep,k _ o (Ne.symm hL) ho,r⟩
 ·refine(I.hok b u e).stay (fun c v hc q=>k c v ?_ q) (fun _ q=>q) fun _ _ q=>q
  rcases hc with z | z
  ·rw[z];exact nit b u e
  ·exact nit c _ z
theorem Inv.tok(I:Inv X pins σ H s)(t:Nat):Inv X pins σ H {s with toks:=t}:=I.un (h':=s.heap) (t':=t) Un.refl I.hok
theorem Inv.kept{t':Nat}(I:Inv X pins σ H s)(k:∀b u,s.heap.get? b=some u→h'.get? b=some u):Inv X pins σ H {s with heap:=h',toks:=t'}:=I.un (Un.kept k) (I.hok.kept k)
theorem Inv.laid{a:Addr}{o:HO}{t':Nat}(I:Inv X pins σ H s)(k:∀b u,s.heap.get? b=some u→h'.get? b=some u)(hp:s.heap.objs.size≤a)(new:ObjOk X.prog X.w (upd H a o) h' a o):Inv X pins σ (upd H a o) {s with heap:=h',toks:=t'}:=I.un (Un.laid k hp (I.hok.fresh hp)) (I.hok.laid k hp new)
theorem Inv.write{x e:Addr}{o:HO}{t':Nat}(I:Inv X pins σ H s)(mu:fK (H x))(he:e=x∨H e=some (.own x))(k:∀b u,b≠e→s.heap.get? b=some u→h'.get? b=some u)(heo:∃u,h'.get? e=some u)(new:ObjOk X.prog X.w (upd H x o) h' x o):Inv X pins σ (upd H x o) {s with heap:=h',toks:=t'}:=I.un (Un.write mu he k heo) (I.hok.write mu he k heo new)
theorem Inv.weak{σ':List (Option V)}(I:Inv X pins σ H s)(hl:σ'.length=σ.length)(w:∀(i:Nat) v,σ'[i]?=some (some v)→σ[i]?=some (some v)):Inv X pins σ' H s:=
 ⟨I.ok,I.os,I.bare,I.base,let ⟨m,hn,hl'⟩:=I.loc;⟨m,hn,fun i x v e1 e2 e3=>hl' i x v e1 (w i v e2) e3⟩,I.cell,I.free,I.freeC,I.pin,I.hok,hl.trans I.len⟩
theorem Inv.pins_of{pins':List (Addr×Obj)}(I:Inv X pins σ H s)(h:∀p∈pins',s.heap.get? p.1=some p.2∧H p.1=none∧p.1≠X.env.locals∧p.1∉X.fs∧∀v,p.2.data≠ .cell v):Inv X pins' σ H s:=
 ⟨I.ok,I.os,I.bare,I.base,I.loc,I.cell,I.free,I.freeC,fun p hp=>(List.mem_append.mp hp).elim (fun z=>I.pin p (List.mem_append_left _ z)) (h p),I.hok,I.len⟩
theorem kX{N:List Str}(hN:N.Nodup){i j:Nat}{x:Str}(a:N[i]?=some x)(b:N[j]?=some x):i=j:=by
 obtain⟨h1,e1⟩:=List.getElem?_eq_some_iff.mp a
 obtain⟨h2,e2⟩:=List.getElem?_eq_some_iff.mp b
 exact(List.getElem_inj hN).mp (e1.trans e2.symm)
theorem pU{M:Model}{A:Around}{E:Value→Shared→Prop}{i:Nat}{x:Str}{v:V}{u:Value}{Q:Unit→Shared→Prop}(I:Inv X pins σ H s)(hN:X.N.Nodup)(hi:X.N[i]?=some x)(hx:dZ X.env.scope x)(r:RelV v u)(h:∀s',Inv X pins (σ.set i (some v)) H s'→(∃a,Heap.SameBut a s.heap s'.heap∧(a=X.env.locals∨X.env.cells.lookup x=some a))→Q () s')(hf:X.fn x=true∨X.env.scope.names.lookup x=some .local:=by first | exact .inl rfl | exact .inr rfl | assumption):wpAny M A (storeName X.env x u) Q E s:=by
 obtain⟨m,hn,hl⟩:=id I.loc
 have hcls:(X.env.scope.kind == .class || (X.env.scope.kind == .module && X.env.locals != X.env.globals))=false:=by rw[I.ok.kind];rfl
 have hiσ:i<σ.length:=by rw[I.len];exact(List.getElem?_eq_some_iff.mp hi).1
 have cne:=I.cne
 have tracked:∀{a:Addr} {h':Heap},(∃o,s.heap.get? a=some o∧H a=none)→Heap.SameBut a s.heap h'→HOk X.prog X.w H h':=fun{a h'} ha hs b ob e=>by
  obtain⟨_,_,hfree⟩:=ha
  refine(I.hok b ob e).stay (fun c w' hc q=>(hs.2 c ?_).trans q) (fun _ q=>q) fun _ _ q=>q
  rintro rfl
  rcases hc with rfl | hc
  ·rw[hfree] at e;cases e
  ·rw[hfree] at hc;cases hc
 rcases hx with hk | hk
 ·refine wpAny_storeName_local hk hn (fun h' hn' hs=>?_) hcls
  obtain⟨oL,_,_,hoL,_⟩:=id hn
  refine h _ ⟨I.ok,I.os,I.bare,⟨fun b o e n hb hx=>?_,fun b o e n hb hx=>?_,I.base.free,fun b o e hx=>?_,I.base.tups,I.base.frzs,I.base.tbls⟩,⟨_,hn',fun j y v' e1 e2 e3=>?_⟩,fun y c e=>?_,I.free,I.freeC,fun p hp=>?_,tracked ⟨oL,hoL,I.free⟩ hs,by simpa using I.len⟩ ⟨_,hs,.inl rfl⟩
  ·exact(hs.2 b (Nat.ne_of_lt (Nat.lt_of_lt_of_le (Heap.lt_size e) I.ok.above))).trans (I.base.keep b o e n hb hx)
  ·obtain⟨sl,e1⟩:=I.base.slot b o e n hb hx
   exact⟨sl,(hs.2 b (Nat.ne_of_lt (Nat.lt_of_lt_of_le (Heap.lt_size e) I.ok.above))).trans e1⟩
  ·obtain⟨o',e1⟩:=I.base.there b o e hx
   exact⟨o',(hs.2 b (Nat.ne_of_lt (Nat.lt_of_lt_of_le (Heap.lt_size e) I.ok.above))).trans e1⟩
  ·by_cases hj:j=i
   ·subst hj
    rw[hi] at e1;cases e1
    rw[List.getElem?_set_self hiσ] at e2
    cases e2
    exact⟨u,r,.inl ⟨hk,by simp⟩⟩
   ·rw[List.getElem?_set_ne (Ne.symm hj)] at e2
    obtain⟨u',r',q⟩:=hl j y v' e1 e2 e3
    refine⟨u',r',?_⟩
    rcases q with⟨k,e⟩ | ⟨k,c,e,z⟩
    ·refine .inl ⟨k,?_⟩
     have:y≠x:=fun e=>hj (kX hN e1 (e▸hi))
     simp[this,e]
    ·exact .inr ⟨k,c,e,z.sameBut hs (cne y c e)⟩
  ·obtain⟨w',z⟩:=I.cell y c e
   exact⟨w',z.sameBut hs (cne y c e)⟩
  ·obtain⟨e,n,ne,nf,d⟩:=I.pin p hp
   exact⟨(hs.2 p.1 ne).trans e,n,ne,nf,d⟩
 ·have hfn:X.fn x=true:=by
   rcases hf with z | z
   ·exact z
   ·rw[z] at hk;cases hk
  obtain⟨c,hc⟩:=I.ok.has x (.inl hk)
  obtain⟨w',z⟩:=I.cell x c hc
  refine wpAny_storeName_cell I.ok.kind hk hc z (fun h' hc' hs=>?_)
  obtain⟨oc,hoc,hocd⟩:=id z
  refine h {s with heap:=h'} ⟨I.ok,I.os,I.bare,⟨fun b o e n hb hx=>?_,fun b o e n hb hx=>?_,I.base.free,fun b o e hx=>?_,I.base.tups,I.base.frzs,I.base.tbls⟩,⟨m,hn.sameBut hs (Ne.symm (cne x c hc)),fun j y v' e1 e2 e3=>?_⟩,fun y c' e=>?_,I.free,I.freeC,fun p hp=>?_,tracked ⟨oc,hoc,I.freeC x c hc⟩ hs,by simpa using I.len⟩ ⟨c,hs,.inr hc⟩
  ·exact(hs.2 b (Nat.ne_of_lt (Nat.lt_of_lt_of_le (Heap.lt_size e) (I.ok.cab x c hfn hc)))).trans (I.base.keep b o e n hb hx)
  ·obtain⟨sl,e1⟩:=I.base.slot b o e n hb hx
   exact⟨sl,(hs.2 b (Nat.ne_of_lt (Nat.lt_of_lt_of_le (Heap.lt_size e) (I.ok.cab x c hfn hc)))).trans e1⟩
  ·obtain⟨o',e1⟩:=I.base.there b o e hx
   exact⟨o',(hs.2 b (Nat.ne_of_lt (Nat.lt_of_lt_of_le (Heap.lt_size e) (I.ok.cab x c hfn hc)))).trans e1⟩
  ·by_cases hj:j=i
   ·subst hj
    rw[hi] at e1;cases e1
    rw[List.getElem?_set_self hiσ] at e2
    cases e2
    exact⟨u,r,.inr ⟨.inl hk,c,hc,hc'⟩⟩
   ·rw[List.getElem?_set_ne (Ne.symm hj)] at e2
    obtain⟨u',r',q⟩:=hl j y v' e1 e2 e3
    refine⟨u',r',?_⟩
    rcases q with q | ⟨k,c',e,z'⟩
    ·exact .inl q
    ·refine .inr ⟨k,c',e,z'.sameBut hs ?_⟩
     rintro rfl
     exact hj (kX hN e1 (I.ok.inj _ _ _ e hc▸hi))
  ·by_cases hcc:c'=c
   ·subst hcc;exact⟨_,hc'⟩
   ·obtain⟨w2,z2⟩:=I.cell y c' e
    exact⟨w2,z2.sameBut hs hcc⟩
  ·obtain⟨e,n,ne,nf,d⟩:=I.pin p hp
   refine⟨(hs.2 p.1 ?_).trans e,n,ne,nf,d⟩
   intro q
   rw[q,hoc] at e
   have q':oc=p.2:=Option.some.inj e
   exact d w' (by rw[←q'];exact hocd)
theorem fS{M:Model}{A:Around}{E:Value→Shared→Prop}{i:Nat}{x:Str}{v:V}{u:Value}{Q:Unit→Shared→Prop}(I:Inv X pins σ H s)(hN:X.N.Nodup)(hi:X.N[i]?=some x)(hx:dZ X.env.scope x)(r:RelV v u)(h:∀s',Inv X pins (σ.set i (some v)) H s'→Q () s')(hf:X.fn x=true∨X.env.scope.names.lookup x=some .local:=by first | exact .inl rfl | exact .inr rfl | assumption):wpAny M A (storeName X.env x u) Q E s:=
 pU I hN hi hx r (fun s' I' _=>h s' I') hf
theorem Inv.call'{s':Shared}{ch:List Addr}(I:Inv X pins σ H s)(ho:s'.os=s.os)(u:Un (aF X.stack) ch H H' s.heap s'.heap)(hok:HOk X.prog X.w H' s'.heap)(hg:AllBare s'.gens)(hch:∀b∈ch,(b∈X.ex∨X.s₀.heap.objs.size≤b)∧b≠X.env.locals∧(∀x c,X.env.cells.lookup x=some c→c≠b)∧∀p∈X.pn++pins,p.1≠b):Inv X pins σ H' s':=by
 obtain⟨h',g',d',t',o'⟩:=s'
 have e:o'=s.os:=ho
 subst e
 exact I.call (g':=g') (t':=t') (d':=d') u hok hg hch
end
abbrev XK:=Value→Option Addr→Hp→Prop
abbrev St:=List (Option V)
abbrev VK:=V→Hp→Prop
abbrev TE:=St→Hp→VK→Prop
abbrev TT:=St→Hp→(Bool→Hp→Prop)→Prop
abbrev TA:=St→Hp→(List V→Hp→Prop)→Prop
structure Ends where
 nx:St→Hp→Prop
 rt:VK
 bk:St→Hp→Prop:=fun _ _=>False
 ct:St→Hp→Prop:=fun _ _=>False
abbrev TS:=Ends→St→Hp→Prop
def EP(X:Cx)(pins:List (Addr×Obj))(σ:St)(Q:VK)(u:Value)(s':Shared):Prop:=∃v H',Inv X pins σ H' s'∧RelV v u∧Q v H'
def TP(X:Cx)(pins:List (Addr×Obj))(σ:St)(Q:Bool→Hp→Prop)(b:Bool)(s':Shared):Prop:=∃H',Inv X pins σ H' s'∧Q b H'
def AP(X:Cx)(pins:List (Addr×Obj))(σ:St)(Q:List V→Hp→Prop)(us:List Value)(s':Shared):Prop:=∃vs H',Inv X pins σ H' s'∧Vals vs us∧Q vs H'
def SP(X:Cx)(pins:List (Addr×Obj))(D:Ends)(f:Flow)(s':Shared):Prop:=
 match f with
 | .next=>∃σ' H',Inv X pins σ' H' s'∧D.nx σ' H'
 | .brk=>∃σ' H',Inv X pins σ' H' s'∧D.bk σ' H'
 | .cont=>∃σ' H',Inv X pins σ' H' s'∧D.ct σ' H'
 | .ret u=>∃v σ' H',Inv X pins σ' H' s'∧RelV v u∧D.rt v H'
def PE(X:Cx)(e:Expr)(t:TE):Prop:=
 ∀(pins:List (Addr×Obj)) (s:Shared) (σ:St) (H:Hp) (Q:VK),Inv X pins σ H s→t σ H Q→wpAny (model X.prog X.w) X.A (eval e X.env) (EP X pins σ Q) X.xe s
def PT(X:Cx)(e:Expr)(t:TT):Prop:=
 ∀(pins:List (Addr×Obj)) (s:Shared) (σ:St) (H:Hp) (Q:Bool→Hp→Prop),Inv X pins σ H s→t σ H Q→wpAny (model X.prog X.w) X.A (isTrue e X.env (eval e X.env)) (TP X pins σ Q) X.xe s
def PW(X:Cx)(e:Expr)(t:TT):Prop:=
 ∀(whole:Sem Value) (pins:List (Addr×Obj)) (s:Shared) (σ:St) (H:Hp) (Q:Bool→Hp→Prop),Inv X pins σ H s→t σ H Q→wpAny (model X.prog X.w) X.A (isTrue e X.env whole) (TP X pins σ Q) X.xe s
theorem PW.pt{X:Cx}{e:Expr}{t:TT}(h:PW X e t):PT X e t:=h _
def PA(X:Cx)(es:List Expr)(t:TA):Prop:=
 ∀(pos:Pos) (pins:List (Addr×Obj)) (s:Shared) (σ:St) (H:Hp) (Q:List V→Hp→Prop),Inv X pins σ H s→t σ H Q→wpAny (model X.prog X.w) X.A (spliced (backTo pos (starEach es X.env))) (AP X pins σ Q) X.xe s
def PS(X:Cx)(st:Stmt)(t:TS):Prop:=
 ∀(pins:List (Addr×Obj)) (s:Shared) (σ:St) (H:Hp) (D:Ends),Inv X pins σ H s→t D σ H→wpAny (model X.prog X.w) X.A (exec st X.env) (SP X pins D) X.xe s
def PSs(X:Cx)(st:List Stmt)(t:TS):Prop:=
 ∀(pins:List (Addr×Obj)) (s:Shared) (σ:St) (H:Hp) (D:Ends),Inv X pins σ H s→t D σ H→wpAny (model X.prog X.w) X.A (execs st X.env) (SP X pins D) X.xe s
theorem ak{α:Type}{t:Sem α}{Q Q':α→Shared→Prop}{M:Model}{A:Around}{E:Value→Shared→Prop}{s:Shared}(h:wpAny M A t Q E s)(hQ:∀a s,Q a s→Q' a s):wpAny M A t Q' E s:=wpAny_mono h hQ fun _ _ x=>x
section
variable{X:Cx}
def cP(i:Nat):TE:=fun σ H Q=>∃v,σ[i]?=some (some v)∧Q v H
def tC(v:V):TE:=fun _ H Q=>Q v H
theorem sX{i:Nat}{x:Str}{pos:Pos}(hN:X.N[i]?=some x)(hv:iP X.env.scope x)(hd:(x == ("__debug__":Str))=false:=by decide)(hcd:(x == ("__classdict__":Str))=false:=by decide):PE X (.Name x pos) (cP i):=by
 intro pins s σ H Q I h
 obtain⟨v,e,h⟩:=h
 obtain⟨m,hn,hl⟩:=I.loc
 obtain⟨u,r,l⟩:=hl i x v hN e hv
 have fin:EP X pins σ Q u s:=⟨v,H,I,r,h⟩
 rcases l with⟨hk,hm⟩ | ⟨hk,c,hc,hcell⟩
 ·exact wpAny_Name (wpAny_loadName_local I.ok.kind hk hn hm fin) hd
 ·rcases hk with hk | hk
  ·exact wpAny_Name (wpAny_loadName_cell I.ok.kind hk hc hcell fin) hd
  ·exact wpAny_Name (wpAny_loadName_free I.ok.kind hk hc hcell fin hcd) hd
theorem af{i j pos}:PE X (.Constant (.int i) j pos) (tC (.int i)):=fun _ _ _ H _ I h=>wpAny_Constant_int ⟨.int i,H,I.tok _,⟨_,rfl⟩,h⟩
theorem pT{b j pos}:PE X (.Constant (.bool b) j pos) (tC (.bl b)):=fun _ _ _ H _ I h=>Constant_bool ⟨.bl b,H,I,rfl,h⟩
theorem eU{j pos}:PE X (.Constant .none j pos) (tC .non):=fun _ _ _ H _ I h=>Constant_none ⟨.non,H,I,rfl,h⟩
theorem iq{x j pos}:PE X (.Constant (.str x) j pos) (tC (.str x)):=fun _ _ _ H _ I h=>Calls.Constant_str ⟨.str x,H,I.tok _,⟨_,rfl⟩,h⟩
def Gl(X:Cx)(x:Str):Prop:=X.env.kindOf x=some .globalImplicit
theorem fh{E:Value→Shared→Prop}{pins:List (Addr×Obj)}{s:Shared}{σ:St}{H:Hp}{x:Str}{u:Value}{pos:Pos}{Q:Value→Shared→Prop}(I:Inv X pins σ H s)(hg:Gl X x)(hm:X.mg x=some u)(h:Q u s)(hd:(x == ("__debug__":Str))=false:=by decide):wpAny (model X.prog X.w) X.A (eval (.Name x pos) X.env) Q E s:=
 Calls.Name_function_global I.ok.kind hg (Calls.loadGlobal_global (by rw[I.ok.glob];exact I.mod.glob.keeps I.bk) hm h) hd
theorem dO{E:Value→Shared→Prop}{pins:List (Addr×Obj)}{s:Shared}{σ:St}{H:Hp}{x:Str}{u:Value}{pos:Pos}{Q:Value→Shared→Prop}(I:Inv X pins σ H s)(hg:Gl X x)(hm:X.mg x=none)(hv:bootBuiltins x=some u)(h:Q u s)(hn:x≠"__name__":=by decide)(hd:(x == ("__debug__":Str))=false:=by decide):wpAny (model X.prog X.w) X.A (eval (.Name x pos) X.env) Q E s:=by
 obtain⟨mb,h1,h2⟩:=I.mod.blt
 exact Calls.Name_function_global I.ok.kind hg (Calls.loadGlobal_builtin (by rw[I.ok.glob];exact I.mod.glob.keeps I.bk) hm (by rw[I.ok.blt];exact h1.keeps I.bk) ((h2 x hn).trans hv) h) hd
theorem iX{x:Str}{v:V}{u:Value}{pos:Pos}(hg:Gl X x)(hm:X.mg x=some u)(r:RelV v u)(hd:(x == ("__debug__":Str))=false:=by decide):PE X (.Name x pos) (tC v):=
 fun _ _ _ H _ I h=>fh I hg hm ⟨v,H,I,r,h⟩ hd
theorem oT{x:Str}{v:V}{u:Value}{pos:Pos}(hg:Gl X x)(hm:X.mg x=none)(hv:bootBuiltins x=some u)(r:RelV v u)(hn:x≠"__name__":=by decide)(hd:(x == ("__debug__":Str))=false:=by decide):PE X (.Name x pos) (tC v):=
 fun _ _ _ H _ I h=>dO I hg hm hv ⟨v,H,I,r,h⟩ hn hd
variable{a b:Expr}{ta tb:TE}{pos:Pos}
def tB(t:TE):TT:=fun σ H Q=>t σ H fun x H1=>∃c,x=.bl c∧Q c H1
theorem pN{e:Expr}{t:TE}(h:PE X e t)(he:∀whole,isTrue e X.env whole=(do let v←whole;standAt e.pos;holding [v] (truthy v)):=by intro _;rfl):PT X e (tB t):=by
 intro pins s σ H Q I hw
 refine isTrue_plain (ak (h pins s σ H _ I hw) fun v s1 ⟨x,H1,I1,r1,q1⟩=>?_) (he _)
 obtain⟨d,rfl,q⟩:=q1
 cases r1
 exact wpAny_truthy_bool ⟨H1,I1,q⟩
variable{tA tB':TT}{aq:List Expr}
def sS(t u:TT):TT:=fun σ H Q=>t σ H fun c H1=>if c=true then u σ H1 Q else Q false H1
def oz(t u:TT):TT:=fun σ H Q=>t σ H fun c H1=>if c=true then Q true H1 else u σ H1 Q
def wt(t:TT):TT:=fun σ H Q=>t σ H fun c H1=>Q (!c) H1
theorem nZ(ha:PT X a tA):PW X (.BoolOp .And [a] pos) tA:=by
 intro wh pins s σ H Q I h
 refine isTrue_and (ak (ha pins s σ H Q I h) fun c s1 e=>?_)
 cases c with
 | true=>exact isTrue_and_nil e
 | false=>exact e
theorem pK(ha:PT X a tA):PW X (.BoolOp .Or [a] pos) tA:=by
 intro wh pins s σ H Q I h
 refine isTrue_or (ak (ha pins s σ H Q I h) fun c s1 e=>?_)
 cases c with
 | false=>exact isTrue_or_nil e
 | true=>exact e
theorem ox(ha:PT X a tA)(hb:PW X (.BoolOp .And (b::aq) pos) tB'):PW X (.BoolOp .And (a::b::aq) pos) (sS tA tB'):=by
 intro wh pins s σ H Q I h
 refine isTrue_and (ak (ha pins s σ H _ I h) fun c s1 ⟨H1,I1,q1⟩=>?_)
 cases c with
 | true=>exact hb wh pins s1 σ H1 Q I1 q1
 | false=>exact⟨H1,I1,q1⟩
theorem kJ(ha:PT X a tA)(hb:PW X (.BoolOp .Or (b::aq) pos) tB'):PW X (.BoolOp .Or (a::b::aq) pos) (oz tA tB'):=by
 intro wh pins s σ H Q I h
 refine isTrue_or (ak (ha pins s σ H _ I h) fun c s1 ⟨H1,I1,q1⟩=>?_)
 cases c with
 | true=>exact⟨H1,I1,q1⟩
 | false=>exact hb wh pins s1 σ H1 Q I1 q1
theorem iE(ha:PT X a tA):PT X (.UnaryOp .Not a pos) (wt tA):=by
 intro pins s σ H Q I h
 exact isTrue_not (ha pins s σ H (fun c H1=>Q (!c) H1) I h)
def xn(ta tb:TE):TE:=fun σ H Q=>ta σ H fun x H1=>∃c,x=.bl c∧if c=true then tb σ H1 Q else Q (.bl false) H1
theorem oh{op}{t:TE}(h:PE X a t):PE X (.BoolOp op [a] pos) t:=fun pins s σ H Q I hw=>BoolOp_one (h pins s σ H Q I hw)
theorem kI(ha:PE X a ta)(hb:PE X (.BoolOp .And (b::aq) pos) tb):PE X (.BoolOp .And (a::b::aq) pos) (xn ta tb):=by
 intro pins s σ H Q I h
 refine BoolOp_and (ak (ha pins s σ H _ I h) fun v s1 ⟨x,H1,I1,r1,q1⟩=>?_)
 obtain⟨c,rfl,q1⟩:=q1
 cases r1
 refine wpAny_truthy_bool ?_
 cases c with
 | true=>exact hb pins s1 σ H1 Q I1 q1
 | false=>exact⟨.bl false,H1,I1,rfl,q1⟩
end
def SqL(K:PySem.W.Frag)(H:Hp)(a:Addr)(xs:List V):Prop:=
 Rd H a (.lst xs)∨
  ∃(o:Obj) (its:Array Value) (n:Nat),K.lookup a=some o∧o.cls=.type "list"∧o.dict=none∧o.data=.seq its n∧its.size≤sizeLine∧Vals xs its.toList
def SqT(K:PySem.W.Frag)(H:Hp)(a:Addr)(xs:List V):Prop:=
 Rd H a (.tup xs)∨
  ∃(o:Obj) (its:Array Value) (n:Nat),K.lookup a=some o∧o.cls=.type "tuple"∧o.data=.seq its n∧its.size≤sizeLine∧Vals xs its.toList
def vW:Value→Option V
 | .none=>some .non
 | .bool b=>some (.bl b)
 | .int i _=>some (.int i)
 | .str x _=>some (.str x)
 | .bytes b _=>some (.byt b)
 | .float b _=>some (.flt b)
 | .ref a=>some (.ref a)
 | .type n=>some (.ty n)
 | _=>none
theorem RelV.abs{x:V}{u:Value}(r:RelV x u):vW u=some x:=by
 cases x with
 | non=>cases r;rfl
 | bl _=>cases r;rfl
 | int _=>obtain⟨t,rfl⟩:=r;rfl
 | str _=>obtain⟨t,rfl⟩:=r;rfl
 | byt _=>obtain⟨t,rfl⟩:=r;rfl
 | flt _=>obtain⟨t,rfl⟩:=r;rfl
 | ref _=>cases r;rfl
 | ty _=>cases r;rfl
theorem RelV.inj{x y:V}{u:Value}(r:RelV x u)(q:RelV y u):x=y:=Option.some.inj (r.abs.symm.trans q.abs)
theorem Vals.inj:∀{xs ys:List V} {us:List Value},Vals xs us→Vals ys us→xs=ys
 | _,_,_,.nil,.nil=>rfl
 | _,_,_,.cons r t,.cons r' t'=>by rw[r.inj r',Vals.inj t t']
section
variable{X:Cx}{pins:List (Addr×Obj)}{σ:St}{H:Hp}{s:Shared}{a:Addr}{xs ys:List V}
theorem SqL.of{K:PySem.W.Frag}(h:H a=some (.lst xs)):SqL K H a xs:=.inl (.inl h)
theorem SqT.of{K:PySem.W.Frag}(h:H a=some (.tup xs)):SqT K H a xs:=.inl (.inl h)
theorem Inv.list(I:Inv X pins σ H s)(h:SqL X.K H a xs):∃its:List Value,Vals xs its∧PlainL s.heap a its.toArray∧xs.length≤sizeLine:=by
 rcases h with h | ⟨o,its,n,hk,hc,hd,hs,hz,r⟩
 ·obtain⟨z,its,n,r,e⟩:=h.ok I.hok
  exact⟨its,r,⟨_,n,e,rfl,rfl,rfl⟩,z⟩
 ·refine⟨its.toList,r,⟨o,n,I.kIn a o hk,hc,hd,by simpa using hs⟩,?_⟩
  have e:=r.length
  simp only[Array.length_toList] at e
  lia
theorem Inv.tuple(I:Inv X pins σ H s)(h:SqT X.K H a xs):∃its:List Value,Vals xs its∧IsTup s.heap a its.toArray∧xs.length≤sizeLine:=by
 rcases h with h | ⟨o,its,n,hk,hc,hs,hz,r⟩
 ·obtain⟨z,its,r,p⟩:=h.ok I.hok
  exact⟨its,r,p,z⟩
 ·refine⟨its.toList,r,⟨o,I.kIn a o hk,hc,n,by simpa using hs⟩,?_⟩
  have e:=r.length
  simp only[Array.length_toList] at e
  lia
theorem Inv.list_inj(I:Inv X pins σ H s)(h:SqL X.K H a xs)(h':SqL X.K H a ys):xs=ys:=by
 obtain⟨its,r,⟨o,n,e,_,_,d⟩,_⟩:=I.list h
 obtain⟨its',r',⟨o',n',e',_,_,d'⟩,_⟩:=I.list h'
 rw[e] at e';cases e'
 rw[d] at d'
 injection d' with d1 _
 have:its=its':=by simpa using congrArg Array.toList d1
 subst this
 exact r.inj r'
end
abbrev Cx.wish(X:Cx)(E:Value→Shared→Prop):Cx:={X with xe:=E}
abbrev Cx.nox(X:Cx):Cx:=X.wish fun _ _=>False
theorem Cx.Ok.wish{X:Cx}(ok:X.Ok)(E:Value→Shared→Prop):(X.wish E).Ok:=
 ⟨ok.mod,ok.kind,ok.glob,ok.blt,ok.above,ok.inj,ok.has,ok.cab,ok.hd,ok.frames,ok.stk,ok.exf,ok.bs,ok.bsz,ok.noex,ok.exfs,ok.funs,ok.frf⟩
theorem Cx.Ok.unwish{X:Cx}{E:Value→Shared→Prop}(ok:(X.wish E).Ok):X.Ok:=
 ⟨ok.mod,ok.kind,ok.glob,ok.blt,ok.above,ok.inj,ok.has,ok.cab,ok.hd,ok.frames,ok.stk,ok.exf,ok.bs,ok.bsz,ok.noex,ok.exfs,ok.funs,ok.frf⟩
section
variable{X:Cx}{pins:List (Addr×Obj)}{σ:St}{H:Hp}{s:Shared}{E:Value→Shared→Prop}
theorem Inv.wish(I:Inv X pins σ H s)(E:Value→Shared→Prop):Inv (X.wish E) pins σ H s:=⟨I.ok.wish E,I.os,I.bare,I.base,I.loc,I.cell,I.free,I.freeC,I.pin,I.hok,I.len⟩
theorem Inv.unwish(I:Inv (X.wish E) pins σ H s):Inv X pins σ H s:=⟨I.ok.unwish,I.os,I.bare,I.base,I.loc,I.cell,I.free,I.freeC,I.pin,I.hok,I.len⟩
theorem SP.unwish{D:Ends}{f:Flow}{s':Shared}(h:SP (X.wish E) pins D f s'):SP X pins D f s':=by
 cases f with
 | next=>obtain⟨σ',H',I,q⟩:=h;exact⟨σ',H',I.unwish,q⟩
 | brk=>obtain⟨σ',H',I,q⟩:=h;exact⟨σ',H',I.unwish,q⟩
 | cont=>obtain⟨σ',H',I,q⟩:=h;exact⟨σ',H',I.unwish,q⟩
 | ret u=>obtain⟨v,σ',H',I,r,q⟩:=h;exact⟨v,σ',H',I.unwish,r,q⟩
theorem PSs.nox{st:List Stmt}{t:TS}(h:PSs X.nox st t):PSs X st t:=fun pins s σ H D I hw=>
 wpAny_mono (h pins s σ H D (I.wish _) hw) (fun _ _ q=>q.unwish) fun _ _ z=>False.elim z
end
section
variable{X:Cx}{st:Stmt}{aq:List Stmt}{t u:TS}{e:Expr}{te:TE}{pos:Pos}
def o7:TS:=fun D σ H=>D.nx σ H
def dY(t u:TS):TS:=fun D σ H=>t {D with nx:=u D} σ H
theorem bq:PSs X [] o7:=fun _ _ σ H _ I h=>wpAny_execs_nil ⟨σ,H,I,h⟩
theorem ae(h1:PS X st t)(h2:PSs X aq u):PSs X (st::aq) (dY t u):=by
 intro pins s σ H D I h
 refine wpAny_execs_cons (ak (h1 pins s σ H {D with nx:=u D} I h) fun f s1 q=>?_)
 cases f with
 | next=>
   obtain⟨σ',H',I',q⟩:=q
   exact h2 pins s1 σ' H' D I' q
 | ret v=>exact q
 | brk=>exact q
 | cont=>exact q
theorem ao(h1:PS X st t):PSs X [st] t:=by
 intro pins s σ H D I h
 refine wpAny_execs_cons (ak (h1 pins s σ H D I h) fun f s1 q=>?_)
 cases f with
 | next=>exact wpAny_execs_nil q
 | ret v=>exact q
 | brk=>exact q
 | cont=>exact q
theorem Inv.quiet{pins:List (Addr×Obj)}{σ:St}{H:Hp}{s:Shared}(I:Inv X pins σ H s):interactive X.env=false:=by simp[interactive,I.ok.kind]
def vf(te:TE):TS:=fun D σ H=>te σ H fun _ H1=>D.nx σ H1
theorem bf(he:PE X e te)(hs:swapsWith e none pos.line X.env=pure false:=by rfl):PS X (.Expr e pos) (vf te):=by
 intro pins s σ H D I h
 exact wpAny_Expr_any (ak (he pins s σ H _ I h) fun v s1 ⟨x,H1,I1,r1,q1⟩=>⟨σ,H1,I1,q1⟩) I.quiet hs
def ug(te:TE):TS:=fun D σ H=>te σ H D.rt
theorem aJ(he:PE X e te):PS X (.Return (some e) pos) (ug te):=by
 intro pins s σ H D I h
 exact wpAny_Return_some (ak (he pins s σ H _ I h) fun v s1 ⟨x,H1,I1,r1,q1⟩=>⟨x,σ,H1,I1,r1,q1⟩)
def jg(c:TT)(t u:TS):TS:=fun D σ H=>c σ H fun b H1=>if b=true then t D σ H1 else u D σ H1
theorem br{c:Expr}{a b:List Stmt}{tc:TT}(hc:PT X c tc)(ha:PSs X a t)(hb:PSs X b u):PS X (.If c a b pos) (jg tc t u):=by
 intro pins s σ H D I h
 refine wpAny_If (ak (hc pins s σ H _ I h) fun d s1 ⟨H1,I1,q1⟩=>?_)
 cases d with
 | true=>exact ha pins s1 σ H1 D I1 q1
 | false=>exact hb pins s1 σ H1 D I1 q1
def xT:TS:=fun _ _ _=>False
theorem li:PS X st xT:=fun _ _ _ _ _ _ h=>h.elim
end
abbrev TG:=V→St→Hp→(St→Hp→Prop)→Prop
abbrev d5:=List V→St→Hp→(St→Hp→Prop)→Prop
def PG(X:Cx)(target:Expr)(t:TG):Prop:=
 ∀ (pins:List (Addr×Obj)) (s:Shared) (σ:St) (H:Hp) (v:V) (u:Value) (Q:St→Hp→Prop),Inv X pins σ H s→RelV v u→t v σ H Q→
   wpAny (model X.prog X.w) X.A (assign target X.env u) (fun _ s'=>∃σ' H',Inv X pins σ' H' s'∧Q σ' H') X.xe s
def gw(X:Cx)(ts:List Expr)(t:d5):Prop:=
 ∀ (pins:List (Addr×Obj)) (s:Shared) (σ:St) (H:Hp) (vs:List V) (us:List Value) (Q:St→Hp→Prop),Inv X pins σ H s→Vals vs us→t vs σ H Q→
   wpAny (model X.prog X.w) X.A (assignInOrder ((assignEach ts X.env).map (·.2)) us) (fun _ s'=>∃σ' H',Inv X pins σ' H' s'∧Q σ' H') X.xe s
abbrev kT:=V→V→V→Hp→(Hp→Prop)→Prop
def nI(X:Cx)(t:kT):Prop:=
 ∀ (pins:List (Addr×Obj)) (s:Shared) (σ:St) (H:Hp) (o i v:V) (ov iv u:Value) (Q:Hp→Prop),Inv X pins σ H s→RelV o ov→RelV i iv→RelV v u→t o i v H Q→
   wpAny (model X.prog X.w) X.A (setItem ov iv u) (fun _ s'=>∃H',Inv X pins σ H' s'∧Q H') X.xe s
abbrev gQ:=V→V→Hp→VK→Prop
def kK(X:Cx)(op:Operator)(t:gQ):Prop:=
 ∀ (pins:List (Addr×Obj)) (s:Shared) (σ:St) (H:Hp) (x y:V) (v u:Value) (Q:VK),Inv X pins σ H s→RelV x v→RelV y u→t x y H Q→
   wpAny (model X.prog X.w) X.A (inplaceOp op v u) (EP X pins σ Q) X.xe s
section
variable{X:Cx}{pos:Pos}
def cC(i:Nat):TG:=fun v σ H Q=>Q (σ.set i (some v)) H
theorem ba{i:Nat}{x:Str}(hN:X.N.Nodup)(hi:X.N[i]?=some x)(hx:dZ X.env.scope x)(hf:X.fn x=true∨X.env.scope.names.lookup x=some .local:=by first | exact .inl rfl | exact .inr rfl | assumption):PG X (.Name x pos) (cC i):=by
 intro pins s σ H v u Q I r h
 exact wpAny_assign_Name (fS I hN hi hx r (fun s' I'=>⟨_,H,I',h⟩) hf)
def vT:d5:=fun vs σ H Q=>vs=[]∧Q σ H
def sV(t:TG)(u:d5):d5:=fun vs σ H Q=>∃v r,vs=v::r∧t v σ H fun σ' H'=>u r σ' H' Q
theorem fq:gw X [] vT:=by
 intro pins s σ H vs us Q I r h
 obtain⟨e,h⟩:=h
 subst e
 cases r
 exact assignInOrder_nil ⟨σ,H,I,h⟩
theorem cf{e:Expr}{es:List Expr}{t:TG}{u:d5}(h1:PG X e t)(h2:gw X es u)(hs:(assignEach (e::es) X.env).map (·.2)=assign e X.env::(assignEach es X.env).map (·.2):=by rfl):gw X (e::es) (sV t u):=by
 intro pins s σ H vs us Q I r h
 obtain⟨v,vr,e1,h⟩:=h
 subst e1
 cases r with
 | cons r rr=>
   rw[hs]
   refine assignInOrder_cons (ak (h1 pins s σ H _ _ _ I r h) fun _ s1 ⟨σ1,H1,I1,q1⟩=>?_)
   exact h2 pins s1 σ1 H1 _ _ Q I1 rr q1
def vF(K:PySem.W.Frag)(n:Nat)(t:d5):TG:=fun v σ H Q=>∃a xs,v=.ref a∧SqT K H a xs∧xs.length=n∧t xs σ H Q
theorem fi{es:List Expr}{k:Nat}{t:d5}{n:Nat}(hc:X.calm=true)(h:gw X es t)(hn:(assignEach es X.env).length=n:=by rfl)(hst:(assignEach es X.env).findIdx? (·.1)=none:=by rfl):PG X (.Tuple es k pos) (vF X.K n t):=by
 intro pins s σ H v u Q I r hw
 obtain⟨a,xs,e1,hq,hl,hw⟩:=hw
 subst e1
 cases r
 obtain⟨its,rv,ht,hz⟩:=I.tuple hq
 refine assign_Tuple_tuple (I.ok.hd hc) ht (by simp[hn,←hl,rv.length]) hst fun h' hx=>?_
 have I1:Inv X pins σ H {s with heap:=h'}:=I.kept (t':=s.toks) fun b o e=>hx b o (Nat.ne_of_lt (Heap.lt_size e)) e
 exact h pins _ σ H xs _ Q I1 (by simpa using rv) hw
def wZ(to ti:TE)(t:kT):TG:=fun v σ H Q=>to σ H fun o H1=>ti σ H1 fun i H2=>t o i v H2 fun H3=>Q σ H3
theorem qo{o i:Expr}{to ti:TE}{t:kT}(ho:PE X o to)(hi:PE X i ti)(hs:nI X t)(ha:∀v,assign (.Subscript o i pos) X.env v=(do
 let ov←holding [v] (eval o X.env)
 let iv←holding [v,ov] (eval i X.env)
 standAt pos
 holding [v,ov,iv] (setItem ov iv v)
 release [v,ov,iv] []):=by intro _;rfl):PG X (.Subscript o i pos) (wZ to ti t):=by
 intro pins s σ H v u Q I r h
 rw[ha]
 refine wpAny_bind (wpAny_holding (ak (ho pins s σ H _ I h) fun ov s1 ⟨x,H1,I1,r1,q1⟩=>?_))
 refine wpAny_bind (wpAny_holding (ak (hi pins s1 σ H1 _ I1 q1) fun iv s2 ⟨y,H2,I2,r2,q2⟩=>?_))
 refine wpAny_bind (wpAny_standAt (wpAny_bind (wpAny_holding (ak (hs pins s2 σ H2 x y v ov iv u _ I2 r1 r2 r q2) fun _ s3 ⟨H3,I3,q3⟩=>?_))))
 exact wpAny_release ⟨σ,H3,I3,q3⟩
def eC(te:TE)(g:TG):TS:=fun D σ H=>te σ H fun x H1=>g x σ H1 D.nx
theorem eG{tg e:Expr}{te:TE}{g:TG}(he:PE X e te)(hg:PG X tg g)(hs:swapsWithSole [tg] e pos.line X.env=pure false:=by rfl)(hw:swappedStores [tg] e X.env=pure none:=by rfl)
 (h1:(assignEach [tg] X.env).map (·.2)=[assign tg X.env]:=by rfl):PS X (.Assign [tg] e pos) (eC te g):=by
 intro pins s σ H D I h
 refine wpAny_Assign_stores (ak (he pins s σ H _ I h) fun v s1 ⟨x,H1,I1,r1,q1⟩=>?_) hs hw
 rw[h1]
 exact ak (hg pins s1 σ H1 x v _ I1 r1 q1) fun _ s2 q=>q
theorem am{i:Nat}{x:Str}{e:Expr}{te:TE}{pos':Pos}(hN:X.N.Nodup)(hi:X.N[i]?=some x)(hx:dZ X.env.scope x)(he:PE X e te)(hs:swapsWith e (some (.Name x pos')) pos.line X.env=pure false:=by rfl)(hf:X.fn x=true∨X.env.scope.names.lookup x=some .local:=by first | exact .inl rfl | exact .inr rfl | assumption):
 PS X (.Assign [.Name x pos'] e pos) (eC te (cC i)):=by
 intro pins s σ H D I h
 refine wpAny_Assign_Name (ak (he pins s σ H _ I h) fun v s1 ⟨y,H1,I1,r1,q1⟩=>?_) hs
 exact fS I1 hN hi hx r1 (fun s2 I2=>⟨_,H1,I2,q1⟩) hf
def ss(i:Nat)(te:TE)(ti:gQ):TS:=fun D σ H=>∃x,σ[i]?=some (some x)∧te σ H fun y H1=>ti x y H1 fun z H2=>D.nx (σ.set i (some z)) H2
theorem oQ{i:Nat}{x:Str}{e:Expr}{te:TE}{op:Operator}{ti:gQ}{pos':Pos}(hN:X.N.Nodup)(hi:X.N[i]?=some x)(hx:dZ X.env.scope x)(he:PE X e te)(ho:kK X op ti)(hf:X.fn x=true∨X.env.scope.names.lookup x=some .local:=by first | exact .inl rfl | exact .inr rfl | assumption):
 PS X (.AugAssign (.Name x pos') op e pos) (ss i te ti):=by
 intro pins s σ H D I h
 obtain⟨v,e1,h⟩:=h
 obtain⟨m,hn,hl⟩:=I.loc
 have vis:iP X.env.scope x:=by rcases hx with k | k;exact .inl k;exact .inr (.inl k)
 obtain⟨u,r,l⟩:=hl i x v hi e1 vis
 refine wpAny_AugAssign_Name ?_
 have go:wpAny (model X.prog X.w) X.A (eval e X.env) (fun w s₂=>wpAny (model X.prog X.w) X.A (inplaceOp op u w) (fun r s₃=>wpAny (model X.prog X.w) X.A (storeName X.env x r) (fun _=>SP X pins D .next) X.xe s₃) X.xe s₂) X.xe s:=by
  refine ak (he pins s σ H _ I h) fun w s1 ⟨y,H1,I1,r1,q1⟩=>?_
  refine ak (ho pins s1 σ H1 v y u w _ I1 r r1 q1) fun z s2 ⟨zv,H2,I2,r2,q2⟩=>?_
  exact fS I2 hN hi hx r2 (fun s3 I3=>⟨_,H2,I3,q2⟩) hf
 rcases l with⟨hk,hm⟩ | ⟨hk,c,hc,hcell⟩
 ·exact wpAny_loadName_local I.ok.kind hk hn hm go
 ·rcases hk with hk | hk
  ·exact wpAny_loadName_cell I.ok.kind hk hc hcell go
  ·rcases hx with k | k
   ·have:X.env.scope.names.lookup x=some .free:=hk
    rw[k] at this;cases this
   ·have:X.env.scope.names.lookup x=some .free:=hk
    rw[k] at this;cases this
def m8(f:Int→Int→Int):gQ:=fun x y H Q=>∃i j,x=.int i∧y=.int j∧Q (.int (f i j)) H
theorem tN:kK X .Add (m8 fun i j=>i+j):=by
 intro pins s σ H x y v u Q I r1 r2 h
 obtain⟨i,j,e1,e2,q⟩:=h
 subst e1;subst e2
 obtain⟨t,rfl⟩:=r1
 obtain⟨t',rfl⟩:=r2
 exact iadd_int ⟨.int _,H,I.tok _,⟨_,rfl⟩,q⟩
theorem rY:kK X .Sub (m8 fun i j=>i-j):=by
 intro pins s σ H x y v u Q I r1 r2 h
 obtain⟨i,j,e1,e2,q⟩:=h
 subst e1;subst e2
 obtain⟨t,rfl⟩:=r1
 obtain⟨t',rfl⟩:=r2
 exact isub_int ⟨.int _,H,I.tok _,⟨_,rfl⟩,q⟩
end
section
variable{X:Cx}{pos:Pos}
def zu(c:TT)(tb:TS):TS:=fun D σ H=>∃W:Nat→St→Hp→Prop,(∃m,W m σ H)∧∀m σ H,W m σ H→
 c σ H fun b H1=>if b=true then∃N:St→Hp→Prop,(∀σ' H',N σ' H'→∃m',m'<m∧W m' σ' H')∧tb {D with nx:=N,ct:=N,bk:=D.nx} σ H1 else D.nx σ H1
theorem dL{c:Expr}{body:List Stmt}{tc:TT}{tb:TS}(hp:PassesOwn (model X.prog X.w) X.A X.env X.xe)(hc:PT X c tc)(hb:PSs X body tb):PS X (.While c body [] pos) (zu tc tb):=by
 intro pins s σ H D I h
 obtain⟨W,⟨m0,w0⟩,turn⟩:=h
 refine wpAny_While (codeAny_whileLoop (fun n s'=>∃σ' H',Inv X pins σ' H' s'∧W n σ' H') ?_ m0 ⟨σ,H,I,w0⟩)
 rintro n s1 ⟨σ1,H1,I1,w1⟩
 refine wpAny_passesOwn hp (ak (hc pins s1 σ1 H1 _ I1 (turn n σ1 H1 w1)) fun b s2 ⟨H2,I2,q2⟩=>?_)
 cases b with
 | true=>
   obtain⟨N,hN,q2⟩:=q2
   rw[if_pos rfl]
   refine wpAny_passesOwn hp (ak (hb pins s2 σ1 H2 _ I2 q2) fun f s3 q3=>?_)
   cases f with
   | next=>
     obtain⟨σ3,H3,I3,n3⟩:=q3
     obtain⟨m',hm,w3⟩:=hN σ3 H3 n3
     exact⟨m',hm,σ3,H3,I3,w3⟩
   | cont=>
     obtain⟨σ3,H3,I3,n3⟩:=q3
     obtain⟨m',hm,w3⟩:=hN σ3 H3 n3
     exact⟨m',hm,σ3,H3,I3,w3⟩
   | brk=>exact q3
   | ret v=>exact q3
 | false=>
   rw[if_neg Bool.false_ne_true]
   exact wpAny_execs_nil ⟨σ1,H2,I2,q2⟩
end
structure It where
 go:Nat→Hp→Prop
 yld:Nat→Hp→V→Hp→Prop
 stop:Nat→Hp→Prop
def bV(X:Cx)(pins:List (Addr×Obj))(H:Hp)(b:Addr):Prop:=
 H b=none∧b≠X.env.locals∧b∉X.fs∧(b∈X.ex∨X.s₀.heap.objs.size≤b)∧(∀x c,X.env.cells.lookup x=some c→c≠b)∧∀p∈X.pn++pins,p.1≠b
theorem Inv.fpOk{X:Cx}{pins:List (Addr×Obj)}{σ:St}{H H':Hp}{s:Shared}{b:Addr}(I:Inv X pins σ H s)(hb:s.heap.objs.size≤b)(hn:H' b=none):bV X pins H' b:=by
 refine⟨hn,Nat.ne_of_gt (Nat.lt_of_lt_of_le I.lt hb),I.nofs hb,.inr (Nat.le_trans I.sz hb),fun x c e z=>?_,fun p hp z=>?_⟩
 ·obtain⟨v,q⟩:=I.cell x c e
  exact absurd (Nat.lt_of_lt_of_le q.lt (by rw[z];exact hb)) (Nat.lt_irrefl _)
 ·exact absurd (Nat.lt_of_lt_of_le (Heap.lt_size (I.pin p hp).1) (by rw[z];exact hb)) (Nat.lt_irrefl _)
structure Turn(P:Program)(w:World)(K:PySem.W.Frag)(tg:Expr)(J:It)(fp:List Addr)(it:Addr)(tn:Nat→Heap→Prop):Prop where
 mem:it∈fp
 obj:∀i h,tn i h→∀b∈fp,∃o,h.get? b=some o∧∀v,o.data≠ .cell v
 keep:∀i h h',tn i h→(∀b∈fp,∀o,h.get? b=some o→h'.get? b=some o)→tn i h'
 item:∀(X:Cx),X.prog=P→X.w=w→X.K=K→X.calm=true→∀(i:Nat) (pins:List (Addr×Obj)) (s:Shared) (σ:St) (H:Hp) (E:Value→Shared→Prop),Inv X pins σ H s→(∀b∈fp,bV X pins H b)→tn i s.heap→J.go i H→
  wpAny (model P w) X.A (pyNext (.ref it)) (fun r s1=>∃u,r=some u∧
   wpAny (model P w) X.A (letOwnedTupleGo tg (.ref it) u) (fun _ s2=>∃x H',Inv X pins σ H' s2∧RelV x u∧J.yld i H x H'∧tn (i+1) s2.heap∧∀b∈fp,H' b=none) E s1) E s
 done:∀(X:Cx),X.prog=P→X.w=w→X.K=K→X.calm=true→∀(i:Nat) (pins:List (Addr×Obj)) (s:Shared) (σ:St) (H:Hp) (E:Value→Shared→Prop),Inv X pins σ H s→(∀b∈fp,bV X pins H b)→tn i s.heap→J.stop i H→
  wpAny (model P w) X.A (pyNext (.ref it)) (fun r s1=>r=none∧Inv X pins σ H s1) E s
 self:∀(A:Around) (i:Nat) (s:Shared) (Q:Value→Shared→Prop) (E:Value→Shared→Prop),tn i s.heap→Q (.ref it) s→wpAny (model P w) A (pyIter (.ref it)) Q E s
abbrev TI:=St→Hp→(It→Hp→Prop)→Prop
def mS(X:Cx)(pins:List (Addr×Obj))(σ:St)(tg:Expr)(R:It→Hp→Prop)(itv:Value)(s2:Shared):Prop:=
 ∃(it:Addr) (fp:List Addr) (tn:Nat→Heap→Prop) (J:It) (H':Hp),itv=.ref it∧Inv X pins σ H' s2∧Turn X.prog X.w X.K tg J fp it tn∧tn 0 s2.heap∧(∀b∈fp,bV X pins H' b)∧R J H'
def PI(X:Cx)(tg iter:Expr)(wi:TI):Prop:=
 ∀ (pins:List (Addr×Obj)) (s:Shared) (σ:St) (H:Hp) (R:It→Hp→Prop),Inv X pins σ H s→wi σ H R→
   wpAny (model X.prog X.w) X.A (eval iter X.env) (fun v s1=>wpAny (model X.prog X.w) X.A (pyIter v) (mS X pins σ tg R) X.xe s1) X.xe s
theorem fA{M:Model}{A:Around}{E:Value→Shared→Prop}{s:Shared}{tg:Expr}{it:Addr}{u:Value}{o:Obj}{n:String}{vs:Array Value}{Q:Unit→Shared→Prop}(ho:s.heap.get? it=some o)(hc:o.cls=.type n)(hd:o.data=.fields vs)(hn:["enumerate","zip","dict_itemiterator","dict_reverseitemiterator","odict_iterator","itertools.zip_longest","itertools.pairwise"].contains n=false)(hQ:Q () s):wpAny M A (letOwnedTupleGo tg (.ref it) u) Q E s:=by
 unfold letOwnedTupleGo
 cases tg <;> first
  | exact wpAny_pure hQ
  | (cases u <;> first
   | exact wpAny_pure hQ
   | (refine wpAny_bind (wpAny_load ho ?_)
      rw[hc,hd]
      show wpAny M A (if(["enumerate","zip","dict_itemiterator","dict_reverseitemiterator","odict_iterator","itertools.zip_longest","itertools.pairwise"].contains n && vs[0]? == some (rawInt _))=true then _ else _) Q E s
      rw[if_neg (by intro h;rw[hn,Bool.false_and] at h;cases h)]
      exact wpAny_pure hQ))
def ce(K:PySem.W.Frag)(a:Addr):It:=
 ⟨fun i H=>∃xs x,SqL K H a xs∧xs[i]?=some x,fun i H x H'=>H'=H∧∀xs,SqL K H a xs→xs[i]?=some x,fun i H=>∃xs,SqL K H a xs∧xs.length≤i⟩
def cD(lo:Int)(n:Nat):It:=⟨fun i _=>i<n,fun i H x H'=>H'=H∧x=.int (lo+i),fun i _=>n≤i⟩
theorem yt{P:Program}{w:World}{K:PySem.W.Frag}{tg:Expr}(a it:Addr):Turn P w K tg (ce K a) [it] it (fun i h=>h.IsListIter it a i) where
 mem:=by simp
 obj:=fun i h st b hb=>by
  have e:b=it:=by simpa using hb
  subst e
  obtain⟨o,e,c,d⟩:=st
  exact⟨o,e,fun v z=>by rw[d] at z;cases z⟩
 keep:=fun i h h' st k=>st.at fun o e=>k it (by simp) o e
 item:=by
  intro X hP hw hK hc i pins s σ H E I hf st hg
  subst hP hw hK
  obtain⟨xs,x,hq,hx⟩:=hg
  obtain⟨its,rv,p,hz⟩:=I.list hq
  obtain⟨u,hu,ru⟩:=rv.get hx
  obtain⟨f0,f1,f2,f3,f4,f5⟩:=hf it (by simp)
  refine wpAny_pyNext_list_item st p.isList (x:=u) (by simpa using hu) fun h' st' sb=>?_
  have I1:Inv X pins σ H {s with heap:=h'}:=I.turned (t':=s.toks) (fun b o hb e=>(sb.2 b hb).trans e) f0 f1 f3 f4 f5
  obtain⟨o,e,c,d⟩:=id st'
  exact⟨u,rfl,fA (s:={s with heap:=h'}) e c d (by decide) ⟨x,H,I1,ru,⟨rfl,fun ys hy=>by rw[I.list_inj hy hq];exact hx⟩,st',fun b hb=>(hf b hb).1⟩⟩
 done:=by
  intro X hP hw hK hc i pins s σ H E I hf st hg
  subst hP hw hK
  obtain⟨xs,hq,hx⟩:=hg
  obtain⟨its,rv,p,hz⟩:=I.list hq
  obtain⟨f0,f1,f2,f3,f4,f5⟩:=hf it (by simp)
  have hl:=rv.length
  exact wpAny_pyNext_list_end (I.ok.hd hc) st p.isList (by simp;lia) fun h' eb=>⟨rfl,I.turned (t':=s.toks) (fun b o hb e=>eb b o hb e) f0 f1 f3 f4 f5⟩
 self:=fun _ _ _ _ _ st h=>wpAny_pyIter_listiter st h
theorem rz{P:Program}{w:World}{K:PySem.W.Frag}{tg:Expr}(it:Addr)(lo:Int)(n:Nat):Turn P w K tg (cD lo n) [it] it (fun i h=>IsRangeIter h it (lo+(i:Nat)*1) ((n:Int)-(i:Nat)) 1) where
 mem:=by simp
 obj:=fun i h st b hb=>by
  have e:b=it:=by simpa using hb
  subst e
  exact⟨_,st,fun v z=>by
   have z':Data.fields _=Data.cell v:=z
   cases z'⟩
 keep:=fun i h h' st k=>k it (by simp) _ st
 item:=by
  intro X hP hw hK hc i pins s σ H E I hf st hg
  subst hP hw hK
  obtain⟨f0,f1,f2,f3,f4,f5⟩:=hf it (by simp)
  have W:=Walks.range (prog:=X.prog) (w:=X.w) (I.ok.hd hc) it lo 1 n
  refine W.item i s _ _ hg st fun v h' tk hv st' kk=>?_
  obtain⟨t,rfl⟩:=hv
  have I1:Inv X pins σ H {s with heap:=h',toks:=tk}:=I.turned (fun b o hb e=>kk b o (by simpa using hb) e) f0 f1 f3 f4 f5
  refine⟨_,rfl,fA (s:={s with heap:=h',toks:=tk}) (n:="range_iterator") st' rfl rfl (by decide) ⟨.int (lo+i),H,I1,⟨t,?_⟩,⟨rfl,rfl⟩,st',fun b hb=>(hf b hb).1⟩⟩
  rw[Int.mul_one]
 done:=by
  intro X hP hw hK hc i pins s σ H E I hf st hg
  subst hP hw hK
  obtain⟨f0,f1,f2,f3,f4,f5⟩:=hf it (by simp)
  exact wpAny_pyNext_range_end (I.ok.hd hc) st (by have:n≤i:=hg;lia) fun h' eb=>⟨rfl,I.turned (t':=s.toks) (fun b o hb e=>eb b o hb e) f0 f1 f3 f4 f5⟩
 self:=fun _ _ _ _ _ st h=>wpAny_pyIter_rangeiter st h
section
variable{X:Cx}{tg:Expr}
def qk(K:PySem.W.Frag)(tl:TE):TI:=fun σ H R=>tl σ H fun x H1=>∃a,x=.ref a∧(∃xs,SqL K H1 a xs)∧R (ce K a) H1
theorem ck{l:Expr}{tl:TE}(hl:PE X l tl):PI X tg l (qk X.K tl):=by
 intro pins s σ H R I h
 refine ak (hl pins s σ H _ I h) fun v s1 ⟨x,H1,I1,r1,q1⟩=>?_
 obtain⟨a,e,⟨xs,hq⟩,q⟩:=q1
 subst e
 cases r1
 obtain⟨its,rv,p,hz⟩:=I1.list hq
 refine wpAny_pyIter_list p.isList ?_
 refine⟨s1.heap.objs.size,[s1.heap.objs.size],_,_,H1,rfl,I1.kept (t':=s1.toks) fun b o e=>Heap.get?_push_of_some _ e,yt a _,⟨_,Heap.get?_push_size _ rfl,rfl,rfl⟩,fun b hb=>?_,q⟩
 have e:b=s1.heap.objs.size:=by simpa using hb
 subst e
 exact I1.fpOk (Nat.le_refl _) (I1.hok.fresh (Nat.le_refl _))
theorem pH{pins:List (Addr×Obj)}{σ:St}{H:Hp}{s:Shared}{R:It→Hp→Prop}{E:Value→Shared→Prop}{lo hi:Int}{t u v:Tok}{tk:Nat}(I:Inv X pins σ H s)(h1: -(2 ^ 62)≤lo)(h2:lo<2 ^ 62)(h3: -(2 ^ 62)≤hi)(h4:hi<2 ^ 62)(q:R (cD lo (hi-lo).toNat) H):wpAny (model X.prog X.w) X.A (pyIter (.ref s.heap.objs.size)) (mS X pins σ tg R) E {s with heap:=s.heap.push {cls:=.type "range",data:=.fields #[.int lo t,.int hi u,.int 1 v]},toks:=tk}:=by
 refine wpAny_pyIter_range (IsRange.new ..) (small_one h1 h2 h3 h4) ?_
 have I1:Inv X pins σ H {s with heap:=s.heap.push {cls:=.type "range",data:=.fields #[.int lo t,.int hi u,.int 1 v]},toks:=tk}:=I.kept fun b o e=>Heap.get?_push_of_some _ e
 refine⟨(s.heap.push {cls:=.type "range",data:=.fields #[.int lo t,.int hi u,.int 1 v]}).objs.size,[(s.heap.push {cls:=.type "range",data:=.fields #[.int lo t,.int hi u,.int 1 v]}).objs.size],_,_,H,rfl,
  I1.kept (t':=tk) fun b o e=>Heap.get?_push_of_some _ e,rz _ lo (hi-lo).toNat,?_,fun b hb=>?_,q⟩
 ·have e1:lo+((0:Nat):Int)*1=lo:=by simp
  have e2:(((hi-lo).toNat:Nat):Int)-((0:Nat):Int)=Builtin.Range.rangeSize lo hi 1:=by rw[rangeSize_one];split <;> lia
  show IsRangeIter _ _ (lo+((0:Nat):Int)*1) ((((hi-lo).toNat:Nat):Int)-((0:Nat):Int)) 1
  rw[e1,e2]
  exact Heap.get?_push_size _ rfl
 ·have e:b=(s.heap.push {cls:=.type "range",data:=.fields #[.int lo t,.int hi u,.int 1 v]}).objs.size:=by simpa using hb
  subst e
  exact I1.fpOk (Nat.le_refl _) (I1.hok.fresh (Nat.le_refl _))
def rn(ta:TA):TI:=fun σ H R=>ta σ H fun vs H1=>∃j:Int,vs=[.int j]∧ -(2 ^ 62)≤j∧j<2 ^ 62∧R (cD 0 j.toNat) H1
def yO(ta:TA):TI:=fun σ H R=>ta σ H fun vs H1=>∃i j:Int,vs=[.int i,.int j]∧(-(2 ^ 62)≤i∧i<2 ^ 62∧ -(2 ^ 62)≤j∧j<2 ^ 62)∧R (cD i (j-i).toNat) H1
theorem dR{a:Expr}{ta:TA}{p pos:Pos}(hg:Gl X "range")(hm:X.mg "range"=none)(ha:PA X [a] ta)(hs:starEach [a] X.env=[(false,eval a X.env)]:=by rfl):PI X tg (.Call (.Name "range" p) [a] [] pos) (rn ta):=by
 intro pins s σ H R I h
 refine Call_ (dO I hg hm boot_range (PyProof.Rows.callWith_type1 (ak (ha pos pins s σ H _ I h) fun us s1 ⟨vs,H1,I1,r1,q1⟩=>?_) hs rfl))
 obtain⟨j,e,q1,q2,q⟩:=q1
 subst e
 cases r1 with
 | cons r rr=>
   cases rr
   obtain⟨t,rfl⟩:=r
   exact call_range_1 (pH I1 (by lia) (by lia) q1 q2 (by simpa using q))
theorem jk{a b:Expr}{ta:TA}{p pos:Pos}(hg:Gl X "range")(hm:X.mg "range"=none)(ha:PA X [a,b] ta)(hs:starEach [a,b] X.env=[(false,eval a X.env),(false,eval b X.env)]:=by rfl)(hs2:starEach [b] X.env=[(false,eval b X.env)]:=by rfl):
 PI X tg (.Call (.Name "range" p) [a,b] [] pos) (yO ta):=by
 intro pins s σ H R I h
 refine Call_ (dO I hg hm boot_range (PyProof.Rows.callWith_type1 (ak (ha pos pins s σ H _ I h) fun us s1 ⟨vs,H1,I1,r1,q1⟩=>?_) (by rw[hs,hs2]) (by rw[hs2];rfl)))
 obtain⟨i,j,e,⟨q1,q2,q3,q4⟩,q⟩:=q1
 subst e
 cases r1 with
 | cons r rr=>
   cases rr with
   | cons r' rr=>
     cases rr
     obtain⟨t,rfl⟩:=r
     obtain⟨t',rfl⟩:=r'
     exact call_range_2 (pH I1 q1 q2 q3 q4 q)
def qH(wi:TI)(g:TG)(tb:TS):TS:=fun D σ H=>wi σ H fun J H1=>∃W:Nat→Nat→St→Hp→Prop,(∃m,W 0 m σ H1)∧∀i m σ H,W i m σ H→
 (J.stop i H∧D.nx σ H)∨(J.go i H∧∃N:St→Hp→Prop,(∀σ' H',N σ' H'→∃m',m'<m∧W (i+1) m' σ' H')∧∀x H',J.yld i H x H'→g x σ H' fun σ2 H2=>tb {D with nx:=N,ct:=N,bk:=D.nx} σ2 H2)
def eZ(fp:List Addr)(h:Heap):List (Addr×Obj):=fp.filterMap fun b=>(h.get? b).map fun o=>(b,o)
theorem e6{fp:List Addr}{h:Heap}{b:Addr}{o:Obj}(hb:b∈fp)(e:h.get? b=some o):(b,o)∈eZ fp h:=List.mem_filterMap.mpr ⟨b,hb,by rw[e];rfl⟩
theorem xc{fp:List Addr}{h:Heap}{p:Addr×Obj}(hp:p∈eZ fp h):p.1∈fp∧h.get? p.1=some p.2:=by
 obtain⟨b,hb,e⟩:=List.mem_filterMap.mp hp
 cases q:h.get? b with
 | none=>rw[q] at e;cases e
 | some o=>
   rw[q] at e
   have e':(b,o)=p:=Option.some.inj e
   subst e'
   exact⟨hb,q⟩
theorem Inv.pinned{pins:List (Addr×Obj)}{σ:St}{H:Hp}{s:Shared}{fp:List Addr}(I:Inv X pins σ H s)(hf:∀b∈fp,bV X pins H b)(ho:∀b∈fp,∃o,s.heap.get? b=some o∧∀v,o.data≠ .cell v):Inv X (pins++eZ fp s.heap) σ H s:=
 I.pins_of fun p hp=>(List.mem_append.mp hp).elim (fun z=>I.pin p (List.mem_append_right _ z)) fun z=>by
  obtain⟨hb,e⟩:=xc z
  obtain⟨f0,f1,f2,_⟩:=hf p.1 hb
  obtain⟨o,e',d⟩:=ho p.1 hb
  rw[e] at e';cases e'
  exact⟨e,f0,f1,f2,d⟩
theorem Inv.unpinned{pins pl:List (Addr×Obj)}{σ:St}{H:Hp}{s:Shared}(I:Inv X (pins++pl) σ H s):Inv X pins σ H s:=I.pins_of fun p hp=>I.pin p (List.mem_append_right _ (List.mem_append_left _ hp))
theorem cm{iter:Expr}{body:List Stmt}{wi:TI}{g:TG}{tb:TS}{pos:Pos}(hp:PassesOwn (model X.prog X.w) X.A X.env X.xe)(hc:X.calm=true)(hi:PI X tg iter wi)(hg:PG X tg g)(hb:PSs X body tb)(hs:∀x,foldedSetIterable iter X.env x=pure x:=by intro _;rfl):PS X (.For tg iter body [] pos) (qH wi g tb):=by
 intro pins s σ H D I h
 refine wpAny_For (ak (hi pins s σ H _ I h) fun v s1 h1=>ak h1 fun itv s2 h2=>?_) hs
 obtain⟨it,fp,tn,J,H2,e,I2,T,st2,f2,W,⟨m0,w0⟩,turn⟩:=h2
 subst e
 have stat:∀{H':Hp},(∀b∈fp,H' b=none)→∀b∈fp,bV X pins H' b:=fun hn b hb=>⟨hn b hb,(f2 b hb).2⟩
 refine codeAny_forLoop_any (fun n s'=>∃i σ' H',Inv X pins σ' H' s'∧tn i s'.heap∧(∀b∈fp,H' b=none)∧W i n σ' H') ?_ m0 ⟨0,σ,H2,I2,st2,fun b hb=>(f2 b hb).1,w0⟩
 rintro n s3 ⟨i,σ3,H3,I3,st3,fr3,w3⟩
 rcases turn i n σ3 H3 w3 with⟨stop,qn⟩ | ⟨go,N,hN,step⟩
 ·refine wpAny_passesOwn hp (ak (T.done X rfl rfl rfl hc i pins s3 σ3 H3 X.xe I3 (stat fr3) st3 stop) fun r s4 ⟨hr,I4⟩=>?_)
  subst hr
  exact wpAny_execs_nil ⟨σ3,H3,I4,qn⟩
 ·refine wpAny_passesOwn hp (ak (T.item X rfl rfl rfl hc i pins s3 σ3 H3 X.xe I3 (stat fr3) st3 go) fun r s4 ⟨u,hr,h4⟩=>?_)
  subst hr
  refine wpAny_passesOwn hp (ak h4 fun _ s5 ⟨x,H5,I5,r5,y5,st5,fr5⟩=>?_)
  have I5':=I5.pinned (stat fr5) (T.obj _ _ st5)
  refine wpAny_passesOwn hp (ak (hg _ s5 σ3 H5 x u _ I5' r5 (step x H5 y5)) fun _ s6 ⟨σ6,H6,I6,q6⟩=>?_)
  refine wpAny_passesOwn hp (ak (hb _ s6 σ6 H6 _ I6 q6) fun f s7 q7=>?_)
  have again:∀{σ7:St} {H7:Hp},Inv X (pins++eZ fp s5.heap) σ7 H7 s7→N σ7 H7→∃m,m<n∧∃i σ' H',Inv X pins σ' H' s7∧tn i s7.heap∧(∀b∈fp,H' b=none)∧W i m σ' H':=fun{σ7 H7} I7 n7=>by
   obtain⟨m',hm,w7⟩:=hN σ7 H7 n7
   refine⟨m',hm,i+1,σ7,H7,I7.unpinned,T.keep _ _ _ st5 fun b hb o e=>(I7.pin (b,o) (List.mem_append_right _ (List.mem_append_right _ (e6 hb e)))).1,fun b hb=>?_,w7⟩
   obtain⟨o,e,d⟩:=T.obj _ _ st5 b hb
   exact(I7.pin (b,o) (List.mem_append_right _ (List.mem_append_right _ (e6 hb e)))).2.1
  cases f with
  | next=>obtain⟨σ7,H7,I7,n7⟩:=q7;exact again I7 n7
  | cont=>obtain⟨σ7,H7,I7,n7⟩:=q7;exact again I7 n7
  | brk=>obtain⟨σ7,H7,I7,q7⟩:=q7;exact⟨σ7,H7,I7.unpinned,q7⟩
  | ret v=>obtain⟨x7,σ7,H7,I7,r7,q7⟩:=q7;exact⟨x7,σ7,H7,I7.unpinned,r7,q7⟩
end
theorem gZ{K:PySem.W.Frag}{a:Addr}{xs:List V}{g:TG}{tb:TS}{D:Ends}{σ:St}{H:Hp}(Pv:Nat→St→Hp→Prop)(h0:Pv 0 σ H)(hl:∀i σ H,i≤xs.length→Pv i σ H→SqL K H a xs)(hs:∀i x σ H,xs[i]?=some x→Pv i σ H→g x σ H fun σ2 H2=>tb {D with nx:=Pv (i+1),ct:=Pv (i+1),bk:=D.nx} σ2 H2)(hd:∀σ H,Pv xs.length σ H→D.nx σ H):
 ∃ W:Nat→Nat→St→Hp→Prop,(∃m,W 0 m σ H)∧∀i m σ H,W i m σ H→
   ((ce K a).stop i H∧D.nx σ H)∨((ce K a).go i H∧∃N:St→Hp→Prop,(∀σ' H',N σ' H'→∃m',m'<m∧W (i+1) m' σ' H')∧∀x H',(ce K a).yld i H x H'→g x σ H' fun σ2 H2=>tb {D with nx:=N,ct:=N,bk:=D.nx} σ2 H2):=by
 refine⟨fun i m σ H=>m=xs.length-i∧i≤xs.length∧Pv i σ H,⟨xs.length,by simp,Nat.zero_le _,h0⟩,?_⟩
 rintro i m σ H ⟨rfl,hi,p⟩
 have q:=hl i σ H hi p
 by_cases hlt:i<xs.length
 ·refine .inr ⟨⟨xs,xs[i],q,by simp[hlt]⟩,Pv (i+1),fun σ' H' p'=>⟨xs.length-(i+1),by lia,rfl,hlt,p'⟩,fun x H' y=>?_⟩
  obtain⟨e,y⟩:=y
  subst e
  exact hs i x σ _ (y xs q) p
 ·have e:i=xs.length:=by lia
  subst e
  exact .inl ⟨⟨xs,q,Nat.le_refl _⟩,hd σ H p⟩
theorem gB{lo:Int}{n:Nat}{g:TG}{tb:TS}{D:Ends}{σ:St}{H:Hp}(Pv:Nat→St→Hp→Prop)(h0:Pv 0 σ H)(hs:∀i σ H,i<n→Pv i σ H→g (.int (lo+i)) σ H fun σ2 H2=>tb {D with nx:=Pv (i+1),ct:=Pv (i+1),bk:=D.nx} σ2 H2)(hd:∀σ H,Pv n σ H→D.nx σ H):
 ∃ W:Nat→Nat→St→Hp→Prop,(∃m,W 0 m σ H)∧∀i m σ H,W i m σ H→
   ((cD lo n).stop i H∧D.nx σ H)∨((cD lo n).go i H∧∃N:St→Hp→Prop,(∀σ' H',N σ' H'→∃m',m'<m∧W (i+1) m' σ' H')∧∀x H',(cD lo n).yld i H x H'→g x σ H' fun σ2 H2=>tb {D with nx:=N,ct:=N,bk:=D.nx} σ2 H2):=by
 refine⟨fun i m σ H=>m=n-i∧i≤n∧Pv i σ H,⟨n,by simp,Nat.zero_le _,h0⟩,?_⟩
 rintro i m σ H ⟨rfl,hi,p⟩
 by_cases hlt:i<n
 ·refine .inr ⟨hlt,Pv (i+1),fun σ' H' p'=>⟨n-(i+1),by lia,rfl,hlt,p'⟩,fun x H' y=>?_⟩
  obtain⟨e,y⟩:=y
  subst e y
  exact hs i σ _ hlt p
 ·have e:i=n:=by lia
  subst e
  exact .inl ⟨Nat.le_refl _,hd σ H p⟩
abbrev R2:=V→V→Hp→VK→Prop
def OpR(X:Cx)(f:Value→Value→Sem Value)(r:R2):Prop:=
 ∀ (pins:List (Addr×Obj)) (s:Shared) (σ:St) (H:Hp) (x y:V) (v u:Value) (Q:VK),Inv X pins σ H s→RelV x v→RelV y u→r x y H Q→
   wpAny (model X.prog X.w) X.A (f v u) (EP X pins σ Q) X.xe s
def jd(X:Cx)(f:Value→Sem Value)(r:V→Hp→VK→Prop):Prop:=
 ∀ (pins:List (Addr×Obj)) (s:Shared) (σ:St) (H:Hp) (x:V) (v:Value) (Q:VK),Inv X pins σ H s→RelV x v→r x H Q→
   wpAny (model X.prog X.w) X.A (f v) (EP X pins σ Q) X.xe s
def bU(X:Cx)(f:Value)(r:List V→Hp→VK→Prop):Prop:=
 ∀ (pins:List (Addr×Obj)) (s:Shared) (σ:St) (H:Hp) (xs:List V) (us:List Value) (Q:VK),Inv X pins σ H s→Vals xs us→r xs H Q→
   wpAny (model X.prog X.w) X.A (call f us) (EP X pins σ Q) X.xe s
def eB(r:R2)(ta tb:TE):TE:=fun σ H Q=>ta σ H fun x H1=>tb σ H1 fun y H2=>r x y H2 Q
def vS(r:V→Hp→VK→Prop)(ta:TE):TE:=fun σ H Q=>ta σ H fun x H1=>r x H1 Q
def rI(C:Int→Int→Prop)(g:Int→Int→V):R2:=fun x y H Q=>∃i j,x=.int i∧y=.int j∧C i j∧Q (g i j) H
def cZ(g:Int→Int→V):R2:=fun x y H Q=>∃i j,x=.int i∧y=.int j∧Q (g i j) H
def rU(g:Int→V):V→Hp→VK→Prop:=fun x H Q=>∃i,x=.int i∧Q (g i) H
section
variable{X:Cx}{a b c:Expr}{ta tb tc:TE}{pos:Pos}
theorem kE(ha:PE X a ta)(hb:PE X b tb){pins:List (Addr×Obj)}{s:Shared}{σ:St}{H:Hp}{R:V→V→Hp→Prop}(I:Inv X pins σ H s)(h:ta σ H fun x H1=>tb σ H1 fun y H2=>R x y H2){Q:Value→Shared→Prop}{f:Value→Value→Sem Value}
 (hf:∀v u s2 x y H2,Inv X pins σ H2 s2→RelV x v→RelV y u→R x y H2→wpAny (model X.prog X.w) X.A (f v u) Q X.xe s2):
 wpAny (model X.prog X.w) X.A (eval a X.env) (fun v s₁=>wpAny (model X.prog X.w) X.A (eval b X.env) (fun u s₂=>wpAny (model X.prog X.w) X.A (f v u) Q X.xe s₂) X.xe s₁) X.xe s:=by
 refine ak (ha pins s σ H _ I h) fun v s1 ⟨x,H1,I1,r1,q1⟩=>?_
 refine ak (hb pins s1 σ H1 _ I1 q1) fun u s2 ⟨y,H2,I2,r2,q2⟩=>?_
 exact hf v u s2 x y H2 I2 r1 r2 q2
theorem ap{op:Operator}{r:R2}(ho:OpR X (binaryOp op) r)(ha:PE X a ta)(hb:PE X b tb):PE X (.BinOp a op b pos) (eB r ta tb):=by
 intro pins s σ H Q I h
 exact wpAny_BinOp (kE ha hb I h fun v u s2 x y H2 I2 rx ry q=>ho pins s2 σ H2 x y v u Q I2 rx ry q)
theorem j7{op:UnaryOp}{r:V→Hp→VK→Prop}(ho:jd X (unaryOp op) r)(ha:PE X a ta):PE X (.UnaryOp op a pos) (vS r ta):=by
 intro pins s σ H Q I h
 exact UnaryOp_ (ak (ha pins s σ H _ I h) fun v s1 ⟨x,H1,I1,r1,q1⟩=>ho pins s1 σ H1 x v Q I1 r1 q1)
theorem gM{f:Value→Value→Sem Value}{C:Int→Int→Prop}{g:Int→Int→Int}(rule:∀(i j:Int) (t u:Tok) (s:Shared) (Q:Value→Shared→Prop) (E:Value→Shared→Prop),C i j→Q (.int (g i j) s.toks) {s with toks:=s.toks+1}→wpAny (model X.prog X.w) X.A (f (.int i t) (.int j u)) Q E s):OpR X f (rI C fun i j=>.int (g i j)):=by
 intro pins s σ H x y v u Q I rx ry h
 obtain⟨i,j,rfl,rfl,hc,q⟩:=h
 obtain⟨t,rfl⟩:=rx
 obtain⟨t',rfl⟩:=ry
 exact rule i j t t' s _ _ hc ⟨.int (g i j),H,I.tok _,⟨_,rfl⟩,q⟩
theorem m7{f:Value→Value→Sem Value}{g:Int→Int→Int}(rule:∀(i j:Int) (t u:Tok) (s:Shared) (Q:Value→Shared→Prop) (E:Value→Shared→Prop),Q (.int (g i j) s.toks) {s with toks:=s.toks+1}→wpAny (model X.prog X.w) X.A (f (.int i t) (.int j u)) Q E s):OpR X f (cZ fun i j=>.int (g i j)):=by
 intro pins s σ H x y v u Q I rx ry h
 obtain⟨i,j,rfl,rfl,q⟩:=h
 obtain⟨t,rfl⟩:=rx
 obtain⟨t',rfl⟩:=ry
 exact rule i j t t' s _ _ ⟨.int (g i j),H,I.tok _,⟨_,rfl⟩,q⟩
theorem gG{f:Value→Value→Sem Value}{g:Int→Int→Bool}(rule:∀(i j:Int) (t u:Tok) (s:Shared) (Q:Value→Shared→Prop) (E:Value→Shared→Prop),Q (.bool (g i j)) s→wpAny (model X.prog X.w) X.A (f (.int i t) (.int j u)) Q E s):OpR X f (cZ fun i j=>.bl (g i j)):=by
 intro pins s σ H x y v u Q I rx ry h
 obtain⟨i,j,rfl,rfl,q⟩:=h
 obtain⟨t,rfl⟩:=rx
 obtain⟨t',rfl⟩:=ry
 exact rule i j t t' s _ _ ⟨.bl (g i j),H,I,rfl,q⟩
def wa(i j:Int):Prop:=0≤j∧j≤1000000∧i.natAbs<2 ^ 64
def CMul(i j:Int):Prop:=(-(2 ^ 64)<i∧i<2 ^ 64)∨(-(2 ^ 64)<j∧j<2 ^ 64)
theorem CMul.ok{i j:Int}(h:CMul i j):IntMulOk i j:=by
 rcases h with⟨h1,h2⟩ | ⟨h1,h2⟩
 ·exact .of_left (intBits_le_64 h1 h2)
 ·exact .of_right (intBits_le_64 h1 h2)
theorem bC:OpR X (binaryOp .Add) (cZ fun i j=>.int (i+j)):=m7 fun _ _ _ _ _ _ _ q=>add_int q
theorem aZ:OpR X (binaryOp .Sub) (cZ fun i j=>.int (i-j)):=m7 fun _ _ _ _ _ _ _ q=>sub_int q
theorem i7:OpR X (binaryOp .Mult) (rI CMul fun i j=>.int (i*j)):=gM fun _ _ _ _ _ _ _ hc q=>mul_int q hc.ok
theorem fg:OpR X (binaryOp .Mod) (rI (fun _ j=>0<j) fun i j=>.int (i % j)):=gM fun i j _ _ _ _ _ hc q=>by
 have h1:(0:Int)<j:=hc
 exact mod_int' (by lia) (by rw[Int.fmod_eq_emod_of_nonneg i (by lia)];exact q)
theorem pW:OpR X (binaryOp .Pow) (rI wa fun i j=>.int (i ^ j.toNat)):=gM fun _ _ _ _ _ _ _ hc q=>pow_int_small hc.1 hc.2.1 hc.2.2 q
theorem wl{f:Value→Sem Value}{g:Int→Int}(rule:∀(i:Int) (t:Tok) (s:Shared) (Q:Value→Shared→Prop) (E:Value→Shared→Prop),Q (.int (g i) s.toks) {s with toks:=s.toks+1}→wpAny (model X.prog X.w) X.A (f (.int i t)) Q E s):jd X f (rU fun i=>.int (g i)):=by
 intro pins s σ H x v Q I rx h
 obtain⟨i,rfl,q⟩:=h
 obtain⟨t,rfl⟩:=rx
 exact rule i t s _ _ ⟨.int (g i),H,I.tok _,⟨_,rfl⟩,q⟩
theorem kz:jd X (unaryOp .USub) (rU fun i=>.int (-i)):=wl fun _ _ _ _ _ q=>neg_int q
end
def qD:V→V→Bool
 | .non,.non=>true | .non,.int _=>true | .int _,.non=>true | .non,.bl _=>true | .bl _,.non=>true | .non,.str _=>true | .str _,.non=>true
 | .int _,.int _=>true | .bl _,.bl _=>true | .str _,.str _=>true | .byt _,.byt _=>true
 | .int _,.str _=>true | .str _,.int _=>true | .bl _,.str _=>true | .str _,.bl _=>true
 | _,_=>false
def um:R2:=fun x y H Q=>qD x y=true∧Q (.bl (decide (x=y))) H
def wB:R2:=fun x y H Q=>qD x y=true∧Q (.bl (!decide (x=y))) H
theorem mY{i j:Int}:decide (V.int i=V.int j)=(i == j):=by
 rw[Bool.eq_iff_iff]
 simp
theorem qy{i j:Bool}:decide (V.bl i=V.bl j)=(i == j):=by
 rw[Bool.eq_iff_iff]
 simp
theorem mf{i j:Str}:decide (V.str i=V.str j)=(i == j):=by
 rw[Bool.eq_iff_iff]
 simp
theorem nO{i j:Array UInt8}:decide (V.byt i=V.byt j)=(i.toList == j.toList):=by
 rw[Bool.eq_iff_iff]
 cases i
 cases j
 simp
section
variable{X:Cx}{a b c:Expr}{ta tb tc:TE}{pos:Pos}
theorem aN{pins:List (Addr×Obj)}{σ:St}{H:Hp}{s:Shared}{Q:VK}{k k':Bool}(I:Inv X pins σ H s)(q:Q (.bl k) H)(e:k=k'):EP X pins σ Q (.bool k') s:=by
 subst e
 exact⟨.bl k,H,I,rfl,q⟩
theorem cu:OpR X (compareOp .Eq) um:=by
 intro pins s σ H x y v u Q I rx ry h
 obtain⟨hs,q⟩:=h
 cases x with
 | non=>
   cases rx
   cases y with
   | non=>cases ry;exact PySem.EqNone.eq_none_none (aN I q (by simp))
   | bl j=>cases ry;exact PySem.EqNone.eq_none_bool (aN I q (by simp))
   | int j=>obtain⟨t',rfl⟩:=ry;exact PySem.EqNone.eq_none_int (aN I q (by simp))
   | str j=>obtain⟨t',rfl⟩:=ry;exact PySem.EqNone.eq_none_str (aN I q (by simp))
   | _=>exact absurd (show false=true from hs) Bool.false_ne_true
 | bl i=>
   cases rx
   cases y with
   | non=>cases ry;exact PySem.EqNone.eq_bool_none (aN I q (by simp))
   | bl j=>cases ry;exact eq_bool (aN I q qy)
   | str j=>obtain⟨t',rfl⟩:=ry;exact PySem.EqMixed.eq_bool_str (aN I q (by simp))
   | _=>exact absurd (show false=true from hs) Bool.false_ne_true
 | int i=>
   obtain⟨t,rfl⟩:=rx
   cases y with
   | non=>cases ry;exact PySem.EqNone.eq_int_none (aN I q (by simp))
   | int j=>obtain⟨t',rfl⟩:=ry;exact eq_int (aN I q mY)
   | str j=>obtain⟨t',rfl⟩:=ry;exact PySem.EqMixed.eq_int_str (aN I q (by simp))
   | _=>exact absurd (show false=true from hs) Bool.false_ne_true
 | str i=>
   obtain⟨t,rfl⟩:=rx
   cases y with
   | non=>cases ry;exact PySem.EqNone.eq_str_none (aN I q (by simp))
   | bl j=>cases ry;exact PySem.EqMixed.eq_str_bool (aN I q (by simp))
   | int j=>obtain⟨t',rfl⟩:=ry;exact PySem.EqMixed.eq_str_int (aN I q (by simp))
   | str j=>obtain⟨t',rfl⟩:=ry;exact eq_str (aN I q mf)
   | _=>exact absurd (show false=true from hs) Bool.false_ne_true
 | byt i=>
   obtain⟨t,rfl⟩:=rx
   cases y with
   | byt j=>obtain⟨t',rfl⟩:=ry;exact PySem.W.eq_bytes (aN I q nO)
   | _=>exact absurd (show false=true from hs) Bool.false_ne_true
 | _=>cases y <;> exact absurd (show false=true from hs) Bool.false_ne_true
theorem pV:OpR X (compareOp .NotEq) wB:=by
 intro pins s σ H x y v u Q I rx ry h
 obtain⟨hs,q⟩:=h
 cases x with
 | non=>
   cases rx
   cases y with
   | non=>cases ry;exact PySem.EqNone.ne_none_none (aN I q (by simp))
   | bl j=>cases ry;exact PySem.EqNone.ne_none_bool (aN I q (by simp))
   | int j=>obtain⟨t',rfl⟩:=ry;exact PySem.EqNone.ne_none_int (aN I q (by simp))
   | str j=>obtain⟨t',rfl⟩:=ry;exact PySem.EqNone.ne_none_str (aN I q (by simp))
   | _=>exact absurd (show false=true from hs) Bool.false_ne_true
 | bl i=>
   cases rx
   cases y with
   | non=>cases ry;exact PySem.EqNone.ne_bool_none (aN I q (by simp))
   | bl j=>cases ry;exact ne_bool (aN I q (congrArg not qy))
   | str j=>obtain⟨t',rfl⟩:=ry;exact PySem.EqMixed.ne_bool_str (aN I q (by simp))
   | _=>exact absurd (show false=true from hs) Bool.false_ne_true
 | int i=>
   obtain⟨t,rfl⟩:=rx
   cases y with
   | non=>cases ry;exact PySem.EqNone.ne_int_none (aN I q (by simp))
   | int j=>obtain⟨t',rfl⟩:=ry;exact ne_int (aN I q (congrArg not mY))
   | str j=>obtain⟨t',rfl⟩:=ry;exact PySem.EqMixed.ne_int_str (aN I q (by simp))
   | _=>exact absurd (show false=true from hs) Bool.false_ne_true
 | str i=>
   obtain⟨t,rfl⟩:=rx
   cases y with
   | non=>cases ry;exact PySem.EqNone.ne_str_none (aN I q (by simp))
   | bl j=>cases ry;exact PySem.EqMixed.ne_str_bool (aN I q (by simp))
   | int j=>obtain⟨t',rfl⟩:=ry;exact PySem.EqMixed.ne_str_int (aN I q (by simp))
   | str j=>obtain⟨t',rfl⟩:=ry;exact ne_str (aN I q (congrArg not mf))
   | _=>exact absurd (show false=true from hs) Bool.false_ne_true
 | byt i=>
   obtain⟨t,rfl⟩:=rx
   cases y with
   | byt j=>obtain⟨t',rfl⟩:=ry;exact PySem.W.ne_bytes (aN I q (congrArg not nO))
   | _=>exact absurd (show false=true from hs) Bool.false_ne_true
 | _=>cases y <;> exact absurd (show false=true from hs) Bool.false_ne_true
theorem iO:OpR X (compareOp .Lt) (cZ fun i j=>.bl (decide (i<j))):=gG fun _ _ _ _ _ _ _ q=>lt_int q
theorem dP:OpR X (compareOp .LtE) (cZ fun i j=>.bl (decide (i≤j))):=gG fun _ _ _ _ _ _ _ q=>le_int q
theorem km:OpR X (compareOp .Gt) (cZ fun i j=>.bl (decide (j<i))):=gG fun _ _ _ _ _ _ _ q=>gt_int q
theorem yV:OpR X (compareOp .GtE) (cZ fun i j=>.bl (decide (j≤i))):=gG fun _ _ _ _ _ _ _ q=>ge_int q
theorem oa:OpR X (compareOp .Is) (fun x y H Q=>y=.non∧Q (.bl (decide (x=.non))) H):=by
 intro pins s σ H x y v u Q I rx ry h
 obtain⟨rfl,q⟩:=h
 cases ry
 refine is_none_gen (aN I q ?_)
 cases x <;> first
  | (cases rx;rfl)
  | (obtain⟨t,rfl⟩:=rx;rfl)
theorem zA:OpR X (compareOp .IsNot) (fun x y H Q=>y=.non∧Q (.bl (!decide (x=.non))) H):=by
 intro pins s σ H x y v u Q I rx ry h
 obtain⟨rfl,q⟩:=h
 cases ry
 refine isnot_none_gen (aN I q ?_)
 cases x <;> first
  | (cases rx;rfl)
  | (obtain⟨t,rfl⟩:=rx;rfl)
theorem aI(b:Expr){op:CmpOp}(h:op≠ .In:=by decide)(h2:op≠ .NotIn:=by decide):behindInMarks op b=false:=by
 have e1:(op == CmpOp.In)=false:=by cases op <;> first | rfl | exact absurd rfl h
 have e2:(op == CmpOp.NotIn)=false:=by cases op <;> first | rfl | exact absurd rfl h2
 cases b <;> simp[behindInMarks,e1,e2]
theorem fY{op:CmpOp}{r:R2}(ho:OpR X (compareOp op) r)(ha:PE X a ta)(hb:PE X b tb)(hm:behindInMarks op b=false):PE X (.Compare a [op] [b] pos) (eB r ta tb):=by
 intro pins s σ H Q I h
 exact wpAny_Compare1 (kE ha hb I h fun v u s2 x y H2 I2 rx ry q=>ho pins s2 σ H2 x y v u Q I2 rx ry q) hm
def kH(t:TE):TT:=fun σ H Q=>t σ H fun x H'=>∃k,x=.bl k∧Q k H'
theorem aL{op:CmpOp}{r:R2}(ho:OpR X (compareOp op) r)(ha:PE X a ta)(hb:PE X b tb)(hm:behindInMarks op b=false):PT X (.Compare a [op] [b] pos) (kH (eB r ta tb)):=by
 intro pins s σ H Q I h
 refine wpAny_isTrue_Compare1 (ak (ha pins s σ H _ I h) fun v s1 ⟨x,H1,I1,r1,q1⟩=>ak (hb pins s1 σ H1 _ I1 q1) fun u s2 ⟨y,H2,I2,r2,q2⟩=>
  ak (ho pins s2 σ H2 x y v u _ I2 r1 r2 q2) fun c s3 ⟨z,H3,I3,r3,k,e,q3⟩=>?_) hm
 subst e
 cases r3
 exact wpAny_truthy_bool ⟨H3,I3,q3⟩
def nR(r r':R2)(ta tb tc:TE):TE:=fun σ H Q=>ta σ H fun x H1=>tb σ H1 fun y H2=>r x y H2 fun z H3=>∃k,z=.bl k∧
 (if k=true then tc σ H3 fun w' H4=>r' y w' H4 Q else Q (.bl false) H3)
theorem zo{op op':CmpOp}{r r':R2}(ho:OpR X (compareOp op) r)(ho':OpR X (compareOp op') r')(ha:PE X a ta)(hb:PE X b tb)(hc:PE X c tc)(hm:lastMarks [op,op'] [b,c]=false:=by with_unfolding_all rfl):PE X (.Compare a [op,op'] [b,c] pos) (nR r r' ta tb tc):=by
 intro pins s σ H Q I h
 refine Compare_chain (ak (ha pins s σ H _ I h) fun v s1 ⟨x,H1,I1,r1,q1⟩=>chain_link (ak (hb pins s1 σ H1 _ I1 q1) fun u s2 ⟨y,H2,I2,r2,q2⟩=>
  ak (ho pins s2 σ H2 x y v u _ I2 r1 r2 q2) fun d s3 ⟨z,H3,I3,r3,k,e,q3⟩=>?_)) hm
 subst e
 cases r3
 refine wpAny_truthy_bool ?_
 cases k with
 | false=>exact ite_ff ⟨.bl false,H3,I3,rfl,q3⟩
 | true=>exact ite_tt (chain_last (ak (hc pins s3 σ H3 _ I3 q3) fun w' s4 ⟨z',H4,I4,r4,q4⟩=>ho' pins s4 σ H4 y z' u w' Q I4 r2 r4 q4))
theorem k9{op op':CmpOp}{r r':R2}(ho:OpR X (compareOp op) r)(ho':OpR X (compareOp op') r')(ha:PE X a ta)(hb:PE X b tb)(hc:PE X c tc)(hm:lastMarks [op,op'] [b,c]=false:=by with_unfolding_all rfl):PT X (.Compare a [op,op'] [b,c] pos) (kH (nR r r' ta tb tc)):=by
 intro pins s σ H Q I h
 refine isTrue_chain (ak (ha pins s σ H _ I h) fun v s1 ⟨x,H1,I1,r1,q1⟩=>test_link (ak (hb pins s1 σ H1 _ I1 q1) fun u s2 ⟨y,H2,I2,r2,q2⟩=>
  ak (ho pins s2 σ H2 x y v u _ I2 r1 r2 q2) fun d s3 ⟨z,H3,I3,r3,k,e,q3⟩=>?_)) hm
 subst e
 cases r3
 refine wpAny_truthy_bool ?_
 cases k with
 | false=>
   obtain⟨k',e',q'⟩:=q3
   cases e'
   exact ite_ff ⟨H3,I3,q'⟩
 | true=>
   refine ite_tt (test_last (ak (hc pins s3 σ H3 _ I3 q3) fun w' s4 ⟨z',H4,I4,r4,q4⟩=>ak (ho' pins s4 σ H4 y z' u w' _ I4 r2 r4 q4) fun d' s5 ⟨z2,H5,I5,r5,k2,e2,q5⟩=>?_))
   subst e2
   cases r5
   exact wpAny_truthy_bool ⟨H5,I5,q5⟩
theorem gf:(sizeLine:Nat)<2 ^ 63:=by rw[sizeLine_eq];decide
theorem dN{x:V}{us:List Value}(r:Vals [x] us):∃u,us=[u]∧RelV x u:=by
 cases r with
 | cons r1 r2=>cases r2;exact⟨_,rfl,r1⟩
theorem ke{x y:V}{us:List Value}(r:Vals [x,y] us):∃u w',us=[u,w']∧RelV x u∧RelV y w':=by
 cases r with
 | cons r1 r2=>
   cases r2 with
   | cons r3 r4=>cases r4;exact⟨_,_,rfl,r1,r3⟩
theorem xi(hc:X.calm=true):bU X (.builtin "max") (fun xs H Q=>∃i j,xs=[.int i,.int j]∧Q (.int (if j>i then j else i)) H):=by
 intro pins s σ H xs us Q I r h
 obtain⟨i,j,rfl,q⟩:=h
 obtain⟨u,w',rfl,⟨t,rfl⟩,⟨t',rfl⟩⟩:=ke r
 refine max_two_ints (I.ok.hd hc) fun h' tk k=>⟨_,H,I.kept k,?_,q⟩
 by_cases hj:j>i
 ·rw[if_pos hj,if_pos hj];exact⟨_,rfl⟩
 ·rw[if_neg hj,if_neg hj];exact⟨_,rfl⟩
theorem zi(hc:X.calm=true):bU X (.builtin "min") (fun xs H Q=>∃i j,xs=[.int i,.int j]∧Q (.int (if j<i then j else i)) H):=by
 intro pins s σ H xs us Q I r h
 obtain⟨i,j,rfl,q⟩:=h
 obtain⟨u,w',rfl,⟨t,rfl⟩,⟨t',rfl⟩⟩:=ke r
 refine min_two_ints (I.ok.hd hc) fun h' tk k=>⟨_,H,I.kept k,?_,q⟩
 by_cases hj:j<i
 ·rw[if_pos hj,if_pos hj];exact⟨_,rfl⟩
 ·rw[if_neg hj,if_neg hj];exact⟨_,rfl⟩
theorem yg:bU X (.type "int") (fun xs H Q=>(∃i,xs=[.int i]∧Q (.int i) H)∨∃k,xs=[.bl k]∧Q (.int (if k then 1 else 0)) H):=by
 intro pins s σ H xs us Q I r h
 rcases h with⟨i,rfl,q⟩ | ⟨k,rfl,q⟩
 ·obtain⟨u,rfl,t,rfl⟩:=dN r
  exact call_int_int ⟨.int i,H,I,⟨_,rfl⟩,q⟩
 ·obtain⟨u,rfl,r1⟩:=dN r
  cases r1
  exact call_int_bool ⟨.int (if k then 1 else 0),H,I.tok _,⟨_,rfl⟩,q⟩
end
structure ObjM(h:Heap)(x dx C:Addr)(mA:Str→Option Value):Prop where
 obj:h.get? x=some (PySem.W.instObj C dx)
 ns:h.Ns1 dx mA
 ne:dx≠x
theorem uU{h:Heap}{dx:Addr}{mA:Str→Option Value}(n:h.Ns1 dx mA):∃od,h.get? dx=some od∧∀name,PySem.W.lookIn name od=some (mA name):=by
 obtain⟨o,es,ep,ho,hd,hk,_,hm⟩:=n
 refine⟨o,ho,fun name=>?_⟩
 have e:=hm name
 unfold nsFind findBy at e
 rw[←Array.find?_toList] at e
 unfold PySem.W.lookIn
 rw[hd]
 dsimp only
 split
 ·rename_i y q
  rw[q] at e
  exact congrArg some e
 ·rename_i q
  rw[q] at e
  have a:es.toList.any (·.refKey)=false:=by
   rw[List.any_eq_false]
   intro y hy
   obtain⟨z,t,hkey⟩:=hk y (Array.mem_toList_iff.mp hy)
   simp[DictEntry.refKey,hkey]
  have a':¬es.toList.any (·.refKey)=true:=by rw[a];exact Bool.false_ne_true
  rw[if_neg a']
  exact congrArg some e
theorem ObjM.look{h:Heap}{x dx C:Addr}{mA:Str→Option Value}(I:ObjM h x dx C mA):∃od,PySem.W.InstAt h x (PySem.W.instObj C dx) C (some od)∧∀name,PySem.W.lookIn name od=some (mA name):=
 let ⟨od,ho,hl⟩:=uU I.ns
 ⟨od,⟨I.obj,rfl,rfl,ho⟩,hl⟩
section
variable{prog:Program}{w:World}{A:Around}{E:Value→Shared→Prop}{s:Shared}{K:PySem.W.Frag}{x dx C f:Addr}{mA:Str→Option Value}{name:Str}{v:Value}
end
theorem RelO.some_of{v:V}{o:Option Value}(r:RelO (some v) o):∃u,o=some u∧RelV v u:=by
 cases o with
 | none=>exact(show False from r).elim
 | some u=>exact⟨u,rfl,r⟩
section
variable{P:Program}{w:World}{H H':Hp}{h h':Heap}{a C dx:Addr}{fs fs':List (Str×V)}
theorem wk(hok:HOk P w H h)(e:H a=some (.ins C dx fs)):∃mA,ObjM h a dx C mA∧(∀f,RelO (fs.lookup f) (mA f))∧PySem.Within mA (fs.map (·.1))∧fs.length≤1000∧H dx=some (.own a):=by
 obtain⟨d,z,ne,ob,mA,n,r,q⟩:=(show ObjOk P w H h a (.ins C dx fs) from hok a _ e)
 exact⟨mA,⟨ob,n,ne⟩,r,q,z,d⟩
end
structure Cls(K:PySem.W.Frag)(C:Addr):Prop where
 pg:PySem.W.plainGet K C Str.empty=true
 hd:PySem.W.hasDictIn K C=true
 po:PySem.W.plainOver K C=true
 sa:PySem.W.findIn K (.ref C) "__setattr__"=some (some (.builtin "object.__setattr__"))
theorem Cls.get{K:PySem.W.Frag}{C:Addr}(c:Cls K C)(f:Str):PySem.W.plainGet K C f=true:=c.pg
structure Con(K:PySem.W.Frag)(C:Addr)(f:Str)(v:V)(u:Value):Prop where
 at_:PySem.W.findIn K (.ref C) f=some (some u)
 rel:RelV v u
 get:PySem.W.specialIn K u "__get__"=some none
 cp:PySem.W.copiedNames.contains f=false
structure Meth(K:PySem.W.Frag)(C:Addr)(m:Str)(f:Addr):Prop where
 at_:PySem.W.findIn K (.ref C) m=some (some (.ref f))
 fn:PySem.W.isFn K (.ref f)=true
 kp:PySem.W.keepIn K (.ref f)=true
section
variable{X:Cx}{pins:List (Addr×Obj)}{σ:St}{H:Hp}{s:Shared}{a C dx:Addr}{fs:List (Str×V)}{f:Str}{v:V}{A:Around}{E:Value→Shared→Prop}
end
section
variable{X:Cx}{o e value:Expr}{f:Str}{pos pos' tpos:Pos}{ta tv:TE}
end
section
variable{X:Cx}{pins:List (Addr×Obj)}{σ:St}{H:Hp}{s:Shared}{A:Around}{E:Value→Shared→Prop}{Q:Value→Shared→Prop}{c:Value}{b:Bool}
inductive TyOf (K:PySem.W.Frag) (H:Hp):V→Value→Prop where
 | non:TyOf K H .non (.type "NoneType")
 | bl (x:Bool):TyOf K H (.bl x) (.type "bool")
 | int (i:Int):TyOf K H (.int i) (.type "int")
 | str (x:Str):TyOf K H (.str x) (.type "str")
 | flt (x:UInt64):TyOf K H (.flt x) (.type "float")
 | lst {a:Addr} {xs:List V} (e:H a=some (.lst xs)):TyOf K H (.ref a) (.type "list")
 | frz {a:Addr} {o:Obj} {xs:List V} (e:H a=some (.frz o (.lst xs))):TyOf K H (.ref a) (.type "list")
 | tup {a:Addr} {xs:List V} (e:H a=some (.tup xs)):TyOf K H (.ref a) (.type "tuple")
 | dK {a:Addr} {kvs:List (aj×V)} (e:H a=some (.dK kvs)):TyOf K H (.ref a) (.type "dict")
 | dT {a:Addr} {kvs:List (List aj×V)} (e:H a=some (.dT kvs)):TyOf K H (.ref a) (.type "dict")
 | ins {a C dx:Addr} {fs:List (Str×V)} (e:H a=some (.ins C dx fs)) (cl:Cls K C) (ha:PySem.W.findIn K (.ref C) "__class__"=some (some (.builtin "object.__class__")))
  (hn:PySem.W.specialIn K (.builtin "object.__class__") "__get__"=some (some (.builtin "getset_descriptor.__get__"))) (htk:PySem.W.takesIn K (.builtin "object.__class__")=some true)
  (hm:PySem.W.mroIn K C (.type "object")=some true):TyOf K H (.ref a) (.ref C)
theorem uA{x:V}{u t:Value}(I:Inv X pins σ H s)(rx:RelV x u)(ty:TyOf X.K H x t)(e:PySem.W.kitOne X.K t c=some b)(h:∀tk,Q (.bool b) {s with toks:=tk}):wpAny (model X.prog X.w) A (call (.builtin "isinstance") [u,c]) Q E s:=by
 cases ty with
 | non=>cases(show u=Value.none from rx);exact PySem.W.kia_one PySem.W.kitx_none I.kIn True.intro e (fun z=>nomatch z) h
 | bl y=>cases(show u=Value.bool y from rx);exact PySem.W.kia_one PySem.W.kitx_bool I.kIn True.intro e (fun z=>nomatch z) h
 | int i=>obtain⟨t,q⟩:=(show∃t,u=Value.int i t from rx);cases q;exact PySem.W.kia_one PySem.W.kitx_int I.kIn True.intro e (fun z=>nomatch z) h
 | str y=>obtain⟨t,q⟩:=(show∃t,u=Value.str y t from rx);cases q;exact PySem.W.kia_one PySem.W.kitx_str I.kIn True.intro e (fun z=>nomatch z) h
 | flt y=>obtain⟨t,q⟩:=(show∃t,u=Value.float y t from rx);cases q;exact PySem.W.kia_one PySem.W.kitx_float I.kIn True.intro e (fun z=>nomatch z) h
 | @lst a xs ea=>
   cases(show u=Value.ref a from rx)
   obtain⟨_,_,n,_,h1⟩:=(show ObjOk X.prog X.w H s.heap a (.lst xs) from I.hok a _ ea)
   exact PySem.W.kia_one PySem.W.kitx_list I.kIn ⟨_,h1,rfl⟩ e (fun z=>nomatch z) h
 | @frz a ob xs ea=>
   cases(show u=Value.ref a from rx)
   obtain⟨_,_,_,n,_,h1⟩:=(show ObjOk X.prog X.w H s.heap a (.frz ob (.lst xs)) from I.hok a _ ea)
   exact PySem.W.kia_one PySem.W.kitx_list I.kIn ⟨_,h1,rfl⟩ e (fun z=>nomatch z) h
 | @tup a xs ea=>
   cases(show u=Value.ref a from rx)
   obtain⟨_,_,_,p⟩:=(show ObjOk X.prog X.w H s.heap a (.tup xs) from I.hok a _ ea)
   obtain⟨o,h1,h2,_⟩:=p
   exact PySem.W.kia_one PySem.W.kitx_tuple I.kIn ⟨o,h1,h2⟩ e (fun z=>nomatch z) h
 | @dK a kvs ea=>
   cases(show u=Value.ref a from rx)
   obtain⟨_,_,vs,_,p⟩:=(show ObjOk X.prog X.w H s.heap a (.dK kvs) from I.hok a _ ea)
   obtain⟨o,es,ep,h1,h2,_⟩:=p
   exact PySem.W.kia_one PySem.W.kitx_dict I.kIn ⟨o,h1,h2.1⟩ e (fun z=>nomatch z) h
 | @dT a kvs ea=>
   cases(show u=Value.ref a from rx)
   obtain⟨_,_,xs,_,o,es,ep,h1,h2,_⟩:=(show ObjOk X.prog X.w H s.heap a (.dT kvs) from I.hok a _ ea)
   exact PySem.W.kia_one PySem.W.kitx_dict I.kIn ⟨o,h1,h2.1⟩ e (fun z=>nomatch z) h
 | @ins a C dx fs ea cl ha hn htk hm=>
   cases(show u=Value.ref a from rx)
   obtain⟨mA,O,_⟩:=wk I.hok ea
   obtain⟨od,J,_⟩:=O.look
   exact PySem.W.kia_one (PySem.W.kitx_own (cl.get _) cl.hd ha hn htk hm) I.kIn J e (fun z=>nomatch z) h
end
structure Room(k:Nat)(A:Around):Prop where
 hd:A.handled=none
 dp:A.depth+3*k+5<recursionLimit
 un:A.units+16*k+200<cLine
theorem Room.mono{j k:Nat}{A:Around}(r:Room k A)(h:j≤k):Room j A:=⟨r.hd,by have:=r.dp;lia,by have:=r.un;lia⟩
theorem Room.deeper{k:Nat}{A:Around}(r:Room (k+1) A)(env:Env):Room k (A.deeper env):=
 ⟨r.hd,by have:=r.dp;show A.depth+1+3*k+5<_;lia,by have:=r.un;show A.units+3+16*k+200<_;lia⟩
theorem Room.in1{k:Nat}{A:Around}(r:Room (k+1) A):Room k A.in1:=
 ⟨r.hd,by have:=r.dp;show A.depth+3*k+5<_;lia,by have:=r.un;show A.units+1+16*k+200<_;lia⟩
theorem Room.depth{k:Nat}{A:Around}(r:Room k A):A.depth<recursionLimit:=by have:=r.dp;lia
theorem Room.units{k:Nat}{A:Around}(r:Room k A):A.units+64<cLine:=by have:=r.un;lia
theorem Room.units0{k:Nat}{A:Around}(r:Room k A):A.units<cLine:=by have:=r.un;lia
def lQ:TA:=fun _ H Q=>Q [] H
def oD(ta:TE)(tr:TA):TA:=fun σ H Q=>ta σ H fun x H1=>tr σ H1 fun xs H2=>Q (x::xs) H2
section
variable{X:Cx}{e:Expr}{es:List Expr}{te:TE}{t:TA}{pos:Pos}
theorem ac:PA X [] lQ:=fun _ _ _ _ H Q I h=>Calls.spliced_nil ⟨[],H,I,.nil,h⟩
theorem aa(ha:PE X e te)(hr:PA X es t)(hs:starEach (e::es) X.env=(false,eval e X.env)::starEach es X.env:=by rfl):PA X (e::es) (oD te t):=by
 intro pos pins s σ H Q I h
 rw[hs]
 show wpAny _ _ (spliced ((false,eval e X.env)::backTo pos (starEach es X.env))) _ _ s
 refine Calls.spliced_cons (ak (ha pins s σ H _ I h) fun u s1 ⟨x,H1,I1,r1,q1⟩=>?_)
 exact ak (hr pos pins s1 σ H1 _ I1 q1) fun us s2 ⟨xs,H2,I2,r2,q2⟩=>⟨x::xs,H2,I2,.cons r1 r2,q2⟩
def wS(t:TA):TE:=fun σ H Q=>t σ H fun xs H1=>xs.length≤sizeLine∧∀p,H1 p=none→Q (.ref p) (upd H1 p (.tup xs))
def qO(t:TA):TE:=fun σ H Q=>t σ H fun xs H1=>xs.length≤sizeLine∧∀p,H1 p=none→Q (.ref p) (upd H1 p (.lst xs))
theorem cQ{x1}(h:PA X es t):PE X (.Tuple es x1 pos) (wS t):=by
 intro pins s σ H Q I hq
 refine wpAny_Tuple_spliced (ak (h pos pins s σ H _ I hq) fun us s1 ⟨xs,H1,I1,r,z,q⟩=>⟨by rw[←r.length];exact z,?_⟩)
 have hf:H1 s1.heap.objs.size=none:=I1.hok.fresh (Nat.le_refl _)
 refine⟨.ref s1.heap.objs.size,upd H1 s1.heap.objs.size (.tup xs),I1.laid (t':=s1.toks) (fun b u e=>Heap.get?_push_of_some _ e) (Nat.le_refl _) ?_,rfl,q _ hf⟩
 exact⟨z,us,r,⟨_,Heap.get?_push_size _ rfl,rfl,_,rfl⟩⟩
theorem bb(h:PA X es t):PE X (.List es pos) (qO t):=by
 intro pins s σ H Q I hq
 refine wpAny_List_spliced (ak (h pos pins s σ H _ I hq) fun us s1 ⟨xs,H1,I1,r,z,q⟩=>⟨by rw[←r.length];exact z,?_⟩)
 have hf:H1 s1.heap.objs.size=none:=I1.hok.fresh (Nat.le_refl _)
 refine⟨.ref s1.heap.objs.size,upd H1 s1.heap.objs.size (.lst xs),I1.laid (t':=s1.toks) (fun b u e=>Heap.get?_push_of_some _ e) (Nat.le_refl _) ?_,rfl,q _ hf⟩
 exact⟨z,us,0,r,Heap.get?_push_size _ rfl⟩
end
abbrev Sp:=List V→Hp→VK→XK→Prop
abbrev bB:=List Env→Hp→Shared→XK→Value→Shared→Prop
structure Env0(P:Program)(w:World)(K:PySem.W.Frag)(mg:Str→Option Value)(base:Heap)(A:Around)(outer:List Env)(s:Shared)(H:Hp):Prop where
 frames:A.frames=some outer
 mod:Mod K mg base
 bs:∀b o,base.get? b=some o→s.heap.get? b=some o∧H b=none
 bsz:base.objs.size≤s.heap.objs.size
 funs:s.heap.FunFrames base outer
 frf:∀b∈aF outer,H b=none
 hok:HOk P w H s.heap
 bare:AllBare s.gens
def CE(outer:List Env)(P:Program)(w:World)(H:Hp)(s:Shared)(Q:VK)(u:Value)(s':Shared):Prop:=
 ∃v H',s'.os=s.os∧AllBare s'.gens∧Un (aF outer) [] H H' s.heap s'.heap∧HOk P w H' s'.heap∧RelV v u∧Q v H'
def CR(CX:bB)(outer:List Env)(P:Program)(w:World)(H:Hp)(s:Shared)(Q:VK)(E:XK)(r:Result)(s':Shared):Prop:=
 match r with
 | .ok (.ret u)=>CE outer P w H s Q u s'
 | .ok _=>False
 | .error e=>CX outer H s E e s'
structure FnOk(P:Program)(w:World)(K:PySem.W.Frag)(mg:Str→Option Value)(base:Heap)(CX:bB)(k:Nat)(f:Addr)(fd:FuncData)(ps:List Str)(sp:Sp):Prop where
 len:∀vs H Q E,sp vs H Q E→vs.length=ps.length
 run:∀(A:Around) (outer:List Env) (s:Shared) (H:Hp) (args:Args) (us:List Value) (vs:List V) (Q:VK) (E:XK),Room k A→Env0 P w K mg base A outer s H→BindsTo s fd args (ps.zip us)→Vals vs us→sp vs H Q E→
  codeAny (model P w) A (.call (.ref f) args) (CR CX outer P w H s Q E) s
theorem Env0.in1{P:Program}{w:World}{K:PySem.W.Frag}{mg:Str→Option Value}{base:Heap}{A:Around}{outer:List Env}{s:Shared}{H:Hp}(e:Env0 P w K mg base A outer s H):Env0 P w K mg base A.in1 outer s H:=⟨e.frames,e.mod,e.bs,e.bsz,e.funs,e.frf,e.hok,e.bare⟩
section
variable{X:Cx}{pins:List (Addr×Obj)}{σ:St}{H:Hp}{s s':Shared}
theorem Inv.env0(I:Inv X pins σ H s):Env0 X.prog X.w X.K X.mg X.base X.A X.stack s H:=
 ⟨I.ok.frames,I.ok.mod,I.bs,Nat.le_trans I.ok.bsz I.sz,I.stack,I.stkFree,I.hok,I.bare⟩
theorem Inv.after{Q:VK}{u:Value}(I:Inv X pins σ H s)(h:CE X.stack X.prog X.w H s Q u s'):EP X pins σ Q u s':=by
 obtain⟨v,H',os,bare,un,hok,r,q⟩:=h
 obtain⟨hh,g,d,t,os'⟩:=s'
 obtain rfl:os'=s.os:=os
 exact⟨v,H',I.call (h':=hh) (g':=g) (d':=d) (t':=t) (ch:=[]) un hok bare (fun b z=>absurd z (by simp)),r,q⟩
end
def ig(sp:Sp)(dvs:List V)(E:XK)(t:TA):TE:=fun σ H Q=>t σ H fun vs H1=>sp (vs++dvs) H1 Q E
def Binds(K:PySem.W.Frag)(fd:FuncData)(ps:List Str)(ds:List Value):Prop:=
 ∀(s:Shared) (us:List Value),K.In s.heap→(us++ds).length=ps.length→BindsTo s fd ⟨us,[]⟩ (ps.zip (us++ds))
theorem Binds.all{K:PySem.W.Frag}{fd:FuncData}{ps:List Str}(h:∀us:List Value,us.length=ps.length→bindArgs fd ⟨us,[]⟩=pure (ps.zip us)):Binds K fd ps []:=fun s us _ hl=>by
 rw[List.append_nil] at hl ⊢
 exact .of_eq (h us hl)
def gk(CX:bB)(X:Cx)(E:XK):Prop:=∀(pins:List (Addr×Obj)) (σ:St) (H:Hp) (s:Shared) (e:Value) (s':Shared),Inv X pins σ H s→CX X.stack H s E e s'→X.xe e s'
section
variable{X:Cx}{CX:bB}{k:Nat}{f C:Addr}{fd:FuncData}{ps:List Str}{sp:Sp}{dvs:List V}{ds:List Value}{E:XK}{x m:Str}{p pos apos:Pos}{e o:Expr}{es:List Expr}{ta:TE}{t:TA}
theorem yj{pins:List (Addr×Obj)}{σ:St}{H:Hp}{s:Shared}{Q:VK}{us:List Value}{vs:List V}(F:FnOk X.prog X.w X.K X.mg X.base CX k f fd ps sp)(hr:Room k X.A)(hb:Binds X.K fd ps ds)(hd:Vals dvs ds)(hx:gk CX X E)(I:Inv X pins σ H s)(r:Vals vs us)(h:sp (vs++dvs) H Q E):wpAny (model X.prog X.w) X.A (call (.ref f) us) (EP X pins σ Q) X.xe s:=by
 have r2:Vals (vs++dvs) (us++ds):=r.append hd
 have hl:(us++ds).length=ps.length:=by rw[←r2.length];exact F.len _ _ _ _ h
 refine wpAny_call (codeAny_mono (F.run X.A X.stack s H ⟨us,[]⟩ (us++ds) (vs++dvs) Q E hr I.env0 (hb s us I.kIn hl) r2 h) fun r s' hq=>?_)
 cases r with
 | error e=>exact hx pins σ H s e s' I hq
 | ok fl=>
   cases fl with
   | ret u=>exact I.after hq
   | next=>exact False.elim hq
   | brk=>exact False.elim hq
   | cont=>exact False.elim hq
theorem vh(F:FnOk X.prog X.w X.K X.mg X.base CX k f fd ps sp)(hr:Room k X.A)(hg:Gl X x)(hm:X.mg x=some (.ref f))(hk:PySem.W.keepIn X.K (.ref f)=true)(hb:Binds X.K fd ps ds)(hd:Vals dvs ds)(hx:gk CX X E)(ha:PA X (e::es) t)(hdb:(x == ("__debug__":Str))=false:=by decide)(he:starEach (e::es) X.env=(false,eval e X.env)::starEach es X.env:=by rfl)(hpl:(backTo pos (starEach es X.env)).any (·.1)=false:=by rfl):
 PE X (.Call (.Name x p) (e::es) [] pos) (ig sp dvs E t):=by
 intro pins s σ H Q I h
 refine wpAny_Call_Name_kw (fh I hg hm ?_ hdb)
 refine PySem.W.callWith_K (h₀:=X.base) I.ok.mod.kin hk (ak (ha pos pins s σ H _ I h) fun us s1 ⟨vs,H1,I1,r,q⟩=>⟨I1.kIn,?_⟩) he hpl
 exact yj F hr hb hd hx I1 r q
structure Mk(K:PySem.W.Frag)(C f:Addr):Prop where
 makes:PySem.W.makesIn K C=true
 init:PySem.W.findIn K (.ref C) "__init__"=some (some (.ref f))
 fn:PySem.W.isFn K (.ref f)=true
 kp:PySem.W.keepIn K (.ref C)=true
end
section
variable{X:Cx}{CX:bB}{k:Nat}{f C:Addr}{fd:FuncData}{ps ks:List Str}{sp:Sp}{E:XK}{x m:Str}{p pos apos kpos:Pos}{e o:Expr}{es:List Expr}{kws:List Keyword}{te ta:TE}{t tk:TA}{nm:Option Str}
structure KBinds(K:PySem.W.Frag)(fd:FuncData)(ps ks:List Str)(g:List Value→List Value→List Value)(gV:List V→List V→List V):Prop where
 to:∀(s:Shared) (us ws:List Value),K.In s.heap→(g us ws).length=ps.length→BindsTo s fd ⟨us,ks.zip ws⟩ (ps.zip (g us ws))
 rel:∀{vs:List V} {us:List Value} {zs:List V} {ws:List Value},Vals vs us→Vals zs ws→Vals (gV vs zs) (g us ws)
variable{g:List Value→List Value→List Value}{gV:List V→List V→List V}
end
structure FnScope(N P:List Str)(sc:Scope):Prop where
 kind:sc.kind=.function
 co:sc.isCoroutine=false
 gen:sc.isGenerator=false
 nd:N.Nodup
 pre:N.take P.length=P
 par:∀x∈P,sc.names.lookup x=some .local∨sc.names.lookup x=some .cell
 nofree:∀y∈sc.names,y.2≠ .free
theorem lS{kindOf:Str→Option NameKind}{x:Str}:∀{binds:List (Str×Value)} {m:Str→Option Value},(∀v,(x,v)∉binds)→bindL kindOf binds m x=m x
 | [],_,_=>rfl
 | (n,v)::r,m,h=>by
   unfold bindL
   rw[lS fun w hw=>h w (List.mem_cons_of_mem _ hw)]
   split
   ·have:x≠n:=by rintro rfl;exact h v List.mem_cons_self
    simp[this]
   ·rfl
theorem mW{kindOf:Str→Option NameKind}{x:Str}:∀{binds:List (Str×Value)} {m:Str→Option Value},(∀v,(x,v)∉binds)→bindC kindOf binds m x=m x
 | [],_,_=>rfl
 | (n,v)::r,m,h=>by
   unfold bindC
   rw[mW fun w hw=>h w (List.mem_cons_of_mem _ hw)]
   split
   ·rfl
   ·have:x≠n:=by rintro rfl;exact h v List.mem_cons_self
    simp[this]
theorem lR{kindOf:Str→Option NameKind}{x:Str}{v:Value}:∀{P:List Str} {vs:List Value} {i:Nat} {m:Str→Option Value},P.Nodup→P[i]?=some x→vs[i]?=some v→kindOf x=some .local→bindL kindOf (P.zip vs) m x=some v
 | [],_,_,_,_,h,_,_=>by simp at h
 | _::_,[],_,_,_,_,h,_=>by simp at h
 | p::P,w::vs,0,m,nd,h1,h2,hk=>by
   simp at h1 h2;subst h1;subst h2
   show bindL kindOf ((p,w)::P.zip vs) m p=_
   unfold bindL
   rw[lS fun v hv=>(List.nodup_cons.mp nd).1 (List.of_mem_zip hv).1,if_pos hk]
   simp
 | p::P,w::vs,i+1,m,nd,h1,h2,hk=>by
   show bindL kindOf ((p,w)::P.zip vs) m x=_
   unfold bindL
   exact lR (i:=i) (List.nodup_cons.mp nd).2 (by simpa using h1) (by simpa using h2) hk
theorem oE{kindOf:Str→Option NameKind}{x:Str}{v:Value}:∀{P:List Str} {vs:List Value} {i:Nat} {m:Str→Option Value},P.Nodup→P[i]?=some x→vs[i]?=some v→kindOf x≠some .local→bindC kindOf (P.zip vs) m x=some v
 | [],_,_,_,_,h,_,_=>by simp at h
 | _::_,[],_,_,_,_,h,_=>by simp at h
 | p::P,w::vs,0,m,nd,h1,h2,hk=>by
   simp at h1 h2;subst h1;subst h2
   show bindC kindOf ((p,w)::P.zip vs) m p=_
   unfold bindC
   rw[mW fun v hv=>(List.nodup_cons.mp nd).1 (List.of_mem_zip hv).1,if_neg hk]
   simp
 | p::P,w::vs,i+1,m,nd,h1,h2,hk=>by
   show bindC kindOf ((p,w)::P.zip vs) m x=_
   unfold bindC
   exact oE (i:=i) (List.nodup_cons.mp nd).2 (by simpa using h1) (by simpa using h2) hk
def start(N:List Str)(vs:List V):St:=vs.map some++List.replicate (N.length-vs.length) none
def bE(CX:bB)(P:Program)(w:World)(K:PySem.W.Frag)(mg:Str→Option Value)(base:Heap)(N:List Str)(qual:Str)(scope:Scope)(f:Addr)(cd:Value)(A:Around)(outer:List Env)(s:Shared)(H:Hp)(E:XK):Cx where
 prog:=P
 w:=w
 K:=K
 mg:=mg
 base:=base
 A:=A.deeper (envOfC qual scope s.heap.objs.size f cd)
 N:=N
 s₀:=s
 H₀:=H
 env:=envOfC qual scope s.heap.objs.size f cd
 outer:=outer
 stack:=envOfC qual scope s.heap.objs.size f cd::outer
 ex:=[]
 calm:=true
 fn:=fun _=>true
 pn:=[]
 xe:=fun e s'=>wpAny (model P w) (A.deeper (envOfC qual scope s.heap.objs.size f cd)) (leaving (envOfC qual scope s.heap.objs.size f cd) e) (fun _ s''=>CX outer H s E e s'') (fun e' s''=>CX outer H s E e' s'') s'
theorem nS{sc:Scope}{n:Nat}{x:Str}(h:sc.names.lookup x=some .cell):∃c,(cellsFrom n sc.names []).lookup x=some c:=by
 have q:=PySem.W.cellsFrom_some sc.names n [] (.inl h)
 exact Option.isSome_iff_exists.mp q
theorem pB{CX:bB}{P:Program}{w:World}{K:PySem.W.Frag}{mg:Str→Option Value}{base:Heap}{N ps:List Str}{qual:Str}{scope:Scope}{f:Addr}{cd:Value}{A:Around}{outer:List Env}{s s1:Shared}{H:Hp}{E:XK}{us:List Value}{vs:List V}(S:FnScope N ps scope)(hd:A.handled=none)(e0:Env0 P w K mg base A outer s H)(hl:vs.length=ps.length)(r:Vals vs us)(x:InCallC s s.heap.objs.size (bindL (envOfC qual scope s.heap.objs.size f cd).kindOf (ps.zip us) fun _=>none) (cellsFrom (s.heap.objs.size+1) scope.names []) (bindC (envOfC qual scope s.heap.objs.size f cd).kindOf (ps.zip us) fun _=>none) s1):
 Inv (bE CX P w K mg base N qual scope f cd A outer s H E) [] (start N vs) H s1:=by
 have hpl:ps.length≤N.length:=by have:=congrArg List.length S.pre;rw[List.length_take] at this;lia
 obtain⟨h1,tk,rfl,hk⟩:=x.done
 have noA:∀b:Addr,b∉(bE CX P w K mg base N qual scope f cd A outer s H E).ex:=fun b z=>absurd (show b∈([]:List Addr) from z) (by simp)
 refine⟨⟨e0.mod,S.kind,rfl,rfl,Nat.le_refl _,fun y z c h1 h2=>?_,fun y hy=>?_,fun y c _ h=>?_,fun _=>hd,Around.frames_deeper e0.frames,.inr ⟨rfl,rfl⟩,fun b z=>absurd z (noA b),e0.bs,e0.bsz,fun b _ _=>noA b,fun b z=>absurd z (noA b),e0.funs,e0.frf⟩,
  rfl,e0.bare,Un.kept hk,⟨_,x.toInCall.ns,fun i y v h1 h2 h3=>?_⟩,fun y c h=>⟨_,x.cell y c h⟩,e0.hok.fresh (Nat.le_refl _),fun y c h=>?_,fun p hp=>absurd (show p∈([]:List (Addr×Obj)) from hp) (by simp),e0.hok.kept hk,?_⟩
 ·exact name_of_addr x.apart (PySem.mem_of_lookup h1) (PySem.mem_of_lookup h2)
 ·have hy:scope.names.lookup y=some .cell∨scope.names.lookup y=some .free:=hy
  rcases hy with hy | hy
  ·exact nS hy
  ·exact absurd rfl (S.nofree _ (PySem.mem_of_lookup hy))
 ·exact Nat.le_of_lt (x.above y c (PySem.mem_of_lookup h))
 ·have hi:i<vs.length:=by
   unfold start at h2
   by_cases hi:i<vs.length
   ·exact hi
   ·rw[List.getElem?_append_right (by simpa using hi)] at h2
    rw[List.getElem?_replicate] at h2
    split at h2 <;> cases h2
  have ha:vs[i]?=some v:=by
   unfold start at h2
   rw[List.getElem?_append_left (by simpa using hi),List.getElem?_map] at h2
   cases e:vs[i]? with
   | none=>rw[e] at h2;cases h2
   | some a=>rw[e] at h2;cases h2;rfl
  obtain⟨u,hu,rv⟩:=r.get ha
  have hp:ps[i]?=some y:=by
   rw[←S.pre,List.getElem?_take_of_lt (by lia)];exact h1
  have ndP:ps.Nodup:=by rw[←S.pre];exact S.nd.sublist (List.take_sublist _ _)
  refine⟨u,rv,?_⟩
  rcases S.par y (List.mem_of_getElem? hp) with k | k
  ·exact .inl ⟨k,lR ndP hp hu k⟩
  ·obtain⟨c,e⟩:=nS (n:=s.heap.objs.size+1) k
   refine .inr ⟨.inl k,c,e,?_⟩
   have q:=x.cell y c e
   rw[oE ndP hp hu (by show scope.names.lookup y≠_;rw[k];decide)] at q
   exact q
 ·exact e0.hok.fresh (Nat.le_of_lt (x.above y c (PySem.mem_of_lookup h)))
 ·unfold start
  show _=N.length
  rw[List.length_append,List.length_map,List.length_replicate]
  lia
theorem jO{CX:bB}{P:Program}{w:World}{K:PySem.W.Frag}{mg:Str→Option Value}{base:Heap}{k:Nat}{f:Addr}{name qual:Str}{params:Arguments}{body:List Stmt}{scope:Scope}{dV kV doc pm cdv ct oc:Value}{an od:Option Addr}{osl:Array (Option Value)}{N ps:List Str}{sp:Sp}(lk:K.lookup f=some ⟨oc,od,.func (PySem.W.fnOf name qual params body scope dV kV doc pm an cdv ct),osl⟩)(hcd:PySem.W.codeIn K cdv qual=true)(S:FnScope N ps scope)(len:∀vs H Q E,sp vs H Q E→vs.length=ps.length)(hbody:∀(A:Around) (outer:List Env) (s:Shared) (H:Hp) (vs:List V) (Q:VK) (E:XK),Room k (A.deeper (envOfC qual scope s.heap.objs.size f cdv))→sp vs H Q E→∃t,PSs (bE CX P w K mg base N qual scope f cdv A outer s H E) body t∧t {nx:=fun _ H'=>Q .non H',rt:=Q} (start N vs) H):
 FnOk P w K mg base CX (k+1) f (PySem.W.fnOf name qual params body scope dV kV doc pm an cdv ct) ps sp:=by
 refine⟨len,fun A outer s H args us vs Q E hr e0 hb r hsp=>?_⟩
 have hl:=len _ _ _ _ hsp
 have KX:K.In s.heap:=e0.mod.kin.keeps fun b o e=>(e0.bs b o e).1
 have lim:s.heap.NoLimit:=e0.mod.nolimit.keeps fun b o e=>(e0.bs b o e).1
 have hkind:∀y∈ps.zip us,scope.names.lookup y.1=some .local∨(scope.names.lookup y.1=some .cell∧((cellsFrom (s.heap.objs.size+1) scope.names []).lookup y.1).isSome=true):=fun⟨n,v⟩ hy=>by
  rcases S.par n (List.of_mem_zip hy).1 with q | q
  ·exact .inl q
  ·exact .inr ⟨q,PySem.W.cellsFrom_some _ _ _ (.inl q)⟩
 refine codeAny_call_function hr.depth (KX _ _ lk) rfl S.co S.gen rfl (PySem.W.codeRec_of KX hcd) (hb _ _ _ _ ?_)
 refine wpAny_newFunctionEnv_cells S.kind hkind fun env he s1 x=>?_
 subst he
 refine⟨lim.keeps x.toInCall.keep,codeAny_func ?_⟩
 obtain⟨t,ht,hq⟩:=hbody A outer s H vs Q E (hr.deeper _) hsp
 have I:Inv (bE CX P w K mg base N qual scope f cdv A outer s H E) [] (start N vs) H s1:=pB S hr.hd e0 hl r x
 refine wpAny_mono (ht [] s1 (start N vs) H _ I hq) (fun fl s' hs=>?_) fun e s' hs=>hs
 have fin:∀{σ':St} {H':Hp} {v:V} {u:Value},Inv (bE CX P w K mg base N qual scope f cdv A outer s H E) [] σ' H' s'→RelV v u→Q v H'→CE outer P w H s Q u s':=
  fun{σ' H' v u} J rv q=>⟨v,H',J.os,J.bare,J.base,J.hok,rv,q⟩
 cases fl with
 | ret u=>
   obtain⟨v,σ',H',J,rv,q⟩:=hs
   exact fin J rv q
 | next=>
   obtain⟨σ',H',J,q⟩:=hs
   exact fin (v:=V.non) (u:=Value.none) J rfl q
 | brk=>
   obtain⟨_,_,_,q⟩:=hs
   exact False.elim q
 | cont=>
   obtain⟨_,_,_,q⟩:=hs
   exact False.elim q
section
variable{X:Cx}{x:Str}{p pos:Pos}{e:Expr}{es:List Expr}{t:TA}{id T:String}{r:List V→Hp→VK→Prop}
def qt(r:List V→Hp→VK→Prop)(t:TA):TE:=fun σ H Q=>t σ H fun vs H1=>r vs H1 Q
theorem cL(hc:bU X (.builtin id) r)(hg:Gl X x)(hm:X.mg x=none)(hv:bootBuiltins x=some (.builtin id))(ha:PA X (e::es) t)(hn:x≠"__name__":=by decide)(hdb:(x == ("__debug__":Str))=false:=by decide)
 (he:starEach (e::es) X.env=(false,eval e X.env)::starEach es X.env:=by rfl)(hpl:(backTo pos (starEach es X.env)).any (·.1)=false:=by rfl):PE X (.Call (.Name x p) (e::es) [] pos) (qt r t):=by
 intro pins s σ H Q I h
 refine wpAny_Call_Name_kw (dO I hg hm hv ?_ hn hdb)
 exact PyProof.Rows.callWith_builtin1 (ak (ha pos pins s σ H _ I h) fun us s1 ⟨vs,H1,I1,r1,q1⟩=>hc pins s1 σ H1 vs us Q I1 r1 q1) he hpl
theorem fP(hc:bU X (.type T) r)(hg:Gl X x)(hm:X.mg x=none)(hv:bootBuiltins x=some (.type T))(ha:PA X (e::es) t)(hn:x≠"__name__":=by decide)(hdb:(x == ("__debug__":Str))=false:=by decide)
 (he:starEach (e::es) X.env=(false,eval e X.env)::starEach es X.env:=by rfl)(hpl:(backTo pos (starEach es X.env)).any (·.1)=false:=by rfl):PE X (.Call (.Name x p) (e::es) [] pos) (qt r t):=by
 intro pins s σ H Q I h
 refine wpAny_Call_Name_kw (dO I hg hm hv ?_ hn hdb)
 exact PyProof.Rows.callWith_type1 (ak (ha pos pins s σ H _ I h) fun us s1 ⟨vs,H1,I1,r1,q1⟩=>hc pins s1 σ H1 vs us Q I1 r1 q1) he hpl
end
end L2
namespace HT
open PySem PyProof.Rows
section
open PySem.SeqAt
open PySem.AutoSeq1 (wpAny_loadPart')
open PySem.MeetsSeq PySem.MeetsSeq2 PySem.MeetsSeq3
end
section
variable{prog:Program}{w:World}{A:Around}{E:Value→Shared→Prop}{s:Shared}
def sIx(n d:Nat):Option Int→Nat
 | none=>d
 | some v=>if v<0 then(v+(n:Int)).toNat else min v.toNat n
theorem sIx_none(n d:Nat):sIx n d none=d:=rfl
end
end HT
namespace L2
open PySem PySem.Spec PyProof.Rows
abbrev TO:=St→Hp→(Option Int→Hp→Prop)→Prop
def PO(X:Cx)(e:Option Expr)(t:TO):Prop:=
 ∀ (pins:List (Addr×Obj)) (s:Shared) (σ:St) (H:Hp) (Q:Option Int→Hp→Prop),Inv X pins σ H s→t σ H Q→
   wpAny (model X.prog X.w) X.A (evalPart e X.env) (fun u s'=>∃o H',Inv X pins σ H' s'∧IsPart u o∧Q o H') X.xe s
def i9:TO:=fun _ H Q=>Q none H
def lC(t:TE):TO:=fun σ H Q=>t σ H fun x H1=>∃i,x=.int i∧Q (some i) H1
section
variable{X:Cx}{e:Expr}{te:TE}{lo hi:Option Expr}{tl th:TO}{pos p2:Pos}
theorem bO:PO X none i9:=by
 intro pins s σ H Q I h
 rw[evalPart_none]
 exact wpAny_pure ⟨none,H,I,.none,h⟩
theorem bu(h:PE X e te):PO X (some e) (lC te):=by
 intro pins s σ H Q I hw
 rw[evalPart_some]
 refine ak (h pins s σ H _ I hw) fun u s1 ⟨x,H1,I1,r1,q1⟩=>?_
 obtain⟨i,rfl,q⟩:=q1
 obtain⟨t,rfl⟩:=r1
 exact⟨some i,H1,I1,.int i t,q⟩
def qj(X:Cx)(r:V→Option Int→Option Int→Hp→VK→Prop):Prop:=
 ∀ (pins:List (Addr×Obj)) (s:Shared) (σ:St) (H:Hp) (x:V) (v vl vu:Value) (lo hi:Option Int) (sl:Addr) (Q:VK),Inv X pins σ H s→RelV x v→s.heap.IsSliceOf sl vl vu .none→IsPart vl lo→IsPart vu hi→r x lo hi H Q→
   ∃T id,typeLookup (.type T) "__getitem__"=pure (some (.builtin id))∧s.TypeIs v T∧wpAny (model X.prog X.w) X.A (getItem v (.ref sl)) (EP X pins σ Q) X.xe s
def lH(r:V→Option Int→Option Int→Hp→VK→Prop)(te:TE)(tl th:TO):TE:=fun σ H Q=>te σ H fun x H1=>tl σ H1 fun l H2=>th σ H2 fun u H3=>r x l u H3 Q
theorem bF{r:V→Option Int→Option Int→Hp→VK→Prop}(hr:qj X r)(he:PE X e te)(hl:PO X lo tl)(hu:PO X hi th):PE X (.Subscript e (.Slice lo hi none p2) pos) (lH r te tl th):=by
 intro pins s σ H Q I h
 refine Subscript_ (ak (he pins s σ H _ I h) fun v s1 ⟨x,H1,I1,r1,q1⟩=>?_)
 refine wpAny_Slice (ak (hl pins s1 σ H1 _ I1 q1) fun vl s2 ⟨l,H2,I2,pl,q2⟩=>ak (hu pins s2 σ H2 _ I2 q2) fun vu s3 ⟨u,H3,I3,pu,q3⟩=>?_)
 rw[evalPart_none]
 refine wpAny_pure ?_
 have I4:Inv X pins σ H3 {s3 with heap:=s3.heap.push {cls:=.type "slice",data:=.fields #[vl,vu,.none]}}:=I3.kept (t':=s3.toks) fun b ob q=>Heap.get?_push_of_some _ q
 obtain⟨T,id,hT,ht,hg⟩:=hr pins {s3 with heap:=s3.heap.push {cls:=.type "slice",data:=.fields #[vl,vu,.none]}} σ H3 x v vl vu l u s3.heap.objs.size Q I4 r1 (Heap.IsSliceOf.new ..) pl pu q3
 show wpAny (model X.prog X.w) X.A (subscriptTail e (.Slice lo hi none p2) v (.ref s3.heap.objs.size)) (EP X pins σ Q) X.xe {s3 with heap:=s3.heap.push {cls:=.type "slice",data:=.fields #[vl,vu,.none]}}
 exact tail_any (ops:=[.ref s3.heap.objs.size,v]) ht hT hg (by with_unfolding_all rfl)
def bi(xs:List V)(lo hi:Option Int):List V:=(xs.drop (HT.sIx xs.length 0 lo)).take (HT.sIx xs.length xs.length hi-HT.sIx xs.length 0 lo)
theorem yY(xs:List V)(lo hi:Option Int):(bi xs lo hi).length≤xs.length:=by
 unfold bi
 rw[List.length_take,List.length_drop]
 lia
end
def du(n:Nat)(i:Int):Option Nat:=if 0≤i then(if i<n then some i.toNat else none) else if -(n:Int)≤i then some (i+n).toNat else none
def bc{α:Type}(xs:List α)(i:Int):Option α:=(du xs.length i).bind fun j=>xs[j]?
theorem lq{n:Nat}{i:Int}{j:Nat}(h:du n i=some j):seqIndex? i n=some j∧j<n∧ -(n:Int)≤i∧i<n:=by
 unfold du at h
 by_cases h0:0≤i
 ·rw[if_pos h0] at h
  by_cases h1:i<n
  ·rw[if_pos h1] at h
   have e:i.toNat=j:=Option.some.inj h
   exact⟨by rw[seqIndex_of h0 h1,e],by lia,by lia,h1⟩
  ·rw[if_neg h1] at h;cases h
 ·rw[if_neg h0] at h
  by_cases h1: -(n:Int)≤i
  ·rw[if_pos h1] at h
   have e:(i+n).toNat=j:=Option.some.inj h
   exact⟨by rw[seqIndex_neg (by lia) h1,e],by lia,h1,by lia⟩
  ·rw[if_neg h1] at h;cases h
theorem qI{α:Type}{xs:List α}{i:Int}{v:α}(h:bc xs i=some v):∃j,seqIndex? i xs.length=some j∧xs[j]?=some v∧j<xs.length∧ -(xs.length:Int)≤i∧i<xs.length:=by
 unfold bc at h
 cases e:du xs.length i with
 | none=>rw[e] at h;cases h
 | some j=>
   rw[e] at h
   obtain⟨h1,h2,h3,h4⟩:=lq e
   exact⟨j,h1,h,h2,h3,h4⟩
theorem cM{α:Type}{xs:List α}{j:Nat}{v:α}(h:xs[j]?=some v):bc xs (j:Int)=some v:=by
 have hj:j<xs.length:=(List.getElem?_eq_some_iff.mp h).1
 have e:du xs.length (j:Int)=some j:=by
  unfold du
  rw[if_pos (by lia),if_pos (by lia)];simp
 unfold bc;rw[e];exact h
def uD(b:Expr):Prop:=∀o i,subscripted b false o i=operate [o,i] (getItem o i)
def kh(X:Cx)(r:R2):Prop:=
 ∀ (value slice:Expr) (pins:List (Addr×Obj)) (s:Shared) (σ:St) (H:Hp) (x y:V) (v u:Value) (Q:VK),Inv X pins σ H s→RelV x v→RelV y u→r x y H Q→
   subscripted slice false v u=operate [v,u] (getItem v u)→wpAny (model X.prog X.w) X.A (subscriptTail value slice v u) (EP X pins σ Q) X.xe s
def lc(X:Cx)(id:String)(r:V→List V→Hp→VK→Prop):Prop:=
 ∀ (pins:List (Addr×Obj)) (s:Shared) (σ:St) (H:Hp) (x:V) (xs:List V) (v:Value) (us:List Value) (Q:VK),Inv X pins σ H s→RelV x v→Vals xs us→r x xs H Q→
   wpAny (model X.prog X.w) X.A (call (.builtin id) (v::us)) (EP X pins σ Q) X.xe s
section
variable{X:Cx}{a b:Expr}{ta tb:TE}{pos:Pos}
theorem aO{r:R2}(hr:kh X r)(ha:PE X a ta)(hb:PE X b tb)(hs:uD b):PE X (.Subscript a b pos) (eB r ta tb):=by
 intro pins s σ H Q I h
 exact Subscript_ (kE ha hb I h fun v u s2 x y H2 I2 rx ry q=>hr a b pins s2 σ H2 x y v u Q I2 rx ry q (hs _ _))
def yw(K:PySem.W.Frag):R2:=fun x y H Q=>∃p xs i v,x=.ref p∧y=.int i∧SqL K H p xs∧bc xs i=some v∧Q v H
def tM(K:PySem.W.Frag):R2:=fun x y H Q=>∃p xs i v,x=.ref p∧y=.int i∧SqT K H p xs∧bc xs i=some v∧Q v H
theorem aU:kh X (yw X.K):=by
 intro value slice pins s σ H x y v u Q I rx ry h hs
 obtain⟨p,xs,i,z,rfl,rfl,hq,he,q⟩:=h
 cases rx
 obtain⟨t,rfl⟩:=ry
 obtain⟨its,r,pl,hz⟩:=I.list hq
 obtain⟨j,h1,h2,h3,h4,h5⟩:=qI he
 obtain⟨w,ew,rw'⟩:=r.get h2
 have hl:=r.length
 have hn:=gf
 have fin:EP X pins σ Q w s:=⟨z,H,I,rw',q⟩
 by_cases h0:0≤i
 ·have hj:i.toNat=j:=by
   rw[seqIndex_of h0 h5] at h1
   exact Option.some.inj h1
  exact item_listR pl.isList h0 (by lia) (by rw[hj];simpa using ew) fin hs
 ·have hj:(i+(its.toArray.size:Int)).toNat=j:=by
   rw[seqIndex_neg (by lia) h4] at h1
   rw[List.size_toArray,←hl]
   exact Option.some.inj h1
  exact subscriptTail_builtinR (x:=w) pl.isList.typeIs slot_list_getitem.lookup
   (wpAny_getItem_list_neg (Q:=fun r s'=>r=w∧EP X pins σ Q r s') pl.isList (by lia) (by rw[List.size_toArray] <;> lia) (by lia) (by rw[hj];simpa using ew) ⟨rfl,fin⟩) hs
theorem fM:kh X (tM X.K):=by
 intro value slice pins s σ H x y v u Q I rx ry h hs
 obtain⟨p,xs,i,z,rfl,rfl,hq,he,q⟩:=h
 cases rx
 obtain⟨t,rfl⟩:=ry
 obtain⟨its,r,pl,hz⟩:=I.tuple hq
 obtain⟨j,h1,h2,h3,h4,h5⟩:=qI he
 obtain⟨w,ew,rw'⟩:=r.get h2
 have hl:=r.length
 have hn:=gf
 have fin:EP X pins σ Q w s:=⟨z,H,I,rw',q⟩
 exact subscriptTail_builtinR (x:=w) pl.typeIs slot_tuple_getitem.lookup
  (getItem_tuple (j:=j) (Q:=fun r s'=>r=w∧EP X pins σ Q r s') pl (by lia) (by lia) (by rw[List.size_toArray,←hl];exact h1) (by simpa using ew) ⟨rfl,fin⟩) hs
theorem ym(its:List Value)(n j:Nat)(u:Value):Obj.mapSeq (·.setIfInBounds j u) {cls:=.type "list",data:=.seq its.toArray n}={cls:=.type "list",data:=.seq (its.set j u).toArray n}:=by
 simp[Obj.mapSeq]
theorem Inv.lst{pins:List (Addr×Obj)}{σ:St}{H:Hp}{s:Shared}{p:Addr}{xs:List V}(I:Inv X pins σ H s)(h:H p=some (.lst xs)):∃(its:List Value) (n:Nat),Vals xs its∧s.heap.get? p=some {cls:=.type "list",data:=.seq its.toArray n}∧xs.length≤sizeLine:=by
 obtain⟨z,its,n,r,e⟩:=I.hok p _ h
 exact⟨its,n,r,e,z⟩
theorem Inv.lstUpd{pins:List (Addr×Obj)}{σ:St}{H:Hp}{s:Shared}{p:Addr}{xs ys:List V}{its its':List Value}{n n':Nat}{f:Obj→Obj}(I:Inv X pins σ H s)(h:H p=some (.lst xs))(ho:s.heap.get? p=some {cls:=.type "list",data:=.seq its.toArray n})(hf:f {cls:=.type "list",data:=.seq its.toArray n}={cls:=.type "list",data:=.seq its'.toArray n'})(r:Vals ys its')(hz:ys.length≤sizeLine)(t:Nat):Inv X pins σ (upd H p (.lst ys)) {s with heap:=s.heap.update p f,toks:=t}:=by
 have e:(s.heap.update p f).get? p=some {cls:=.type "list",data:=.seq its'.toArray n'}:=by
  rw[Heap.get?_update_self f ho (by rw[hf] <;> rfl),hf]
 refine I.write (x:=p) (e:=p) (by rw[h];trivial) (.inl rfl) (fun b u hb q=>(Heap.get?_update_other _ _ (Ne.symm hb)).trans q) ⟨_,e⟩ ?_
 exact⟨hz,its',n',r,e⟩
def yE:V→V→V→Hp→(Hp→Prop)→Prop:=fun o i v H Q=>∃p xs k j,o=.ref p∧i=.int k∧H p=some (.lst xs)∧du xs.length k=some j∧Q (upd H p (.lst (xs.set j v)))
theorem qT:nI X yE:=by
 intro pins s σ H o i v ov iv u Q I ro ri rv h
 obtain⟨p,xs,k,j,rfl,rfl,hp,hj,q⟩:=h
 cases ro
 obtain⟨t,rfl⟩:=ri
 obtain⟨its,n,r,ho,hz⟩:=I.lst hp
 obtain⟨h1,h2,h3,h4⟩:=lq hj
 have hl:=r.length
 have hn:=gf
 have I':Inv X pins σ (upd H p (.lst (xs.set j v))) {s with heap:=s.heap.update p (Obj.mapSeq (·.setIfInBounds j u))}:=
  I.lstUpd hp ho (ym its n j u) (r.set rv j) (by rw[List.length_set];exact hz) s.toks
 by_cases h0:0≤k
 ·have hk:k.toNat=j:=by
   rw[seqIndex_of h0 h4] at h1
   exact Option.some.inj h1
  exact PySem.W.ki_setAt ho h0 (by lia) (by rw[List.size_toArray,←hl];exact h4) (by rw[hk];exact⟨_,I',q⟩)
 ·have hk:(k+(its.toArray.size:Int)).toNat=j:=by
   rw[seqIndex_neg (by lia) h3] at h1
   rw[List.size_toArray,←hl]
   exact Option.some.inj h1
  exact PySem.W.ki_setBack ho (by lia) (by rw[List.size_toArray,←hl];exact h3) (by lia) (by rw[hk];exact⟨_,I',q⟩)
theorem u9(lo hi:Option Int)(n:Nat):(sliceBounds lo hi none n).1=((HT.sIx n 0 lo:Nat):Int)∧(sliceBounds lo hi none n).2.1=((HT.sIx n n hi:Nat):Int)∧(sliceBounds lo hi none n).2.2=1:=by
 refine⟨?_,?_,rfl⟩
 ·cases lo with
  | none=>simp[sliceBounds,HT.sIx]
  | some i=>
    simp only[sliceBounds,HT.sIx,Option.getD_none,show(1:Int)>0 by decide,if_true]
    by_cases h:i<0
    ·simp only[h,if_true] <;> lia
    ·simp only[h,if_false] <;> lia
 ·cases hi with
  | none=>simp[sliceBounds,HT.sIx]
  | some i=>
    simp only[sliceBounds,HT.sIx,Option.getD_none,show(1:Int)>0 by decide,if_true]
    by_cases h:i<0
    ·simp only[h,if_true] <;> lia
    ·simp only[h,if_false] <;> lia
theorem sq(its:List Value)(lo hi:Option Int):slicePick its.toArray lo hi none=((its.drop (HT.sIx its.length 0 lo)).take (HT.sIx its.length its.length hi-HT.sIx its.length 0 lo)).toArray:=by
 obtain⟨h1,h2,h3⟩:=u9 lo hi its.toArray.size
 unfold slicePick
 rw[h1,h2,h3]
 simp only[sliceRange_one,pick_run,List.size_toArray] <;> rfl
def js(K:PySem.W.Frag):V→Option Int→Option Int→Hp→VK→Prop:=fun x lo hi H Q=>∃a xs,x=.ref a∧SqL K H a xs∧∀p,H p=none→Q (.ref p) (upd H p (.lst (bi xs lo hi)))
theorem bG:qj X (js X.K):=by
 intro pins s σ H x v vl vu lo hi sl Q I rx hs pl pu h
 obtain⟨a,xs,rfl,hx,q⟩:=h
 cases rx
 obtain⟨its,r,ht,hz⟩:=I.list hx
 have hlen:=r.length
 refine⟨"list",_,slot_list_getitem.lookup,ht.isList.typeIs,?_⟩
 refine wpAny_getItem_list_slice ht.isList hs pl pu .none (by simp) ?_ (by rw[List.size_toArray] <;> lia)
 rw[sq,←hlen]
 refine⟨.ref s.heap.objs.size,_,I.laid (t':=s.toks) (o:=.lst (bi xs lo hi)) (fun b ob q=>Heap.get?_push_of_some _ q) (Nat.le_refl _) ?_,rfl,q _ (I.hok.fresh (Nat.le_refl _))⟩
 exact⟨Nat.le_trans (yY xs lo hi) hz,_,0,(r.drop (HT.sIx xs.length 0 lo)).take (HT.sIx xs.length xs.length hi-HT.sIx xs.length 0 lo),Heap.get?_push_size _ rfl⟩
def dQ:V→Bool
 | .non=>true
 | .bl _=>true
 | .int _=>true
 | .str _=>true
 | _=>false
def cG:V→V→Bool
 | .non,.non=>true
 | .bl a,.bl b=>a == b
 | .bl a,.int b=>(if a then 1 else 0) == b
 | .int a,.bl b=>a == (if b then 1 else 0)
 | .int a,.int b=>a == b
 | .str a,.str b=>a == b
 | _,_=>false
theorem mJ{A:Around}{s:Shared}{y x:V}{u v:Value}(ry:RelV y u)(rx:RelV x v)(fy:dQ y=true)(fx:dQ x=true):SeqAt.EqAt A s u v (cG y x):=by
 cases y with
 | non=>
   cases ry
   cases x with
   | non=>cases rx;exact SeqAt.EqAt.same _
   | bl b=>cases rx;exact SeqAt.EqAt.none_bool b
   | int b=>obtain⟨t,rfl⟩:=rx;exact SeqAt.EqAt.none_int b t
   | str b=>obtain⟨t,rfl⟩:=rx;exact SeqAt.EqAt.none_str b t
   | _=>exact absurd (show false=true from fx) Bool.false_ne_true
 | bl a=>
   cases ry
   cases x with
   | non=>cases rx;exact SeqAt.EqAt.bool_none a
   | bl b=>cases rx;exact SeqAt.EqAt.bool_bool a b
   | int b=>obtain⟨t,rfl⟩:=rx;exact SeqAt.EqAt.bool_int a b t
   | str b=>obtain⟨t,rfl⟩:=rx;exact SeqAt.EqAt.bool_str a b t
   | _=>exact absurd (show false=true from fx) Bool.false_ne_true
 | int a=>
   obtain⟨t',rfl⟩:=ry
   cases x with
   | non=>cases rx;exact SeqAt.EqAt.int_none a t'
   | bl b=>cases rx;exact SeqAt.EqAt.int_bool a t' b
   | int b=>obtain⟨t,rfl⟩:=rx;exact SeqAt.EqAt.int_int a t' b t
   | str b=>obtain⟨t,rfl⟩:=rx;exact SeqAt.EqAt.int_str a t' b t
   | _=>exact absurd (show false=true from fx) Bool.false_ne_true
 | str a=>
   obtain⟨t',rfl⟩:=ry
   cases x with
   | non=>cases rx;exact SeqAt.EqAt.str_none a t'
   | bl b=>cases rx;exact SeqAt.EqAt.str_bool a t' b
   | int b=>obtain⟨t,rfl⟩:=rx;exact SeqAt.EqAt.str_int a t' b t
   | str b=>obtain⟨t,rfl⟩:=rx;exact SeqAt.EqAt.str_str a t' b t
   | _=>exact absurd (show false=true from fx) Bool.false_ne_true
 | _=>exact absurd (show false=true from fy) Bool.false_ne_true
def di(x:V)(u:Value):Bool:=match u with
 | .none=>cG .non x
 | .bool b=>cG (.bl b) x
 | .int i _=>cG (.int i) x
 | .str z _=>cG (.str z) x
 | _=>false
theorem l9{x y:V}{u:Value}(r:RelV y u)(f:dQ y=true):di x u=cG y x:=by
 cases y with
 | non=>cases r;rfl
 | bl b=>cases r;rfl
 | int i=>obtain⟨t,rfl⟩:=r;rfl
 | str z=>obtain⟨t,rfl⟩:=r;rfl
 | _=>exact absurd (show false=true from f) Bool.false_ne_true
theorem jv{x:V}:∀{xs:List V} {us:List Value},Vals xs us→xs.all dQ=true→us.any (di x)=xs.any fun y=>cG y x
 | _,_,.nil,_=>rfl
 | y::xs,u::us,.cons r t,f=>by
   rw[List.all_cons,Bool.and_eq_true] at f
   rw[List.any_cons,List.any_cons,l9 r f.1,jv t f.2]
theorem kw{A:Around}{s:Shared}{x:V}{v:Value}(rx:RelV x v)(fx:dQ x=true):∀{xs:List V} {us:List Value},Vals xs us→xs.all dQ=true→∀u∈us,SeqAt.EqAt A s u v (di x u)
 | _,_,.nil,_=>fun u hu=>by cases hu
 | y::xs,u::us,.cons r t,f=>fun u' hu=>by
   rw[List.all_cons,Bool.and_eq_true] at f
   rcases List.mem_cons.mp hu with rfl | hu
   ·rw[l9 r f.1];exact mJ r rx f.1 fx
   ·exact kw rx fx t f.2 u' hu
def gA(x:V)(xs:List V):Bool:=xs.any fun y=>cG y x
def rD(K:PySem.W.Frag)(neg:Bool):R2:=fun x y H Q=>∃p xs,y=.ref p∧(SqL K H p xs∨SqT K H p xs)∧dQ x=true∧xs.all dQ=true∧Q (.bl (if neg then !gA x xs else gA x xs)) H
theorem w5:OpR X (compareOp .In) (rD X.K false):=by
 intro pins s σ H x y v u Q I rx ry h
 obtain⟨p,xs,rfl,hq,fx,fs,q⟩:=h
 cases ry
 rcases hq with hq | hq
 ·obtain⟨its,r,pl,hz⟩:=I.list hq
  refine SeqAt.in_listAt (di x) pl.isList (fun w hw=>kw rx fx r fs w (by simpa using hw)) ⟨.bl _,H,I,rfl,?_⟩
  rw[show its.toArray.any (di x)=its.any (di x) by simp,jv r fs]
  exact q
 ·obtain⟨its,r,pl,hz⟩:=I.tuple hq
  refine SeqAt.in_tupleAt (di x) pl (fun w hw=>kw rx fx r fs w (by simpa using hw)) ⟨.bl _,H,I,rfl,?_⟩
  rw[show its.toArray.any (di x)=its.any (di x) by simp,jv r fs]
  exact q
theorem yz:bU X (.builtin "len") (fun xs H Q=>∃p ys,xs=[.ref p]∧(SqL X.K H p ys∨SqT X.K H p ys)∧Q (.int ys.length) H):=by
 intro pins s σ H xs us Q I r h
 obtain⟨p,ys,rfl,hq,q⟩:=h
 obtain⟨u,rfl,rx⟩:=dN r
 cases rx
 have hn:=gf
 rcases hq with hq | hq
 ·obtain⟨its,r',pl,hz⟩:=I.list hq
  have hlen:=r'.length
  exact Calls.call_len_list pl.isList (by simp only[List.size_toArray] <;> lia) ⟨.int ys.length,H,I.tok _,⟨s.toks+1,by rw[List.size_toArray,hlen]⟩,q⟩
 ·obtain⟨its,r',pl,hz⟩:=I.tuple hq
  have hlen:=r'.length
  exact len_tuple pl (by simp only[List.size_toArray] <;> lia) ⟨.int ys.length,H,I.tok _,⟨s.toks+1,by rw[List.size_toArray,hlen]⟩,q⟩
theorem sx:bU X (.builtin "len") (fun xs H Q=>∃z,xs=[.str z]∧z.length≤sizeLine∧Q (.int z.length) H):=by
 intro pins s σ H xs us Q I r h
 obtain⟨z,rfl,hz,q⟩:=h
 obtain⟨u,rfl,t,rfl⟩:=dN r
 have hn:=gf
 exact len_str (by lia) ⟨.int z.length,H,I.tok _,⟨_,rfl⟩,q⟩
theorem ue:bU X (.type "list") (fun xs H Q=>∃p ys,xs=[.ref p]∧(SqL X.K H p ys∨SqT X.K H p ys)∧∀l,H l=none→Q (.ref l) (upd H l (.lst ys))):=by
 intro pins s σ H xs us Q I r h
 obtain⟨p,ys,rfl,hq,q⟩:=h
 obtain⟨u,rfl,rx⟩:=dN r
 cases rx
 have fin:∀(its:List Value),Vals ys its→ys.length≤sizeLine→∀(h':Heap) (c':Nat),(∀b o',s.heap.get? b=some o'→h'.get? b=some o')→
  h'.get? s.heap.objs.size=some {cls:=.type "list",dict:=none,data:=.seq its.toArray c',slots:=#[]}→EP X pins σ Q (.ref s.heap.objs.size) {s with heap:=h'}:=fun its r' hz h' c' kp e=>
  ⟨.ref s.heap.objs.size,_,I.laid (t':=s.toks) kp (Nat.le_refl _) (show ObjOk X.prog X.w _ h' _ (.lst ys) from⟨hz,its,c',r',e⟩),rfl,q _ (I.hok.fresh (Nat.le_refl _))⟩
 rcases hq with hq | hq
 ·obtain⟨its,r',pl,hz⟩:=I.list hq
  have hlen:=r'.length
  obtain⟨o,ho,hc,n,hd⟩:=pl.isList
  exact call_list_seq p (.inl rfl) ho hc hd (fun h' c' kp e=>fin its r' hz h' c' kp e) (by simp only[List.size_toArray] <;> lia)
 ·obtain⟨its,r',pl,hz⟩:=I.tuple hq
  have hlen:=r'.length
  obtain⟨o,ho,hc,n,hd⟩:=pl
  exact call_list_seq p (.inr rfl) ho hc hd (fun h' c' kp e=>fin its r' hz h' c' kp e) (by simp only[List.size_toArray] <;> lia)
def kN(K:PySem.W.Frag)(T:String)(x:V)(H:Hp):Prop:=match x with
 | .str _=>T="str"
 | .int _=>T="int"
 | .ref p=>(T="list"∧∃xs,SqL K H p xs)∨(T="tuple"∧∃o,K.lookup p=some o∧o.cls=.type "tuple"∧o.dict=none)∨
  (T="dict"∧((∃kvs,H p=some (.dK kvs))∨∃kvs,H p=some (.dT kvs)))∨(T="set"∧∃S n,H p=some (.set S n))
 | _=>False
theorem oR{pins:List (Addr×Obj)}{σ:St}{H:Hp}{s:Shared}{T:String}{x:V}{v:Value}(I:Inv X pins σ H s)(r:RelV x v)(ty:kN X.K T x H):s.TypeIs v T∧∀a,v=.ref a→∃ob,s.heap.get? a=some ob∧ob.dict=none:=by
 cases x with
 | str z=>
   obtain⟨t,rfl⟩:=r
   cases(show T="str" from ty)
   exact⟨typeIs_str s z t,fun _ e=>nomatch e⟩
 | int i=>
   obtain⟨t,rfl⟩:=r
   cases(show T="int" from ty)
   exact⟨typeIs_int s i t,fun _ e=>nomatch e⟩
 | ref p=>
   cases r
   rcases ty with⟨rfl,xs,hq⟩ | ⟨rfl,o,hk,hc,hd⟩ | ⟨rfl,hk⟩ | ⟨rfl,S,n,hk⟩
   ·obtain⟨its,_,pl,_⟩:=I.list hq
    refine⟨pl.isList.typeIs,fun a e=>?_⟩
    cases e
    obtain⟨o,n,e,c,hd,_⟩:=pl
    exact⟨o,e,hd⟩
   ·refine⟨⟨o,I.kIn p o hk,hc⟩,fun a e=>?_⟩
    cases e
    exact⟨o,I.kIn _ o hk,hd⟩
   ·have z:∃o,s.heap.get? p=some o∧o.ExactDict:=by
     rcases hk with⟨kvs,hk⟩ | ⟨kvs,hk⟩
     ·obtain⟨_,_,_,_,o,_,_,e,ex,_⟩:=I.hok p _ hk
      exact⟨o,e,ex⟩
     ·obtain⟨_,_,_,_,o,_,_,e,ex,_⟩:=I.hok p _ hk
      exact⟨o,e,ex⟩
    obtain⟨o,e,ex⟩:=z
    refine⟨⟨o,e,ex.1⟩,fun a e2=>?_⟩
    cases e2
    exact⟨o,e,ex.2.1⟩
   ·obtain⟨o,_,_,_,e,ex,_⟩:=I.hok p _ hk
    refine⟨⟨o,e,ex.1⟩,fun a e2=>?_⟩
    cases e2
    exact⟨o,e,ex.2.1⟩
 | _=>exact False.elim ty
def xj(K:PySem.W.Frag)(T:String)(r:V→List V→Hp→VK→Prop)(to:TE):TE:=fun σ H Q=>to σ H fun x H1=>kN K T x H1∧r x [] H1 Q
def su(K:PySem.W.Frag)(T:String)(r:V→List V→Hp→VK→Prop)(to:TE)(t:TA):TE:=fun σ H Q=>to σ H fun x H1=>kN K T x H1∧t σ H1 fun xs H2=>r x xs H2 Q
variable{o e:Expr}{es:List Expr}{to:TE}{t:TA}{name:Str}{apos cpos:Pos}{T id:String}{r:V→List V→Hp→VK→Prop}
theorem vm(pa:PlainAttrs T)(slot:Slot T name id)(hty:typeOf (.builtin id)=pure (.type "method_descriptor"))(hm:lc X id r)(ho:PE X o to)(hbase:attributeBase o name X.env (eval o X.env)=eval o X.env:=by rfl)(hline:(apos.endLine == cpos.line)=true:=by rfl):PE X (.Call (.Attribute o name apos) [] [] cpos) (xj X.K T r to):=by
 intro pins s σ H Q I h
 refine wpAny_Call_method0_late hbase hline (ak (ho pins s σ H _ I h) fun v s1 ⟨x,H1,I1,r1,ty,q1⟩=>?_)
 obtain⟨h1,h2⟩:=oR I1 r1 ty
 exact⟨T,id,pa,slot,hty,h1,h2,Calls.callWith_builtin rfl (PySem.evalArgs_none (hm pins s1 σ H1 x [] v [] Q I1 r1 .nil q1))⟩
theorem cI(pa:PlainAttrs T)(slot:Slot T name id)(hty:typeOf (.builtin id)=pure (.type "method_descriptor"))(hm:lc X id r)(ho:PE X o to)(ha:PA X (e::es) t)(hbase:attributeBase o name X.env (eval o X.env)=eval o X.env:=by rfl)
 (hfew:((backTo cpos (starEach (e::es) X.env)).all (fun x=>!x.1) && (backToKw cpos (keywordEach [] X.env)).all (fun x=>x.1.isSome)
  && decide ((e::es).length+([]:List Keyword).length+(if([]:List Keyword).isEmpty then 0 else 1)<30))=true:=by rfl)
 (hline:(apos.endLine == cpos.line)=true:=by rfl)(hs:starEach (e::es) X.env=(false,eval e X.env)::starEach es X.env:=by rfl)(hplain:(backTo cpos (starEach es X.env)).any (·.1)=false:=by rfl):
 PE X (.Call (.Attribute o name apos) (e::es) [] cpos) (su X.K T r to t):=by
 intro pins s σ H Q I h
 refine wpAny_Call_method_late hbase hfew hline rfl (ak (ho pins s σ H _ I h) fun v s1 ⟨x,H1,I1,r1,ty,q1⟩=>?_)
 obtain⟨h1,h2⟩:=oR I1 r1 ty
 refine⟨T,id,pa,slot,hty,h1,h2,?_⟩
 have hA:=ha cpos pins s1 σ H1 _ I1 q1
 rw[hs] at hA ⊢
 refine Calls.callWith_builtin (by show(false || (backTo cpos (starEach es X.env)).any (·.1))=false;rw[hplain] <;> rfl) (Calls.evalArgs_plain ?_)
 exact ak hA fun us s2 ⟨vs,H2,I2,r2,q2⟩=>hm pins s2 σ H2 x vs v us Q I2 r1 r2 q2
end
def iN(X:Cx)(id:String)(r:V→List V→Hp→VK→Prop):Prop:=
 ∀ (pins:List (Addr×Obj)) (s:Shared) (σ:St) (H:Hp) (x:V) (xs:List V) (v:Value) (us:List Value) (Q:VK),Inv X pins σ H s→RelV x v→Vals xs us→r x xs H Q→
   wpAny (model X.prog X.w) X.A (call (.builtin id) (v::us)) (EP X pins σ Q) X.xe s
theorem Vals.one:∀{x:V} {us:List Value},Vals [x] us→∃u,us=[u]∧RelV x u
 | _,_,.cons r .nil=>⟨_,rfl,r⟩
theorem Vals.two:∀{x y:V} {us:List Value},Vals [x,y] us→∃u v,us=[u,v]∧RelV x u∧RelV y v
 | _,_,_,.cons r (.cons q .nil)=>⟨_,_,rfl,r,q⟩
theorem Vals.zero:∀{us:List Value},Vals [] us→us=[]
 | _,.nil=>rfl
theorem Vals.dropLast{xs:List V}{us:List Value}(h:Vals xs us):Vals xs.dropLast us.dropLast:=by
 induction h with
 | nil=>exact .nil
 | cons r t ih=>
   cases t with
   | nil=>exact .nil
   | cons q t'=>exact .cons r ih
theorem Vals.eraseIdx:∀{xs:List V} {us:List Value} (i:Nat),Vals xs us→Vals (xs.eraseIdx i) (us.eraseIdx i)
 | _,_,_,.nil=>.nil
 | _,_,0,.cons _ t=>t
 | _,_,i+1,.cons r t=>.cons r (Vals.eraseIdx i t)
theorem Vals.rep{xs:List V}{us:List Value}(h:Vals xs us):∀k:Nat,Vals (List.replicate k xs).flatten (List.replicate k us).flatten
 | 0=>.nil
 | k+1=>by
   rw[List.replicate_succ,List.replicate_succ,List.flatten_cons,List.flatten_cons]
   exact Vals.append h (Vals.rep h k)
theorem uX{α:Type}(l:List α):l.eraseIdx (l.length-1)=l.dropLast:=by
 induction l with
 | nil=>rfl
 | cons a r ih=>
   cases r with
   | nil=>rfl
   | cons b r=>
     have e:(a::b::r).length-1=((b::r).length-1)+1:=by
      have h1:(a::b::r).length=r.length+2:=rfl
      have h2:(b::r).length=r.length+1:=rfl
      lia
     rw[e,List.eraseIdx_cons_succ,ih]
     all_goals rfl
theorem qJ{α:Type}:∀(l:List α) (i:Nat),(l.eraseIdx i).length≤l.length
 | [],_=>Nat.le_refl _
 | _::_,0=>Nat.le_succ _
 | _::r,i+1=>Nat.succ_le_succ (qJ r i)
theorem mC(its:List Value):∀(k:Nat) (acc:List Value),List.foldl (fun x1 x2=>x1++x2) acc.toArray (List.replicate k its.toArray)=(acc++(List.replicate k its).flatten).toArray
 | 0,acc=>by simp
 | k+1,acc=>by
   have e:acc.toArray++its.toArray=(acc++its).toArray:=by simp
   have e2:(acc++its)++(List.replicate k its).flatten=acc++(List.replicate (k+1) its).flatten:=by
    rw[List.replicate_succ,List.flatten_cons,List.append_assoc]
   rw[←e2,←mC its k (acc++its),←e,List.replicate_succ,List.foldl_cons]
section
variable{X:Cx}{pins:List (Addr×Obj)}{σ:St}{H:Hp}{s:Shared}{l b:Addr}{xs ys zs:List V}
theorem Inv.lset{its its':List Value}{n:Nat}{f:Array Value→Array Value}{t':Nat}(I:Inv X pins σ H s)(hH:H l=some (.lst xs))(e:s.heap.get? l=some {cls:=.type "list",data:=.seq its.toArray n})(hf:f its.toArray=its'.toArray)(hv:Vals ys its')(hz:ys.length≤sizeLine):Inv X pins σ (upd H l (.lst ys)) {s with heap:=s.heap.update l (Obj.mapSeq f),toks:=t'}:=by
 have q:=PySem.IsL.update e f
 rw[hf] at q
 refine I.write (x:=l) (e:=l) (by rw[hH];exact trivial) (.inl rfl) (fun b' u hb hu=>(Heap.get?_update_other s.heap (Obj.mapSeq f) (Ne.symm hb)).trans hu) ⟨_,q⟩ ?_
 exact⟨hz,its',_,hv,q⟩
theorem Inv.lnew{its:List Value}{t':Nat}(I:Inv X pins σ H s)(hv:Vals ys its)(hz:ys.length≤sizeLine):Inv X pins σ (upd H s.heap.objs.size (.lst ys)) {s with heap:=s.heap.push {cls:=.type "list",data:=.seq its.toArray},toks:=t'}:=
 I.laid (fun _ _ q=>Heap.get?_push_of_some _ q) (Nat.le_refl _) ⟨hz,its,0,hv,Heap.get?_push_size _ rfl⟩
theorem Inv.fresh(I:Inv X pins σ H s):H s.heap.objs.size=none:=I.hok.fresh (Nat.le_refl _)
theorem Inv.lstM(I:Inv X pins σ H s)(hH:H l=some (.lst xs)):xs.length≤sizeLine∧∃(its:List Value) (n:Nat),Vals xs its∧xs.length=its.length∧s.heap.get? l=some {cls:=.type "list",data:=.seq its.toArray n}:=by
 obtain⟨z,its,n,r,e⟩:=I.hok l _ hH
 exact⟨z,its,n,r,r.length,e⟩
theorem mM{n:Nat}(h:n≤sizeLine):Builtin.List.listTooLong n=false:=by
 unfold Builtin.List.listTooLong
 exact decide_eq_false (by lia)
end
section
variable{X:Cx}
def yL:V→List V→Hp→VK→Prop:=fun x vs H Q=>∃l xs y,x=.ref l∧vs=[y]∧H l=some (.lst xs)∧xs.length<sizeLine∧Q .non (upd H l (.lst (xs++[y])))
theorem dJ:iN X "list.append" yL:=by
 intro pins s σ H x vs v us Q I rx rv h
 obtain⟨l,xs,y,rfl,rfl,hH,hz,q⟩:=h
 cases rx
 obtain⟨u,rfl,ru⟩:=rv.one
 obtain⟨z,its,n,r,hl,e⟩:=I.lstM hH
 refine call_meets F.slot_list_append ⟨_,e,rfl⟩ F.entry_list_append (F.args_list_append_2 _ _) (PySem.list_append l its.toArray n u (by rw[List.size_toArray];lia)) ⟨e,?_⟩
 refine⟨.non,_,I.lset (its':=its++[u]) hH e (by simp) (r.append (.cons ru .nil)) ?_,rfl,q⟩
 rw[List.length_append,List.length_singleton]
 lia
def uB:V→List V→Hp→VK→Prop:=fun x vs H Q=>∃l b xs zs,x=.ref l∧vs=[.ref b]∧H l=some (.lst xs)∧H b=some (.lst zs)∧xs.length+zs.length≤sizeLine∧Q .non (upd H l (.lst (xs++zs)))
theorem qw:iN X "list.extend" uB:=by
 intro pins s σ H x vs v us Q I rx rv h
 obtain⟨l,b,xs,zs,rfl,rfl,hH,hB,hz,q⟩:=h
 cases rx
 obtain⟨u,rfl,ru⟩:=rv.one
 cases ru
 obtain⟨z,its,n,r,hl,e⟩:=I.lstM hH
 obtain⟨z2,its2,n2,r2,hl2,e2⟩:=I.lstM hB
 have hsz:its.toArray.size+its2.toArray.size≤sizeLine:=by rw[List.size_toArray,List.size_toArray];lia
 have hlong:¬(!its.toArray.isEmpty && Builtin.List.listTooLong (its.toArray.size+its2.toArray.size))=true:=by
  rw[mM hsz,Bool.and_false]
  exact Bool.false_ne_true
 refine call_meets F.slot_list_extend ⟨_,e,rfl⟩ F.entry_list_extend (F.args_list_extend_2 _ _)
  (AutoSeq1.list_extend_list_list_0 l its.toArray n b its2.toArray n2 hlong (by rw[List.size_toArray];lia) (by lia)) ⟨e,e2,?_⟩
 refine⟨.non,_,I.lset (its':=its++its2) hH e (by simp) (r.append r2) ?_,rfl,q⟩
 rw[List.length_append]
 lia
def yh:V→List V→Hp→VK→Prop:=fun x vs H Q=>∃l xs y,x=.ref l∧vs=[]∧H l=some (.lst xs)∧xs[xs.length-1]?=some y∧Q y (upd H l (.lst xs.dropLast))
theorem sJ:iN X "list.pop" yh:=by
 intro pins s σ H x vs v us Q I rx rv h
 obtain⟨l,xs,y,rfl,rfl,hH,hy,q⟩:=h
 cases rx
 have hus:=rv.zero
 subst hus
 obtain⟨z,its,n,r,hl,e⟩:=I.lstM hH
 obtain⟨u,hu,ru⟩:=r.get hy
 have hy':its.toArray[its.toArray.size-1]?=some u:=by
  show its.toArray[its.length-1]?=some u
  rw[←Array.getElem?_toList,←hl]
  exact hu
 refine call_meets F.slot_list_pop ⟨_,e,rfl⟩ F.entry_list_pop (F.args_list_pop_1 _) (MeetsSeq.list_pop_last l its.toArray n u hy' (by rw[List.size_toArray];lia)) ⟨e,?_⟩
 refine⟨y,_,I.lset (its':=its.dropLast) hH e ?_ r.dropLast ?_,ru,q⟩
 ·show its.toArray.eraseIdxIfInBounds (its.toArray.size-1)=its.dropLast.toArray
  rw[List.size_toArray,List.eraseIdxIfInBounds_toArray,uX]
 ·rw[List.length_dropLast]
  lia
def uk:V→List V→Hp→VK→Prop:=fun x vs H Q=>∃l xs i k y,x=.ref l∧vs=[.int i]∧H l=some (.lst xs)∧ -(2 ^ 63)≤i∧i<2 ^ 63∧seqIndex? i xs.length=some k∧xs[k]?=some y∧Q y (upd H l (.lst (xs.eraseIdx k)))
theorem wN:iN X "list.pop" uk:=by
 intro pins s σ H x vs v us Q I rx rv h
 obtain⟨l,xs,i,k,y,rfl,rfl,hH,h1,h2,hk,hy,q⟩:=h
 cases rx
 obtain⟨u,rfl,ru⟩:=rv.one
 obtain⟨t,rfl⟩:=ru
 obtain⟨z,its,n,r,hl,e⟩:=I.lstM hH
 obtain⟨w,hw,rw'⟩:=r.get hy
 refine call_meets F.slot_list_pop ⟨_,e,rfl⟩ F.entry_list_pop (F.args_list_pop_2 _ _)
  (MeetsSeq.list_pop_at l its.toArray n i t k w (fitsIndex_both h1 h2) (by rw[List.size_toArray,←hl];exact hk) (by rw[←Array.getElem?_toList];exact hw) (by rw[List.size_toArray];lia)) ⟨e,?_⟩
 refine⟨y,_,I.lset (its':=its.eraseIdx k) hH e ?_ (r.eraseIdx k) ?_,rw',q⟩
 ·show its.toArray.eraseIdxIfInBounds k=(its.eraseIdx k).toArray
  rw[List.eraseIdxIfInBounds_toArray]
 ·have:=qJ xs k
  lia
def jP:R2:=fun x y H Q=>∃l b xs zs,x=.ref l∧y=.ref b∧H l=some (.lst xs)∧H b=some (.lst zs)∧xs.length+zs.length≤sizeLine∧∀p,H p=none→Q (.ref p) (upd H p (.lst (xs++zs)))
theorem cX:OpR X (binaryOp .Add) jP:=by
 intro pins s σ H x y v u Q I rx ry h
 obtain⟨l,b,xs,zs,rfl,rfl,hH,hB,hz,q⟩:=h
 cases rx
 cases ry
 obtain⟨z,its,n,r,hl,e⟩:=I.lstM hH
 obtain⟨z2,its2,n2,r2,hl2,e2⟩:=I.lstM hB
 refine PySem.P.add_list e e2 ?_ (by rw[List.size_toArray,List.size_toArray];lia)
 have ea:its.toArray++its2.toArray=(its++its2).toArray:=by simp
 rw[ea]
 exact⟨.ref _,_,I.lnew (t':=s.toks) (r.append r2) (by rw[List.length_append];lia),rfl,q _ I.fresh⟩
def qg:R2:=fun x y H Q=>∃l k xs,x=.ref l∧y=.int k∧H l=some (.lst xs)∧ -(2 ^ 63)≤k∧k<2 ^ 63∧xs.length*k.toNat≤sizeLine∧
 ∀p,H p=none→Q (.ref p) (upd H p (.lst (List.replicate k.toNat xs).flatten))
theorem t6{α:Type}(xs:List α)(k:Nat):(List.replicate k xs).flatten.length=k*xs.length:=by
 induction k with
 | zero=>simp
 | succ k ih=>rw[List.replicate_succ,List.flatten_cons,List.length_append,ih,Nat.succ_mul,Nat.add_comm]
theorem gR:OpR X (binaryOp .Mult) qg:=by
 intro pins s σ H x y v u Q I rx ry h
 obtain⟨l,k,xs,rfl,rfl,hH,h1,h2,hz,q⟩:=h
 cases rx
 obtain⟨t,rfl⟩:=ry
 obtain⟨z,its,n,r,hl,e⟩:=I.lstM hH
 have hlen:its.toArray.size*k.toNat≤sizeLine:=by rw[List.size_toArray,←hl];exact hz
 have hcap:¬its.toArray.size*k.toNat>(2 ^ 63-1) / 8:=by
  have:(sizeLine:Nat)≤(2 ^ 63-1) / 8:=by decide
  lia
 have hfit:¬(!Builtin.List.listFitsIndex k)=true:=by
  rw[fitsIndex_both h1 h2]
  exact Bool.false_ne_true
 have hlong:¬Builtin.List.listTooLong (its.toArray.size*k.toNat)=true:=by
  rw[mM hlen]
  exact Bool.false_ne_true
 have hnew:List.foldl (fun x1 x2=>x1++x2) #[] (List.replicate (if its.toArray.isEmpty=true then 0 else k.toNat) its.toArray)=(List.replicate k.toNat its).flatten.toArray:=by
  have f0:∀m:Nat,List.foldl (fun x1 x2=>x1++x2) #[] (List.replicate m its.toArray)=(List.replicate m its).flatten.toArray:=fun m=>by
   have:=mC its m []
   rw[List.nil_append] at this
   exact this
  rw[f0]
  cases its with
  | nil=>simp
  | cons a r'=>rw[if_neg (by simp)]
 refine wpAny_binaryOp_repeat_ref (T:="list") (U:="int") (by decide) ⟨_,e,rfl⟩ (fun s'=>typeIs_int s' k t) noFill_list_mul F.fills_int_mul F.slot_int_rmul repeat_list F.slot_int_index.lookup
  (call_meets F.slot_int_rmul (typeIs_int s k t) F.entry_int_rmul (F.args_int_rmul_2 _ _) (int___rmul___int_list k t l its.toArray n)
   ⟨e,rfl,⟨_,e,rfl⟩,call_meets F.slot_list_mul ⟨_,e,rfl⟩ F.entry_list_mul (F.args_list_mul_2 _ _) (AutoListH.list___mul___list_int_3 l its.toArray n k t hfit hcap hlong) ⟨e,?_⟩⟩)
 rw[hnew]
 exact⟨.ref _,_,I.lnew (t':=s.toks) (r.rep k.toNat) (by rw[t6,Nat.mul_comm];exact hz),rfl,q _ I.fresh⟩
end
section
variable{prog:Program}{w:World}{A:Around}{E:Value→Shared→Prop}{s:Shared}
set_option maxRecDepth 100000 in
end
section
variable{X:Cx}
end
end L2
namespace Att
open PySem PySem.W PySem.Calls PyProof.Rows
theorem y4{P:Params}{h:Heap}:∀(ns:List Int) (vs:List Value),WellAll P h vs (ns.map WData.int)→IntsAre vs ns:=by
 intro ns
 induction ns with
 | nil=>
   intro vs w
   rw[List.map_nil] at w
   cases w
   exact .nil
 | cons n ns ih=>
   intro vs w
   rw[List.map_cons] at w
   cases w with
   | cons a b=>
     cases a
     exact .cons _ _ (ih _ b)
theorem vX{l:OpenLaw}{n:Nat}(hn:l.most=some n){P:Params}{h:Heap}{args:List WData}{vals:List Value}(hpre:l.row.toRowW.claim.pre args=true)(hwl:WellAll P h vals args):∃a vs ns,vals=[Value.ref a]∧args=[WData.list (ns.map WData.int)]∧h.get? a=some {cls:=.type "list",data:=.seq vs.toArray}∧IntsAre vs ns∧ns.length≤n:=by
 have hsh:WShape.hasAll [] args [.list .int]=true:=(pre_splitW hpre).1
 have hc:l.pre.holds [] {args:=args}=true:=(pre_splitW hpre).2
 obtain⟨d,r,rfl,h1,h2⟩:=hasAllW_cons hsh
 obtain rfl:=hasAllW_nil h2
 obtain⟨xs,rfl,h3⟩:=hasW_list h1
 obtain⟨ns,rfl⟩:=items_int h3
 have hlen:ns.length≤n:=by
  unfold OpenLaw.pre at hc
  have h4:(WTm.not (.lt (.lit (.int (n:Int))) (.len (.arg 0)))).holds [] {args:=[.list (ns.map .int)]}=true:=by
   have h4:=(holds_andW hc).1
   rw[hn] at h4
   exact h4
  have h5:=condW_of h4 (w_not (w_lt w_lit (w_len_list (w_arg rfl))))
  rw[List.length_map] at h5
  refine Nat.le_of_not_lt fun q=>?_
  have q':(n:Int)<((ns.length:Nat):Int):=by lia
  first
   | (rw[decide_eq_true q'] at h5;exact absurd h5 (by decide))
   | (simp at h5;lia)
 cases hwl with
 | cons w1 w2=>
   cases w2
   cases w1 with
   | list ho hall=>exact⟨_,_,ns,rfl,rfl,ho,y4 ns _ hall,hlen⟩
theorem rV(l:OpenLaw)(args:List WData):l.row.toRowW.claim.post args (.bool true) args=true:=
 postW_of (r:=l.row.toRowW) (X:=(true == true))
  (show WShape.has [] (.bool true) .bool=true by first | rfl | decide | simp[WShape.has,WShape.arms,WShape.armsAll])
  (show(WTm.eq .res (.lit (.bool true))).value [] {args:=args,res:=some (.bool true),after:=args}=some (.bool (true == true)) from w_eq_bool (w_res rfl) w_lit) rfl
theorem attach_call{l:OpenLaw}{n:Nat}{q:Program}{loose:List Str}{XP:(Str→Option Value)→Heap→Prop}{YP:World→Heap→Prop}{d:DefRec}(hn:l.most=some n)(hdf:d.params.defaults=[])(call:∀(w:World) (s₀ s₁:Shared) (mg mb:Str→Option Value) (fa:Addr) (o:Obj) (pm cd doc:Value) (a:Addr) (vs:List Value) (ns:List Int),Ground q loose [] XP w s₀ mg mb s₁.heap→YP w s₁.heap→s₁.heap.get? fa=some o→o.data=.func (docDef d.name d.params d.body d.scope pm cd doc)→s₁.heap.CodeRec cd d.name→mg d.name=some (.ref fa)→s₁.heap.get? a=some {cls:=.type "list",data:=.seq vs.toArray}→IntsAre vs ns→ns.length≤n→s₁.gens=#[]→codeAny (model l.prog w) callerA (.call (.ref fa) ⟨[.ref a],[]⟩) (fun r s'=>r=.ok (.ret (.bool true))∧OldK s₁.heap s'.heap∧s'.os=s₁.os∧AllBare s'.gens) s₁):
 WalkO q loose XP YP l.row.toRowW d [] (fun f vs=>PySem.call f vs):=by
 intro w s₀ s₁ mg mb G Y fa o pm cd doc dV kV ho hd hcd hD hmg hg args vals as hpre hlay hrd hwl hlo
 obtain rfl:dV=.none:=Dflts.none hD hdf
 obtain rfl:kV=.none:=Dflts.noKw hD
 obtain⟨a,vs,ns,rfl,rfl,hobj,hints,hlen⟩:=vX hn hpre hwl
 refine enter_call (codeAny_mono (call w s₀ s₁ mg mb fa o pm cd doc a vs ns G Y ho (fd_plain hd) hcd hmg hobj hints hlen hg) fun r s' hq=>?_)
 obtain⟨rfl,h2,h3,h4⟩:=hq
 exact⟨.inl ⟨.bool true,.bool true,[],rfl,fun _=>rfl,.bool true,rV l _,fun _=>⟨List.Pairwise.nil,fun _ hm=>(nomatch hm)⟩⟩,h2,h3,h4⟩
section
variable{prog:Program}{w:World}{A:Around}{E:Value→Shared→Prop}{s:Shared}{K:Frag}
def zN(h:Heap)(L d:Addr):List (Addr×Obj):=(List.range h.objs.size).filterMap fun a=>if a=L∨a=d then none else(h.get? a).map fun o=>(a,o)
end
end Att
namespace L2
open PySem PySem.Spec PyProof.Rows
theorem ow:∀{vs:List Value} {ns:List Int},IntsAre vs ns→Vals (ns.map V.int) vs
 | _,_,.nil=>.nil
 | _,_,.cons n t h=>.cons ⟨t,rfl⟩ (ow h)
abbrev zO{K:PySem.W.Frag}{h:Heap}(_:K.In h):PySem.W.Frag:=K
def bW(s:Stmt):Arguments:=match s with
 | .FunctionDef _ a _ _ _ _ _ _ _ _=>a
 | _=>{posonlyargs:=[],args:=[],vararg:=none,kwonlyargs:=[],kw_defaults:=[],kwarg:=none,defaults:=[]}
def bz(s:Stmt):List Stmt:=match s with
 | .FunctionDef _ _ b _ _ _ _ _ _ _=>b
 | _=>[]
def ar(s:Stmt):Scope:=match s with
 | .FunctionDef _ _ _ _ _ _ sc _ _ _=>sc
 | _=>{kind:=.function,names:=[],isGenerator:=false,isCoroutine:=false}
abbrev ai:bB:=fun _ _ _ _ _ _=>False
abbrev E0:XK:=fun _ _ _=>False
theorem aE{X:Cx}:gk ai X E0:=fun _ _ _ _ _ _ _ h=>h.elim
structure Fun(K:PySem.W.Frag)(x qual:Str)(st:Stmt)(f:Addr)(fd:FuncData):Prop where
 ex:∃(oc:Value) (od:Option Addr) (kV doc pm:Value) (an:Option Addr) (cdv ct:Value) (osl:Array (Option Value)),
  fd=PySem.W.fnOf x qual (bW st) (bz st) (ar st) .none kV doc pm an cdv ct∧K.lookup f=some ⟨oc,od,.func fd,osl⟩∧PySem.W.codeIn K cdv qual=true
 kp:PySem.W.keepIn K (.ref f)=true
section
variable{P:Program}{w:World}{K:PySem.W.Frag}{mg:Str→Option Value}{base:Heap}
theorem Fun.ok{x qual:Str}{st:Stmt}{f:Addr}{fd:FuncData}{N ps:List Str}{k:Nat}{sp:Sp}(F:Fun K x qual st f fd)(S:FnScope N ps (ar st))(len:∀vs H Q E,sp vs H Q E→vs.length=ps.length)(hbody:∀(cdv:Value) (A:Around) (outer:List Env) (s:Shared) (H:Hp) (vs:List V) (Q:VK) (E:XK),Room k (A.deeper (envOfC qual (ar st) s.heap.objs.size f cdv))→sp vs H Q E→∃t,PSs (bE ai P w K mg base N qual (ar st) f cdv A outer s H E).nox (bz st) t∧t {nx:=fun _ H'=>Q .non H',rt:=Q} (start N vs) H):FnOk P w K mg base ai (k+1) f fd ps sp:=by
 obtain⟨oc,od,kV,doc,pm,an,cdv,ct,osl,rfl,lk,hcd⟩:=F.ex
 refine jO lk hcd S len fun A outer s H vs Q E hr hsp=>?_
 obtain⟨t,h,q⟩:=hbody cdv A outer s H vs Q E hr hsp
 exact⟨t,h.nox,q⟩
theorem Fun.binds{x qual:Str}{st:Stmt}{f:Addr}{fd:FuncData}{ps:List Str}(F:Fun K x qual st f fd)(h:∀(kV doc pm:Value) (an:Option Addr) (cdv ct:Value) (us:List Value),us.length=ps.length→bindArgs (PySem.W.fnOf x qual (bW st) (bz st) (ar st) .none kV doc pm an cdv ct) ⟨us,[]⟩=pure (ps.zip us)):Binds K fd ps []:=by
 obtain⟨oc,od,kV,doc,pm,an,cdv,ct,osl,rfl,lk,hcd⟩:=F.ex
 exact .all (h kV doc pm an cdv ct)
theorem iD{x qual:Str}{st:Stmt}{f:Addr}{oc:Value}{od an:Option Addr}{osl:Array (Option Value)}{kV doc pm cdv ct:Value}(l:K.lookup f=some ⟨oc,od,.func (PySem.W.fnOf x qual (bW st) (bz st) (ar st) .none kV doc pm an cdv ct),osl⟩)(c:PySem.W.codeIn K cdv qual=true)(k:PySem.W.keepIn K (.ref f)=true):Fun K x qual st f (PySem.W.fnOf x qual (bW st) (bz st) (ar st) .none kV doc pm an cdv ct):=⟨⟨oc,od,kV,doc,pm,an,cdv,ct,osl,rfl,l,c⟩,k⟩
end
theorem dw{A:Around}{k:Nat}(hr:Room k A):A.units+1<cLine:=Nat.lt_of_le_of_lt (Nat.add_le_add_left (by decide:1≤64) _) hr.units
theorem bn{n:Nat}(h:n≤1000):n<sizeLine:=Nat.lt_of_le_of_lt h (by decide)
section
variable{X:Cx}
theorem pv(i:Nat){x:Str}{pos:Pos}(hN:X.N[i]?=some x:=by rfl)(hv:iP X.env.scope x:=by first | exact Or.inl rfl | exact Or.inr (Or.inl rfl) | exact Or.inr (Or.inr rfl))(hd:(x == ("__debug__":Str))=false:=by decide)
 (hcd:(x == ("__classdict__":Str))=false:=by decide):PE X (.Name x pos) (cP i):=sX hN hv hd hcd
end
theorem aX{A B:Prop}(h:B):if false=true then A else B:=by
 rw[if_neg Bool.false_ne_true]
 exact h
theorem aY{A B:Prop}(h:A):if true=true then A else B:=by
 rw[if_pos rfl]
 exact h
theorem bT{c A B:Prop}[Decidable c](h1:c→A)(h2:¬c→B):if c then A else B:=by
 by_cases h:c
 ·rw[if_pos h]
  exact h1 h
 ·rw[if_neg h]
  exact h2 h
def Same(H H':Hp):Prop:=∀b o,H b=some o→H' b=some o
theorem Same.refl(H:Hp):Same H H:=fun _ _ h=>h
theorem Same.trans{H H1 H2:Hp}(a:Same H H1)(b:Same H1 H2):Same H H2:=fun c o h=>b c o (a c o h)
theorem Same.free{H H':Hp}(e:Same H H'){l:Addr}(h:H' l=Option.none):H l=Option.none:=by
 cases q:H l with
 | none=>rfl
 | some o=>
   rw[e l o q] at h
   cases h
theorem Same.seq{K:PySem.W.Frag}{H H':Hp}{a:Addr}{xs:List V}(e:Same H H')(h:SqL K H a xs):SqL K H' a xs:=by
 rcases h with(h | ⟨o,h⟩) | h
 ·exact .inl (.inl (e _ _ h))
 ·exact .inl (.inr ⟨o,e _ _ h⟩)
 ·exact .inr h
end L2
set_option maxHeartbeats 4000000
namespace L2
open PySem PySem.Spec PyProof.Rows
def fJ(outer sc:Scope)(x:Str)(M N:List Str):Bool:=
 decide (sc.kind=.function) && sc.names.all (fun y=>decide (y.2≠ .cell)) && sc.names.all (fun y=>decide (y.2=.local→sc.names.lookup y.1=some .local)) && decide (sc.names.lookup x=some .local) &&
 sc.names.all (fun y=>decide (y.2=.free→(outer.names.lookup y.1=some .cell∨outer.names.lookup y.1=some .free))) &&
 decide ((M++[x]).Nodup) && decide (M.length=N.length) && (M.zip N).all (fun p=>decide (p.1=p.2∨sc.names.lookup p.1=none)) && M.all (fun y=>decide (sc.names.lookup y≠some .local))
theorem lg{env:Env}:∀{names:List (Str×NameKind)} {x:Str} {k':NameKind},(names.map fun(n,k)=>if(k == NameKind.free && env.scope.kind == .function && env.kindOf n == some .cell) then(n,NameKind.cell) else(n,k)).lookup x=some k'→
 ∃k,names.lookup x=some k∧(k'=k∨(k=.free∧k'=.cell))
 | [],_,_,h=>by simp at h
 | (n,k)::r,x,k',h=>by
   have ih:= @lg env r x k'
   have h':List.lookup x ((if(k == NameKind.free && env.scope.kind == .function && env.kindOf n == some .cell)=true then(n,NameKind.cell) else(n,k))::_)=some k':=h
   cases hx:x == n with
   | true=>
     by_cases hc:((k == NameKind.free && env.scope.kind == .function && env.kindOf n == some .cell))=true
     ·rw[if_pos hc] at h'
      simp only[List.lookup_cons,hx] at h'
      refine⟨k,by simp[List.lookup_cons,hx],.inr ⟨?_,(Option.some.inj h').symm⟩⟩
      simp only[Bool.and_eq_true,beq_iff_eq] at hc
      exact hc.1.1
     ·rw[if_neg hc] at h'
      simp only[List.lookup_cons,hx] at h'
      exact⟨k,by simp[List.lookup_cons,hx],.inl (Option.some.inj h').symm⟩
   | false=>
     have h'':List.lookup x (r.map fun(n,k)=>if(k == NameKind.free && env.scope.kind == .function && env.kindOf n == some .cell) then(n,NameKind.cell) else(n,k))=some k':=by
      by_cases hc:((k == NameKind.free && env.scope.kind == .function && env.kindOf n == some .cell))=true
      ·rw[if_pos hc] at h';simp only[List.lookup_cons,hx] at h';exact h'
      ·rw[if_neg hc] at h';simp only[List.lookup_cons,hx] at h';exact h'
     obtain⟨k0,a,b⟩:=ih h''
     exact⟨k0,by simp only[List.lookup_cons,hx];exact a,b⟩
theorem ko{env:Env}:∀(names:List (Str×NameKind)) (cs:List (Str×Addr)),(∀y∈names,y.2=.free→∃c,env.cells.lookup y.1=some c)→(∀y c,cs.lookup y=some c→env.cells.lookup y=some c)→∃cl,(forIn names cs fun(x:Str×NameKind) (r:List (Str×Addr))=>(if(x.2 == NameKind.free)=true then(do let a←cellOf env x.1;pure (ForInStep.yield ((x.1,a)::r))) else pure (ForInStep.yield r):Sem _))=pure cl∧
 (∀y c,cl.lookup y=some c→env.cells.lookup y=some c)∧(∀y,((∃c,cs.lookup y=some c)∨(y,NameKind.free)∈names)→∃c,cl.lookup y=some c)
 | [],cs,_,hc=>⟨cs,rfl,hc,fun y h=>by
  rcases h with h | h
  ·exact h
  ·cases h⟩
 | (n,k)::r,cs,hf,hc=>by
   by_cases hk:k=.free
   ·subst hk
    obtain⟨a,ha⟩:=hf (n,.free) List.mem_cons_self rfl
    have hc':∀y c,List.lookup y ((n,a)::cs)=some c→env.cells.lookup y=some c:=fun y c e=>by
     simp only[List.lookup_cons] at e
     split at e
     ·rename_i q
      have q':y=n:=by simpa using q
      subst q'
      exact ha.trans e
     ·exact hc y c e
    obtain⟨cl,h1,h2,h3⟩:=ko r ((n,a)::cs) (fun y hy=>hf y (List.mem_cons_of_mem _ hy)) hc'
    refine⟨cl,?_,h2,fun y h=>?_⟩
    ·rw[List.forIn_cons]
     show((if(NameKind.free == NameKind.free)=true then(do let a←cellOf env n;pure (ForInStep.yield ((n,a)::cs))) else pure (ForInStep.yield cs):Sem _) >>= _)=_
     rw[if_pos (by decide)]
     have e:cellOf env n=pure a:=by unfold cellOf;rw[ha]
     rw[e]
     exact h1
    ·refine h3 y ?_
     rcases h with⟨c,h⟩ | h
     ·left
      simp only[List.lookup_cons]
      split
      ·exact⟨_,rfl⟩
      ·exact⟨c,h⟩
     ·rcases List.mem_cons.mp h with q | q
      ·left
       cases q
       exact⟨a,by simp[List.lookup_cons]⟩
      ·exact .inr q
   ·obtain⟨cl,h1,h2,h3⟩:=ko r cs (fun y hy=>hf y (List.mem_cons_of_mem _ hy)) hc
    refine⟨cl,?_,h2,fun y h=>?_⟩
    ·rw[List.forIn_cons]
     show((if(k == NameKind.free)=true then(do let a←cellOf env n;pure (ForInStep.yield ((n,a)::cs))) else pure (ForInStep.yield cs):Sem _) >>= _)=_
     rw[if_neg (by simpa using hk)]
     exact h1
    ·refine h3 y ?_
     rcases h with h | h
     ·exact .inl h
     ·rcases List.mem_cons.mp h with q | q
      ·cases q;exact absurd rfl hk
      ·exact .inr q
theorem nW{env:Env}{scope:Scope}(hf:∀y∈scope.names,y.2=.free→∃c,env.cells.lookup y.1=some c):∃cl,closureFor scope env=pure cl∧(∀y c,cl.lookup y=some c→env.cells.lookup y=some c)∧(∀y,(y,NameKind.free)∈scope.names→∃c,cl.lookup y=some c):=by
 obtain⟨cl,h1,h2,h3⟩:=ko scope.names [] hf (fun y c e=>by simp at e)
 refine⟨cl,?_,h2,fun y h=>h3 y (.inr h)⟩
 unfold closureFor
 rw[←bind_pure (x:=(pure cl:Sem _)),←h1]
structure CB where
 cl:List (Str×Addr)
 C:Addr
 s2:Shared
 H2:Hp
 fp:List Addr
def Cx.comp(X:Cx)(N':List Str)(scope:Scope)(b:CB):Cx where
 prog:=X.prog
 w:=X.w
 K:=X.K
 mg:=X.mg
 base:=X.base
 A:=X.A
 N:=N'
 s₀:=b.s2
 H₀:=b.H2
 env:=compEnvC scope b.cl b.C X.env
 outer:=X.stack
 stack:=X.stack
 ex:=b.fp
 fn:=fun _=>false
 calm:=X.calm
 pn:=[]
 xe:=fun _ _=>False
structure CompOK(outer sc:Scope)(x:Str)(M N:List Str):Prop where
 kind:sc.kind=.function
 nocell:∀y∈sc.names,y.2≠ .cell
 loc:∀y∈sc.names,y.2=.local→sc.names.lookup y.1=some .local
 own:sc.names.lookup x=some .local
 free:∀y∈sc.names,y.2=.free→(outer.names.lookup y.1=some .cell∨outer.names.lookup y.1=some .free)
 nd:(M++[x]).Nodup
 len:M.length=N.length
 same:∀p∈M.zip N,p.1=p.2∨sc.names.lookup p.1=none
 noloc:∀y∈M,sc.names.lookup y≠some .local
theorem uN{outer sc:Scope}{x:Str}{M N:List Str}(h:fJ outer sc x M N=true):CompOK outer sc x M N:=by
 unfold fJ at h
 simp only[Bool.and_eq_true,decide_eq_true_eq,List.all_eq_true] at h
 obtain⟨⟨⟨⟨⟨⟨⟨⟨h1,h2⟩,h3⟩,h4⟩,h5⟩,h6⟩,h7⟩,h8⟩,h9⟩:=h
 exact⟨h1,h2,h3,h4,h5,h6,h7,h8,h9⟩
section
variable{X:Cx}{pins:List (Addr×Obj)}{σ:St}{H2:Hp}{s2:Shared}{scope:Scope}{x:Str}{M:List Str}{cl:List (Str×Addr)}{fp:List Addr}{h1:Heap}{t':Nat}
theorem Inv.comp(I:Inv X pins σ H2 s2)(K:CompOK X.env.scope scope x M X.N)(hcl:∀y c,cl.lookup y=some c→X.env.cells.lookup y=some c)(hcf:∀y,(y,NameKind.free)∈scope.names→∃c,cl.lookup y=some c)(hfp:∀b∈fp,bV X pins H2 b)(hlt:∀b∈fp,b<s2.heap.objs.size)(kp:∀b o,s2.heap.get? b=some o→h1.get? b=some o)(hD:h1.get? s2.heap.objs.size=some {cls:=.type "list",dict:=none,data:=.seq ([]:List Value).toArray})(hC:h1.Ns (s2.heap.objs.size+1) (fun _=>none)):
 Inv (X.comp (M++[x]) scope ⟨cl,s2.heap.objs.size+1,s2,H2,fp⟩) [] (σ++[none]) (upd H2 s2.heap.objs.size (.lst [])) {s2 with heap:=h1,toks:=t'}:=by
 have cellLt:∀y c,cl.lookup y=some c→c<s2.heap.objs.size:=fun y c e=>by
  obtain⟨v,z⟩:=I.cell y c (hcl y c e)
  exact z.lt
 have kindEq:∀y k',(compEnvC scope cl (s2.heap.objs.size+1) X.env).kindOf y=some k'→∃k,scope.names.lookup y=some k∧(k'=k∨(k=.free∧k'=.cell)):=fun y k' e=>lg e
 have freeOf:∀y k',(compEnvC scope cl (s2.heap.objs.size+1) X.env).kindOf y=some k'→(k'=.cell∨k'=.free)→(y,NameKind.free)∈scope.names:=fun y k' e hk=>by
  obtain⟨k,e1,e2⟩:=kindEq y k' e
  have mem:=PySem.mem_of_lookup e1
  have:k=.free:=by
   rcases e2 with rfl | ⟨rfl,_⟩
   ·rcases hk with rfl | rfl
    ·exact absurd rfl (K.nocell _ mem)
    ·rfl
   ·rfl
  subst this
  exact mem
 have hDn:H2 s2.heap.objs.size=none:=I.hok.fresh (Nat.le_refl _)
 refine⟨⟨I.ok.mod,K.kind,I.ok.glob,I.ok.blt,Nat.le_succ _,fun y z c e1 e2=>I.ok.inj y z c (hcl y c e1) (hcl z c e2),fun y hy=>?_,fun y c hf _=>?_,I.ok.hd,I.ok.frames,.inl rfl,fun b hb=>⟨Nat.ne_of_lt (Nat.lt_succ_of_lt (hlt b hb)),fun y c e=>(hfp b hb).2.2.2.2.1 y c (hcl y c e)⟩,
  fun b o e=>I.bs b o e,Nat.le_trans I.ok.bsz I.sz,fun b o e hb=>?_,fun b hb hf=>?_,I.stack,I.stkFree⟩,rfl,I.bare,Un.laid kp (Nat.le_refl _) hDn,⟨_,hC,fun i y v e1 e2 e3=>?_⟩,fun y c e=>?_,?_,fun y c e=>?_,fun p hp=>absurd (show p∈([]:List (Addr×Obj)) from hp) (by simp),I.hok.laid kp (Nat.le_refl _) ?_,?_⟩
 ·rcases hy with hy | hy
  ·exact hcf y (freeOf y _ hy (.inl rfl))
  ·exact hcf y (freeOf y _ hy (.inr rfl))
 ·exact absurd (show false=true from hf) Bool.false_ne_true
 ·obtain⟨f0,f1,f2,f3,f4,f5⟩:=hfp b hb
  rcases f3 with z | z
  ·exact I.ok.noex b o e z
  ·exact absurd (Nat.lt_of_lt_of_le (Heap.lt_size (I.ok.bs b o e).1) z) (Nat.lt_irrefl _)
 ·obtain⟨f0,f1,f2,f3,f4,f5⟩:=hfp b hb
  rcases List.mem_cons.mp (I.stkSub b hf) with z | z
  ·exact f1 z
  ·exact f2 z
 ·
  have hi:i<σ.length:=by
   by_cases hi:i<σ.length
   ·exact hi
   ·have hz:(σ++[none])[i]?=some (some v):=e2
    rw[List.getElem?_append_right (by lia)] at hz
    by_cases hq:i-σ.length=0
    ·rw[hq] at hz;cases hz
    ·rw[List.getElem?_eq_none (by simp;lia)] at hz;cases hz
  have e2':σ[i]?=some (some v):=by
   have hz:(σ++[none])[i]?=some (some v):=e2
   rw[List.getElem?_append_left hi] at hz
   exact hz
  have hiM:i<M.length:=by rw[K.len,←I.len];exact hi
  have e1':M[i]?=some y:=by
   have hz:(M++[x])[i]?=some y:=e1
   rw[List.getElem?_append_left hiM] at hz
   exact hz
  have hyM:y∈M:=List.mem_of_getElem? e1'
  have e3':∃k',(compEnvC scope cl (s2.heap.objs.size+1) X.env).kindOf y=some k'∧(k'=.cell∨k'=.free):=by
   rcases e3 with z | z | z
   ·obtain⟨k,a,b⟩:=kindEq y _ z
    rcases b with b | ⟨_,b⟩
    ·subst b;exact absurd a (K.noloc y hyM)
    ·cases b
   ·exact⟨_,z,.inl rfl⟩
   ·exact⟨_,z,.inr rfl⟩
  obtain⟨k',ek,hk⟩:=e3'
  have mem:=freeOf y k' ek hk
  obtain⟨k0,a0,_⟩:=kindEq y k' ek
  have hiN:i<X.N.length:=by rw[←K.len];exact hiM
  have eN:X.N[i]?=some y:=by
   have hz:(M[i],X.N[i])∈M.zip X.N:=by
    rw[List.mem_iff_getElem?]
    exact⟨i,List.getElem?_zip_eq_some.mpr ⟨List.getElem?_eq_getElem hiM,List.getElem?_eq_getElem hiN⟩⟩
   have eM:M[i]=y:=by
    rw[List.getElem?_eq_getElem hiM] at e1'
    exact Option.some.inj e1'
   rcases K.same _ hz with q | q
   ·rw[List.getElem?_eq_getElem hiN]
    have q':M[i]=X.N[i]:=q
    rw[←q',eM]
   ·have q':scope.names.lookup M[i]=none:=q
    rw[eM,a0] at q'
    cases q'
  have hv:=K.free _ mem rfl
  obtain⟨m,hn,hl⟩:=I.loc
  obtain⟨u,r,l⟩:=hl i y v eN e2' (hv.elim (fun z=>.inr (.inl z)) (fun z=>.inr (.inr z)))
  refine⟨u,r,.inr ⟨?_,?_⟩⟩
  ·rcases hk with rfl | rfl
   ·exact .inl ek
   ·exact .inr ek
  ·obtain⟨c,ec⟩:=hcf y mem
   refine⟨c,ec,?_⟩
   rcases l with⟨z,_⟩ | ⟨_,c',ec',cc⟩
   ·have z':X.env.scope.names.lookup y=some .local:=z
    rcases hv with q | q <;> (rw[z'] at q;cases q)
   ·have:=(hcl y c ec).symm.trans ec'
    cases this
    obtain⟨o,ho,hd⟩:=cc
    exact⟨o,kp _ o ho,hd⟩
 ·obtain⟨v,o,ho,hd⟩:=I.cell y c (hcl y c e)
  exact⟨v,o,kp _ o ho,hd⟩
 ·show upd H2 s2.heap.objs.size (.lst []) (s2.heap.objs.size+1)=none
  rw[ah (Nat.succ_ne_self _)]
  exact I.hok.fresh (Nat.le_succ _)
 ·rw[ah (Nat.ne_of_lt (cellLt y c e))]
  exact I.freeC y c (hcl y c e)
 ·exact⟨Nat.zero_le _,[],_,.nil,hD⟩
 ·show(σ++[none]).length=(M++[x]).length
  simp[I.len,K.len]
end
theorem mG{prog:Program}{w:World}{A:Around}{R:Result→Shared→Prop}{s:Shared}{elt target iter:Expr}{ifs:List Expr}{scope:Scope}{pos:Pos}{it acc:Value}{env:Env}(I:Nat→Shared→Prop)(onward:∀n s,I n s→wpAny (model prog w) A (pyNext it) (fun r za=>match r with
 | none=>R (.ok .next) za
 | some v=>wpAny (model prog w) A (letOwnedTupleGo target it v) (fun _ zb=>wpAny (model prog w) A (assign target env v) (fun _ zc=>
  wpAny (model prog w) A (forIn ifs true fun c r=>if r=true then do let ok←isTrue c env (eval c env);pure (ForInStep.yield ok) else pure (ForInStep.yield r)) (fun ok zd=>
   if ok=true then wpAny (model prog w) A (eval elt env) (fun x ze=>
    wpAny (model prog w) A (call (.builtin "list.append") [acc,x]) (fun _ zf=>∃m,m<n∧I m zf) (fun _ _=>False) ze) (fun _ _=>False) zd
   else∃m,m<n∧I m zd) (fun _ _=>False) zc) (fun _ _=>False) zb) (fun _ _=>False) za) (fun _ _=>False) s)
 (n:Nat)(h:I n s):
 codeAny (model prog w) A (.compLoop (.ListComp elt [⟨target,iter,ifs,0⟩] scope pos) 0 it acc env) R s:=
 by
 refine codeAny_loop rfl I (fun n s hJ=>?_) n h
 show wpAny _ A ((compTurn (.ListComp elt [⟨target,iter,ifs,0⟩] scope pos) 0 it acc env).onRaise (fun ex=>do noteFrame ex env;theTreesLotGoes ex)) _ _ s
 refine wpAny_noted (wpAny_mono (E:=fun _ _=>False) ?_ (fun _ _ q=>q) fun _ _ z=>z.elim)
 rw[compTurn_list]
 refine wpAny_bind (wpAny_standAt (wpAny_bind (wpAny_mono (onward n s hJ) (fun r za ya=>?_) fun _ _ u=>u)))
 cases r with
 | none=>exact wpAny_pure ya
 | some v=>
   refine wpAny_bind (wpAny_mono ya (fun _ zb yb=>?_) fun _ _ u=>u)
   refine wpAny_bind (wpAny_mono yb (fun _ zc yc=>wpAny_bind (wpAny_mono yc (fun ok zd yd=>?_) fun _ _ u=>u)) fun _ _ u=>u)
   cases ok with
   | false=>exact wpAny_pure ⟨rfl,yd⟩
   | true=>
     exact wpAny_bind (wpAny_bind (wpAny_mono yd (fun x ze ye=>wpAny_bind (wpAny_mono ye (fun _ zf yf=>wpAny_pure (wpAny_pure ⟨rfl,yf⟩)) fun _ _ u=>u)) fun _ _ u=>u))
def ez(X:Cx)(ifs:List Expr)(t:TT):Prop:=
 ∀ (pins:List (Addr×Obj)) (s:Shared) (σ:St) (H:Hp) (Q:Bool→Hp→Prop),Inv X pins σ H s→t σ H Q→
   wpAny (model X.prog X.w) X.A (forIn ifs true fun c r=>if r=true then do let ok←isTrue c X.env (eval c X.env);pure (ForInStep.yield ok) else pure (ForInStep.yield r)) (TP X pins σ Q) X.xe s
def qM:TT:=fun _ H Q=>Q true H
theorem df{X:Cx}:ez X [] qM:=fun pins s σ H Q I h=>wpAny_tests_nil ⟨H,I,h⟩
theorem eP{X:Cx}{c:Expr}{t:TT}(h:PT X c t):ez X [c] t:=fun pins s σ H Q I q=>wpAny_tests_one (h pins s σ H Q I q)
def gJ(wi:TI)(tc:CB→TT)(te:CB→TE):TE:=fun σ H Q=>wi σ H fun J H1=>∀D,H1 D=none→∀b:CB,∃W:Nat→Nat→List V→Hp→Prop,(∃m,W 0 m [] (upd H1 D (.lst [])))∧
 ∀ i m ys H,W i m ys H→(J.stop i H∧Q (.ref D) H)∨(J.go i H∧ys.length<sizeLine∧∃N:List V→Hp→Prop,(∀ys' H',N ys' H'→∃m',m'<m∧W (i+1) m' ys' H')∧∀x H',J.yld i H x H'→tc b (σ++[some x]) H' fun ok H2=>
   if ok=true then te b (σ++[some x]) H2 fun v H3=>H3 D=some (.lst ys)∧N (ys++[v]) (upd H3 D (.lst (ys++[v]))) else N ys H2)
theorem rh{X:Cx}{pins:List (Addr×Obj)}{σ:St}{H:Hp}{s:Shared}{D:Addr}{ys:List V}{v:V}{u:Value}{E:Value→Shared→Prop}(I:Inv X pins σ H s)(hD:H D=some (.lst ys))(hz:ys.length<sizeLine)(r:RelV v u):wpAny (model X.prog X.w) X.A (call (.builtin "list.append") [.ref D,u]) (fun _ s'=>Inv X pins σ (upd H D (.lst (ys++[v]))) s') E s:=by
 obtain⟨z,its,n,rv,hl,e⟩:=I.lstM hD
 refine call_meets F.slot_list_append ⟨_,e,rfl⟩ F.entry_list_append (F.args_list_append_2 _ _) (PySem.list_append D its.toArray n u (by rw[List.size_toArray];lia)) ⟨e,?_⟩
 refine I.lset (its':=its++[u]) hD e (by simp) (rv.append (.cons r .nil)) ?_
 rw[List.length_append,List.length_singleton]
 lia
theorem SameBut.unC{H H':Hp}{fs ex:List Addr}{h h1 h2:Heap}{C:Addr}(u:Un fs ex H H' h h1)(sb:Heap.SameBut C h1 h2)(hC:h.objs.size≤C):Un fs ex H H' h h2:=by
 have ne:∀b o,h.get? b=some o→b≠C:=fun b o e z=>by subst z;exact absurd (Nat.lt_of_lt_of_le (Heap.lt_size e) hC) (Nat.lt_irrefl _)
 refine⟨fun b o e n hb hx=>(sb.2 b (ne b o e)).trans (u.keep b o e n hb hx),fun b o e n hb hx=>?_,u.free,fun b o e hx=>?_,u.tups,u.frzs,u.tbls⟩
 ·obtain⟨sl,q⟩:=u.slot b o e n hb hx
  exact⟨sl,(sb.2 b (ne b o e)).trans q⟩
 ·obtain⟨o',q⟩:=u.there b o e hx
  exact⟨o',(sb.2 b (ne b o e)).trans q⟩
theorem SameBut.hokC{P:Program}{w:World}{H:Hp}{h1 h2:Heap}{C:Addr}(ok:HOk P w H h1)(sb:Heap.SameBut C h1 h2)(hn:H C=none):HOk P w H h2:=fun b ob e=>by
 refine(ok b ob e).stay (fun c w' hc q=>(sb.2 c ?_).trans q) (fun _ q=>q) fun _ _ q=>q
 rintro rfl
 rcases hc with rfl | hc
 ·rw[hn] at e;cases e
 ·rw[hn] at hc;cases hc
theorem qi{X:Cx}{iter elt:Expr}{ifs:List Expr}{x:Str}{px pos pos0:Pos}{scope:Scope}(M:List Str){wi:TI}{tc:CB→TT}{te:CB→TE}{use:Option (Value→Sem Unit)}{R:Value→Shared→Prop}{pins:List (Addr×Obj)}{s:Shared}{σ:St}{H:Hp}{Q:VK}(I:Inv X pins σ H s)(h:gJ wi tc te σ H Q)(hfin:∀(D C:Addr) (m:Str→Option Value) (s':Shared) (H':Hp),s'.heap.Ns C m→bV X pins H' C→(∀h',Heap.SameBut C s'.heap h'→Inv X pins σ H' {s' with heap:=h'})→Q (.ref D) H'→compPost (model X.prog X.w) X.A X.xe use R (.ref D) C (.ok .next) s')(hc:X.calm=true)(hi:PI X (.Name x px) iter wi)(hif:∀b:CB,ez (X.comp (M++[x]) scope b) ifs (tc b))(he:∀b:CB,PE (X.comp (M++[x]) scope b) elt (te b))(ok:fJ X.env.scope scope x M X.N=true:=by kernel_rfl)
 (hs:∀x,foldedSetIterable iter X.env x=pure x:=by intro _;rfl):
 wpAny (model X.prog X.w) X.A (comprehension (.ListComp elt [⟨.Name x px,iter,ifs,0⟩] scope pos) scope X.env pos0 (newList []) false (eval iter X.env) use) R X.xe s:=by
 have K:=uN ok
 obtain⟨cl,hclos,hcl,hcf⟩:=nW (env:=X.env) (scope:=scope) fun y hy hk=>I.ok.has y.1 (K.free y hy hk)
 refine wpAny_comprehension_free (use:=use) rfl hs hclos K.kind K.loc ?_
 refine ak (hi pins s σ H _ I h) fun v s1 h1=>ak h1 fun itv s2 h2=>?_
 obtain⟨it,fp,tn,J,H2,rfl,I2,T,st2,f2,hq⟩:=h2
 refine wpAny_newObj_type (wpAny_newFunctionEnv K.nocell (by intro y hy;simp at hy) (fun h₁ hns₁ hsb₁=>?_) K.kind)
 dsimp only at hns₁ hsb₁ ⊢
 have hsize:(s2.heap.push {cls:=.type "list",dict:=none,data:=.seq ([]:List Value).toArray}).objs.size=s2.heap.objs.size+1:=Heap.size_push ..
 rw[hsize] at hns₁ hsb₁
 have ltD:s2.heap.objs.size≠s2.heap.objs.size+1:=Nat.ne_of_lt (Nat.lt_succ_self _)
 have kp:∀b o,s2.heap.get? b=some o→h₁.get? b=some o:=fun b o e=>hsb₁.extBut b o (Nat.ne_of_lt (Nat.lt_succ_of_lt (Heap.lt_size e))) (Heap.get?_push_of_some _ (Heap.get?_push_of_some _ e))
 have hD:h₁.get? s2.heap.objs.size=some {cls:=.type "list",dict:=none,data:=.seq ([]:List Value).toArray}:=hsb₁.extBut _ _ ltD (Heap.get?_push_of_some _ (Heap.get?_push_size _ rfl))
 have hlt:∀b∈fp,b<s2.heap.objs.size:=fun b hb=>let ⟨o,e,_⟩:=T.obj _ _ st2 b hb;Heap.lt_size e
 have I3:=I2.comp (t':=s2.toks+([]:List (Str×Value)).length) K hcl hcf f2 hlt kp hD hns₁
 obtain⟨W,⟨m0,w0⟩,step⟩:=hq s2.heap.objs.size (I2.hok.fresh (Nat.le_refl _)) ⟨cl,s2.heap.objs.size+1,s2,H2,fp⟩
 have st3:tn 0 h₁:=T.keep _ _ _ st2 fun b _ o e=>kp b o e
 have fr3:∀b∈fp,(upd H2 s2.heap.objs.size (.lst [])) b=none:=fun b hb=>by rw[ah (Nat.ne_of_lt (hlt b hb))];exact(f2 b hb).1
 have fin:∀(s':Shared) (σ':St) (H':Hp),Inv (X.comp (M++[x]) scope ⟨cl,s2.heap.objs.size+1,s2,H2,fp⟩) [] σ' H' s'→Q (.ref s2.heap.objs.size) H'→
  compPost (model X.prog X.w) X.A X.xe use R (.ref s2.heap.objs.size) (s2.heap.objs.size+1) (.ok .next) s':=fun s' σ' H' J' q=>by
  obtain⟨m,hn,_⟩:=id J'.loc
  have hC:H' (s2.heap.objs.size+1)=none:=J'.free
  refine hfin _ _ m s' H' hn (I2.fpOk (Nat.le_succ _) hC) (fun h' sb=>?_) q
  exact I2.call' (ch:=fp) (show s'.os=s2.os from J'.os) (SameBut.unC J'.base sb (Nat.le_succ _)) (SameBut.hokC J'.hok sb hC) J'.bare fun b hb=>by
   obtain⟨f0,f1,f2',f3,f4,f5⟩:=f2 b hb
   exact⟨f3,f1,f4,f5⟩
 have stat:∀{H':Hp},(∀b∈fp,H' b=none)→∀b∈fp,bV (X.comp (M++[x]) scope ⟨cl,s2.heap.objs.size+1,s2,H2,fp⟩) [] H' b:=fun hn b hb=>by
  obtain⟨f0,f1,f2',f3,f4,f5⟩:=f2 b hb
  refine⟨hn b hb,Nat.ne_of_lt (Nat.lt_succ_of_lt (hlt b hb)),fun z=>?_,.inl hb,fun y c e=>f4 y c (hcl y c e),fun p hp=>absurd (show p∈([]:List (Addr×Obj)) from hp) (by simp)⟩
  rcases List.mem_cons.mp (I2.stkSub b z) with z | z
  ·exact f1 z
  ·exact f2' z
 have len3:σ.length=M.length:=by rw[I.len,K.len]
 have loop:codeAny (model X.prog X.w) X.A (.compLoop (.ListComp elt [⟨.Name x px,iter,ifs,0⟩] scope pos) 0 (.ref it) (.ref s2.heap.objs.size) (compEnvC scope cl (s2.heap.objs.size+1) X.env))
  (compPost (model X.prog X.w) X.A X.xe use R (.ref s2.heap.objs.size) (s2.heap.objs.size+1)) {s2 with heap:=h₁,toks:=s2.toks+([]:List (Str×Value)).length}:=by
  refine mG (fun n s'=>∃i ys H',Inv (X.comp (M++[x]) scope ⟨cl,s2.heap.objs.size+1,s2,H2,fp⟩) [] (σ++[none]) H' s'∧tn i s'.heap∧(∀b∈fp,H' b=none)∧W i n ys H') ?_ m0 ⟨0,[],_,I3,st3,fr3,w0⟩
  rintro n s4 ⟨i,ys,H4,I4,st4,fr4,w4⟩
  rcases step i n ys H4 w4 with⟨stop,q⟩ | ⟨go,hz,N,hN,st⟩
  ·refine wpAny_mono (T.done (X.comp (M++[x]) scope ⟨cl,s2.heap.objs.size+1,s2,H2,fp⟩) rfl rfl rfl hc i [] s4 _ H4 (fun _ _=>False) I4 (stat fr4) st4 stop) (fun r s5 ⟨hr,I5⟩=>?_) fun _ _ z=>z
   subst hr
   exact fin s5 _ H4 I5 q
  ·refine wpAny_mono (T.item (X.comp (M++[x]) scope ⟨cl,s2.heap.objs.size+1,s2,H2,fp⟩) rfl rfl rfl hc i [] s4 _ H4 (fun _ _=>False) I4 (stat fr4) st4 go) (fun r s5 ⟨u,hr,h5⟩=>?_) fun _ _ z=>z
   subst hr
   refine wpAny_mono h5 (fun _ s6 ⟨xv,H6,I6,r6,y6,st6,fr6⟩=>?_) fun _ _ z=>z
   have I6':=I6.pinned (stat fr6) (T.obj _ _ st6)
   have hset:(σ++[none]).set σ.length (some xv)=σ++[some xv]:=by simp
   have hNx:(X.comp (M++[x]) scope ⟨cl,s2.heap.objs.size+1,s2,H2,fp⟩).N[σ.length]?=some x:=by
    show(M++[x])[σ.length]?=some x
    rw[len3];simp
   have hlx:(X.comp (M++[x]) scope ⟨cl,s2.heap.objs.size+1,s2,H2,fp⟩).env.scope.names.lookup x=some .local:=lookup_relabel_local K.own
   have PGx:PG (X.comp (M++[x]) scope ⟨cl,s2.heap.objs.size+1,s2,H2,fp⟩) (.Name x px) (cC σ.length):=ba K.nd hNx (.inl hlx) (.inr hlx)
   refine wpAny_mono (PGx _ s6 _ H6 xv u (fun σ' H'=>σ'=σ++[some xv]∧H'=H6) I6' r6 ⟨hset,rfl⟩) (fun _ s7 ⟨σ7,H7,I7,e7,e7'⟩=>?_) fun _ _ z=>z
   subst e7 e7'
   have again:∀{ys':List V} {H8:Hp} {s8:Shared} {m:Nat},Inv (X.comp (M++[x]) scope ⟨cl,s2.heap.objs.size+1,s2,H2,fp⟩) ([]++eZ fp s6.heap) (σ++[some xv]) H8 s8→m<n→W (i+1) m ys' H8→
    ∃m,m<n∧∃i ys H',Inv (X.comp (M++[x]) scope ⟨cl,s2.heap.objs.size+1,s2,H2,fp⟩) [] (σ++[none]) H' s8∧tn i s8.heap∧(∀b∈fp,H' b=none)∧W i m ys H':=fun{ys' H8 s8 m} I8 hm w8=>by
    refine⟨m,hm,i+1,ys',H8,(I8.unpinned).weak (by simp) (fun j v e=>?_),T.keep _ _ _ st6 fun b hb o e=>(I8.pin (b,o) (List.mem_append_right _ (List.mem_append_right _ (e6 hb e)))).1,fun b hb=>?_,w8⟩
    ·by_cases hj:j<σ.length
     ·rw[List.getElem?_append_left hj] at e ⊢;exact e
     ·rw[List.getElem?_append_right (by lia)] at e
      by_cases hq:j-σ.length=0
      ·rw[hq] at e;cases e
      ·rw[List.getElem?_eq_none (by simp;lia)] at e;cases e
    ·obtain⟨o,e,d⟩:=T.obj _ _ st6 b hb
     exact(I8.pin (b,o) (List.mem_append_right _ (List.mem_append_right _ (e6 hb e)))).2.1
   refine wpAny_mono (hif ⟨cl,s2.heap.objs.size+1,s2,H2,fp⟩ _ s7 _ _ _ I7 (st xv _ y6)) (fun ok s8 ⟨H8,I8,q8⟩=>?_) fun _ _ z=>z
   cases ok with
   | false=>
     rw[if_neg Bool.false_ne_true] at q8
     obtain⟨m,hm,w8⟩:=hN _ _ q8
     exact again I8 hm w8
   | true=>
     rw[if_pos rfl] at q8
     refine wpAny_mono (he ⟨cl,s2.heap.objs.size+1,s2,H2,fp⟩ _ s8 _ H8 _ I8 q8) (fun xu s9 ⟨v9,H9,I9,r9,hD9,n9⟩=>?_) fun _ _ z=>z
     obtain⟨m,hm,w9⟩:=hN _ _ n9
     exact wpAny_mono (rh (X:=X.comp (M++[x]) scope ⟨cl,s2.heap.objs.size+1,s2,H2,fp⟩) I9 hD9 hz r9) (fun _ s10 I10=>again I10 hm w9) fun _ _ z=>z
 rw[hsize]
 exact codeAny_compStart_list loop (T.self X.A 0 _ _ _ st3 loop)
theorem cY{X:Cx}{iter elt:Expr}{ifs:List Expr}{x:Str}{px pos:Pos}{scope:Scope}(M:List Str){wi:TI}{tc:CB→TT}{te:CB→TE}(hc:X.calm=true)(hi:PI X (.Name x px) iter wi)(hif:∀b:CB,ez (X.comp (M++[x]) scope b) ifs (tc b))(he:∀b:CB,PE (X.comp (M++[x]) scope b) elt (te b))(ok:fJ X.env.scope scope x M X.N=true:=by kernel_rfl)
 (hs:∀x,foldedSetIterable iter X.env x=pure x:=by intro _;rfl):
 PE X (.ListComp elt [⟨.Name x px,iter,ifs,0⟩] scope pos) (gJ wi tc te):=by
 intro pins s σ H Q I h
 rw[eval_ListComp]
 exact qi M (use:=none) (R:=EP X pins σ Q) I h (fun D C m s' H' hn _ hI q=>⟨m,hn,fun h' sb=>⟨.ref D,H',hI h' sb,rfl,q⟩⟩) hc hi hif he ok hs
theorem Inv.butC{X:Cx}{pins:List (Addr×Obj)}{σ:St}{H:Hp}{s:Shared}{C:Addr}{h':Heap}(I:Inv X pins σ H s)(f:bV X pins H C)(sb:Heap.SameBut C s.heap h'):Inv X pins σ H {s with heap:=h'}:=by
 obtain⟨f0,f1,f2,f3,f4,f5⟩:=f
 refine I.call' (ch:=[C]) rfl ⟨fun b o e n _ hx=>?_,fun b o e n _ hx=>?_,fun b o e n _=>n,fun b o e hx=>?_,fun _ _ z=>z,fun _ _ _ z=>z,fun _ ps z=>⟨#[],by simpa using z⟩⟩ (SameBut.hokC I.hok sb f0) I.bare fun b hb=>?_
 ·exact(sb.2 b (by simpa using hx)).trans e
 ·exact⟨o.slots,(sb.2 b (by simpa using hx)).trans e⟩
 ·exact⟨o,(sb.2 b (by simpa using hx)).trans e⟩
 ·have:b=C:=by simpa using hb
  subst this
  exact⟨f3,f1,f4,f5⟩
theorem iK{X:Cx}{iter elt:Expr}{ifs:List Expr}{x y:Str}{px py pos spos:Pos}{scope:Scope}(M:List Str){i:Nat}{wi:TI}{tc:CB→TT}{te:CB→TE}(hc:X.calm=true)(hN:X.N.Nodup)(hiy:X.N[i]?=some y)(hy:dZ X.env.scope y)(hi:PI X (.Name x px) iter wi)(hif:∀b:CB,ez (X.comp (M++[x]) scope b) ifs (tc b))(he:∀b:CB,PE (X.comp (M++[x]) scope b) elt (te b))(hsw:swapsWith (.ListComp elt [⟨.Name x px,iter,ifs,0⟩] scope pos) (some (.Name y py)) spos.line X.env=pure true:=by rfl)
 (ok:fJ X.env.scope scope x M X.N=true:=by kernel_rfl)
 (hs:∀x,foldedSetIterable iter X.env x=pure x:=by intro _;rfl)
 (hf:X.fn y=true∨X.env.scope.names.lookup y=some .local:=by first | exact .inl rfl | exact .inr rfl | assumption):
 PS X (.Assign [.Name y py] (.ListComp elt [⟨.Name x px,iter,ifs,0⟩] scope pos) spos) (eC (gJ wi tc te) (cC i)):=by
 intro pins s σ H D I h
 rw[exec_Assign_Name_used _ _ _ _ hsw];refine wpAny_bind (wpAny_standAt (wpAny_bind ?_))
 show wpAny _ X.A (do let _←comprehension (.ListComp elt [⟨.Name x px,iter,ifs,0⟩] scope pos) scope X.env _ (newList []) false (eval iter X.env) (some (assign (.Name y py) X.env))) _ _ s
 refine wpAny_bind (wpAny_mono (qi M (use:=some (assign (.Name y py) X.env)) (R:=fun _ s'=>_) I h (fun D' C m s' H' hn f hI q=>?_) hc hi hif he ok hs) (fun _ s' hq=>wpAny_pure (wpAny_pure hq)) fun _ _ e=>e)
 have I':Inv X pins σ H' s':=hI s'.heap ⟨rfl,fun _ _=>rfl⟩
 show wpAny _ X.A (assign (.Name y py) X.env (.ref D')) _ _ _
 refine wpAny_assign_Name (pU (v:=.ref D') I' hN hiy hy rfl (fun s2 I2 ⟨a,sb,ha⟩=>?_) hf)
 have hCa:C≠a:=by
  obtain⟨f0,f1,f2,f3,f4,f5⟩:=f
  rintro rfl
  rcases ha with z | z
  ·exact f1 z
  ·exact f4 _ _ z rfl
 exact⟨m,hn.sameBut sb hCa,fun h' sb'=>⟨_,H',I2.butC f sb',q⟩⟩
theorem eD{lo:Int}{n:Nat}{tc:TT}{te:TE}{σ:St}{H1:Hp}{Q:Hp→Prop}{D:Addr}(Pv:Nat→List V→Hp→Prop)(hn:n<sizeLine)(h0:Pv 0 [] (upd H1 D (.lst [])))(hl:∀i ys H,Pv i ys H→ys.length≤i)(hs:∀i ys H,i<n→Pv i ys H→tc (σ++[some (.int (lo+i))]) H fun b H2=>if b=true then te (σ++[some (.int (lo+i))]) H2 fun v H3=>H3 D=some (.lst ys)∧Pv (i+1) (ys++[v]) (upd H3 D (.lst (ys++[v]))) else Pv (i+1) ys H2)
 (hd:∀ys H,Pv n ys H→Q H):
 ∃ W:Nat→Nat→List V→Hp→Prop,(∃m,W 0 m [] (upd H1 D (.lst [])))∧
   ∀ i m ys H,W i m ys H→((cD lo n).stop i H∧Q H)∨((cD lo n).go i H∧ys.length<sizeLine∧∃N:List V→Hp→Prop,(∀ys' H',N ys' H'→∃m',m'<m∧W (i+1) m' ys' H')∧∀x H',(cD lo n).yld i H x H'→tc (σ++[some x]) H' fun b H2=>
     if b=true then te (σ++[some x]) H2 fun v H3=>H3 D=some (.lst ys)∧N (ys++[v]) (upd H3 D (.lst (ys++[v]))) else N ys H2):=by
 refine⟨fun i m ys H=>m=n-i∧i≤n∧Pv i ys H,⟨n,by simp,Nat.zero_le _,h0⟩,?_⟩
 rintro i m ys H ⟨rfl,hi,p⟩
 by_cases hlt:i<n
 ·refine .inr ⟨hlt,Nat.lt_of_le_of_lt (hl i ys H p) (Nat.lt_trans hlt hn),Pv (i+1),fun ys' H' p'=>⟨n-(i+1),by lia,rfl,hlt,p'⟩,fun x H' y=>?_⟩
  obtain⟨e,y⟩:=y
  subst e y
  exact hs i ys _ hlt p
 ·have e:i=n:=by lia
  subst e
  exact .inl ⟨Nat.le_refl _,hd ys H p⟩
theorem im{K:PySem.W.Frag}{a:Addr}{xs:List V}{tc:TT}{te:TE}{σ:St}{H1:Hp}{Q:Hp→Prop}{D:Addr}(Pv:Nat→List V→Hp→Prop)(hn:xs.length<sizeLine)(h0:Pv 0 [] (upd H1 D (.lst [])))(hl:∀i ys H,Pv i ys H→ys.length≤i)(hq:∀i ys H,i≤xs.length→Pv i ys H→SqL K H a xs)(hs:∀i x ys H,xs[i]?=some x→Pv i ys H→tc (σ++[some x]) H fun b H2=>if b=true then te (σ++[some x]) H2 fun v H3=>H3 D=some (.lst ys)∧Pv (i+1) (ys++[v]) (upd H3 D (.lst (ys++[v]))) else Pv (i+1) ys H2)
 (hd:∀ys H,Pv xs.length ys H→Q H):
 ∃ W:Nat→Nat→List V→Hp→Prop,(∃m,W 0 m [] (upd H1 D (.lst [])))∧
   ∀ i m ys H,W i m ys H→((ce K a).stop i H∧Q H)∨((ce K a).go i H∧ys.length<sizeLine∧∃N:List V→Hp→Prop,(∀ys' H',N ys' H'→∃m',m'<m∧W (i+1) m' ys' H')∧∀x H',(ce K a).yld i H x H'→tc (σ++[some x]) H' fun b H2=>
     if b=true then te (σ++[some x]) H2 fun v H3=>H3 D=some (.lst ys)∧N (ys++[v]) (upd H3 D (.lst (ys++[v]))) else N ys H2):=by
 refine⟨fun i m ys H=>m=xs.length-i∧i≤xs.length∧Pv i ys H,⟨xs.length,by simp,Nat.zero_le _,h0⟩,?_⟩
 rintro i m ys H ⟨rfl,hi,p⟩
 have q:=hq i ys H hi p
 by_cases hlt:i<xs.length
 ·refine .inr ⟨⟨xs,xs[i],q,by simp[hlt]⟩,Nat.lt_of_le_of_lt (hl i ys H p) (Nat.lt_trans hlt hn),Pv (i+1),fun ys' H' p'=>⟨xs.length-(i+1),by lia,rfl,hlt,p'⟩,fun x H' y=>?_⟩
  obtain⟨e,y⟩:=y
  subst e
  exact hs i x ys _ (y xs q) p
 ·have e:i=xs.length:=by lia
  subst e
  exact .inl ⟨⟨xs,q,Nat.le_refl _⟩,hd ys H p⟩
mutual
def DatV(K:PySem.W.Frag)(H:Hp):PyData→V→Prop
 | .none,v=>v=.non
 | .bool b,v=>v=.bl b
 | .int i,v=>v=.int i
 | .str x,v=>v=.str x∧PyData.strOk x=true
 | .list ds,v=>∃a xs,v=.ref a∧SqL K H a xs∧DatVs K H ds xs
 | .tuple ds,v=>∃a xs,v=.ref a∧SqT K H a xs∧DatVs K H ds xs
 | .dict _,_=>False
def DatVs(K:PySem.W.Frag)(H:Hp):List PyData→List V→Prop
 | [],xs=>xs=[]
 | d::ds,xs=>∃x r,xs=x::r∧DatV K H d x∧DatVs K H ds r
end
section
variable{X:Cx}{pins:List (Addr×Obj)}{σ:St}{H:Hp}{s:Shared}
mutual
theorem DatV.reads(I:Inv X pins σ H s):∀(d:PyData) (v:V) (u:Value),DatV X.K H d v→RelV v u→(∃as,Reads s.heap u d as)∧d.canLay0=true
 | .none,v,u,h,r=>by
   rw[DatV] at h;subst h;cases r;exact⟨⟨_,.none⟩,by simp[PyData.canLay0]⟩
 | .bool b,v,u,h,r=>by
   rw[DatV] at h;subst h;cases r;exact⟨⟨_,.bool b⟩,by simp[PyData.canLay0]⟩
 | .int i,v,u,h,r=>by
   rw[DatV] at h;subst h;obtain⟨t,rfl⟩:=r;exact⟨⟨_,.int i t⟩,by simp[PyData.canLay0]⟩
 | .str x,v,u,h,r=>by
   rw[DatV] at h;obtain⟨h,hx⟩:=h;subst h;obtain⟨t,rfl⟩:=r;exact⟨⟨_,.str x t⟩,by simp[PyData.canLay0,hx]⟩
 | .list ds,v,u,h,r=>by
   rw[DatV] at h;obtain⟨a,xs,rfl,hq,hd⟩:=h
   cases r
   obtain⟨its,rv,p,hz⟩:=I.list hq
   obtain⟨⟨as,ra⟩,cl⟩:=DatVs.reads I ds xs its hd rv
   obtain⟨o,ho,hc,n,hdt⟩:=p.isList
   exact⟨⟨_,.list ho hc hdt (by simpa using ra)⟩,by rw[PyData.canLay0];exact cl⟩
 | .tuple ds,v,u,h,r=>by
   rw[DatV] at h;obtain⟨a,xs,rfl,hq,hd⟩:=h
   cases r
   obtain⟨its,rv,p,hz⟩:=I.tuple hq
   obtain⟨⟨as,ra⟩,cl⟩:=DatVs.reads I ds xs its hd rv
   obtain⟨o,ho,hc,n,hdt⟩:=p
   exact⟨⟨_,.tuple ho hc hdt (by simpa using ra)⟩,by rw[PyData.canLay0];exact cl⟩
 | .dict _,v,u,h,r=>by rw[DatV] at h;exact h.elim
theorem DatVs.reads(I:Inv X pins σ H s):∀(ds:List PyData) (vs:List V) (us:List Value),DatVs X.K H ds vs→Vals vs us→(∃as,ReadsAll s.heap us ds as)∧PyData.canLayAll0 ds=true
 | [],vs,us,h,r=>by
   rw[DatVs] at h;subst h;cases r;exact⟨⟨_,.nil⟩,by simp[PyData.canLayAll0]⟩
 | d::ds,vs,us,h,r=>by
   rw[DatVs] at h;obtain⟨x,rr,rfl,h1,h2⟩:=h
   cases r with
   | cons r1 r2=>
     obtain⟨⟨as,ra⟩,ca⟩:=DatV.reads I d x _ h1 r1
     obtain⟨⟨bs,rb⟩,cb⟩:=DatVs.reads I ds rr _ h2 r2
     exact⟨⟨_,.cons ra rb⟩,by rw[PyData.canLayAll0,ca,cb];rfl⟩
end
def eJ(K:PySem.W.Frag)(neg:Bool):R2:=fun x y H Q=>∃da db,DatV K H da x∧DatV K H db y∧min da.depth db.depth≤64∧Q (.bl (if neg then !PyData.eqv da db else PyData.eqv da db)) H
theorem pE{k:Nat}(hr:Room k X.A):OpR X (compareOp .Eq) (eJ X.K false):=by
 intro pins s σ H x y v u Q I rx ry h
 obtain⟨da,db,h1,h2,hd,q⟩:=h
 obtain⟨⟨as,ra⟩,ca⟩:=DatV.reads I da x v h1 rx
 obtain⟨⟨bs,rb⟩,cb⟩:=DatV.reads I db y u h2 ry
 exact SeqAt.compareEq_reads ra rb ca cb (by have:=hr.units;lia) ⟨.bl _,H,I,rfl,q⟩
theorem gL{k:Nat}(hr:Room k X.A):OpR X (compareOp .NotEq) (eJ X.K true):=by
 intro pins s σ H x y v u Q I rx ry h
 obtain⟨da,db,h1,h2,hd,q⟩:=h
 obtain⟨⟨as,ra⟩,ca⟩:=DatV.reads I da x v h1 rx
 obtain⟨⟨bs,rb⟩,cb⟩:=DatV.reads I db y u h2 ry
 exact SeqAt.compareNe_reads ra rb ca cb (by have:=hr.units;lia) ⟨.bl _,H,I,rfl,q⟩
end
theorem o6{K:PySem.W.Frag}{H:Hp}:∀ns:List Int,DatVs K H (ns.map PyData.int) (ns.map V.int)
 | []=>by simp[DatVs]
 | n::ns=>by
   rw[List.map_cons,List.map_cons,DatVs]
   exact⟨_,_,rfl,by rw[DatV],o6 ns⟩
theorem lZ{K:PySem.W.Frag}{H:Hp}{a:Addr}{ns:List Int}(h:SqL K H a (ns.map V.int)):DatV K H (.list (ns.map PyData.int)) (.ref a):=by
 rw[DatV];exact⟨a,_,rfl,h,o6 ns⟩
abbrev aw(c:Nat):Str:=⟨#[c]⟩
abbrev sg(c:Nat):V:=.str (aw c)
theorem mj{K:PySem.W.Frag}{H:Hp}:∀cs:List Nat,(∀c∈cs,c<0x110000)→DatVs K H (cs.map fun c=>PyData.str (aw c)) (cs.map sg)
 | [],_=>by simp[DatVs]
 | c::cs,h=>by
   rw[List.map_cons,List.map_cons,DatVs]
   refine⟨_,_,rfl,?_,mj cs fun c hc=>h c (List.mem_cons_of_mem _ hc)⟩
   rw[DatV]
   exact⟨rfl,by simp[PyData.strOk,h c List.mem_cons_self]⟩
theorem gF{K:PySem.W.Frag}{H:Hp}{a:Addr}{cs:List Nat}(h:SqL K H a (cs.map sg))(hc:∀c∈cs,c<0x110000):DatV K H (.list (cs.map fun c=>PyData.str (aw c))) (.ref a):=by
 rw[DatV];exact⟨a,_,rfl,h,mj cs hc⟩
theorem re:∀ns:List Int,PyData.depthAll (ns.map PyData.int)≤1
 | []=>by simp[PyData.depthAll]
 | n::ns=>by
   have:=re ns
   rw[List.map_cons,PyData.depthAll]
   simp only[PyData.depth]
   lia
theorem m5:∀cs:List Nat,PyData.depthAll (cs.map fun c=>PyData.str (aw c))≤1
 | []=>by simp[PyData.depthAll]
 | c::cs=>by
   have:=m5 cs
   rw[List.map_cons,PyData.depthAll]
   simp only[PyData.depth]
   lia
theorem zk(ns:List Int):(PyData.list (ns.map PyData.int)).depth≤2:=by
 have:=re ns
 rw[PyData.depth];lia
theorem oP(cs:List Nat):(PyData.list (cs.map fun c=>PyData.str (aw c))).depth≤2:=by
 have:=m5 cs
 rw[PyData.depth];lia
theorem l6:∀ns ms:List Int,PyData.eqvAll (ns.map PyData.int) (ms.map PyData.int)=decide (ns=ms)
 | [],[]=>by simp[PyData.eqvAll]
 | [],_::_=>by simp[PyData.eqvAll]
 | _::_,[]=>by simp[PyData.eqvAll]
 | n::ns,m::ms=>by
   rw[List.map_cons,List.map_cons,PyData.eqvAll,l6 ns ms]
   rw[PyData.eqv,Bool.beq_eq_decide_eq]
   simp
theorem vz{a b:Nat}:(aw a == aw b)=decide (a=b):=by
 by_cases h:a=b
 ·subst h;simp
 ·have:aw a≠aw b:=fun e=>h (by simpa [aw] using e)
  simp[h,this]
theorem lJ:∀cs ds:List Nat,PyData.eqvAll (cs.map fun c=>PyData.str (aw c)) (ds.map fun c=>PyData.str (aw c))=decide (cs=ds)
 | [],[]=>by simp[PyData.eqvAll]
 | [],_::_=>by simp[PyData.eqvAll]
 | _::_,[]=>by simp[PyData.eqvAll]
 | c::cs,d::ds=>by
   rw[List.map_cons,List.map_cons,PyData.eqvAll,lJ cs ds,PyData.eqv,vz]
   simp
theorem yH(ns ms:List Int):PyData.eqv (.list (ns.map PyData.int)) (.list (ms.map PyData.int))=decide (ns=ms):=by rw[PyData.eqv,l6]
theorem qE(cs ds:List Nat):PyData.eqv (.list (cs.map fun c=>PyData.str (aw c))) (.list (ds.map fun c=>PyData.str (aw c)))=decide (cs=ds):=by rw[PyData.eqv,lJ]
def rEqI(K:PySem.W.Frag)(neg:Bool):R2:=fun x y H Q=>∃(a b:Addr) (ns ms:List Int),x=.ref a∧y=.ref b∧SqL K H a (ns.map V.int)∧SqL K H b (ms.map V.int)∧Q (.bl (if neg then !decide (ns=ms) else decide (ns=ms))) H
def rEqS(K:PySem.W.Frag)(neg:Bool):R2:=fun x y H Q=>∃(a b:Addr) (cs ds:List Nat),x=.ref a∧y=.ref b∧SqL K H a (cs.map sg)∧SqL K H b (ds.map sg)∧(∀c∈cs,c<0x110000)∧(∀c∈ds,c<0x110000)∧Q (.bl (if neg then !decide (cs=ds) else decide (cs=ds))) H
section
variable{X:Cx}{k:Nat}
theorem OpR.imp{f:Value→Value→Sem Value}{r r':R2}(h:OpR X f r)(i:∀x y H Q,r' x y H Q→r x y H Q):OpR X f r':=fun pins s σ H x y v u Q I rx ry q=>h pins s σ H x y v u Q I rx ry (i _ _ _ _ q)
theorem rEqI.toD{K:PySem.W.Frag}{neg:Bool}:∀x y H Q,rEqI K neg x y H Q→eJ K neg x y H Q:=by
 rintro x y H Q ⟨a,b,ns,ms,rfl,rfl,h1,h2,q⟩
 refine⟨_,_,lZ h1,lZ h2,Nat.le_trans (Nat.min_le_left _ _) (Nat.le_trans (zk ns) (by decide)),?_⟩
 rw[yH]
 exact q
theorem rEqS.toD{K:PySem.W.Frag}{neg:Bool}:∀x y H Q,rEqS K neg x y H Q→eJ K neg x y H Q:=by
 rintro x y H Q ⟨a,b,ns,ms,rfl,rfl,h1,h2,c1,c2,q⟩
 refine⟨_,_,gF h1 c1,gF h2 c2,Nat.le_trans (Nat.min_le_left _ _) (Nat.le_trans (oP ns) (by decide)),?_⟩
 rw[qE]
 exact q
theorem oN(hr:Room k X.A):OpR X (compareOp .Eq) (rEqI X.K false):=(pE hr).imp rEqI.toD
theorem tm(hr:Room k X.A):OpR X (compareOp .NotEq) (rEqI X.K true):=(gL hr).imp rEqI.toD
theorem nF(hr:Room k X.A):OpR X (compareOp .Eq) (rEqS X.K false):=(pE hr).imp rEqS.toD
theorem ph(hr:Room k X.A):OpR X (compareOp .NotEq) (rEqS X.K true):=(gL hr).imp rEqS.toD
theorem oy:OpR X (compareOp .LtE) (fun x y H Q=>∃i j,x=.str i∧y=.str j∧Q (.bl (!decide (j.cps.toList<i.cps.toList))) H):=by
 intro pins s σ H x y v u Q I rx ry h
 obtain⟨i,j,rfl,rfl,q⟩:=h
 obtain⟨t,rfl⟩:=rx
 obtain⟨t',rfl⟩:=ry
 exact PySem.P.le_str ⟨.bl _,H,I,rfl,q⟩
theorem wV:bU X (.builtin "isinstance") (fun xs H Q=>∃x t c b,xs=[x,.ty c]∧TyOf X.K H x t∧PySem.W.kitOne X.K t (.type c)=some b∧Q (.bl b) H):=by
 intro pins s σ H xs us Q I r h
 obtain⟨x,t,c,b,rfl,ty,e,q⟩:=h
 obtain⟨u,u',rfl,rx,rc⟩:=ke r
 cases rc
 exact uA I rx ty e fun tk=>⟨.bl b,H,I.tok tk,rfl,q⟩
end
structure Fn(P:Program)(w:World)(K:PySem.W.Frag)(mg:Str→Option Value)(base:Heap)(CX:bB)(x:Str)(k:Nat)(ps:List Str)(sp:Sp):Prop where
 ex:∃f fd,FnOk P w K mg base CX k f fd ps sp∧mg x=some (.ref f)∧PySem.W.keepIn K (.ref f)=true∧Binds K fd ps []∧∃oc od osl,K.lookup f=some ⟨oc,od,.func fd,osl⟩
theorem aC{X:Cx}{CX:bB}{k j:Nat}{ps:List Str}{sp:Sp}{E:XK}{x:Str}{p pos:Pos}{e:Expr}{es:List Expr}{t:TA}(F:Fn X.prog X.w X.K X.mg X.base CX x k ps sp)(hr:Room j X.A)(hx:gk CX X E)(ha:PA X (e::es) t)(hg:Gl X x:=by rfl)(hj:k≤j:=by decide)
 (hdb:(x == ("__debug__":Str))=false:=by decide)(he:starEach (e::es) X.env=(false,eval e X.env)::starEach es X.env:=by rfl)(hpl:(backTo pos (starEach es X.env)).any (·.1)=false:=by rfl):
 PE X (.Call (.Name x p) (e::es) [] pos) (ig sp [] E t):=by
 obtain⟨f,fd,F,hm,hk,hb,_⟩:=F.ex
 exact vh F (hr.mono hj) hg hm hk hb .nil hx ha hdb he hpl
structure FF(K:PySem.W.Frag)(x:Str)(st:Stmt):Prop where
 ex:∃(f:Addr) (oc:Value) (od an:Option Addr) (osl:Array (Option Value)) (kV doc pm cdv ct:Value),PySem.W.nsIn K mainGlobals x=some (some (.ref f))∧
  K.lookup f=some ⟨oc,od,.func (PySem.W.fnOf x x (bW st) (bz st) (ar st) .none kV doc pm an cdv ct),osl⟩∧PySem.W.codeIn K cdv x=true∧PySem.W.keepIn K (.ref f)=true
theorem ff_mk{K:PySem.W.Frag}{x:Str}{st:Stmt}{f:Addr}{oc:Value}{od an:Option Addr}{osl:Array (Option Value)}{kV doc pm cdv ct:Value}(a:PySem.W.nsIn K mainGlobals x=some (some (.ref f)))(l:K.lookup f=some ⟨oc,od,.func (PySem.W.fnOf x x (bW st) (bz st) (ar st) .none kV doc pm an cdv ct),osl⟩)(c:PySem.W.codeIn K cdv x=true)(k:PySem.W.keepIn K (.ref f)=true):FF K x st:=⟨f,oc,od,an,osl,kV,doc,pm,cdv,ct,a,l,c,k⟩
structure Md(K:PySem.W.Frag)(mg:Str→Option Value):Prop where
 ns:∀x v,PySem.W.nsIn K mainGlobals x=some v→mg x=v
theorem xC{K:PySem.W.Frag}{h:Heap}{mg:Str→Option Value}(X:K.In h)(G:h.Ns mainGlobals mg):Md K mg:=⟨fun x v e=>by
 cases v with
 | none=>exact PySem.W.mg_none_of X G e
 | some u=>exact PySem.W.mg_of X G e⟩
theorem aV{P:Program}{w:World}{K:PySem.W.Frag}{mg:Str→Option Value}{base:Heap}{x:Str}{st:Stmt}{N ps:List Str}{k:Nat}{sp:Sp}(M:Md K mg)(F:FF K x st)(S:FnScope N ps (ar st))(hbind:∀(kV doc pm:Value) (an:Option Addr) (cdv ct:Value) (us:List Value),us.length=ps.length→bindArgs (PySem.W.fnOf x x (bW st) (bz st) (ar st) .none kV doc pm an cdv ct) ⟨us,[]⟩=pure (ps.zip us))(len:∀vs H Q E,sp vs H Q E→vs.length=ps.length)(hbody:∀(f:Addr) (cdv:Value) (A:Around) (outer:List Env) (s:Shared) (H:Hp) (vs:List V) (Q:VK) (E:XK),Room k (A.deeper (envOfC x (ar st) s.heap.objs.size f cdv))→sp vs H Q E→∃t,PSs (bE ai P w K mg base N x (ar st) f cdv A outer s H E).nox (bz st) t∧t {nx:=fun _ H'=>Q .non H',rt:=Q} (start N vs) H):Fn P w K mg base ai x (k+1) ps sp:=by
 obtain⟨f,oc,od,an,osl,kV,doc,pm,cdv,ct,a,l,c,kk⟩:=F.ex
 have F1:=iD (st:=st) l c kk
 exact⟨f,_,F1.ok S len (fun cdv A outer s H vs Q E hr h=>hbody f cdv A outer s H vs Q E hr h),M.ns _ _ a,kk,F1.binds hbind,oc,od,osl,l⟩
theorem pj{CX:bB}{P:Program}{w:World}{K:PySem.W.Frag}{mg:Str→Option Value}{base:Heap}{x:Str}{st:Stmt}{N ps:List Str}{k:Nat}{sp:Sp}(M:Md K mg)(F:FF K x st)(S:FnScope N ps (ar st))(hbind:∀(kV doc pm:Value) (an:Option Addr) (cdv ct:Value) (us:List Value),us.length=ps.length→bindArgs (PySem.W.fnOf x x (bW st) (bz st) (ar st) .none kV doc pm an cdv ct) ⟨us,[]⟩=pure (ps.zip us))(len:∀vs H Q E,sp vs H Q E→vs.length=ps.length)(hbody:∀(f:Addr) (cdv:Value) (A:Around) (outer:List Env) (s:Shared) (H:Hp) (vs:List V) (Q:VK) (E:XK),Room k (A.deeper (envOfC x (ar st) s.heap.objs.size f cdv))→sp vs H Q E→∃t,PSs (bE CX P w K mg base N x (ar st) f cdv A outer s H E) (bz st) t∧t {nx:=fun _ H'=>Q .non H',rt:=Q} (start N vs) H):Fn P w K mg base CX x (k+1) ps sp:=by
 obtain⟨f,oc,od,an,osl,kV,doc,pm,cdv,ct,a,l,c,kk⟩:=F.ex
 have F1:=iD (st:=st) l c kk
 exact⟨f,_,jO l c S len (fun A outer s H vs Q E hr h=>hbody f cdv A outer s H vs Q E hr h),M.ns _ _ a,kk,F1.binds hbind,oc,od,osl,l⟩
structure Bl(mg:Str→Option Value):Prop where
 max:mg "max"=none
 int:mg "int"=none
 len:mg "len"=none
 range:mg "range"=none
 list:mg "list"=none
 isinst:mg "isinstance"=none
 bool:mg "bool"=none
 str:mg "str"=none
 tuple:mg "tuple"=none
 rev:mg "reversed"=none
 zip:mg "zip"=none
 min:mg "min"=none
 sum:mg "sum"=none
 enumerate:mg "enumerate"=none
 dict:mg "dict"=none
theorem bl_of{K:PySem.W.Frag}{mg:Str→Option Value}(M:Md K mg)(b1:PySem.W.nsIn K mainGlobals "max"=some none)(b2:PySem.W.nsIn K mainGlobals "int"=some none)(b3:PySem.W.nsIn K mainGlobals "len"=some none)(b4:PySem.W.nsIn K mainGlobals "range"=some none)(b5:PySem.W.nsIn K mainGlobals "list"=some none)(b6:PySem.W.nsIn K mainGlobals "isinstance"=some none)(b7:PySem.W.nsIn K mainGlobals "bool"=some none)(b8:PySem.W.nsIn K mainGlobals "str"=some none)(b9:PySem.W.nsIn K mainGlobals "tuple"=some none)(b10:PySem.W.nsIn K mainGlobals "reversed"=some none)(b11:PySem.W.nsIn K mainGlobals "zip"=some none)(b12:PySem.W.nsIn K mainGlobals "min"=some none)(b13:PySem.W.nsIn K mainGlobals "sum"=some none)(b14:PySem.W.nsIn K mainGlobals "enumerate"=some none)(b15:PySem.W.nsIn K mainGlobals "dict"=some none):Bl mg:=
 ⟨M.ns _ _ b1,M.ns _ _ b2,M.ns _ _ b3,M.ns _ _ b4,M.ns _ _ b5,M.ns _ _ b6,M.ns _ _ b7,M.ns _ _ b8,M.ns _ _ b9,M.ns _ _ b10,M.ns _ _ b11,M.ns _ _ b12,M.ns _ _ b13,M.ns _ _ b14,M.ns _ _ b15⟩
def Keep(p:Addr)(H H':Hp):Prop:=∀b o,H b=some o→b≠p→H' b=some o
theorem Keep.trans{p:Addr}{H H1 H2:Hp}(a:Keep p H H1)(b:Keep p H1 H2):Keep p H H2:=fun c o h n=>b c o (a c o h n) n
theorem Same.keep{p:Addr}{H H':Hp}(a:Same H H'):Keep p H H':=fun c o h _=>a c o h
theorem Keep.upd{p:Addr}{H:Hp}{o:HO}:Keep p H (upd H p o):=fun c u h n=>by rw[ah n];exact h
theorem Same.upd{H:Hp}{p:Addr}{o:HO}(h:H p=none):Same H (upd H p o):=fun c u e=>by rw[ah (aD e h)];exact e
theorem Keep.free{p:Addr}{H H':Hp}(a:Keep p H H'){o:HO}(hp:H' p=some o){l:Addr}(h:H' l=none):H l=none:=by
 cases q:H l with
 | none=>rfl
 | some u=>
   have:l≠p:=fun z=>by subst z;rw[hp] at h;cases h
   rw[a l u q this] at h;cases h
theorem lX:bootBuiltins "max"=some (.builtin "max"):=by decide+kernel
theorem wo:bootBuiltins "min"=some (.builtin "min"):=by decide+kernel
theorem vU:bootBuiltins "sum"=some (.builtin "sum"):=by decide+kernel
theorem nK:bootBuiltins "len"=some (.builtin "len"):=by decide+kernel
theorem ja:bootBuiltins "isinstance"=some (.builtin "isinstance"):=by decide+kernel
theorem tj:bootBuiltins "int"=some (.type "int"):=by decide+kernel
theorem xG:bootBuiltins "str"=some (.type "str"):=by decide+kernel
theorem ji:bootBuiltins "list"=some (.type "list"):=by decide+kernel
theorem yq:bootBuiltins "reversed"=some (.type "reversed"):=by decide+kernel
section
variable{X:Cx}{e e2:Expr}{te te2:TE}{p p2 pos:Pos}
theorem PE.imp{t t':TE}(h:PE X e t)(i:∀σ H Q,t' σ H Q→t σ H Q):PE X e t':=fun pins s σ H Q I q=>h pins s σ H Q I (i σ H Q q)
def nw(K:PySem.W.Frag)(te:TE):TE:=fun σ H Q=>te σ H fun x H1=>∃a ys,x=.ref a∧SqL K H1 a ys∧Q (.int ys.length) H1
def yn(te:TE):TE:=fun σ H Q=>te σ H fun x H1=>∃z,x=.str z∧z.length≤sizeLine∧Q (.int z.length) H1
def tE(te te2:TE):TE:=fun σ H Q=>te σ H fun x H1=>te2 σ H1 fun y H2=>∃i j,x=.int i∧y=.int j∧Q (.int (if j>i then j else i)) H2
def oG(te:TE):TE:=fun σ H Q=>te σ H fun x H1=>∃k,x=.bl k∧Q (.int (if k then 1 else 0)) H1
def u4(K:PySem.W.Frag)(te:TE):TE:=fun σ H Q=>te σ H fun x H1=>∃a ys,x=.ref a∧SqL K H1 a ys∧∀l,H1 l=none→Q (.ref l) (upd H1 l (.lst ys))
def zE(K:PySem.W.Frag)(c:String)(te:TE):TE:=fun σ H Q=>te σ H fun x H1=>∃t b,TyOf K H1 x t∧PySem.W.kitOne K t (.type c)=some b∧Q (.bl b) H1
def r1(r:V→Hp→VK→Prop):List V→Hp→VK→Prop:=fun xs H Q=>match xs with | [x]=>r x H Q | _=>False
def eO(r:V→V→Hp→VK→Prop):List V→Hp→VK→Prop:=fun xs H Q=>match xs with | [x,y]=>r x y H Q | _=>False
theorem cR{f:Value}{r:V→Hp→VK→Prop}(h:∀pins s σ H x us Q,Inv X pins σ H s→Vals [x] us→r x H Q→wpAny (model X.prog X.w) X.A (call f us) (EP X pins σ Q) X.xe s):bU X f (r1 r):=by
 intro pins s σ H xs us Q I rv q
 match xs,q with
 | [x],q=>exact h pins s σ H x us Q I rv q
theorem fE{f:Value}{r:V→V→Hp→VK→Prop}(h:∀pins s σ H x y us Q,Inv X pins σ H s→Vals [x,y] us→r x y H Q→wpAny (model X.prog X.w) X.A (call f us) (EP X pins σ Q) X.xe s):bU X f (eO r):=by
 intro pins s σ H xs us Q I rv q
 match xs,q with
 | [x,y],q=>exact h pins s σ H x y us Q I rv q
theorem aR(hm:X.mg "len"=none)(ha:PE X e te)(hg:Gl X "len":=by rfl)(he:starEach [e] X.env=[(false,eval e X.env)]:=by rfl):PE X (.Call (.Name "len" p) [e] [] pos) (nw X.K te):=
 cL (r:=r1 fun x H Q=>∃a ys,x=.ref a∧SqL X.K H a ys∧Q (.int ys.length) H) (cR fun pins s σ H x us Q I rv ⟨a,ys,ex,h,q⟩=>yz pins s σ H _ us Q I rv ⟨a,ys,by rw[ex],.inl h,q⟩) hg hm nK (aa ha ac (by exact he)) (he:=by exact he)
theorem si(hm:X.mg "len"=none)(ha:PE X e te)(hg:Gl X "len":=by rfl)(he:starEach [e] X.env=[(false,eval e X.env)]:=by rfl):PE X (.Call (.Name "len" p) [e] [] pos) (yn te):=
 cL (r:=r1 fun x H Q=>∃z,x=.str z∧z.length≤sizeLine∧Q (.int z.length) H) (cR fun pins s σ H x us Q I rv ⟨z,ex,h,q⟩=>sx pins s σ H _ us Q I rv ⟨z,by rw[ex],h,q⟩) hg hm nK (aa ha ac (by exact he)) (he:=by exact he)
theorem iF(hc:X.calm=true)(hm:X.mg "max"=none)(ha:PE X e te)(hb:PE X e2 te2)(hg:Gl X "max":=by rfl)(he:starEach [e,e2] X.env=[(false,eval e X.env),(false,eval e2 X.env)]:=by rfl)(he2:starEach [e2] X.env=[(false,eval e2 X.env)]:=by rfl):PE X (.Call (.Name "max" p) [e,e2] [] pos) (tE te te2):=
 cL (r:=eO fun x y H Q=>∃i j,x=.int i∧y=.int j∧Q (.int (if j>i then j else i)) H) (fE fun pins s σ H x y us Q I rv ⟨i,j,ex,ey,q⟩=>xi hc pins s σ H _ us Q I rv ⟨i,j,by rw[ex,ey],q⟩) hg hm lX (aa ha (aa hb ac (by exact he2)) (by rw[he,he2])) (he:=by rw[he,he2]) (hpl:=by rw[he2];rfl)
theorem lU(hm:X.mg "int"=none)(ha:PE X e te)(hg:Gl X "int":=by rfl)(he:starEach [e] X.env=[(false,eval e X.env)]:=by rfl):PE X (.Call (.Name "int" p) [e] [] pos) (oG te):=
 fP (r:=r1 fun x H Q=>∃k,x=.bl k∧Q (.int (if k then 1 else 0)) H) (cR fun pins s σ H x us Q I rv ⟨z,ex,q⟩=>yg pins s σ H _ us Q I rv (.inr ⟨z,by rw[ex],q⟩)) hg hm tj (aa ha ac (by exact he)) (he:=by exact he)
theorem ik(hm:X.mg "list"=none)(ha:PE X e te)(hg:Gl X "list":=by rfl)(he:starEach [e] X.env=[(false,eval e X.env)]:=by rfl):PE X (.Call (.Name "list" p) [e] [] pos) (u4 X.K te):=
 fP (r:=r1 fun x H Q=>∃a ys,x=.ref a∧SqL X.K H a ys∧∀l,H l=none→Q (.ref l) (upd H l (.lst ys))) (cR fun pins s σ H x us Q I rv ⟨a,ys,ex,h,q⟩=>ue pins s σ H _ us Q I rv ⟨a,ys,by rw[ex],.inl h,q⟩) hg hm ji (aa ha ac (by exact he)) (he:=by exact he)
theorem pA{T:Str}{c:String}(hm:X.mg "isinstance"=none)(hT:X.mg T=none)(hb:bootBuiltins T=some (.type c))(ha:PE X e te)(hg:Gl X "isinstance":=by rfl)(hgT:Gl X T:=by rfl)(he:starEach [e,.Name T p2] X.env=[(false,eval e X.env),(false,eval (.Name T p2) X.env)]:=by rfl)
 (hn:T≠"__name__":=by decide)(hd:(T == ("__debug__":Str))=false:=by decide):PE X (.Call (.Name "isinstance" p) [e,.Name T p2] [] pos) (zE X.K c te):=
 cL (r:=eO fun x y H Q=>∃t b,y=.ty c∧TyOf X.K H x t∧PySem.W.kitOne X.K t (.type c)=some b∧Q (.bl b) H)
  (fE fun pins s σ H x y us Q I rv ⟨t,b,ey,ty,ek,q⟩=>wV pins s σ H _ us Q I rv ⟨x,t,c,b,by rw[ey],ty,ek,q⟩) hg hm ja
  (aa ha (aa (oT (v:=.ty c) hgT hT hb rfl hn hd) ac) (by exact he)) (he:=by exact he) |>.imp fun σ H Q h=>by
   show te σ H fun x H1=>∃t b,V.ty c=.ty c∧_
   simp only[true_and]
   exact h
end
theorem hV(n d:Nat)(i:Int)(h:0≤i):HT.sIx n d (some i)=min i.toNat n:=by
 show(if i<0 then(i+(n:Int)).toNat else min i.toNat n)=min i.toNat n
 rw[if_neg (by lia)]
theorem yP{α:Type}(xs:List α)(k:Nat):xs.take (min k xs.length)=xs.take k:=by
 rcases Nat.le_total k xs.length with h | h
 ·rw[Nat.min_eq_left h]
 ·rw[Nat.min_eq_right h,List.take_length,List.take_of_length_le h]
theorem pM{α:Type}(xs:List α)(k:Nat):xs.drop (min k xs.length)=xs.drop k:=by
 rcases Nat.le_total k xs.length with h | h
 ·rw[Nat.min_eq_left h]
 ·rw[Nat.min_eq_right h,List.drop_length,List.drop_of_length_le h]
def cO{α:Type}(xs:List α)(lo hi:Option Int):List α:=(xs.drop (HT.sIx xs.length 0 lo)).take (HT.sIx xs.length xs.length hi-HT.sIx xs.length 0 lo)
theorem gm{α:Type}(xs:List α)(k:Int)(h:0≤k):cO xs none (some k)=xs.take k.toNat:=by
 unfold cO
 rw[hV _ _ _ h,HT.sIx_none,List.drop_zero,Nat.sub_zero,yP]
theorem qC{α:Type}(xs:List α)(k:Int)(h:0≤k):cO xs (some k) none=xs.drop k.toNat:=by
 unfold cO
 rw[hV _ _ _ h,HT.sIx_none,pM]
 exact List.take_of_length_le (by rw[List.length_drop];lia)
theorem qB{α:Type}(xs:List α)(i j:Int)(hi:0≤i)(hj:i≤j):cO xs (some i) (some j)=(xs.drop i.toNat).take (j.toNat-i.toNat):=by
 unfold cO
 rw[hV _ _ _ hi,hV _ _ _ (Int.le_trans hi hj),pM]
 rcases Nat.le_total j.toNat xs.length with h | h
 ·rw[Nat.min_eq_left h,Nat.min_eq_left (by lia)]
 ·rw[Nat.min_eq_right h]
  rcases Nat.le_total i.toNat xs.length with h' | h'
  ·rw[Nat.min_eq_left h',List.take_of_length_le (by rw[List.length_drop];lia),List.take_of_length_le (by rw[List.length_drop];lia)]
  ·rw[List.drop_of_length_le h'];simp
theorem dD{α β:Type}(f:α→β)(xs:List α)(lo hi:Option Int):cO (xs.map f) lo hi=(cO xs lo hi).map f:=by
 unfold cO
 rw[List.length_map,List.map_take,List.map_drop]
theorem dq(xs:List V)(lo hi:Option Int):bi xs lo hi=cO xs lo hi:=rfl
theorem kP{α:Type}(xs:List α)(r:Int)(h0:0≤r)(h1:r<xs.length):∃v,xs[r.toNat]?=some v∧v∈xs∧bc xs r=some v:=by
 have hl:r.toNat<xs.length:=by lia
 refine⟨xs[r.toNat],by simp[hl],List.getElem_mem hl,?_⟩
 have e:((r.toNat:Nat):Int)=r:=by lia
 have q:bc xs ((r.toNat:Nat):Int)=some xs[r.toNat]:=cM (by simp[hl])
 rw[e] at q
 exact q
theorem wv(n:Nat)(i:Int)(h0:0≤i)(h1:i<n):du n i=some i.toNat:=by
 unfold du
 rw[if_pos h0,if_pos h1]
theorem wK(cs:List Nat):(Str.length ⟨cs.toArray⟩)=cs.length:=by simp[Str.length]
def dm(K:PySem.W.Frag)(a:Addr)(xs:List V):It:=
 ⟨fun i H=>SqL K H a xs∧i<xs.length,fun i H x H'=>H'=H∧xs[xs.length-1-i]?=some x,fun i _=>xs.length≤i⟩
theorem sK{P:Program}{w:World}{K:PySem.W.Frag}{tg:Expr}(a it:Addr)(xs:List V):Turn P w K tg (dm K a xs) [it] it (fun i h=>i≤xs.length∧h.IsRevIter it a ((xs.length:Int)-1-(i:Int))) where
 mem:=by simp
 obj:=fun i h st b hb=>by
  have e:b=it:=by simpa using hb
  subst e
  obtain⟨o,e,c,d⟩:=st.2
  exact⟨o,e,fun v z=>by rw[d] at z;cases z⟩
 keep:=fun i h h' st k=>⟨st.1,st.2.at fun o e=>k it (by simp) o e⟩
 item:=by
  intro X hP hw hK hc i pins s σ H E I hf st hg
  subst hP hw hK
  obtain⟨hq,hx⟩:=hg
  obtain⟨its,rv,p,hz⟩:=I.list hq
  have hlt:xs.length-1-i<xs.length:=by lia
  obtain⟨u,hu,ru⟩:=rv.get (show xs[xs.length-1-i]?=some xs[xs.length-1-i] by simp[hlt])
  obtain⟨f0,f1,f2,f3,f4,f5⟩:=hf it (by simp)
  have e1:(xs.length:Int)-1-(i:Int)=((xs.length-1-i:Nat):Int):=by lia
  have hit:=st.2
  rw[e1] at hit
  refine wpAny_pyNext_rev_item hit p.isList (x:=u) (by simpa using hu) fun h' st' sb=>?_
  have e2:((xs.length-1-i:Nat):Int)-1=(xs.length:Int)-1-((i+1:Nat):Int):=by lia
  rw[e2] at st'
  have I1:Inv X pins σ H {s with heap:=h'}:=I.turned (t':=s.toks) (fun b o hb e=>(sb.2 b hb).trans e) f0 f1 f3 f4 f5
  obtain⟨o,e,c,d⟩:=id st'
  exact⟨u,rfl,fA (s:={s with heap:=h'}) e c d (by decide) ⟨_,H,I1,ru,⟨rfl,by simp[hlt]⟩,⟨hx,st'⟩,fun b hb=>(hf b hb).1⟩⟩
 done:=by
  intro X hP hw hK hc i pins s σ H E I hf st hg
  subst hP hw hK
  obtain⟨f0,f1,f2,f3,f4,f5⟩:=hf it (by simp)
  have hg':xs.length≤i:=hg
  have e1:(xs.length:Int)-1-(i:Int)= -1:=by have:=st.1;lia
  have hit:=st.2
  rw[e1] at hit
  exact wpAny_pyNext_rev_end (I.ok.hd hc) hit fun h' eb=>⟨rfl,I.turned (t':=s.toks) (fun b o hb e=>eb b o hb e) f0 f1 f3 f4 f5⟩
 self:=fun _ _ _ _ _ st h=>wpAny_pyIter_revIter st.2 h
def vx(K:PySem.W.Frag)(tl:TE):TI:=fun σ H R=>tl σ H fun x H1=>∃a xs,x=.ref a∧SqL K H1 a xs∧R (dm K a xs) H1
theorem vq{X:Cx}{tg e:Expr}{te:TE}{p pos:Pos}(hm:X.mg "reversed"=none)(he:PE X e te)(hg:Gl X "reversed":=by rfl)(hs:starEach [e] X.env=[(false,eval e X.env)]:=by rfl):PI X tg (.Call (.Name "reversed" p) [e] [] pos) (vx X.K te):=by
 intro pins s σ H R I h
 refine Call_ (dO I hg hm yq (PyProof.Rows.callWith_type1 (ak ((aa he ac (by exact hs)) pos pins s σ H (fun vs H1=>∃x,vs=[x]∧∃a xs,x=.ref a∧SqL X.K H1 a xs∧R (dm X.K a xs) H1) I ?_) fun us s1 ⟨vs,H1,I1,r1,q1⟩=>?_) hs rfl))
 ·show te σ H fun x H1=>∃x',[x]=[x']∧∃a xs,x'=.ref a∧SqL X.K H1 a xs∧R (dm X.K a xs) H1
  have e:(fun(x:V) (H1:Hp)=>∃x',[x]=[x']∧∃a xs,x'=V.ref a∧SqL X.K H1 a xs∧R (dm X.K a xs) H1)=fun x H1=>∃a xs,x=.ref a∧SqL X.K H1 a xs∧R (dm X.K a xs) H1:=by
   funext x H1
   apply propext
   constructor
   ·rintro⟨x',e,r⟩
    cases e
    exact r
   ·intro r
    exact⟨x,rfl,r⟩
  rw[e]
  exact h
 ·obtain⟨x,rfl,a,xs,rfl,hq,q⟩:=q1
  obtain⟨u,rfl,ru⟩:=dN r1
  cases ru
  obtain⟨its,rv,pl,hz⟩:=I1.list hq
  refine call_reversed_list pl.isList ?_
  have I2:Inv X pins σ H1 {s1 with heap:=s1.heap.push (revObj a ((its.toArray.size:Int)-1))}:=I1.kept (t':=s1.toks) fun b o e=>Heap.get?_push_of_some _ e
  have hl:=rv.length
  have st:({s1 with heap:=s1.heap.push (revObj a ((its.toArray.size:Int)-1))}:Shared).heap.IsRevIter s1.heap.objs.size a ((xs.length:Int)-1-((0:Nat):Int)):=by
   refine⟨_,Heap.get?_push_size _ rfl,rfl,?_⟩
   have:(its.toArray.size:Int)-1=(xs.length:Int)-1-((0:Nat):Int):=by simp;lia
   rw[←this];rfl
  refine wpAny_pyIter_revIter st ?_
  refine⟨s1.heap.objs.size,[s1.heap.objs.size],_,_,H1,rfl,I2,sK a _ xs,⟨Nat.zero_le _,st⟩,fun b hb=>?_,q⟩
  have e:b=s1.heap.objs.size:=by simpa using hb
  subst e
  exact I1.fpOk (Nat.le_refl _) (I1.hok.fresh (Nat.le_refl _))
theorem tz{K:PySem.W.Frag}{a:Addr}{xs:List V}{tc:TT}{te:TE}{σ:St}{H1:Hp}{Q:Hp→Prop}{D:Addr}(Pv:Nat→List V→Hp→Prop)(hn:xs.length<sizeLine)(h0:Pv 0 [] (upd H1 D (.lst [])))(hl:∀i ys H,Pv i ys H→ys.length≤i)(hq:∀i ys H,i≤xs.length→Pv i ys H→SqL K H a xs)(hs:∀i x ys H,xs[xs.length-1-i]?=some x→i<xs.length→Pv i ys H→tc (σ++[some x]) H fun b H2=>if b=true then te (σ++[some x]) H2 fun v H3=>H3 D=some (.lst ys)∧Pv (i+1) (ys++[v]) (upd H3 D (.lst (ys++[v]))) else Pv (i+1) ys H2)
 (hd:∀ys H,Pv xs.length ys H→Q H):
 ∃ W:Nat→Nat→List V→Hp→Prop,(∃m,W 0 m [] (upd H1 D (.lst [])))∧
   ∀ i m ys H,W i m ys H→((dm K a xs).stop i H∧Q H)∨((dm K a xs).go i H∧ys.length<sizeLine∧∃N:List V→Hp→Prop,(∀ys' H',N ys' H'→∃m',m'<m∧W (i+1) m' ys' H')∧∀x H',(dm K a xs).yld i H x H'→tc (σ++[some x]) H' fun b H2=>
     if b=true then te (σ++[some x]) H2 fun v H3=>H3 D=some (.lst ys)∧N (ys++[v]) (upd H3 D (.lst (ys++[v]))) else N ys H2):=by
 refine⟨fun i m ys H=>m=xs.length-i∧i≤xs.length∧Pv i ys H,⟨xs.length,by simp,Nat.zero_le _,h0⟩,?_⟩
 rintro i m ys H ⟨rfl,hi,p⟩
 have q:=hq i ys H hi p
 by_cases hlt:i<xs.length
 ·refine .inr ⟨⟨q,hlt⟩,Nat.lt_of_le_of_lt (hl i ys H p) (Nat.lt_trans hlt hn),Pv (i+1),fun ys' H' p'=>⟨xs.length-(i+1),by lia,rfl,hlt,p'⟩,fun x H' y=>?_⟩
  obtain⟨e,y⟩:=y
  subst e
  exact hs i x ys _ y hlt p
 ·have e:i=xs.length:=by lia
  subst e
  exact .inl ⟨Nat.le_refl _,hd ys H p⟩
theorem dh{σ:St}{H:Hp}{A B:Hp→Prop}(h:A H):qM σ H fun b H2=>if b=true then A H2 else B H2:=by
 show if true=true then A H else B H
 rw[if_pos rfl]
 exact h
theorem xR{K:PySem.W.Frag}{H:Hp}:DatVs K H [] []:=by rw[DatVs]
theorem zx{K:PySem.W.Frag}{H:Hp}{d:PyData}{ds:List PyData}{v:V}{vs:List V}(h:DatV K H d v)(g:DatVs K H ds vs):DatVs K H (d::ds) (v::vs):=by
 rw[DatVs];exact⟨v,vs,rfl,h,g⟩
theorem o8{K:PySem.W.Frag}{H:Hp}{p:Addr}{ds:List PyData}{vs:List V}(h:SqL K H p vs)(g:DatVs K H ds vs):DatV K H (.list ds) (.ref p):=by
 rw[DatV];exact⟨p,vs,rfl,h,g⟩
theorem sD{K:PySem.W.Frag}{H:Hp}(b:Bool):DatV K H (.bool b) (.bl b):=by rw[DatV]
def gg(cs:List Nat):PyData:=.list (cs.map fun c=>PyData.str (aw c))
theorem vc(cs ds:List Nat):PyData.eqv (gg cs) (gg ds)=decide (cs=ds):=qE cs ds
theorem yF(cs:List Nat):(gg cs).depth≤2:=oP cs
section
variable{X:Cx}{a b e:Expr}{aq:List Expr}{ta tb te:TE}{p pos:Pos}
end
def FW(J:It)(g:TG)(tb:TS)(D:Ends)(σ:St)(H1:Hp):Prop:=∃W:Nat→Nat→St→Hp→Prop,(∃m,W 0 m σ H1)∧∀i m σ H,W i m σ H→
 (J.stop i H∧D.nx σ H)∨(J.go i H∧∃N:St→Hp→Prop,(∀σ' H',N σ' H'→∃m',m'<m∧W (i+1) m' σ' H')∧∀x H',J.yld i H x H'→g x σ H' fun σ2 H2=>tb {D with nx:=N,ct:=N,bk:=D.nx} σ2 H2)
theorem xr{wi:TI}{g:TG}{tb aq:TS}{D:Ends}{σ:St}{H:Hp}(h:wi σ H fun J H1=>FW J g tb {D with nx:=aq D} σ H1):dY (qH wi g tb) aq D σ H:=h
def sy(i j:Int):Prop:=0<j∧j<1000000000000000000000000000000000000000000000000000000000000
theorem o9{X:Cx}:OpR X (binaryOp .FloorDiv) (rI sy fun i j=>.int (i / j)):=gM fun i j _ _ _ _ _ hc q=>by
 have hn:j.natAbs.log2<9000:=by
  have h0:j.natAbs≠0:=by have:=hc.1;lia
  rw[Nat.log2_lt h0]
  have h1:j.natAbs<1000000000000000000000000000000000000000000000000000000000000:=by have:=hc.1;have:=hc.2;lia
  exact Nat.lt_of_lt_of_le h1 (Nat.le_trans (show 1000000000000000000000000000000000000000000000000000000000000≤2 ^ 200 by decide) (Nat.pow_le_pow_right (by decide) (by decide)))
 refine floordiv_int (by have:=hc.1;lia) ?_ (.inl (PyProof.noPylong_of_log2 hn))
 rw[Int.fdiv_eq_ediv_of_nonneg _ (by have:=hc.1;lia)]
 exact q
theorem rK{n:Nat}(h:n≤5000):n<sizeLine:=Nat.lt_of_le_of_lt h (by decide)
section
variable{X:Cx}{e e2:Expr}{te te2:TE}{p p2 pos:Pos}
def wn(te te2:TE):TE:=fun σ H Q=>te σ H fun x H1=>te2 σ H1 fun y H2=>∃i j,x=.int i∧y=.int j∧Q (.int (if j<i then j else i)) H2
theorem kW(hc:X.calm=true)(hm:X.mg "min"=none)(ha:PE X e te)(hb:PE X e2 te2)(hg:Gl X "min":=by rfl)(he:starEach [e,e2] X.env=[(false,eval e X.env),(false,eval e2 X.env)]:=by rfl)(he2:starEach [e2] X.env=[(false,eval e2 X.env)]:=by rfl):PE X (.Call (.Name "min" p) [e,e2] [] pos) (wn te te2):=
 cL (r:=eO fun x y H Q=>∃i j,x=.int i∧y=.int j∧Q (.int (if j<i then j else i)) H) (fE fun pins s σ H x y us Q I rv ⟨i,j,ex,ey,q⟩=>zi hc pins s σ H _ us Q I rv ⟨i,j,by rw[ex,ey],q⟩) hg hm wo (aa ha (aa hb ac (by exact he2)) (by rw[he,he2])) (he:=by rw[he,he2]) (hpl:=by rw[he2];rfl)
end
theorem oW{ns:List Int}:∀j,j≤ns.length→preSum (fun i=>ns.getD i 0) j=(ns.take j).sum
 | 0,_=>by simp[preSum]
 | j+1,h=>by
   rw[show preSum (fun i=>ns.getD i 0) (j+1)=preSum (fun i=>ns.getD i 0) j+ns.getD j 0 from rfl,oW j (by lia),List.take_succ]
   have:ns[j]?=some (ns.getD j 0):=by
    rw[List.getD_eq_getElem?_getD]
    cases q:ns[j]? with
    | none=>rw[List.getElem?_eq_none_iff] at q;lia
    | some v=>rfl
   rw[this,List.sum_append];simp
section
variable{X:Cx}
variable{e:Expr}{te:TE}{p pos:Pos}
end
theorem jy:∀{xs:List V} {us:List Value},xs.length=us.length→(∀(i:Nat) (x:V) (u:Value),xs[i]?=some x→us[i]?=some u→RelV x u)→Vals xs us
 | [],[],_,_=>.nil
 | [],_::_,h,_=>by simp at h
 | _::_,[],h,_=>by simp at h
 | x::xs,u::us,h,g=>.cons (g 0 x u rfl rfl) (jy (by simpa using h) fun i x' u' a b=>g (i+1) x' u' (by simpa using a) (by simpa using b))
section
variable{X:Cx}{e:Expr}{te:TE}{p pos:Pos}
theorem sf(hc:X.calm=true):bU X (.type "list") (fun xs H Q=>∃z:Str,xs=[.str z]∧z.length≤sizeLine∧∀l,H l=none→Q (.ref l) (upd H l (.lst (z.cps.toList.map sg)))):=by
 intro pins s σ H xs us Q I r h
 obtain⟨z,rfl,hz,q⟩:=h
 obtain⟨u,rfl,rx⟩:=dN r
 obtain⟨t,rfl⟩:=rx
 refine call_list_str (hn:=hz) (I.ok.hd hc) z t fun h' tk acc c k hl hit=>?_
 refine⟨.ref _,_,I.laid (t':=tk) (o:=.lst (z.cps.toList.map sg)) k (Nat.le_refl _) ?_,rfl,q _ (I.hok.fresh (Nat.le_refl _))⟩
 obtain⟨hsz,hat⟩:=hit
 refine⟨by rw[List.length_map];simpa [Str.length] using hz,acc.toList,c,?_,by simpa using hl⟩
 refine jy (by rw[List.length_map];simp[hsz]) fun i x u hx hu=>?_
 have hu':acc[i]?=some u:=by simpa using hu
 obtain⟨c',t',h1,rfl⟩:=hat i u hu'
 rw[List.getElem?_map] at hx
 have:z.cps.toList[i]?=some c':=by simpa using h1
 rw[this] at hx
 have e:sg c'=x:=Option.some.inj hx
 subst e
 exact⟨t',rfl⟩
def xL(te:TE):TE:=fun σ H Q=>te σ H fun x H1=>∃z:Str,x=.str z∧z.length≤sizeLine∧∀l,H1 l=none→Q (.ref l) (upd H1 l (.lst (z.cps.toList.map sg)))
theorem zC(hc:X.calm=true)(hm:X.mg "list"=none)(ha:PE X e te)(hg:Gl X "list":=by rfl)(he:starEach [e] X.env=[(false,eval e X.env)]:=by rfl):PE X (.Call (.Name "list" p) [e] [] pos) (xL te):=
 fP (r:=r1 fun x H Q=>∃z:Str,x=.str z∧z.length≤sizeLine∧∀l,H l=none→Q (.ref l) (upd H l (.lst (z.cps.toList.map sg)))) (cR fun pins s σ H x us Q I rv ⟨z,ex,h,q⟩=>sf hc pins s σ H _ us Q I rv ⟨z,by rw[ex],h,q⟩) hg hm ji (aa ha ac (by exact he)) (he:=by exact he)
end
def iu(outer sc:Scope)(xs:List Str)(M N:List Str):Bool:=
 decide (sc.kind=.function) && sc.names.all (fun y=>decide (y.2≠ .cell)) && sc.names.all (fun y=>decide (y.2=.local→sc.names.lookup y.1=some .local)) && xs.all (fun x=>decide (sc.names.lookup x=some .local)) &&
 sc.names.all (fun y=>decide (y.2=.free→(outer.names.lookup y.1=some .cell∨outer.names.lookup y.1=some .free))) &&
 decide ((M++xs).Nodup) && decide (M.length=N.length) && (M.zip N).all (fun p=>decide (p.1=p.2∨sc.names.lookup p.1=none)) && M.all (fun y=>decide (sc.names.lookup y≠some .local))
structure CompOK2(outer sc:Scope)(xs:List Str)(M N:List Str):Prop where
 kind:sc.kind=.function
 nocell:∀y∈sc.names,y.2≠ .cell
 loc:∀y∈sc.names,y.2=.local→sc.names.lookup y.1=some .local
 own:∀x∈xs,sc.names.lookup x=some .local
 free:∀y∈sc.names,y.2=.free→(outer.names.lookup y.1=some .cell∨outer.names.lookup y.1=some .free)
 nd:(M++xs).Nodup
 len:M.length=N.length
 same:∀p∈M.zip N,p.1=p.2∨sc.names.lookup p.1=none
 noloc:∀y∈M,sc.names.lookup y≠some .local
theorem tK{outer sc:Scope}{xs M N:List Str}(h:iu outer sc xs M N=true):CompOK2 outer sc xs M N:=by
 unfold iu at h
 simp only[Bool.and_eq_true,decide_eq_true_eq,List.all_eq_true] at h
 obtain⟨⟨⟨⟨⟨⟨⟨⟨h1,h2⟩,h3⟩,h4⟩,h5⟩,h6⟩,h7⟩,h8⟩,h9⟩:=h
 exact⟨h1,h2,h3,h4,h5,h6,h7,h8,h9⟩
section
variable{X:Cx}{pins:List (Addr×Obj)}{σ:St}{H2:Hp}{s2:Shared}{scope:Scope}{xs M:List Str}{cl:List (Str×Addr)}{fp:List Addr}{h1:Heap}{t':Nat}
theorem Inv.comp2(I:Inv X pins σ H2 s2)(K:CompOK2 X.env.scope scope xs M X.N)(hcl:∀y c,cl.lookup y=some c→X.env.cells.lookup y=some c)(hcf:∀y,(y,NameKind.free)∈scope.names→∃c,cl.lookup y=some c)(hfp:∀b∈fp,bV X pins H2 b)(hlt:∀b∈fp,b<s2.heap.objs.size)(kp:∀b o,s2.heap.get? b=some o→h1.get? b=some o)(hD:h1.get? s2.heap.objs.size=some {cls:=.type "list",dict:=none,data:=.seq ([]:List Value).toArray})(hC:h1.Ns (s2.heap.objs.size+1) (fun _=>none)):
 Inv (X.comp (M++xs) scope ⟨cl,s2.heap.objs.size+1,s2,H2,fp⟩) [] (σ++List.replicate xs.length none) (upd H2 s2.heap.objs.size (.lst [])) {s2 with heap:=h1,toks:=t'}:=by
 have cellLt:∀y c,cl.lookup y=some c→c<s2.heap.objs.size:=fun y c e=>by
  obtain⟨v,z⟩:=I.cell y c (hcl y c e)
  exact z.lt
 have kindEq:∀y k',(compEnvC scope cl (s2.heap.objs.size+1) X.env).kindOf y=some k'→∃k,scope.names.lookup y=some k∧(k'=k∨(k=.free∧k'=.cell)):=fun y k' e=>lg e
 have freeOf:∀y k',(compEnvC scope cl (s2.heap.objs.size+1) X.env).kindOf y=some k'→(k'=.cell∨k'=.free)→(y,NameKind.free)∈scope.names:=fun y k' e hk=>by
  obtain⟨k,e1,e2⟩:=kindEq y k' e
  have mem:=PySem.mem_of_lookup e1
  have:k=.free:=by
   rcases e2 with rfl | ⟨rfl,_⟩
   ·rcases hk with rfl | rfl
    ·exact absurd rfl (K.nocell _ mem)
    ·rfl
   ·rfl
  subst this
  exact mem
 have hDn:H2 s2.heap.objs.size=none:=I.hok.fresh (Nat.le_refl _)
 refine⟨⟨I.ok.mod,K.kind,I.ok.glob,I.ok.blt,Nat.le_succ _,fun y z c e1 e2=>I.ok.inj y z c (hcl y c e1) (hcl z c e2),fun y hy=>?_,fun y c hf _=>?_,I.ok.hd,I.ok.frames,.inl rfl,fun b hb=>⟨Nat.ne_of_lt (Nat.lt_succ_of_lt (hlt b hb)),fun y c e=>(hfp b hb).2.2.2.2.1 y c (hcl y c e)⟩,
  fun b o e=>I.bs b o e,Nat.le_trans I.ok.bsz I.sz,fun b o e hb=>?_,fun b hb hf=>?_,I.stack,I.stkFree⟩,rfl,I.bare,Un.laid kp (Nat.le_refl _) hDn,⟨_,hC,fun i y v e1 e2 e3=>?_⟩,fun y c e=>?_,?_,fun y c e=>?_,fun p hp=>absurd (show p∈([]:List (Addr×Obj)) from hp) (by simp),I.hok.laid kp (Nat.le_refl _) ?_,?_⟩
 ·rcases hy with hy | hy
  ·exact hcf y (freeOf y _ hy (.inl rfl))
  ·exact hcf y (freeOf y _ hy (.inr rfl))
 ·exact absurd (show false=true from hf) Bool.false_ne_true
 ·obtain⟨f0,f1,f2,f3,f4,f5⟩:=hfp b hb
  rcases f3 with z | z
  ·exact I.ok.noex b o e z
  ·exact absurd (Nat.lt_of_lt_of_le (Heap.lt_size (I.ok.bs b o e).1) z) (Nat.lt_irrefl _)
 ·obtain⟨f0,f1,f2,f3,f4,f5⟩:=hfp b hb
  rcases List.mem_cons.mp (I.stkSub b hf) with z | z
  ·exact f1 z
  ·exact f2 z
 ·
  have hi:i<σ.length:=by
   by_cases hi:i<σ.length
   ·exact hi
   ·have hz:(σ++List.replicate xs.length none)[i]?=some (some v):=e2
    rw[List.getElem?_append_right (by lia)] at hz
    rw[List.getElem?_replicate] at hz
    split at hz <;> cases hz
  have e2':σ[i]?=some (some v):=by
   have hz:(σ++List.replicate xs.length none)[i]?=some (some v):=e2
   rw[List.getElem?_append_left hi] at hz
   exact hz
  have hiM:i<M.length:=by rw[K.len,←I.len];exact hi
  have e1':M[i]?=some y:=by
   have hz:(M++xs)[i]?=some y:=e1
   rw[List.getElem?_append_left hiM] at hz
   exact hz
  have hyM:y∈M:=List.mem_of_getElem? e1'
  have e3':∃k',(compEnvC scope cl (s2.heap.objs.size+1) X.env).kindOf y=some k'∧(k'=.cell∨k'=.free):=by
   rcases e3 with z | z | z
   ·obtain⟨k,a,b⟩:=kindEq y _ z
    rcases b with b | ⟨_,b⟩
    ·subst b;exact absurd a (K.noloc y hyM)
    ·cases b
   ·exact⟨_,z,.inl rfl⟩
   ·exact⟨_,z,.inr rfl⟩
  obtain⟨k',ek,hk⟩:=e3'
  have mem:=freeOf y k' ek hk
  obtain⟨k0,a0,_⟩:=kindEq y k' ek
  have hiN:i<X.N.length:=by rw[←K.len];exact hiM
  have eN:X.N[i]?=some y:=by
   have hz:(M[i],X.N[i])∈M.zip X.N:=by
    rw[List.mem_iff_getElem?]
    exact⟨i,List.getElem?_zip_eq_some.mpr ⟨List.getElem?_eq_getElem hiM,List.getElem?_eq_getElem hiN⟩⟩
   have eM:M[i]=y:=by
    rw[List.getElem?_eq_getElem hiM] at e1'
    exact Option.some.inj e1'
   rcases K.same _ hz with q | q
   ·rw[List.getElem?_eq_getElem hiN]
    have q':M[i]=X.N[i]:=q
    rw[←q',eM]
   ·have q':scope.names.lookup M[i]=none:=q
    rw[eM,a0] at q'
    cases q'
  have hv:=K.free _ mem rfl
  obtain⟨m,hn,hl⟩:=I.loc
  obtain⟨u,r,l⟩:=hl i y v eN e2' (hv.elim (fun z=>.inr (.inl z)) (fun z=>.inr (.inr z)))
  refine⟨u,r,.inr ⟨?_,?_⟩⟩
  ·rcases hk with rfl | rfl
   ·exact .inl ek
   ·exact .inr ek
  ·obtain⟨c,ec⟩:=hcf y mem
   refine⟨c,ec,?_⟩
   rcases l with⟨z,_⟩ | ⟨_,c',ec',cc⟩
   ·have z':X.env.scope.names.lookup y=some .local:=z
    rcases hv with q | q <;> (rw[z'] at q;cases q)
   ·have:=(hcl y c ec).symm.trans ec'
    cases this
    obtain⟨o,ho,hd⟩:=cc
    exact⟨o,kp _ o ho,hd⟩
 ·obtain⟨v,o,ho,hd⟩:=I.cell y c (hcl y c e)
  exact⟨v,o,kp _ o ho,hd⟩
 ·show upd H2 s2.heap.objs.size (.lst []) (s2.heap.objs.size+1)=none
  rw[ah (Nat.succ_ne_self _)]
  exact I.hok.fresh (Nat.le_succ _)
 ·rw[ah (Nat.ne_of_lt (cellLt y c e))]
  exact I.freeC y c (hcl y c e)
 ·exact⟨Nat.zero_le _,[],_,.nil,hD⟩
 ·show(σ++List.replicate xs.length none).length=(M++xs).length
  simp[I.len,K.len]
end
def n6(k:Nat)(wi:TI)(g:CB→TG)(tc:CB→TT)(te:CB→TE):TE:=fun σ H Q=>wi σ H fun J H1=>∀D,H1 D=none→∀b:CB,∃W:Nat→Nat→List V→Hp→Prop,(∃m,W 0 m [] (upd H1 D (.lst [])))∧
 ∀ i m ys H,W i m ys H→(J.stop i H∧Q (.ref D) H)∨(J.go i H∧ys.length<sizeLine∧∃N:List V→Hp→Prop,(∀ys' H',N ys' H'→∃m',m'<m∧W (i+1) m' ys' H')∧∀x H',J.yld i H x H'→g b x (σ++List.replicate k none) H' fun σ2 H2=>(∀j,j<σ.length→σ2[j]?=σ[j]?)∧tc b σ2 H2 fun ok H3=>
   if ok=true then te b σ2 H3 fun v H4=>H4 D=some (.lst ys)∧N (ys++[v]) (upd H4 D (.lst (ys++[v]))) else N ys H3)
theorem yS{X:Cx}{iter elt tg:Expr}{ifs:List Expr}(xs:List Str){pos pos0:Pos}{scope:Scope}(M:List Str){wi:TI}{tc:CB→TT}{te:CB→TE}{g:CB→TG}{use:Option (Value→Sem Unit)}{R:Value→Shared→Prop}{pins:List (Addr×Obj)}{s:Shared}{σ:St}{H:Hp}{Q:VK}(I:Inv X pins σ H s)(h:n6 xs.length wi g tc te σ H Q)(hfin:∀(D C:Addr) (m:Str→Option Value) (s':Shared) (H':Hp),s'.heap.Ns C m→bV X pins H' C→(∀h',Heap.SameBut C s'.heap h'→Inv X pins σ H' {s' with heap:=h'})→Q (.ref D) H'→compPost (model X.prog X.w) X.A X.xe use R (.ref D) C (.ok .next) s')(hc:X.calm=true)(hi:PI X tg iter wi)(hg:∀b:CB,PG (X.comp (M++xs) scope b) tg (g b))(hif:∀b:CB,ez (X.comp (M++xs) scope b) ifs (tc b))(he:∀b:CB,PE (X.comp (M++xs) scope b) elt (te b))(ok:iu X.env.scope scope xs M X.N=true:=by kernel_rfl)
 (hs:∀x,foldedSetIterable iter X.env x=pure x:=by intro _;rfl):
 wpAny (model X.prog X.w) X.A (comprehension (.ListComp elt [⟨tg,iter,ifs,0⟩] scope pos) scope X.env pos0 (newList []) false (eval iter X.env) use) R X.xe s:=by
 have K:=tK ok
 obtain⟨cl,hclos,hcl,hcf⟩:=nW (env:=X.env) (scope:=scope) fun y hy hk=>I.ok.has y.1 (K.free y hy hk)
 refine wpAny_comprehension_free (use:=use) rfl hs hclos K.kind K.loc ?_
 refine ak (hi pins s σ H _ I h) fun v s1 h1=>ak h1 fun itv s2 h2=>?_
 obtain⟨it,fp,tn,J,H2,rfl,I2,T,st2,f2,hq⟩:=h2
 refine wpAny_newObj_type (wpAny_newFunctionEnv K.nocell (by intro y hy;simp at hy) (fun h₁ hns₁ hsb₁=>?_) K.kind)
 dsimp only at hns₁ hsb₁ ⊢
 have hsize:(s2.heap.push {cls:=.type "list",dict:=none,data:=.seq ([]:List Value).toArray}).objs.size=s2.heap.objs.size+1:=Heap.size_push ..
 rw[hsize] at hns₁ hsb₁
 have ltD:s2.heap.objs.size≠s2.heap.objs.size+1:=Nat.ne_of_lt (Nat.lt_succ_self _)
 have kp:∀b o,s2.heap.get? b=some o→h₁.get? b=some o:=fun b o e=>hsb₁.extBut b o (Nat.ne_of_lt (Nat.lt_succ_of_lt (Heap.lt_size e))) (Heap.get?_push_of_some _ (Heap.get?_push_of_some _ e))
 have hD:h₁.get? s2.heap.objs.size=some {cls:=.type "list",dict:=none,data:=.seq ([]:List Value).toArray}:=hsb₁.extBut _ _ ltD (Heap.get?_push_of_some _ (Heap.get?_push_size _ rfl))
 have hlt:∀b∈fp,b<s2.heap.objs.size:=fun b hb=>let ⟨o,e,_⟩:=T.obj _ _ st2 b hb;Heap.lt_size e
 have I3:=I2.comp2 (t':=s2.toks+([]:List (Str×Value)).length) K hcl hcf f2 hlt kp hD hns₁
 obtain⟨W,⟨m0,w0⟩,step⟩:=hq s2.heap.objs.size (I2.hok.fresh (Nat.le_refl _)) ⟨cl,s2.heap.objs.size+1,s2,H2,fp⟩
 have st3:tn 0 h₁:=T.keep _ _ _ st2 fun b _ o e=>kp b o e
 have fr3:∀b∈fp,(upd H2 s2.heap.objs.size (.lst [])) b=none:=fun b hb=>by rw[ah (Nat.ne_of_lt (hlt b hb))];exact(f2 b hb).1
 have fin:∀(s':Shared) (σ':St) (H':Hp),Inv (X.comp (M++xs) scope ⟨cl,s2.heap.objs.size+1,s2,H2,fp⟩) [] σ' H' s'→Q (.ref s2.heap.objs.size) H'→
  compPost (model X.prog X.w) X.A X.xe use R (.ref s2.heap.objs.size) (s2.heap.objs.size+1) (.ok .next) s':=fun s' σ' H' J' q=>by
  obtain⟨m,hn,_⟩:=id J'.loc
  have hC:H' (s2.heap.objs.size+1)=none:=J'.free
  refine hfin _ _ m s' H' hn (I2.fpOk (Nat.le_succ _) hC) (fun h' sb=>?_) q
  exact I2.call' (ch:=fp) (show s'.os=s2.os from J'.os) (SameBut.unC J'.base sb (Nat.le_succ _)) (SameBut.hokC J'.hok sb hC) J'.bare fun b hb=>by
   obtain⟨f0,f1,f2',f3,f4,f5⟩:=f2 b hb
   exact⟨f3,f1,f4,f5⟩
 have stat:∀{H':Hp},(∀b∈fp,H' b=none)→∀b∈fp,bV (X.comp (M++xs) scope ⟨cl,s2.heap.objs.size+1,s2,H2,fp⟩) [] H' b:=fun hn b hb=>by
  obtain⟨f0,f1,f2',f3,f4,f5⟩:=f2 b hb
  refine⟨hn b hb,Nat.ne_of_lt (Nat.lt_succ_of_lt (hlt b hb)),fun z=>?_,.inl hb,fun y c e=>f4 y c (hcl y c e),fun p hp=>absurd (show p∈([]:List (Addr×Obj)) from hp) (by simp)⟩
  rcases List.mem_cons.mp (I2.stkSub b z) with z | z
  ·exact f1 z
  ·exact f2' z
 have len3:σ.length=M.length:=by rw[I.len,K.len]
 have loop:codeAny (model X.prog X.w) X.A (.compLoop (.ListComp elt [⟨tg,iter,ifs,0⟩] scope pos) 0 (.ref it) (.ref s2.heap.objs.size) (compEnvC scope cl (s2.heap.objs.size+1) X.env))
  (compPost (model X.prog X.w) X.A X.xe use R (.ref s2.heap.objs.size) (s2.heap.objs.size+1)) {s2 with heap:=h₁,toks:=s2.toks+([]:List (Str×Value)).length}:=by
  refine mG (fun n s'=>∃i ys H',Inv (X.comp (M++xs) scope ⟨cl,s2.heap.objs.size+1,s2,H2,fp⟩) [] (σ++List.replicate xs.length none) H' s'∧tn i s'.heap∧(∀b∈fp,H' b=none)∧W i n ys H') ?_ m0 ⟨0,[],_,I3,st3,fr3,w0⟩
  rintro n s4 ⟨i,ys,H4,I4,st4,fr4,w4⟩
  rcases step i n ys H4 w4 with⟨stop,q⟩ | ⟨go,hz,N,hN,st⟩
  ·refine wpAny_mono (T.done (X.comp (M++xs) scope ⟨cl,s2.heap.objs.size+1,s2,H2,fp⟩) rfl rfl rfl hc i [] s4 _ H4 (fun _ _=>False) I4 (stat fr4) st4 stop) (fun r s5 ⟨hr,I5⟩=>?_) fun _ _ z=>z
   subst hr
   exact fin s5 _ H4 I5 q
  ·refine wpAny_mono (T.item (X.comp (M++xs) scope ⟨cl,s2.heap.objs.size+1,s2,H2,fp⟩) rfl rfl rfl hc i [] s4 _ H4 (fun _ _=>False) I4 (stat fr4) st4 go) (fun r s5 ⟨u,hr,h5⟩=>?_) fun _ _ z=>z
   subst hr
   refine wpAny_mono h5 (fun _ s6 ⟨xv,H6,I6,r6,y6,st6,fr6⟩=>?_) fun _ _ z=>z
   have I6':=I6.pinned (stat fr6) (T.obj _ _ st6)
   refine wpAny_mono (hg ⟨cl,s2.heap.objs.size+1,s2,H2,fp⟩ _ s6 _ H6 xv u _ I6' r6 (st xv _ y6)) (fun _ s7 ⟨σ7,H7,I7,ag,q7⟩=>?_) fun _ _ z=>z
   have again:∀{ys':List V} {H8:Hp} {s8:Shared} {m:Nat},Inv (X.comp (M++xs) scope ⟨cl,s2.heap.objs.size+1,s2,H2,fp⟩) ([]++eZ fp s6.heap) σ7 H8 s8→m<n→W (i+1) m ys' H8→
    ∃m,m<n∧∃i ys H',Inv (X.comp (M++xs) scope ⟨cl,s2.heap.objs.size+1,s2,H2,fp⟩) [] (σ++List.replicate xs.length none) H' s8∧tn i s8.heap∧(∀b∈fp,H' b=none)∧W i m ys H':=fun{ys' H8 s8 m} I8 hm w8=>by
    refine⟨m,hm,i+1,ys',H8,(I8.unpinned).weak (by rw[List.length_append,List.length_replicate,I8.len];show _=(M++xs).length;rw[List.length_append,len3]) (fun j v e=>?_),T.keep _ _ _ st6 fun b hb o e=>(I8.pin (b,o) (List.mem_append_right _ (List.mem_append_right _ (e6 hb e)))).1,fun b hb=>?_,w8⟩
    ·by_cases hj:j<σ.length
     ·rw[List.getElem?_append_left hj] at e
      rw[ag j hj];exact e
     ·rw[List.getElem?_append_right (by lia),List.getElem?_replicate] at e
      split at e <;> cases e
    ·obtain⟨o,e,d⟩:=T.obj _ _ st6 b hb
     exact(I8.pin (b,o) (List.mem_append_right _ (List.mem_append_right _ (e6 hb e)))).2.1
   refine wpAny_mono (hif ⟨cl,s2.heap.objs.size+1,s2,H2,fp⟩ _ s7 _ _ _ I7 q7) (fun ok s8 ⟨H8,I8,q8⟩=>?_) fun _ _ z=>z
   cases ok with
   | false=>
     rw[if_neg Bool.false_ne_true] at q8
     obtain⟨m,hm,w8⟩:=hN _ _ q8
     exact again I8 hm w8
   | true=>
     rw[if_pos rfl] at q8
     refine wpAny_mono (he ⟨cl,s2.heap.objs.size+1,s2,H2,fp⟩ _ s8 _ H8 _ I8 q8) (fun xu s9 ⟨v9,H9,I9,r9,hD9,n9⟩=>?_) fun _ _ z=>z
     obtain⟨m,hm,w9⟩:=hN _ _ n9
     exact wpAny_mono (rh (X:=X.comp (M++xs) scope ⟨cl,s2.heap.objs.size+1,s2,H2,fp⟩) I9 hD9 hz r9) (fun _ s10 I10=>again I10 hm w9) fun _ _ z=>z
 rw[hsize]
 exact codeAny_compStart_list loop (T.self X.A 0 _ _ _ st3 loop)
theorem ur{X:Cx}{iter elt tg:Expr}{ifs:List Expr}(xs:List Str){pos:Pos}{scope:Scope}(M:List Str){wi:TI}{tc:CB→TT}{te:CB→TE}{g:CB→TG}(hc:X.calm=true)(hi:PI X tg iter wi)(hg:∀b:CB,PG (X.comp (M++xs) scope b) tg (g b))(hif:∀b:CB,ez (X.comp (M++xs) scope b) ifs (tc b))(he:∀b:CB,PE (X.comp (M++xs) scope b) elt (te b))(ok:iu X.env.scope scope xs M X.N=true:=by kernel_rfl)
 (hs:∀x,foldedSetIterable iter X.env x=pure x:=by intro _;rfl):
 PE X (.ListComp elt [⟨tg,iter,ifs,0⟩] scope pos) (n6 xs.length wi g tc te):=by
 intro pins s σ H Q I h
 rw[eval_ListComp]
 exact yS xs M (use:=none) (R:=EP X pins σ Q) I h (fun D C m s' H' hn _ hI q=>⟨m,hn,fun h' sb=>⟨.ref D,H',hI h' sb,rfl,q⟩⟩) hc hi hg hif he ok hs
inductive TyB (H:Hp):V→Value→Prop where
 | non:TyB H .non (.type "NoneType")
 | bl (x:Bool):TyB H (.bl x) (.type "bool")
 | int (i:Int):TyB H (.int i) (.type "int")
 | str (x:Str):TyB H (.str x) (.type "str")
 | lst {a:Addr} {xs:List V} (e:H a=some (.lst xs)):TyB H (.ref a) (.type "list")
 | tup {a:Addr} {xs:List V} (e:H a=some (.tup xs)):TyB H (.ref a) (.type "tuple")
section
variable{X:Cx}{e:Expr}{te:TE}{p pos:Pos}
end
def bw(P:Program)(w:World):bB:=fun outer H s E e s'=>
 ∃ (a:Addr) (cls a0:Value) (B:Heap) (H':Hp),e=.ref a∧s'.os=s.os∧AllBare s'.gens∧Un (aF outer) [] H H' s.heap s'.heap∧HOk P w H' s'.heap∧H' a=none∧s.heap.get? a=none∧
   Heap.FlyingW B outer a cls a0 s'.heap∧(∀b o,s'.heap.get? b=some o→b∉aF outer→(s.heap.get? b≠none∨H' b≠none)→B.get? b=some o)∧E cls none H'
theorem mK{h h' base base':Heap}:∀{l:List Env},(∀L∈aF l,base'.get? L=none∧∀o,h.get? L=some o→(∀vs,o.data≠ .fields vs)→∃o',h'.get? L=some o'∧o'.data=o.data)→h.FunFrames base l→h'.FunFrames base' l
 | [],_,_=>trivial
 | env::r,k,⟨h1,⟨L,o,h2,h3,h4,h5⟩,h6⟩=>by
   have hL:L∈aF (env::r):=List.mem_filterMap.mpr ⟨env,List.mem_cons_self,h2⟩
   obtain⟨k1,k2⟩:=k L hL
   obtain⟨o',e1,e2⟩:=k2 o h4 h5
   refine⟨h1,⟨L,o',h2,k1,e1,fun vs=>by rw[e2];exact h5 vs⟩,mK (fun L' hL'=>k L' ?_) h6⟩
   obtain⟨en,e3,e4⟩:=List.mem_filterMap.mp hL'
   exact List.mem_filterMap.mpr ⟨en,List.mem_cons_of_mem _ e3,e4⟩
theorem gC{h base:Heap}:∀{l:List Env},h.FunFrames base l→∀L∈aF l,∃o,h.get? L=some o∧∀vs,o.data≠ .fields vs
 | [],_,L,hL=>by cases hL
 | env::r,⟨h1,⟨L',o,h2,h3,h4,h5⟩,h6⟩,L,hL=>by
   obtain⟨en,e3,e4⟩:=List.mem_filterMap.mp hL
   rcases List.mem_cons.mp e3 with z | z
   ·subst z
    have:L=L':=Option.some.inj (e4.symm.trans h2)
    subst this
    exact⟨o,h4,h5⟩
   ·exact gC h6 L (List.mem_filterMap.mpr ⟨en,z,e4⟩)
theorem ObjOk.isAt{P:Program}{w:World}{H:Hp}{h:Heap}{a:Addr}{o:HO}(x:ObjOk P w H h a o):∃ob,h.get? a=some ob:=by
 cases o with
 | lst xs=>obtain⟨_,_,_,_,q⟩:=x;exact⟨_,q⟩
 | tup xs=>obtain⟨_,_,_,ob,q,_⟩:=x;exact⟨_,q⟩
 | dK kvs=>obtain⟨_,_,_,_,ob,_,_,q,_⟩:=x;exact⟨_,q⟩
 | dT kvs=>obtain⟨_,_,_,_,ob,_,_,q,_⟩:=x;exact⟨_,q⟩
 | set S n=>obtain⟨ob,_,_,_,q,_⟩:=x;exact⟨_,q⟩
 | ins C dx fs=>obtain⟨_,_,_,q,_⟩:=x;exact⟨_,q⟩
 | own y=>obtain⟨_,q⟩:=x;exact⟨_,q⟩
 | xd fs=>obtain⟨_,⟨_,_,_,q,_⟩,_⟩:=x;exact⟨_,q⟩
 | rng lo hi=>obtain⟨_,_,_,q⟩:=x;exact⟨_,q⟩
 | frz ob u=>obtain⟨q,_⟩:=x;exact⟨_,q⟩
 | tbl ps=>exact⟨_,(show h.get? a=some _ from x)⟩
 | met f y=>exact⟨_,(show h.get? a=some _ from x)⟩
 | ext φ=>obtain⟨_,⟨_,q⟩,_⟩:=x;exact⟨_,q⟩
theorem mR{P:Program}{w:World}{H:Hp}{h:Heap}(x:HOk P w H h){a:Addr}(e:h.get? a=none):H a=none:=by
 cases q:H a with
 | none=>rfl
 | some o=>
   obtain⟨ob,q'⟩:=(x a o q).isAt
   rw[e] at q';cases q'
section
variable{X:Cx}{pins:List (Addr×Obj)}{σ:St}{H1:Hp}{s1:Shared}
theorem Inv.fsAt(I:Inv X pins σ H1 s1):∀L∈X.fs,∃o,s1.heap.get? L=some o∧(∀vs,o.data≠ .fields vs)∧H1 L=none∧X.base.get? L=none:=fun L hL=>by
 obtain⟨o,h1,h2⟩:=gC I.ok.funs L hL
 have hx:L∉X.ex:=fun z=>I.ok.exfs L z hL
 obtain⟨sl,e⟩:=I.base.slot L o h1 (I.ok.frf L hL) hL hx
 exact⟨_,e,h2,I.base.free L o h1 (I.ok.frf L hL) hx,(I.ok.funs.mem hL).1⟩
theorem wC{A:Around}{outer:List Env}{s:Shared}{H:Hp}{E:XK}{env:Env}{P:Program}{w:World}{e:Addr}{cls:Value}{args:List Value}{h2:Heap}{tk:Nat}(hX:X.A=A.deeper env∧X.env=env∧X.stack=env::outer∧X.outer=outer∧X.s₀=s∧X.H₀=H∧X.ex=[]∧X.prog=P∧X.w=w)(hfr:env.frame=some env.locals)(I:Inv X pins σ H1 s1)(hx:Heap.MadeExcOf s1.heap h2 e cls args)(hE:E cls none H1):wpAny (model P w) (A.deeper env) (leaving env (.ref e)) (fun _ s''=>bw P w outer H s E (.ref e) s'') (fun e' s''=>bw P w outer H s E e' s'') {s1 with heap:=h2,toks:=tk}:=by
 obtain⟨xA,xe,xs,xo,x0,xH,xx,xP,xw⟩:=hX
 subst xe xP xw x0 xH xo
 have hlt:=I.lt
 have hL:∀L∈aF (X.env::X.outer),∃o,s1.heap.get? L=some o∧(∀vs,o.data≠ .fields vs)∧H1 L=none:=fun L hm=>by
  obtain⟨en,e3,e4⟩:=List.mem_filterMap.mp hm
  rcases List.mem_cons.mp e3 with z | z
  ·subst z
   have:L=X.env.locals:=Option.some.inj (e4.symm.trans hfr)
   subst this
   obtain⟨m,hn,_⟩:=I.loc
   obtain⟨o,es,ep,ho,hd,_⟩:=id hn
   exact⟨o,ho,(fun vs q=>by rw[hd] at q;cases q),I.free⟩
  ·obtain⟨o,h1,h2,h3,_⟩:=I.fsAt L (List.mem_filterMap.mpr ⟨en,z,e4⟩)
   exact⟨o,h1,h2,h3⟩
 have dG:∀b u,H1 b=some u→b∉aF (X.env::X.outer):=fun b u e hm=>by
  obtain⟨_,_,_,h3⟩:=hL b hm
  rw[h3] at e;cases e
 have old:∀b o,X.s₀.heap.get? b=some o→b≠X.env.locals:=fun b o q z=>by
  have:=Nat.lt_of_lt_of_le (Heap.lt_size q) I.ok.above
  rw[z] at this;exact absurd this (Nat.lt_irrefl _)
 have nin:∀b,b≠X.env.locals→b∉aF X.outer→b∉aF (X.env::X.outer):=fun b h1 h2 hm=>by
  obtain⟨en,e3,e4⟩:=List.mem_filterMap.mp hm
  rcases List.mem_cons.mp e3 with z | z
  ·subst z
   exact h1 (Option.some.inj (e4.symm.trans hfr))
  ·exact h2 (List.mem_filterMap.mpr ⟨en,z,e4⟩)
 refine wpAny_leaves_madeW (base:=PySem.W.hideAll s1.heap (aF (X.env::X.outer))) (h:=s1.heap) (by rw[←xA,I.ok.frames,xs]) hfr (fun b o q=>PySem.W.of_hideAll _ q) ?_ hx fun h' t f1 f2 f3 f4=>?_
 ·have F:s1.heap.FunFrames X.base X.outer:=I.funs
  have F':s1.heap.FunFrames (PySem.W.hideAll s1.heap (aF (X.env::X.outer))) X.outer:=mK (fun L hm=>⟨PySem.W.hideAll_none _ (by
   obtain⟨en,e3,e4⟩:=List.mem_filterMap.mp hm
   exact List.mem_filterMap.mpr ⟨en,List.mem_cons_of_mem _ e3,e4⟩),fun o q _=>⟨o,q,rfl⟩⟩) F
  obtain⟨o,ho,hd,_⟩:=hL X.env.locals (List.mem_filterMap.mpr ⟨X.env,List.mem_cons_self,hfr⟩)
  exact⟨by rw[I.ok.kind];decide,⟨X.env.locals,o,hfr,PySem.W.hideAll_none _ (List.mem_filterMap.mpr ⟨X.env,List.mem_cons_self,hfr⟩),ho,hd⟩,F'⟩
 ·have st:∀b o,s1.heap.get? b=some o→b∉aF (X.env::X.outer)→h'.get? b=some o:=fun b o q n=>f1.1 b o (PySem.W.hideAll_get _ q n)
  have sl:∀b o,s1.heap.get? b=some o→(∀vs,o.data≠ .fields vs)→∃z,h'.get? b=some {o with slots:=z}:=fun b o q n=>f4 b o (hx.keeps b o q) n
  have isAt:∀b u,H1 b=some u→∃o,s1.heap.get? b=some o:=fun b u q=>by
   cases q':s1.heap.get? b with
   | some o=>exact⟨o,rfl⟩
   | none=>exact absurd q (by rw[mR I.hok q'];simp)
  have eNew:H1 e=none:=mR I.hok hx.new
  refine⟨e,cls,.ref t,PySem.W.hideAll s1.heap (aF (X.env::X.outer)),H1,rfl,I.os,I.bare,⟨fun b o q n hb _=>?_,fun b o q n hb _=>?_,fun b o q n _=>I.base.free b o q n (by rw[xx];simp),fun b o q _=>?_,I.base.tups,I.base.frzs,I.base.tbls⟩,fun b u q=>?_,eNew,?_,f1,?_,hE⟩
  ·exact st b o (I.base.keep b o q n hb (by rw[xx];simp)) (nin b (old b o q) hb)
  ·obtain⟨z,q'⟩:=I.base.slot b o q n hb (by rw[xx];simp)
   obtain⟨o',q2,q3⟩:=gC I.ok.funs b hb
   rw[q] at q2;cases q2
   obtain⟨z',q4⟩:=sl b _ q' q3
   exact⟨z',q4⟩
  ·obtain⟨o',q'⟩:=I.base.there b o q (by rw[xx];simp)
   by_cases hb:b∈aF X.outer
   ·obtain⟨o2,h1,h2,_⟩:=I.fsAt b hb
    obtain⟨z,q4⟩:=sl b o2 h1 h2
    exact⟨_,q4⟩
   ·exact⟨o',st b o' q' (nin b (old b o q) hb)⟩
  ·refine(I.hok b u q).stay (fun c v hc q'=>st c v q' ?_) (fun _ q'=>q') fun _ _ q'=>q'
   rcases hc with z | z
   ·rw[z];exact dG b u q
   ·exact dG c _ z
  ·cases q:X.s₀.heap.get? e with
   | none=>rfl
   | some o=>
     obtain⟨o',q'⟩:=I.base.there e o q (by rw[xx];simp)
     rw[hx.new] at q';cases q'
  ·intro b o q hb hor
   have ex:∃o1,s1.heap.get? b=some o1∧b∉aF (X.env::X.outer):=by
    rcases hor with z | z
    ·cases q0:X.s₀.heap.get? b with
     | none=>exact absurd q0 z
     | some o0=>
       obtain⟨o1,q1⟩:=I.base.there b o0 q0 (by rw[xx];simp)
       exact⟨o1,q1,nin b (old b o0 q0) hb⟩
    ·cases q0:H1 b with
     | none=>exact absurd q0 z
     | some u=>
       obtain⟨o1,q1⟩:=isAt b u q0
       exact⟨o1,q1,dG b u q0⟩
   obtain⟨o1,q1,nb⟩:=ex
   have:=st b o1 q1 nb
   rw[q] at this;cases this
   exact PySem.W.hideAll_get _ q1 nb
theorem sj{A:Around}{outer:List Env}{s:Shared}{H:Hp}{E E':XK}{env:Env}{P:Program}{w:World}{e:Value}{s':Shared}(hX:X.A=A.deeper env∧X.env=env∧X.stack=env::outer∧X.outer=outer∧X.s₀=s∧X.H₀=H∧X.ex=[]∧X.prog=P∧X.w=w)(hfr:env.frame=some env.locals)(I:Inv X pins σ H1 s1)(hx:bw P w X.stack H1 s1 E' e s')(hE:∀cls H',E' cls none H'→E cls none H'):wpAny (model P w) (A.deeper env) (leaving env e) (fun _ s''=>bw P w outer H s E e s'') (fun e' s''=>bw P w outer H s E e' s'') s':=by
 obtain⟨xA,xe,xs,xo,x0,xH,xx,xP,xw⟩:=hX
 subst xe xP xw x0 xH xo
 rw[xs] at hx
 obtain⟨a,cls,a0,B,H',rfl,os,gb,un,hok,ha,hn,fl,hB,he⟩:=hx
 have hL0:X.env.locals∈aF (X.env::X.outer):=List.mem_filterMap.mpr ⟨X.env,List.mem_cons_self,hfr⟩
 have sub:∀b,b∈aF X.outer→b∈aF (X.env::X.outer):=fun b hm=>by
  obtain⟨en,e3,e4⟩:=List.mem_filterMap.mp hm
  exact List.mem_filterMap.mpr ⟨en,List.mem_cons_of_mem _ e3,e4⟩
 have nin:∀b,b≠X.env.locals→b∉aF X.outer→b∉aF (X.env::X.outer):=fun b h1 h2 hm=>by
  obtain⟨en,e3,e4⟩:=List.mem_filterMap.mp hm
  rcases List.mem_cons.mp e3 with z | z
  ·subst z
   exact h1 (Option.some.inj (e4.symm.trans hfr))
  ·exact h2 (List.mem_filterMap.mpr ⟨en,z,e4⟩)
 have old:∀b o,X.s₀.heap.get? b=some o→b≠X.env.locals:=fun b o q z=>by
  have:=Nat.lt_of_lt_of_le (Heap.lt_size q) I.ok.above
  rw[z] at this;exact absurd this (Nat.lt_irrefl _)
 have frn:∀b,b∈aF (X.env::X.outer)→H1 b=none∧H' b=none∧∃o,s1.heap.get? b=some o∧∀vs,o.data≠ .fields vs:=fun b hm=>by
  have h1:∃o,s1.heap.get? b=some o∧(∀vs,o.data≠ .fields vs)∧H1 b=none:=by
   obtain⟨en,e3,e4⟩:=List.mem_filterMap.mp hm
   rcases List.mem_cons.mp e3 with z | z
   ·subst z
    have:b=X.env.locals:=Option.some.inj (e4.symm.trans hfr)
    subst this
    obtain⟨m,hn',_⟩:=I.loc
    obtain⟨o,es,ep,ho,hd,_⟩:=id hn'
    exact⟨o,ho,(fun vs q=>by rw[hd] at q;cases q),I.free⟩
   ·obtain⟨o,h1,h2,h3,_⟩:=I.fsAt b (List.mem_filterMap.mpr ⟨en,z,e4⟩)
    exact⟨o,h1,h2,h3⟩
  obtain⟨o,h2,h3,h4⟩:=h1
  exact⟨h4,un.free b o h2 h4 (by simp),o,h2,h3⟩
 refine wpAny_leaves_onW (base:=B) (by rw[←xA,I.ok.frames,xs]) hfr fl fun h' f1 f4=>?_
 have st:∀b o,s'.heap.get? b=some o→b∉aF (X.env::X.outer)→(s1.heap.get? b≠none∨H' b≠none)→h'.get? b=some o:=fun b o q n z=>f1.1 b o (hB b o q n z)
 refine⟨a,cls,a0,B,H',rfl,os.trans I.os,gb,⟨fun b o q n hb _=>?_,fun b o q n hb _=>?_,fun b o q n _=>?_,fun b o q _=>?_,fun b xs' q=>un.tups b xs' (I.base.tups b xs' q),fun b o u q=>un.frzs b o u (I.base.frzs b o u q),fun b ps q=>?_⟩,fun b u q=>?_,ha,?_,f1,?_,hE _ _ he⟩
 ·have q1:=I.base.keep b o q n hb (by rw[xx];simp)
  have n1:=I.base.free b o q n (by rw[xx];simp)
  have nb:=nin b (old b o q) hb
  have q2:=un.keep b o q1 n1 nb (by simp)
  exact st b o q2 nb (.inl (by rw[q1];simp))
 ·obtain⟨z1,q1⟩:=I.base.slot b o q n hb (by rw[xx];simp)
  have n1:=I.base.free b o q n (by rw[xx];simp)
  obtain⟨z2,q2⟩:=un.slot b _ q1 n1 (sub b hb) (by simp)
  obtain⟨o',q3,q4⟩:=gC I.ok.funs b hb
  rw[q] at q3;cases q3
  obtain⟨z3,q5⟩:=f4 b _ q2 q4
  exact⟨z3,q5⟩
 ·exact un.free b _ (I.base.there b o q (by rw[xx];simp)).choose_spec (I.base.free b o q n (by rw[xx];simp)) (by simp)
 ·obtain⟨o1,q1⟩:=I.base.there b o q (by rw[xx];simp)
  obtain⟨o2,q2⟩:=un.there b o1 q1 (by simp)
  by_cases hb:b∈aF X.outer
  ·obtain⟨n1,n2,o3,q3,q4⟩:=frn b (sub b hb)
   obtain⟨z2,q5⟩:=un.slot b o3 q3 n1 (sub b hb) (by simp)
   obtain⟨z3,q6⟩:=f4 b _ q5 q4
   exact⟨_,q6⟩
  ·exact⟨o2,st b o2 q2 (nin b (old b o q) hb) (.inl (by rw[q1];simp))⟩
 ·obtain⟨m1,q1⟩:=I.base.tbls b ps q
  obtain⟨m2,q2⟩:=un.tbls b _ q1
  exact⟨m1++m2,by rw[q2,Array.append_assoc]⟩
 ·refine(hok b u q).stay (fun c v hc q'=>st c v q' ?_ (.inr ?_)) (fun _ q'=>q') fun _ _ q'=>q'
  ·intro hm
   rcases hc with z | z
   ·rw[z] at hm;rw[(frn b hm).2.1] at q;cases q
   ·rw[(frn c hm).2.1] at z;cases z
  ·rcases hc with z | z
   ·rw[z,q];simp
   ·rw[z];simp
 ·cases q:X.s₀.heap.get? a with
  | none=>rfl
  | some o=>
    obtain⟨o',q'⟩:=I.base.there a o q (by rw[xx];simp)
    rw[hn] at q';cases q'
 ·intro b o q hb hor
  have ex:∃o2,s'.heap.get? b=some o2∧b∉aF (X.env::X.outer)∧(s1.heap.get? b≠none∨H' b≠none):=by
   rcases hor with z | z
   ·cases q0:X.s₀.heap.get? b with
    | none=>exact absurd q0 z
    | some o0=>
      obtain⟨o1,q1⟩:=I.base.there b o0 q0 (by rw[xx];simp)
      obtain⟨o2,q2⟩:=un.there b o1 q1 (by simp)
      exact⟨o2,q2,nin b (old b o0 q0) hb,.inl (by rw[q1];simp)⟩
   ·cases q0:H' b with
    | none=>exact absurd q0 z
    | some u=>
      obtain⟨o2,q2⟩:=(hok b u q0).isAt
      exact⟨o2,q2,(fun hm=>by rw[(frn b hm).2.1] at q0;cases q0),.inr (by simp)⟩
  obtain⟨o2,q2,nb,hor'⟩:=ex
  have:=st b o2 q2 nb hor'
  rw[q] at this;cases this
  exact hB b _ q2 nb hor'
end
abbrev fu:List Value:=[.type "ValueError",.type "Exception",.type "BaseException",.type "object"]
structure Exc(K:PySem.W.Frag)(mg:Str→Option Value)(x:Str)(C:Addr):Prop where
 bound:mg x=some (.ref C)
 isIn:PySem.W.excIn K C fu "ValueError.__new__"=true
theorem tH{K:PySem.W.Frag}{C:Addr}(q:PySem.W.excIn K C fu "ValueError.__new__"=true)(h:Heap)(X:K.In h):∃bm N nm qn bs hdct sn sub ab col dd k0 k1 k2 k3 k5 mN,h.get? C=some (excClassObj nm qn C N bs bm hdct sn sub ab col dd k0 k1 k2 k3 k5 "ValueError.__new__")∧h.Ns N mN∧mN "__init__"=none∧OwnTail h fu bm:=by
 unfold PySem.W.excIn at q
 split at q
 case h_2=>cases q
 case h_1 dd cd sl ho=>
  split at q
  case h_2=>cases q
  case h_1 C' bm k0 k1 k2 k3 n k5 hm hs=>
   simp only[Bool.and_eq_true,beq_iff_eq,Bool.not_eq_true'] at q
   obtain⟨⟨⟨⟨⟨e1,e2⟩,hdel⟩,ht⟩,hok⟩,hni⟩:=q
   subst e1 e2
   obtain⟨nm,bs,mro,nsA,qn,hd,sn,sub,ab,col,del⟩:=cd
   have hm':mro=.ref C'::bm:=hm
   have hdel':del=false:=hdel
   subst hm' hdel'
   have esl:sl=#[k0,k1,k2,k3,some (.builtin "ValueError.__new__"),k5]:=by
    cases sl with
    | mk l=>exact congrArg Array.mk hs
   subst esl
   exact⟨bm,nsA,nm,qn,bs,hd,sn,sub,ab,col,dd,k0,k1,k2,k3,k5,_,X _ _ ho,.of_isNs (PySem.W.isNs_of_in X hok),PySem.W.nsMap_none_of_in X hok hni,PySem.W.tail_of_in X ht⟩
theorem vy{P:Program}{w:World}{K:PySem.W.Frag}{mg:Str→Option Value}{base:Heap}{N:List Str}{qual:Str}{scope:Scope}{f:Addr}{cd:Value}{A:Around}{outer:List Env}{s:Shared}{H:Hp}{E:XK}{x:Str}{C:Addr}{np cpos pos:Pos}{e0:Expr}{te:TE}(O:Exc K mg x C)(he:PE (bE (bw P w) P w K mg base N qual scope f cd A outer s H E) e0 te)(hg:Gl (bE (bw P w) P w K mg base N qual scope f cd A outer s H E) x:=by rfl)
 (hst:starEach [e0] (envOfC qual scope s.heap.objs.size f cd)=[(false,eval e0 (envOfC qual scope s.heap.objs.size f cd))]:=by rfl)(hd:(x == ("__debug__":Str))=false:=by decide):
 PS (bE (bw P w) P w K mg base N qual scope f cd A outer s H E) (.Raise (some (.Call (.Name x np) [e0] [] cpos)) none pos) (fun D σ H1=>te σ H1 fun v H2=>[v].length=1∧E (.ref C) none H2):=by
 intro pins s1 σ H1 D I h
 obtain⟨tl,Nn,nm,q,bs,hdct,sn,sub,ab,col,dd,k0,k1,k2,k3,k5,mN,hC,hN,hni,T⟩:=tH O.isIn base I.ok.mod.kin
 refine wpAny_Raise_call_subT (C:=C) (nm:=nm) (q:=q) (N:=Nn) (bs:=bs) (bm:=tl) (hdct:=hdct) (sn:=sn) (sub:=sub) (ab:=ab) (col:=col) (dd:=dd) (k0:=k0) (k1:=k1) (k2:=k2) (k3:=k3) (k5:=k5) (env:=envOfC qual scope s.heap.objs.size f cd)
  F.excBase_ValueError (mN:=mN) (T.hasType F.excBase_ValueError.hasBase) (I.ok.hd rfl) (by rw[hst];rfl) hni (fh I hg O.bound ⟨rfl,?_⟩ hd)
 rw[hst]
 refine Calls.evalArgs_plain ?_
 have hp:=(aa he ac (by exact hst)) cpos pins s1 σ H1 (fun vs H2=>vs.length=1∧E (.ref C) none H2) I h
 have hp':wpAny (model P w) (A.deeper (envOfC qual scope s.heap.objs.size f cd)) (spliced (backTo cpos (starEach [e0] (envOfC qual scope s.heap.objs.size f cd)))) _ _ s1:=hp
 rw[hst] at hp'
 refine ak hp' fun us s2 ⟨vs,H2,I2,r2,l2,q2⟩=>?_
 refine⟨rfl,?_,I2.bk _ _ hC,hN.keeps I2.bk,T.keeps I2.bk,fun h' e made=>?_⟩
 ·show us.length≤sizeLine
  rw[←r2.length,l2];decide
 ·exact wC (tk:=s2.toks) (A:=A) (outer:=outer) (s:=s) (H:=H) (E:=E) (env:=envOfC qual scope s.heap.objs.size f cd) ⟨rfl,rfl,rfl,rfl,rfl,rfl,rfl,rfl,rfl⟩ rfl I2 made q2
theorem lV{P:Program}{w:World}{K:PySem.W.Frag}{mg:Str→Option Value}{base:Heap}{N:List Str}{qual:Str}{scope:Scope}{f:Addr}{cd:Value}{A:Around}{outer:List Env}{s:Shared}{H:Hp}{E:XK}:gk (bw P w) (bE (bw P w) P w K mg base N qual scope f cd A outer s H E) E:=fun pins σ H1 s1 e s' I hx=>
 sj (A:=A) (outer:=outer) (s:=s) (H:=H) (E:=E) (E':=E) (env:=envOfC qual scope s.heap.objs.size f cd) ⟨rfl,rfl,rfl,rfl,rfl,rfl,rfl,rfl,rfl⟩ rfl I hx fun _ _ z=>z
def vb(X:Cx)(pins:List (Addr×Obj))(σ0:St)(E0:XK):Value→Shared→Prop:=fun e s'=>∃H1 s1,Inv X pins σ0 H1 s1∧bw X.prog X.w X.stack H1 s1 E0 e s'
abbrev fV(X:Cx)(pins:List (Addr×Obj))(σ0:St)(E0:XK):Cx:={X with pn:=X.pn++pins,xe:=vb X pins σ0 E0}
abbrev ir(X:Cx)(e:Addr)(xe:Value→Shared→Prop):Cx:={X with A:=X.A.mark (some (.ref e)),calm:=false,xe:=xe}
section
variable{X:Cx}{pins:List (Addr×Obj)}{σ σ0:St}{H H1:Hp}{s s1:Shared}{E0:XK}
theorem Inv.toTry(I:Inv X pins σ H s):Inv (fV X pins σ0 E0) [] σ H s:=
 ⟨⟨I.ok.mod,I.ok.kind,I.ok.glob,I.ok.blt,I.ok.above,I.ok.inj,I.ok.has,I.ok.cab,I.ok.hd,I.ok.frames,I.ok.stk,I.ok.exf,I.ok.bs,I.ok.bsz,I.ok.noex,I.ok.exfs,I.ok.funs,I.ok.frf⟩,I.os,I.bare,I.base,I.loc,I.cell,I.free,I.freeC,fun p hp=>I.pin p (by simpa using hp),I.hok,I.len⟩
theorem Inv.ofTry{pins':List (Addr×Obj)}(I:Inv (fV X pins σ0 E0) pins' σ H s):Inv X pins σ H s:=
 ⟨⟨I.ok.mod,I.ok.kind,I.ok.glob,I.ok.blt,I.ok.above,I.ok.inj,I.ok.has,I.ok.cab,I.ok.hd,I.ok.frames,I.ok.stk,I.ok.exf,I.ok.bs,I.ok.bsz,I.ok.noex,I.ok.exfs,I.ok.funs,I.ok.frf⟩,I.os,I.bare,I.base,I.loc,I.cell,I.free,I.freeC,fun p hp=>I.pin p (List.mem_append_left _ hp),I.hok,I.len⟩
theorem Inv.toSuf{e:Addr}{xe:Value→Shared→Prop}(I:Inv X pins σ H s):Inv (ir X e xe) pins σ H s:=
 ⟨⟨I.ok.mod,I.ok.kind,I.ok.glob,I.ok.blt,I.ok.above,I.ok.inj,I.ok.has,I.ok.cab,(fun q=>by cases q),I.ok.frames,I.ok.stk,I.ok.exf,I.ok.bs,I.ok.bsz,I.ok.noex,I.ok.exfs,I.ok.funs,I.ok.frf⟩,I.os,I.bare,I.base,I.loc,I.cell,I.free,I.freeC,I.pin,I.hok,I.len⟩
theorem Inv.ofSuf{e:Addr}{xe:Value→Shared→Prop}(hd:X.calm=true→X.A.handled=none)(I:Inv (ir X e xe) pins σ H s):Inv X pins σ H s:=
 ⟨⟨I.ok.mod,I.ok.kind,I.ok.glob,I.ok.blt,I.ok.above,I.ok.inj,I.ok.has,I.ok.cab,hd,I.ok.frames,I.ok.stk,I.ok.exf,I.ok.bs,I.ok.bsz,I.ok.noex,I.ok.exfs,I.ok.funs,I.ok.frf⟩,I.os,I.bare,I.base,I.loc,I.cell,I.free,I.freeC,I.pin,I.hok,I.len⟩
def vN(σ0:St)(t:TE):TE:=fun σ H Q=>σ=σ0∧t σ H Q
theorem xZ{k j:Nat}{ps:List Str}{sp:Sp}{x:Str}{p pos:Pos}{e:Expr}{es:List Expr}{t:TA}(F:Fn X.prog X.w X.K X.mg X.base (bw X.prog X.w) x k ps sp)(hr:Room j X.A)(ha:PA (fV X pins σ0 E0) (e::es) t)(hg:Gl X x:=by rfl)(hj:k≤j:=by decide)
 (hdb:(x == ("__debug__":Str))=false:=by decide)(he:starEach (e::es) X.env=(false,eval e X.env)::starEach es X.env:=by rfl)(hpl:(backTo pos (starEach es X.env)).any (·.1)=false:=by rfl):
 PE (fV X pins σ0 E0) (.Call (.Name x p) (e::es) [] pos) (vN σ0 (ig sp [] E0 t)):=by
 obtain⟨f,fd,F,hm,hk,hb,_⟩:=F.ex
 have hr:=hr.mono hj
 intro pins' s σ H Q I h
 obtain⟨rfl,h⟩:=h
 refine wpAny_Call_Name_kw (fh I hg hm ?_ hdb)
 refine PySem.W.callWith_K (h₀:=X.base) I.ok.mod.kin hk (ak (ha pos pins' s σ H _ I h) fun us s1 ⟨vs,H1,I1,r,q⟩=>⟨I1.kIn,?_⟩) he hpl
 have r2:Vals (vs++[]) (us++[]):=r.append .nil
 have hl:(us++[]).length=ps.length:=by rw[←r2.length];exact F.len _ _ _ _ q
 refine wpAny_call (codeAny_mono (F.run X.A X.stack s1 H1 ⟨us,[]⟩ (us++[]) (vs++[]) Q E0 hr I1.env0 (hb s1 us I1.kIn hl) r2 q) fun r s' hq=>?_)
 cases r with
 | error e=>exact⟨H1,s1,I1.ofTry,hq⟩
 | ok fl=>
   cases fl with
   | ret u=>exact I1.after hq
   | next=>exact False.elim hq
   | brk=>exact False.elim hq
   | cont=>exact False.elim hq
theorem Inv.caught{s':Shared}{H':Hp}{B h5:Heap}(hst:X.stack=X.env::X.outer)(hfr:X.env.frame=some X.env.locals)(I:Inv X pins σ H1 s1)(os:s'.os=s1.os)(gb:AllBare s'.gens)(un:Un (aF X.stack) [] H1 H' s1.heap s'.heap)(hok:HOk X.prog X.w H' s'.heap)(hB:∀b o,s'.heap.get? b=some o→b∉aF X.stack→(s1.heap.get? b≠none∨H' b≠none)→B.get? b=some o)(st5:∀b o,B.get? b=some o→h5.get? b=some o)(up:s'.heap.UpToSlots h5):Inv X pins σ H' {s' with heap:=h5}:=by
 have frn:∀b,b∈aF X.stack→H1 b=none∧H' b=none∧∃o,s1.heap.get? b=some o∧∀vs,o.data≠ .fields vs:=fun b hm=>by
  have h1:∃o,s1.heap.get? b=some o∧(∀vs,o.data≠ .fields vs)∧H1 b=none:=by
   rw[hst] at hm
   obtain⟨en,e3,e4⟩:=List.mem_filterMap.mp hm
   rcases List.mem_cons.mp e3 with z | z
   ·subst z
    have:b=X.env.locals:=Option.some.inj (e4.symm.trans hfr)
    subst this
    obtain⟨m,hn',_⟩:=I.loc
    obtain⟨o,es,ep,ho,hd,_⟩:=id hn'
    exact⟨o,ho,(fun vs q=>by rw[hd] at q;cases q),I.free⟩
   ·obtain⟨o,h1,h2,h3,_⟩:=I.fsAt b (List.mem_filterMap.mpr ⟨en,z,e4⟩)
    exact⟨o,h1,h2,h3⟩
  obtain⟨o,h2,h3,h4⟩:=h1
  exact⟨h4,un.free b o h2 h4 (by simp),o,h2,h3⟩
 have st:∀b o,s'.heap.get? b=some o→b∉aF X.stack→(s1.heap.get? b≠none∨H' b≠none)→h5.get? b=some o:=fun b o q n z=>st5 b o (hB b o q n z)
 refine I.call' (ch:=[]) os ⟨fun b o q n hb hx=>?_,fun b o q n hb hx=>?_,un.free,fun b o q hx=>?_,un.tups,un.frzs,un.tbls⟩ (fun b u q=>?_) gb (by simp)
 ·exact st b o (un.keep b o q n hb hx) hb (.inl (by rw[q];simp))
 ·obtain⟨z,q'⟩:=un.slot b o q n hb hx
  obtain⟨_,_,o2,q2,q3⟩:=frn b hb
  rw[q] at q2;cases q2
  obtain⟨z',q4⟩:=up b _ q' q3
  exact⟨z',q4⟩
 ·by_cases hb:b∈aF X.stack
  ·obtain⟨n1,_,o2,q2,q3⟩:=frn b hb
   rw[q] at q2;cases q2
   obtain⟨z,q'⟩:=un.slot b o q n1 hb hx
   obtain⟨z',q4⟩:=up b _ q' q3
   exact⟨_,q4⟩
  ·obtain⟨o2,q2⟩:=un.there b o q hx
   exact⟨o2,st b o2 q2 hb (.inl (by rw[q];simp))⟩
 ·refine(hok b u q).stay (fun c v hc q'=>st c v q' ?_ (.inr ?_)) (fun _ q'=>q') fun _ _ q'=>q'
  ·intro hm
   rcases hc with z | z
   ·rw[z] at hm;rw[(frn b hm).2.1] at q;cases q
   ·rw[(frn c hm).2.1] at z;cases z
  ·rcases hc with z | z
   ·rw[z,q];simp
   ·rw[z];simp
def bS(e:Addr)(cls:Value):Heap→Prop:=fun h=>∃o,h.get? e=some o∧o.cls=cls
theorem Inv.track{e:Addr}{cls:Value}(I:Inv X pins σ H s)(hn:H e=none)(h0:X.s₀.heap.get? e=none)(hl:e≠X.env.locals)(hc:∀x c,X.env.cells.lookup x=some c→c≠e)(hp:∀p∈X.pn++pins,p.1≠e)(hx:bS e cls s.heap):Inv X pins σ (upd H e (.ext (bS e cls))) s:=by
 have ne:∀{b:Addr} {o:HO},H b=some o→(upd H e (.ext (bS e cls))) b=some o:=fun{b o} q=>by
  rw[ah (fun z=>by rw[z,hn] at q;cases q)];exact q
 have nn:∀{b:Addr},b≠e→H b=none→(upd H e (.ext (bS e cls))) b=none:=fun{b} z q=>by rw[ah z];exact q
 refine⟨I.ok,I.os,I.bare,⟨I.base.keep,I.base.slot,fun b o q n hx=>nn (fun z=>by rw[z,h0] at q;cases q) (I.base.free b o q n hx),I.base.there,fun b xs q=>ne (I.base.tups b xs q),fun b o u q=>ne (I.base.frzs b o u q),fun b ps q=>?_⟩,I.loc,I.cell,nn (Ne.symm hl) I.free,fun x c q=>nn (hc x c q) (I.freeC x c q),fun p q=>?_,fun b u q=>?_,I.len⟩
 ·obtain⟨m,q'⟩:=I.base.tbls b ps q
  exact⟨m,ne q'⟩
 ·obtain⟨a1,a2,a3,a4,a5⟩:=I.pin p q
  exact⟨a1,nn (hp p q) a2,a3,a4,a5⟩
 ·by_cases z:b=e
  ·subst z
   rw[ad] at q
   cases q
   refine⟨hx,?_,fun h1 h2 ⟨o,q1,q2⟩ k=>⟨o,k o q1,q2⟩⟩
   obtain⟨o,q,_⟩:=hx
   exact⟨o,q⟩
  ·rw[ah z] at q
   exact(I.hok b u q).stay (fun c v _ q'=>q') (fun c q'=>ne q') fun c xs q'=>ne q'
theorem gI{M:Model}{A:Around}{E:Value→Shared→Prop}{i:Nat}{x:Str}{pos:Pos}{Q:Unit→Shared→Prop}(I:Inv X pins σ H s)(hN:X.N.Nodup)(hi:X.N[i]?=some x)(hk:X.env.kindOf x=some .local)(hlo:dZ X.env.scope x)(h:∀s',Inv X pins (σ.set i none) H s'→Q () s'):wpAny M A (do bindName X.env x .none;unbindBehindTheSuite X.env x pos) Q E s:=by
 have hcls:(X.env.scope.kind == .class || (X.env.scope.kind == .module && X.env.locals != X.env.globals))=false:=by rw[I.ok.kind];rfl
 refine wpAny_bind (wpAny_bindName (fS I hN hi hlo (v:=.non) rfl (fun s1 I1=>?_) (.inr hk)))
 unfold unbindBehindTheSuite
 refine wpAny_onRaise ?_
 have hiσ:i<σ.length:=by rw[I.len];exact(List.getElem?_eq_some_iff.mp hi).1
 obtain⟨m,hn,hl⟩:=id I1.loc
 obtain⟨u0,r0,lk⟩:=hl i x .non hi (by rw[List.getElem?_set_self hiσ]) (.inl hk)
 have hv:m x=some u0:=by
  rcases lk with⟨_,e⟩ | ⟨k,_⟩
  ·exact e
  ·rcases k with k | k
   ·have:=hk.symm.trans k;cases this
   ·have:=hk.symm.trans k;cases this
 refine wpAny_unbindName_local hk hn hv hcls fun h' u hn' hs=>?_
 obtain⟨oL,_,_,hoL,_⟩:=id hn
 have cne:=I1.cne
 refine h _ ⟨I1.ok,I1.os,I1.bare,⟨fun b o e n hb hx=>?_,fun b o e n hb hx=>?_,I1.base.free,fun b o e hx=>?_,I1.base.tups,I1.base.frzs,I1.base.tbls⟩,⟨_,hn',fun j y v' e1 e2 e3=>?_⟩,fun y c e=>?_,I1.free,I1.freeC,fun p hp=>?_,fun b ob e=>?_,by simpa using I1.len⟩
 ·exact(hs.2 b (Nat.ne_of_lt (Nat.lt_of_lt_of_le (Heap.lt_size e) I.ok.above))).trans (I1.base.keep b o e n hb hx)
 ·obtain⟨sl,e1⟩:=I1.base.slot b o e n hb hx
  exact⟨sl,(hs.2 b (Nat.ne_of_lt (Nat.lt_of_lt_of_le (Heap.lt_size e) I.ok.above))).trans e1⟩
 ·obtain⟨o',e1⟩:=I1.base.there b o e hx
  exact⟨o',(hs.2 b (Nat.ne_of_lt (Nat.lt_of_lt_of_le (Heap.lt_size e) I.ok.above))).trans e1⟩
 ·by_cases hj:j=i
  ·subst hj
   rw[List.getElem?_set_self hiσ] at e2
   cases e2
  ·rw[List.getElem?_set_ne (Ne.symm hj)] at e2
   obtain⟨u',r',q⟩:=hl j y v' e1 (by rw[List.getElem?_set_ne (Ne.symm hj)];exact e2) e3
   refine⟨u',r',?_⟩
   rcases q with⟨k,e⟩ | ⟨k,c,e,z⟩
   ·refine .inl ⟨k,?_⟩
    have:y≠x:=fun e=>hj (kX hN e1 (e▸hi))
    simp[this,e]
   ·exact .inr ⟨k,c,e,z.sameBut hs (cne y c e)⟩
 ·obtain⟨w',z⟩:=I1.cell y c e
  exact⟨w',z.sameBut hs (cne y c e)⟩
 ·obtain⟨e,n,ne,nf,d⟩:=I1.pin p hp
  exact⟨(hs.2 p.1 ne).trans e,n,ne,nf,d⟩
 ·refine(I1.hok b ob e).stay (fun c w' hc q=>(hs.2 c ?_).trans q) (fun _ q=>q) fun _ _ q=>q
  rintro rfl
  rcases hc with rfl | hc
  ·rw[I1.free] at e;cases e
  ·rw[I1.free] at hc;cases hc
end
def Ends.drop(D:Ends)(i:Nat):Ends:=⟨fun σ H=>D.nx (σ.set i none) H,D.rt,fun σ H=>D.bk (σ.set i none) H,fun σ H=>D.ct (σ.set i none) H⟩
def gH(K:PySem.W.Frag)(C:Addr)(i:Nat)(tb:St→XK→TS)(th:TS):TS:=fun D σ H=>
 tb σ (fun cls _ H'=>PySem.W.exmOne K cls (.ref C)=some true∧∀e,H' e=none→th (D.drop i) (σ.set i (some (.ref e))) (upd H' e (.ext (bS e cls)))) D σ H
theorem zw{X:Cx}{body suite:List Stmt}{b₀:Stmt}{x n:Str}{np hpos pos:Pos}{C:Addr}{i:Nat}{tb:St→XK→TS}{th:TS}(hC:X.mg x=some (.ref C))(hN:X.N.Nodup)(hi:X.N[i]?=some n)(hk:X.env.kindOf n=some .local)(hb:∀pins σ0 E0,PSs (fV X pins σ0 E0) body (tb σ0 E0))(hs:∀e xe,PSs (ir X e xe) (b₀::suite) th)(hlo:dZ X.env.scope n:=by first | exact .inl rfl | exact .inr rfl)
 (hst:X.stack=X.env::X.outer:=by rfl)(hex:X.ex=[]:=by rfl)(hfr:X.env.frame=some X.env.locals:=by rfl)(hg:Gl X x:=by rfl)(hd:(x == ("__debug__":Str))=false:=by decide):
 PS X (.Try body [.ExceptHandler (some (.Name x np)) (some n) (b₀::suite) hpos] [] [] pos) (gH X.K C i tb th):=by
 intro pins s σ H D I h
 refine wpAny_Try_except (wpAny_mono (hb pins σ _ [] s σ H D I.toTry h) (fun f s1 q=>?_) fun e s' q=>?_)
 ·cases f with
  | next=>
    obtain⟨σ',H',I',q⟩:=q
    exact wpAny_execs_nil ⟨σ',H',I'.ofTry,q⟩
  | brk=>obtain⟨σ',H',I',q⟩:=q;exact⟨σ',H',I'.ofTry,q⟩
  | cont=>obtain⟨σ',H',I',q⟩:=q;exact⟨σ',H',I'.ofTry,q⟩
  | ret u=>obtain⟨v,σ',H',I',r,q⟩:=q;exact⟨v,σ',H',I'.ofTry,r,q⟩
 ·obtain⟨H1,s1,I1,a,cls,a0,B,H',rfl,os,gb,un,hok,ha,hn,fl,hB,hm,hE⟩:=q
  have fl':Heap.FlyingW B (X.env::X.outer) a cls a0 s'.heap:=by rw[←hst];exact fl
  refine wpAny_looks_onW (base:=B) (by rw[I1.ok.frames,hst]) hfr fl' fun h4 held4 up4=>?_
  refine wpAny_landsW held4 fun h5 fl5 up5=>?_
  have up:=up4.trans up5
  have I5:Inv X pins σ H' {s' with heap:=h5}:=I1.caught hst hfr os gb un hok hB fl5.1 up
  refine wpAny_handleBy_cons (codeAny_handlers_test (fh (X:=ir X a fun _ _=>False) (I5.toSuf) hg hC ?_ hd)) (by intro q;cases q)
  obtain⟨oe,hoe,hoc⟩:=fl5.there
  have LT:PySem.W.Looks (model X.prog X.w) h5 (typeOf (.ref a)) cls:=by
   rw[←hoc]
   exact(PySem.W.Looks.ld hoe).andThen .now
  refine(PySem.W.exm_one (M:=model X.prog X.w) I5.kIn LT hm).here ?_
  refine codeAny_handlers_suite_as ?_
  refine lands_againW fl5 fun h6 fl6 up6=>?_
  have I6:Inv X pins σ H' {s' with heap:=h6}:=I1.caught hst hfr os gb un hok hB fl6.1 (up.trans up6)
  obtain⟨oe6,hoe6,hoc6⟩:=fl6.there
  have I7:Inv X pins σ (upd H' a (.ext (bS a cls))) {s' with heap:=h6}:=by
   refine I6.track ha ?_ ?_ (fun y c q=>?_) (fun p q=>?_) ⟨oe6,hoe6,hoc6⟩
   ·cases q:X.s₀.heap.get? a with
    | none=>rfl
    | some o=>
      obtain⟨o',q'⟩:=I1.base.there a o q (by rw[hex];simp)
      rw[hn] at q';cases q'
   ·intro z
    obtain⟨m,hnn,_⟩:=I1.loc
    obtain⟨o,_,_,ho,_⟩:=id hnn
    rw[←z,hn] at ho;cases ho
   ·intro z
    obtain⟨w',o,ho,_⟩:=I1.cell y c q
    rw[z,hn] at ho;cases ho
   ·intro z
    have:=(I1.pin p q).1
    rw[z,hn] at this;cases this
  refine fS I7 hN hi hlo (v:=.ref a) rfl (fun s8 I8=>?_) (.inr hk)
  refine wpAny_mono (hs a _ pins s8 _ _ (D.drop i) I8.toSuf (hE a ha)) (fun f s9 q=>?_) (fun _ _ z=>z)
  cases f with
  | next=>
    obtain⟨σ',H9,I9,q⟩:=q
    exact gI (I9.ofSuf I.ok.hd) hN hi hk hlo fun s10 I10=>⟨_,_,I10,q⟩
  | brk=>
    obtain⟨σ',H9,I9,q⟩:=q
    exact gI (I9.ofSuf I.ok.hd) hN hi hk hlo fun s10 I10=>⟨_,_,I10,q⟩
  | cont=>
    obtain⟨σ',H9,I9,q⟩:=q
    exact gI (I9.ofSuf I.ok.hd) hN hi hk hlo fun s10 I10=>⟨_,_,I10,q⟩
  | ret u=>
    obtain⟨v,σ',H9,I9,r,q⟩:=q
    exact gI (I9.ofSuf I.ok.hd) hN hi hk hlo fun s10 I10=>⟨v,_,_,I10,r,q⟩
end L2
namespace PySem.W
open PySem PySem.Spec PySem.Calls PyProof.Rows Builtin Builtin.ObjectAttr Builtin.Getset_descriptor
section
variable{prog:Program}{w:World}{A:Around}{E:Value→Shared→Prop}{K:Frag}{h:Heap}{g:Array GenState}{d:Drawn}{t:Nat}{os:OsState}{a D:Addr}{o:Obj}{R:Result→Shared→Prop}
theorem wy{tp:Value}(X:K.In h)(hx:h.get? a=some o)(hc:o.cls=.ref D)(hm:mroIn K D (.type "object")=some true)(hq:R (.ok (.ret (.ref D))) ⟨h,g,d,t,os⟩):codeAny (model prog w) A (.call (.builtin "getset_descriptor.__get__") ⟨[.builtin "object.__class__",.ref a,tp],[]⟩) R ⟨h,g,d,t,os⟩:=by
 have L0:Looks (model prog w) h (typeOf (.ref a)) (.ref D):=by
  rw[←hc];exact(Looks.ld hx).andThen .now
 have Lm:=looks_mroIn (M:=model prog w) X hm
 refine codeAny_call_builtin KF.slot_gs.plain KF.entry_gs (KF.slot_gs.check _ _ _ _ _ _ _ _ KF.type_class (KF.args_gs _ _ _) ?go)
 case go=>(unfold Builtin.«getset_descriptor.__get__» descrGet;rw[dga_obj];refine wpAny_bind (wpAny_pure ?_);unfold descrGetter descrCheckInstance descrNameAndClass isInstance;simp only[KF.owner_class];(repeat lk);refine⟨Code.quiet_builtin _ (by decide+kernel),codeAny_builtin KF.entry_class ?_⟩;unfold Builtin.«object.__class__» shownTypeOf;(repeat lk);exact hq)
theorem zy{M:Model}{nameV:Value}{Q:Unit→Shared→Prop}(X:K.In h)(hx:h.get? a=some o)(hc:o.cls=.ref D)(hb:mroIn K D (.type "BaseException")=some true)(hq:Q () ⟨h,g,d,t,os⟩):wpAny M A (checkBuiltinCall "BaseException.__getattribute__" ⟨[.ref a,nameV],[]⟩) Q E ⟨h,g,d,t,os⟩:=by
 have bk:builtinKind "BaseException.__getattribute__"=some .slot:=by decide+kernel
 have sp:splitId "BaseException.__getattribute__"=some ("BaseException","__getattribute__"):=by decide+kernel
 have ok:=F.args_bexc_ga (.ref a) nameV
 have L0:Looks M h (typeOf (.ref a)) (.ref D):=by
  rw[←hc];exact(Looks.ld hx).andThen .now
 have L1:=looks_mroIn (M:=M) X hb
 simp only[checkBuiltinCall,bk,sp]
 refine wpAny_bind ?_
 ·unfold isInstance
  repeat (first | with_reducible refine Looks.at (by assumption) ?_ | wp_step)
  exact hq
theorem rJ{tk:Tok}{Q:Fin→Shared→Prop}(X:K.In h)(hx:h.get? a=some o)(hc:o.cls=.ref D)(hm:mroIn K D (.type "object")=some true)(hcl:findIn K (.ref D) "__class__"=some (some (.builtin "object.__class__")))(hq:Q (.done (.ret (.ref D))) ⟨h,g,d,t,os⟩):wpAny (model prog w) A (Builtin.«object.__getattribute__» ⟨[.ref a,.str "__class__" tk],[]⟩) Q E ⟨h,g,d,t,os⟩:=
 by
 have L0:Looks (model prog w) h (typeOf (.ref a)) (.ref D):=by
  rw[←hc];exact(Looks.ld hx).andThen .now
 have L1:=looks_findIn (M:=model prog w) X hcl
 have fa:=F.typeOf_object_class;have fb:=F.slot_gs_get.lookup;have fc:=F.slot_gs_set.lookup
 repeat (any_goals (first | assumption | with_reducible refine Looks.at L0 ?_ | with_reducible refine Looks.at L1 ?_ | wp_step))
 refine wy X hx hc hm ?_;repeat (any_goals (first | assumption | wp_step))
theorem zD{Q:Option Value→Shared→Prop}(X:K.In h)(hx:h.get? a=some o)(hc:o.cls=.ref D)(hm:mroIn K D (.type "object")=some true)(hb:mroIn K D (.type "BaseException")=some true)(hga:findIn K (.ref D) "__getattribute__"=some (some (.builtin "BaseException.__getattribute__")))(hgt:findIn K (.ref D) "__getattr__"=some none)(hcl:findIn K (.ref D) "__class__"=some (some (.builtin "object.__class__")))(hq:Q (some (.ref D)) ⟨h,g,d,t+1,os⟩):wpAny (model prog w) A (getAttr? (.ref a) "__class__") Q E ⟨h,g,d,t,os⟩:=by
 have L0:Looks (model prog w) h (typeOf (.ref a)) (.ref D):=by
  rw[←hc];exact(Looks.ld hx).andThen .now
 have La:=looks_findIn (M:=model prog w) X hga
 have Lb:=looks_findIn (M:=model prog w) X hgt
 have f3:=F.excAttr_ValueError.ga.bind (.ref a)
 have nb:(Value.builtin "BaseException.__getattribute__" == Value.builtin "object.__getattribute__")=false:=by decide+kernel
 have nh:(onTheHeap (Value.ref D) && Value.builtin "BaseException.__getattribute__" == Value.builtin "object.__getattribute__")=false:=by rw[nb];rfl
 unfold getAttr? getAttrBy? getAttrBy;refine wpAny_bind (wpAny_mkText (wpAny_bind (wpAny_attempt (wpAny_holding (wpAny_bind (L0.at (wpAny_bind (La.at ?_))))))))
 repeat (any_goals (first | assumption | with_reducible refine Looks.at L0 ?_ | with_reducible refine Looks.at La ?_ | with_reducible refine Looks.at Lb ?_ | wp_step))
 refine codeAny_call_builtin F.excAttr_ValueError.ga.plain F.entry_bexc_ga (zy X hx hc hb (rJ X hx hc hm hcl ?_));repeat (any_goals (first | assumption | wp_step))
def excKit(K:Frag)(D:Addr):Bool:=(clsIn K D).isSome && mroIn K D (.type "object") == some true && mroIn K D (.type "BaseException") == some true && findIn K (.ref D) "__getattribute__" == some (some (.builtin "BaseException.__getattribute__"))
 && findIn K (.ref D) "__getattr__" == some none && findIn K (.ref D) "__class__" == some (some (.builtin "object.__class__"))
theorem kitx_exc{x D:Addr}(e:excKit K D=true):KitX K (.ref x) (.ref D) (fun h=>∃o,h.get? x=some o∧o.cls=.ref D):=by
 simp only[excKit,Bool.and_eq_true,beq_iff_eq] at e
 obtain⟨⟨⟨⟨⟨e0,e1⟩,e2⟩,e3⟩,e4⟩,e5⟩:=e
 obtain⟨cdD,hcD⟩:=Option.isSome_iff_exists.mp e0
 refine⟨fun M h _ ⟨o,h1,h2⟩=>?_,fun _ _ X _=>?_,fun h tp dd its n sl X htp=>?_,fun{prog w A E Q s} X ⟨o,h1,h2⟩ k=>?_⟩
 ·rw[←h2];exact(Looks.ld h1).andThen .now
 ·unfold clsIn at hcD
  split at hcD
  ·rename_i c' d' cd' sl' ho
   exact fun A' Q' E' s' k q=>by unfold isType loadHead;exact wpAny_bind (wpAny_loadPart (k _ _ (X _ _ ho)) (wpAny_pure q))
  ·cases hcD
 ·refine Bool.eq_false_iff.mpr fun q=>?_
  obtain rfl:D=tp:=Value.ref.inj (beq_iff_eq.mp q)
  unfold clsIn at hcD
  split at hcD
  ·rename_i c' d' cd' sl' ho
   cases(X _ _ ho).symm.trans htp
  ·cases hcD
 ·obtain⟨h,g,d,t,os⟩:=s
  exact zD X h1 h2 e1 e2 e3 e4 e5 k
end
end PySem.W
namespace L2
open PySem PySem.Spec PyProof.Rows
section
variable{X:Cx}{e e2:Expr}{te te2:TE}{p p2 pos:Pos}
def p7(K:PySem.W.Frag)(c:Value)(te:TE):TE:=fun σ H Q=>te σ H fun x H1=>∃(a D:Addr) (b:Bool),x=.ref a∧H1 a=some (.ext (bS a (.ref D)))∧PySem.W.excKit K D=true∧PySem.W.kitOne K (.ref D) c=some b∧Q (.bl b) H1
theorem oM{c:Value}{cv:V}(hcv:∀u,RelV cv u→u=c)(pins:List (Addr×Obj))(s:Shared)(σ:St)(H:Hp)(x:V)(us:List Value)(Q:VK)(I:Inv X pins σ H s)(rv:Vals [x,cv] us)(h:∃(a D:Addr) (b:Bool),x=.ref a∧H a=some (.ext (bS a (.ref D)))∧PySem.W.excKit X.K D=true∧PySem.W.kitOne X.K (.ref D) c=some b∧Q (.bl b) H):wpAny (model X.prog X.w) X.A (call (.builtin "isinstance") us) (EP X pins σ Q) X.xe s:=by
 obtain⟨a,D,b,rfl,hH,hk,ek,q⟩:=h
 obtain⟨u,v,rfl,rx,ry⟩:=rv.two
 cases rx
 obtain rfl:=hcv v ry
 obtain⟨hx,_⟩:=(show ObjOk X.prog X.w H s.heap a (.ext (bS a (.ref D))) from I.hok a _ hH)
 have fin:∀tk,EP X pins σ Q (.bool b) {s with toks:=tk}:=fun tk=>⟨.bl b,H,I.kept (h':=s.heap) (t':=tk) fun _ _ q=>q,rfl,q⟩
 exact PySem.W.kia_one (PySem.W.kitx_exc hk) I.kIn hx ek (fun z=>nomatch z) fin
theorem dA{T:Str}{C:Addr}(hm:X.mg "isinstance"=none)(hT:X.mg T=some (.ref C))(ha:PE X e te)(hg:Gl X "isinstance":=by rfl)(hgT:Gl X T:=by rfl)(he:starEach [e,.Name T p2] X.env=[(false,eval e X.env),(false,eval (.Name T p2) X.env)]:=by rfl)
 (hd:(T == ("__debug__":Str))=false:=by decide):PE X (.Call (.Name "isinstance" p) [e,.Name T p2] [] pos) (p7 X.K (.ref C) te):=
 cL (r:=eO fun x y H Q=>y=.ref C∧∃(a D:Addr) (b:Bool),x=.ref a∧H a=some (.ext (bS a (.ref D)))∧PySem.W.excKit X.K D=true∧PySem.W.kitOne X.K (.ref D) (.ref C)=some b∧Q (.bl b) H)
  (fE fun pins s σ H x y us Q I rv ⟨ey,h⟩=>by subst ey;exact oM (c:=.ref C) (cv:=.ref C) (fun u r=>r) pins s σ H x us Q I rv h) hg hm ja
  (aa ha (aa (iX (v:=.ref C) hgT hT rfl hd) ac) (by exact he)) (he:=by exact he) |>.imp fun σ H Q h=>by
   show te σ H fun x H1=>V.ref C=.ref C∧_
   simp only[true_and]
   exact h
theorem rQ{T:Str}{c:String}(hm:X.mg "isinstance"=none)(hT:X.mg T=none)(hb:bootBuiltins T=some (.type c))(ha:PE X e te)(hg:Gl X "isinstance":=by rfl)(hgT:Gl X T:=by rfl)(he:starEach [e,.Name T p2] X.env=[(false,eval e X.env),(false,eval (.Name T p2) X.env)]:=by rfl)
 (hn:T≠"__name__":=by decide)(hd:(T == ("__debug__":Str))=false:=by decide):PE X (.Call (.Name "isinstance" p) [e,.Name T p2] [] pos) (p7 X.K (.type c) te):=
 cL (r:=eO fun x y H Q=>y=.ty c∧∃(a D:Addr) (b:Bool),x=.ref a∧H a=some (.ext (bS a (.ref D)))∧PySem.W.excKit X.K D=true∧PySem.W.kitOne X.K (.ref D) (.type c)=some b∧Q (.bl b) H)
  (fE fun pins s σ H x y us Q I rv ⟨ey,h⟩=>by subst ey;exact oM (c:=.type c) (cv:=.ty c) (fun u r=>r) pins s σ H x us Q I rv h) hg hm ja
  (aa ha (aa (oT (v:=.ty c) hgT hT hb rfl hn hd) ac) (by exact he)) (he:=by exact he) |>.imp fun σ H Q h=>by
   show te σ H fun x H1=>V.ty c=.ty c∧_
   simp only[true_and]
   exact h
end
def excFacts(K:PySem.W.Frag)(CE:Addr)(Cs:List Addr):Bool:=
 Cs.all fun D=>PySem.W.exmOne K (.ref D) (.ref CE) == some true && PySem.W.excKit K D && PySem.W.excIn K D fu "ValueError.__new__" && PySem.W.kitOne K (.ref D) (.type "ValueError") == some true && Cs.all fun C=>PySem.W.kitOne K (.ref D) (.ref C) == some (D == C)
structure ExF(K:PySem.W.Frag)(CE D:Addr)(Cs:List Addr):Prop where
 exm:PySem.W.exmOne K (.ref D) (.ref CE)=some true
 kit:PySem.W.excKit K D=true
 isIn:PySem.W.excIn K D fu "ValueError.__new__"=true
 val:PySem.W.kitOne K (.ref D) (.type "ValueError")=some true
 one:∀C∈Cs,PySem.W.kitOne K (.ref D) (.ref C)=some (D == C)
theorem excFacts.of{K:PySem.W.Frag}{CE:Addr}{Cs:List Addr}(h:excFacts K CE Cs=true):∀D∈Cs,ExF K CE D Cs:=fun D hD=>by
 have h1:=List.all_eq_true.mp h D hD
 simp only[Bool.and_eq_true,beq_iff_eq] at h1
 obtain⟨⟨⟨⟨a,b⟩,c⟩,d⟩,e⟩:=h1
 exact⟨a,b,c,d,fun C hC=>beq_iff_eq.mp (List.all_eq_true.mp e C hC)⟩
section
variable{X:Cx}
end
theorem t8:bootBuiltins "ValueError"=some (.type "ValueError"):=by decide+kernel
section
variable{X:Cx}
end
end L2
namespace PySem.W
open PySem PySem.Spec PySem.Calls PyProof.Rows
section
variable{prog:Program}{w:World}{A:Around}{E:Value→Shared→Prop}{s:Shared}
end
end PySem.W
namespace L2
open PySem PySem.Spec PyProof.Rows
section
variable{X:Cx}{e:Expr}{te:TE}{p pos:Pos}
theorem p9:∀{ns:List Int} {its:List Value},Vals (ns.map V.int) its→IntsAre its ns
 | [],_,h=>by cases h;exact .nil
 | n::ns,_,h=>by
   cases h with
   | cons r t=>obtain⟨u,rfl⟩:=r;exact .cons n u (p9 t)
def u7(te:TE):TE:=fun σ H Q=>te σ H fun x H1=>∃(l:Addr) (ns:List Int),x=.ref l∧H1 l=some (.lst (ns.map V.int))∧ns≠ []∧∀m,m∈ns→(∀a,a∈ns→a≤m)→Q (.int m) H1
theorem wL(hc:X.calm=true)(hm:X.mg "max"=none)(ha:PE X e te)(hg:Gl X "max":=by rfl)(he:starEach [e] X.env=[(false,eval e X.env)]:=by rfl):PE X (.Call (.Name "max" p) [e] [] pos) (u7 te):=
 cL (r:=r1 fun x H Q=>∃(l:Addr) (ns:List Int),x=.ref l∧H l=some (.lst (ns.map V.int))∧ns≠ []∧∀m,m∈ns→(∀a,a∈ns→a≤m)→Q (.int m) H)
  (cR fun pins s σ H x us Q I rv ⟨l,ns,ex,hH,hne,q⟩=>by
   subst ex
   obtain⟨u,rfl,ru⟩:=rv.one
   cases ru
   obtain⟨z,its,n,r,hl,e1⟩:=I.lstM hH
   have hi:=p9 r
   have hL:s.heap.IsList l its.toArray:=⟨_,e1,rfl,n,rfl⟩
   obtain⟨xs,ex⟩:=hi.allInts.items
   have hns:ns=xs.toList.map (·.1):=by rw[←hi.numsOf,←nums_intItems,←ex]
   have hsz:0<xs.size:=by
    cases ns with
    | nil=>exact absurd rfl hne
    | cons _ _=>
      have:=congrArg List.length hns
      simp at this;lia
   rw[ex] at hL
   refine max_intList (I.ok.hd hc) hL hsz fun v h' tk hv hk=>?_
   obtain⟨t,rfl⟩:=intItems_at hv
   obtain⟨h1,h2⟩:=argBest_gt (numAt xs) (xs.size-1)
   refine⟨.int _,H,I.kept (t':=tk) hk,⟨_,rfl⟩,q _ ?_ fun a ha=>?_⟩
   ·rw[hns,numAt_eq];exact getD_mem (by rw[List.length_map,Array.length_toList];lia)
   ·rw[hns] at ha
    obtain⟨j,hj,rfl⟩:=mem_getD ha
    rw[List.length_map,Array.length_toList] at hj
    rw[←numAt_eq];exact h2 j (by lia)) hg hm lX (aa ha ac (by exact he)) (he:=by exact he)
end
section
variable{X:Cx}{e:Expr}{te:TE}{p pos:Pos}
end
section
variable{κ:Type}[DecidableEq κ]
def bo(kvs:List (κ×V))(k:κ):Option V:=(kvs.find? fun kv=>decide (kv.1=k)).map (·.2)
def bP(kvs:List (κ×V))(k:κ)(v:V):List (κ×V):=
 if(kvs.any fun kv=>decide (kv.1=k))=true then kvs.map (fun kv=>if kv.1=k then(kv.1,v) else kv) else kvs++[(k,v)]
theorem kQ{p:κ×V}{r:List (κ×V)}{k:κ}(e:p.1=k):bo (p::r) k=some p.2:=by simp[bo,List.find?_cons,e]
theorem lj{p:κ×V}{r:List (κ×V)}{k:κ}(e:¬p.1=k):bo (p::r) k=bo r k:=by simp[bo,List.find?_cons,e]
theorem mL(k:κ):∀kvs:List (κ×V),(kvs.any fun kv=>decide (kv.1=k))=(bo kvs k).isSome
 | []=>rfl
 | p::r=>by
   rw[List.any_cons]
   by_cases e:p.1=k
   ·simp only[kQ e,decide_eq_true e,Bool.true_or,Option.isSome_some]
   ·rw[lj e,decide_eq_false e,Bool.false_or];exact mL k r
theorem oO(kvs:List (κ×V))(k:κ)(v:V):(bP kvs k v).length≤kvs.length+1:=by
 unfold bP
 split
 ·rw[List.length_map];lia
 ·rw[List.length_append,List.length_cons,List.length_nil];lia
theorem RelO.isSome_eq{o:Option V}{u:Option Value}(r:RelO o u):o.isSome=u.isSome:=by
 cases o with
 | none=>cases u with
   | none=>rfl
   | some _=>exact(show False from r).elim
 | some _=>cases u with
   | none=>exact(show False from r).elim
   | some _=>rfl
theorem KV.val{kvs:List (κ×V)}{vs:List (κ×Value)}(r:KV kvs vs)(k:κ):RelO (bo kvs k) (valueAt vs k):=by
 unfold KV at r
 induction r with
 | nil=>exact True.intro
 | @cons p q ps qs h t ih=>
   obtain⟨h1,h2⟩:=h
   by_cases e:p.1=k
   ·have e':q.1=k:=h1.symm.trans e
    have b:valueAt (q::qs) k=some q.2:=by simp[valueAt,List.find?_cons,e']
    rw[kQ e,b];exact h2
   ·have e':¬q.1=k:=fun z=>e (h1.trans z)
    have b:valueAt (q::qs) k=valueAt qs k:=by simp[valueAt,List.find?_cons,e']
    rw[lj e,b];exact ih
theorem KV.any{kvs:List (κ×V)}{vs:List (κ×Value)}(r:KV kvs vs)(k:κ):(kvs.any fun kv=>decide (kv.1=k))=vs.any fun kv=>decide (kv.1=k):=by
 unfold KV at r
 induction r with
 | nil=>rfl
 | cons h t ih=>rw[List.any_cons,List.any_cons,ih,h.1]
theorem KV.repl{kvs:List (κ×V)}{vs:List (κ×Value)}(r:KV kvs vs)(k:κ){y:V}{u:Value}(ry:RelV y u):KV (kvs.map fun kv=>if kv.1=k then(kv.1,y) else kv) (vs.map fun kv=>if kv.1=k then(kv.1,u) else kv):=by
 unfold KV at r ⊢
 induction r with
 | nil=>exact .nil
 | @cons p q ps qs h t ih=>
   rw[List.map_cons,List.map_cons]
   refine .cons ?_ ih
   obtain⟨h1,h2⟩:=h
   by_cases e:p.1=k
   ·rw[if_pos e,if_pos (h1.symm.trans e)];exact⟨h1,ry⟩
   ·rw[if_neg e,if_neg (fun z=>e (h1.trans z))];exact⟨h1,h2⟩
theorem KV.put{kvs:List (κ×V)}{vs:List (κ×Value)}(r:KV kvs vs)(k:κ){y:V}{u:Value}(ry:RelV y u):KV (bP kvs k y) (stored vs k u):=by
 unfold bP stored
 rw[r.any k]
 by_cases e:(vs.any fun kv=>decide (kv.1=k))=true
 ·rw[if_pos e,if_pos e];exact r.repl k ry
 ·rw[if_neg e,if_neg e];exact Paired.snoc r ⟨rfl,ry⟩
theorem KV.length{kvs:List (κ×V)}{vs:List (κ×Value)}(r:KV kvs vs):kvs.length=vs.length:=Paired.length r
end
theorem gO{P:Program}{w:World}{k:aj}{u:Value}(r:RelV (kV k) u):(bN P w).is k u=true:=by
 cases k with
 | inl i=>obtain⟨t,e⟩:=(show∃t,u=Value.int i t from r);subst e;exact sG P w i t
 | inr x=>obtain⟨t,e⟩:=(show∃t,u=Value.str x t from r);subst e;exact rW P w x t
theorem oZ{P:Program}{w:World}:∀{ks:List aj} {us:List Value},Vals (ks.map kV) us→ItemsAre (bN P w) ks us
 | [],_,r=>by rw[List.map_nil] at r;cases r;exact .nil
 | k::ks,_,r=>by
   rw[List.map_cons] at r
   cases r with
   | cons h t=>exact .cons (gO h) (oZ t)
abbrev KT(H:Hp):List (List aj×V)→List (List aj×Addr×Value)→Prop:=Paired fun p q=>p.1=q.1∧H q.2.1=some (.tup (p.1.map kV))∧RelV p.2 q.2.2
theorem KT.val{H:Hp}{kvs:List (List aj×V)}{xs:List (List aj×Addr×Value)}(r:KT H kvs xs)(k:List aj):RelO (bo kvs k) ((atKey xs k).map (·.2)):=by
 induction r with
 | nil=>exact True.intro
 | @cons p q ps qs h t ih=>
   obtain⟨h1,_,h2⟩:=h
   by_cases e:p.1=k
   ·have e':q.1=k:=h1.symm.trans e
    have b:atKey (q::qs) k=some q.2:=by simp[atKey,List.find?_cons,e']
    rw[kQ e,b];exact h2
   ·have e':¬q.1=k:=fun z=>e (h1.trans z)
    have b:atKey (q::qs) k=atKey qs k:=by simp[atKey,List.find?_cons,e']
    rw[lj e,b];exact ih
theorem KT.repl{H:Hp}{kvs:List (List aj×V)}{xs:List (List aj×Addr×Value)}(r:KT H kvs xs)(k:List aj){y:V}{u:Value}(ry:RelV y u):KT H (kvs.map fun kv=>if kv.1=k then(kv.1,y) else kv) (xs.map (putAt k u)):=by
 induction r with
 | nil=>exact .nil
 | @cons p q ps qs h t ih=>
   rw[List.map_cons,List.map_cons]
   refine .cons ?_ ih
   obtain⟨h1,h2,h3⟩:=h
   unfold putAt
   by_cases e:p.1=k
   ·rw[if_pos e,if_pos (h1.symm.trans e)];exact⟨h1,h2,ry⟩
   ·rw[if_neg e,if_neg (fun z=>e (h1.trans z))];exact⟨h1,h2,h3⟩
theorem KT.put{H:Hp}{kvs:List (List aj×V)}{xs:List (List aj×Addr×Value)}(r:KT H kvs xs)(k:List aj){b:Addr}{y:V}{u:Value}(hb:H b=some (.tup (k.map kV)))(ry:RelV y u):KT H (bP kvs k y) (storedH xs k b u):=by
 have e:(kvs.any fun kv=>decide (kv.1=k))=(atKey xs k).isSome:=by
  rw[mL,(r.val k).isSome_eq,Option.isSome_map]
 unfold bP storedH
 rw[e]
 by_cases q:(atKey xs k).isSome=true
 ·rw[if_pos q,if_pos q];exact r.repl k ry
 ·rw[if_neg q,if_neg q];exact Paired.snoc r ⟨rfl,hb,ry⟩
theorem KT.keeps{H H':Hp}{kvs:List (List aj×V)}{xs:List (List aj×Addr×Value)}(r:KT H kvs xs)(ht:∀b ys,H b=some (.tup ys)→H' b=some (.tup ys)):KT H' kvs xs:=
 Paired.mapP r fun _ _ z=>⟨z.1,ht _ _ z.2.1,z.2.2⟩
section
variable{P:Program}{w:World}{H:Hp}{h:Heap}{a:Addr}
theorem nq{u:HO}(ok:HOk P w H h)(e:Rd H a u):ObjOk P w H h a u:=e.ok ok
theorem iR{kvs:List (aj×V)}(ok:HOk P w H h)(e:Rd H a (.dK kvs)):kvs.length≤sizeLine∧(a == sysModules)=false∧∃vs,KV kvs vs∧h.DictOf (bN P w) a vs:=
 show ObjOk P w H h a (.dK kvs) from nq ok e
theorem xK{kvs:List (aj×V)}(ok:HOk P w H h)(e:H a=some (.dK kvs)):kvs.length≤sizeLine∧(a == sysModules)=false∧∃vs,KV kvs vs∧h.DictOf (bN P w) a vs:=iR ok (.inl e)
theorem fB{ks:List aj}(ok:HOk P w H h)(e:H a=some (.tup (ks.map kV))):(tupleKind (bN P w)).is h ks a:=by
 obtain⟨_,its,r,o,h1,h2,n,h3⟩:=(show ObjOk P w H h a (.tup (ks.map kV)) from ok a _ e)
 exact⟨o,its.toArray,n,h1,h2,h3,by simpa using oZ r⟩
theorem iA{kvs:List (List aj×V)}(ok:HOk P w H h)(e:Rd H a (.dT kvs)):kvs.length≤sizeLine∧(a == sysModules)=false∧∃xs,KT H kvs xs∧h.DictOfH (tupleKind (bN P w)) a xs:=by
 obtain⟨z,y,xs,r,o,es,ep,h1,h2,h3,h4,h5⟩:=(show ObjOk P w H h a (.dT kvs) from nq ok e)
 refine⟨z,y,xs,r,o,es,ep,h1,h2,h3,h4,fun x hx=>?_,h5⟩
 have all:∀{l:List (List aj×V)} {m:List (List aj×Addr×Value)},KT H l m→∀x∈m,(tupleKind (bN P w)).is h x.1 x.2.1:=by
  intro l m q
  induction q with
  | nil=>intro x hx;exact nomatch hx
  | @cons p q ps qs hq t ih=>
    intro x hx
    rcases List.mem_cons.mp hx with e | hx
    ·subst e
     exact fB ok (by rw[←hq.1];exact hq.2.1)
    ·exact ih x hx
 exact all r x hx
theorem xF{kvs:List (List aj×V)}(ok:HOk P w H h)(e:H a=some (.dT kvs)):kvs.length≤sizeLine∧(a == sysModules)=false∧∃xs,KT H kvs xs∧h.DictOfH (tupleKind (bN P w)) a xs:=iA ok (.inl e)
end
def DGet(H:Hp)(a:Addr)(y:V)(r:Option V):Prop:=
 (∃kvs k,Rd H a (.dK kvs)∧y=kV k∧r=bo kvs k)∨∃kvs k b,Rd H a (.dT kvs)∧y=.ref b∧H b=some (.tup (k.map kV))∧r=bo kvs k
def DPut(H:Hp)(a:Addr)(y v:V)(H':Hp):Prop:=
 (∃kvs k,H a=some (.dK kvs)∧y=kV k∧kvs.length<sizeLine∧H'=upd H a (.dK (bP kvs k v)))∨
 ∃kvs k b,H a=some (.dT kvs)∧y=.ref b∧H b=some (.tup (k.map kV))∧kvs.length<sizeLine∧H'=upd H a (.dT (bP kvs k v))
theorem DGet.t{H:Hp}{a b:Addr}{kvs:List (List aj×V)}{k:List aj}(e:H a=some (.dT kvs))(eb:H b=some (.tup (k.map kV))):DGet H a (.ref b) (bo kvs k):=.inr ⟨kvs,k,b,.inl e,rfl,eb,rfl⟩
theorem DPut.t{H:Hp}{a b:Addr}{kvs:List (List aj×V)}{k:List aj}{v:V}(e:H a=some (.dT kvs))(eb:H b=some (.tup (k.map kV)))(hl:kvs.length<sizeLine):DPut H a (.ref b) v (upd H a (.dT (bP kvs k v))):=.inr ⟨kvs,k,b,e,rfl,eb,hl,rfl⟩
section
variable{X:Cx}{pins:List (Addr×Obj)}{σ:St}{H:Hp}{s:Shared}{a:Addr}{y v:V}{u r:Value}{o:Option V}{A:Around}{E:Value→Shared→Prop}
theorem Inv.big(I:Inv X pins σ H s):sysModules<s.heap.objs.size:=by
 have h:mainGlobals<s.heap.objs.size:=(I.mod.glob.keeps I.bk).lt
 exact Nat.lt_trans (by decide) h
theorem sW{Q:Value→Shared→Prop}(hu:A.units+1<cLine)(I:Inv X pins σ H s)(g:DGet H a y (some v))(ry:RelV y u)(h:∀w' s',Inv X pins σ H s'→RelV v w'→Q w' s'):wpAny (model X.prog X.w) A (getItem (.ref a) u) Q E s:=by
 rcases g with⟨kvs,k,e,ey,l⟩ | ⟨kvs,k,b,e,ey,eb,l⟩
 ·subst ey
  obtain⟨z,hd,vs,rel,dd⟩:=iR I.hok e
  obtain⟨w',hw,rw'⟩:=RelO.some_of (v:=v) (o:=valueAt vs k) (by rw[l];exact rel.val k)
  exact wpAny_getItem_of (gO ry) dd.mapOf hw (h w' _ (I.tok _) rw')
 ·subst ey
  cases(show u=Value.ref b from ry)
  obtain⟨z,hd,xs,rel,dd⟩:=iA I.hok e
  obtain⟨w',hw,rw'⟩:=RelO.some_of (v:=v) (o:=(atKey xs k).map (·.2)) (by rw[l];exact rel.val k)
  obtain⟨p,hp,hp2⟩:=Option.map_eq_some_iff.mp hw
  refine wpAny_getItem_heap (tupleKind_room_in1 hu) (fB I.hok eb) dd hp ?_
  rw[hp2]
  exact h w' _ (I.tok _) rw'
theorem vD{Q:Value→Shared→Prop}(hu:A.units+1<cLine)(I:Inv X pins σ H s)(g:DGet H a y o)(ry:RelV y u)(h:∀s',Inv X pins σ H s'→Q (.bool (!o.isSome)) s'):wpAny (model X.prog X.w) A (compareOp .NotIn u (.ref a)) Q E s:=by
 rcases g with⟨kvs,k,e,ey,l⟩ | ⟨kvs,k,b,e,ey,eb,l⟩
 ·subst ey
  obtain⟨z,hd,vs,rel,dd⟩:=iR I.hok e
  refine wpAny_notIn_of (gO ry) hd dd.mapOf ?_
  rw[←(rel.val k).isSome_eq,←l]
  exact h _ (I.tok _)
 ·subst ey
  cases(show u=Value.ref b from ry)
  obtain⟨z,hd,xs,rel,dd⟩:=iA I.hok e
  refine wpAny_notIn_heap (tupleKind_room_in1 hu) (fB I.hok eb) hd dd ?_
  have q:=(rel.val k).isSome_eq
  rw[Option.isSome_map] at q
  rw[←q,←l]
  exact h _ (I.tok _)
theorem ju{h':Heap}{t':Nat}{ob:HO}(I:Inv X pins σ H s)(mu:fK (H a))(hs:Heap.SameBut a s.heap h')(he:∃q,h'.get? a=some q)(new:ObjOk X.prog X.w (upd H a ob) h' a ob):Inv X pins σ (upd H a ob) {s with heap:=h',toks:=t'}:=
 I.write (x:=a) (e:=a) mu (.inl rfl) (fun b q hb z=>(hs.2 b hb).trans z) he new
theorem t4{P:Program}{w:World}{H':Hp}{h':Heap}{kvs:List (aj×V)}{vs:List (aj×Value)}(z:kvs.length≤sizeLine)(hd:(a == sysModules)=false)(rel:KV kvs vs)(dd:h'.DictOf (bN P w) a vs):ObjOk P w H' h' a (.dK kvs):=⟨z,hd,vs,rel,dd⟩
theorem zr{H':Hp}{Q:Unit→Shared→Prop}(hu:A.units+1<cLine)(I:Inv X pins σ H s)(g:DPut H a y v H')(ry:RelV y u)(rv:RelV v r)(h:∀s',Inv X pins σ H' s'→Q () s'):wpAny (model X.prog X.w) A (setItem (.ref a) u r) Q E s:=by
 rcases g with⟨kvs,k,e,ey,l,eH⟩ | ⟨kvs,k,b,e,ey,eb,l,eH⟩
 ·subst ey eH
  obtain⟨z,hd,vs,rel,dd⟩:=xK I.hok e
  have hz:vs.length≤sizeLine:=by rw[←rel.length];exact z
  have hl:(bP kvs k v).length≤sizeLine:=by have:=oO kvs k v;lia
  refine wpAny_setItem_pairs (hsz:=hz) (gO ry) dd fun h' dd' hs=>h _ ?_
  have he:∃q,h'.get? a=some q:=let ⟨q,_,_,hq,_⟩:=dd';⟨q,hq⟩
  exact ju I (by rw[e];exact True.intro) hs he (t4 hl hd (rel.put k rv) dd')
 ·subst ey eH
  cases(show u=Value.ref b from ry)
  obtain⟨z,hd,xs,rel,dd⟩:=xF I.hok e
  have hz:xs.length≤sizeLine:=by rw[←Paired.length rel];exact z
  have hl:(bP kvs k v).length≤sizeLine:=by have:=oO kvs k v;lia
  refine wpAny_setItem_heap (hsz:=hz) (tupleKind_room_in1 hu) (fB I.hok eb) dd fun h' dd' hs=>h _ ?_
  obtain⟨q,es,ep,hq,h2,h3,h4,_,h5⟩:=dd'
  refine ju I (by rw[e];exact True.intro) hs ⟨q,hq⟩ ⟨hl,hd,_,(rel.put k eb rv).keeps fun c ys ec=>?_,q,es,ep,hq,h2,h3,h4,h5⟩
  rw[ah (bh ec e (fun z=>nomatch z))]
  exact ec
end
section
variable{X:Cx}{pins:List (Addr×Obj)}{σ:St}{H:Hp}{s:Shared}{a:Addr}{kvs:List (aj×V)}{k:aj}{u:Value}{A:Around}{E:Value→Shared→Prop}
end
def pO(i:Expr):Prop:=∀ov iv,subscripted i false ov iv=operate [ov,iv] (getItem ov iv)
theorem rm{prog:Program}{w:World}{A:Around}{E:Value→Shared→Prop}{s:Shared}{env:Env}{value slice:Expr}{pos:Pos}{T id:String}{Q:Value→Shared→Prop}(hl:typeLookup (.type T) "__getitem__"=pure (some (.builtin id)))(hs:pO slice)(h:wpAny (model prog w) A (eval value env) (fun o s₁=>wpAny (model prog w) A (eval slice env) (fun i s₂=>s₂.TypeIs o T∧wpAny (model prog w) A (getItem o i) Q E s₂) E s₁) E s):
 wpAny (model prog w) A (eval (.Subscript value slice pos) env) Q E s:=by
 refine Subscript_ (wpAny_mono h (fun o s₁ h₁=>wpAny_mono h₁ (fun i s₂ h₂=>?_) fun _ _ x=>x) fun _ _ x=>x)
 obtain⟨hT,h₂⟩:=h₂
 unfold subscriptTail
 refine wpAny_bind ?_
 rw[getitemInPython_of_ne hT.not_modules]
 refine wpAny_bind (wpAny_specialOf hT hl ?_)
 have fin:wpAny (model prog w) A (subscripted slice false o i) (fun r s₃=>wpAny (model prog w) A (letTemporaryGo value o r >>= fun _=>pure r) Q E s₃) E s₂:=by
  rw[hs o i]
  exact wpAny_operating (wpAny_mono h₂ (fun r s₃ h₃=>wpAny_bind (wpAny_letTemporaryGo (wpAny_pure h₃))) fun _ _ x=>x)
 first
  | exact wpAny_pure (wpAny_bind fin)
  | exact wpAny_bind (wpAny_pure (wpAny_bind fin))
  | exact wpAny_bind fin
theorem uQ{X:Cx}{pins:List (Addr×Obj)}{σ:St}{H:Hp}{s:Shared}{a:Addr}{y:V}{o:Option V}(I:Inv X pins σ H s)(g:DGet H a y o):s.TypeIs (.ref a) "dict":=by
 rcases g with⟨kvs,k,e,_,_⟩ | ⟨kvs,k,b,e,_,_,_⟩
 ·obtain⟨_,_,vs,_,dd⟩:=iR I.hok e
  exact dd.typeIs
 ·obtain⟨_,_,xs,_,dd⟩:=iA I.hok e
  exact dd.typeIs
def tW(td ty:TE):TE:=fun σ H Q=>td σ H fun x H1=>ty σ H1 fun y H2=>∃a v,x=.ref a∧DGet H2 a y (some v)∧Q v H2
def sH(td ty tv:TE):TS:=fun D σ H=>tv σ H fun v H1=>td σ H1 fun x H2=>ty σ H2 fun y H3=>∃a H4,x=.ref a∧DPut H3 a y v H4∧D.nx σ H4
section
variable{X:Cx}{o i e value:Expr}{pos pos' tpos:Pos}{td ty tv:TE}
theorem fe(hu:X.A.units+1<cLine)(ho:PE X o td)(hi:PE X i ty)(hs:pO i):PE X (.Subscript o i pos) (tW td ty):=by
 intro pins s σ H Q I h
 refine rm PySem.F.slot_dict_getitem.lookup hs (ak (ho pins s σ H _ I h) fun u s1 ⟨x,H1,I1,rx,q1⟩=>ak (hi pins s1 σ H1 _ I1 q1) fun iv s2 ⟨y,H2,I2,ry,a,v,ex,g,q2⟩=>?_)
 subst ex
 obtain rfl:u=Value.ref a:=rx
 exact⟨uQ I2 g,sW hu I2 g ry fun w' s3 I3 rw'=>⟨v,H2,I3,rw',q2⟩⟩
theorem qa(hu:X.A.units+1<cLine)(ho:PE X o td)(hi:PE X i ty)(hv:PE X value tv)(hs:swapsWith value (some (.Subscript o i pos')) pos.line X.env=pure false):PS X (.Assign [.Subscript o i pos'] value pos) (sH td ty tv):=by
 intro pins s σ H D I h
 refine wpAny_Assign_Subscript (ak (hv pins s σ H _ I h) fun r s1 ⟨v,H1,I1,rv,q1⟩=>ak (ho pins s1 σ H1 _ I1 q1) fun u s2 ⟨x,H2,I2,rx,q2⟩=>ak (hi pins s2 σ H2 _ I2 q2) fun iv s3 ⟨y,H3,I3,ry,a,H4,ex,g,q3⟩=>?_) hs
 subst ex
 obtain rfl:u=Value.ref a:=rx
 exact zr hu I3 g ry rv fun s4 I4=>⟨σ,H4,I4,q3⟩
end
theorem wU{P:Program}{w:World}{H:Hp}(h:Heap)(hb:sysModules<h.objs.size):ObjOk P w H (h.push {cls:=.type "dict",data:=.dict #[]}) h.objs.size (.dT []):=
 ⟨Nat.zero_le _,beq_eq_false_iff_ne.mpr (Ne.symm (Nat.ne_of_lt hb)),[],.nil,_,#[],0,Heap.get?_push_size _ rfl,⟨rfl,rfl,rfl⟩,rfl,rfl,List.nodup_nil⟩
def xk:TE:=fun _ H Q=>∀p,H p=none→Q (.ref p) (upd H p (.dT []))
section
variable{X:Cx}{pos:Pos}
theorem rd:PE X (.Dict [] [] pos) xk:=fun pins s σ H Q I h=>
 wpAny_Dict_empty ⟨.ref s.heap.objs.size,_,I.laid (a:=s.heap.objs.size) (o:=.dT []) (t':=s.toks) (fun _ _ q=>Heap.get?_push_of_some _ q) (Nat.le_refl _) (wU s.heap I.big),rfl,h _ (I.hok.fresh (Nat.le_refl _))⟩
end
structure M1(X:Cx)(o:Expr)(m:Str)(apos:Pos)(e:Expr)(cpos:Pos):Prop where
 base:attributeBase o m X.env (eval o X.env)=eval o X.env
 few:((backTo cpos (starEach [e] X.env)).all (fun x=>!x.1) && (backToKw cpos (keywordEach [] X.env)).all (fun x=>x.1.isSome)
  && decide (([e]:List Expr).length+([]:List Keyword).length+(if([]:List Keyword).isEmpty then 0 else 1)<30))=true
 line:(apos.endLine == cpos.line)=true
 trees:backTo cpos (starEach [e] X.env)=[(false,eval e X.env)]
structure M2(X:Cx)(o:Expr)(m:Str)(apos:Pos)(e f:Expr)(cpos:Pos):Prop where
 base:attributeBase o m X.env (eval o X.env)=eval o X.env
 few:((backTo cpos (starEach [e,f] X.env)).all (fun x=>!x.1) && (backToKw cpos (keywordEach [] X.env)).all (fun x=>x.1.isSome)
  && decide (([e,f]:List Expr).length+([]:List Keyword).length+(if([]:List Keyword).isEmpty then 0 else 1)<30))=true
 line:(apos.endLine == cpos.line)=true
 trees:backTo cpos (starEach [e,f] X.env)=[(false,eval e X.env),(false,eval f X.env)]
section
variable{X:Cx}{pins:List (Addr×Obj)}{σ:St}{H:Hp}{s:Shared}{a:Addr}{y d:V}{u r:Value}{o:Option V}{A:Around}{E:Value→Shared→Prop}
end
section
variable{X:Cx}{o e f:Expr}{apos cpos:Pos}{td ty tx:TE}
end
section
variable{X:Cx}{pins:List (Addr×Obj)}{σ:St}{H:Hp}{s:Shared}{a:Addr}{kvs:List (aj×V)}{A:Around}{E:Value→Shared→Prop}
end
section
variable{X:Cx}{pins:List (Addr×Obj)}{σ:St}{H:Hp}{s:Shared}{a:Addr}{y:V}{u:Value}{A:Around}{E:Value→Shared→Prop}
end
section
variable{X:Cx}
theorem w6(hc:X.calm=true):bU X (.builtin "sum") (fun xs H Q=>∃(p:Addr) (ns:List Int),xs=[.ref p]∧H p=some (.lst (ns.map V.int))∧Q (.int ns.sum) H):=by
 intro pins s σ H xs us Q I r h
 obtain⟨p,ns,rfl,hp,q⟩:=h
 obtain⟨u,rfl,rx⟩:=dN r
 cases rx
 obtain⟨_,its,n,rv,hlen,e1⟩:=I.lstM hp
 have isl:s.heap.IsList p its.toArray:=⟨_,e1,rfl,n,rfl⟩
 have below:p<s.heap.objs.size:=Heap.lt_size e1
 have hil:its.length=ns.length:=by rw[←hlen,List.length_map]
 refine call_sum_walkG (wpAny_pyIter_list isl ?_)
 refine⟨s.heap.objs.size,[s.heap.objs.size,p],[s.heap.objs.size],_,_,_,fun i=>ns.getD i 0,rfl,Walks.list (by first | exact I.ok.hd hc | (show X.A.in1.handled=none;exact I.ok.hd hc)) s.heap.objs.size p (Nat.ne_of_lt below) its.toArray,⟨⟨_,Heap.get?_push_size _ rfl,rfl,rfl⟩,isl.at fun o q=>Heap.get?_push_of_some _ q⟩,?_,?_,?_⟩
 ·intro b hb
  rw[Heap.size_push]
  simp only[List.mem_cons,List.not_mem_nil,or_false] at hb
  rcases hb with rfl | rfl
  ·exact Nat.lt_succ_self _
  ·exact Nat.lt_succ_of_lt below
 ·intro i v hv
  have hi:i<ns.length:=by
   have:=(Array.getElem?_eq_some_iff.mp hv).1
   simp at this;lia
  obtain⟨u,hu,ru⟩:=rv.get (show(ns.map V.int)[i]?=some (.int ns[i]) by simp[hi])
  have:its[i]?=some v:=by simpa using hv
  rw[hu] at this
  cases this
  obtain⟨t,rfl⟩:=ru
  exact⟨t,by simp[hi]⟩
 ·intro h' tk t' hk
  refine⟨.int ns.sum,H,?_,⟨t',?_⟩,q⟩
  ·exact I.kept (h':=h') (t':=tk) fun b o e=>hk b o (by simp;exact Nat.ne_of_lt (Heap.lt_size e)) (Heap.get?_push_of_some _ e)
  ·rw[show its.toArray.size=ns.length by simp[hil],oW _ (Nat.le_refl _),List.take_length]
variable{e:Expr}{te:TE}{p pos:Pos}
def yD(te:TE):TE:=fun σ H Q=>te σ H fun x H1=>∃(a:Addr) (ns:List Int),x=.ref a∧H1 a=some (.lst (ns.map V.int))∧Q (.int ns.sum) H1
theorem qK(hc:X.calm=true)(hm:X.mg "sum"=none)(ha:PE X e te)(hg:Gl X "sum":=by rfl)(he:starEach [e] X.env=[(false,eval e X.env)]:=by rfl):PE X (.Call (.Name "sum" p) [e] [] pos) (yD te):=
 cL (r:=r1 fun x H Q=>∃(a:Addr) (ns:List Int),x=.ref a∧H a=some (.lst (ns.map V.int))∧Q (.int ns.sum) H) (cR fun pins s σ H x us Q I rv ⟨a,ns,ex,h1,q⟩=>w6 hc pins s σ H _ us Q I rv ⟨a,ns,by rw[ex],h1,q⟩) hg hm vU (aa ha ac (by exact he)) (he:=by exact he)
end
section
variable{prog:Program}{w:World}{κ:Type}[DecidableEq κ]{knd:HeapKind prog w κ}{A:Around}{E:Value→Shared→Prop}{s:Shared}
end
section
variable{X:Cx}{pins:List (Addr×Obj)}{σ:St}{H:Hp}{s:Shared}{a c:Addr}{kvs:List (List aj×V)}{k:List aj}{v:V}{r:Value}{A:Around}{E:Value→Shared→Prop}
end
section
variable{X:Cx}{e:Expr}{te:TE}{p pos:Pos}
end
theorem Inv.still{X:Cx}{pins:List (Addr×Obj)}{σ:St}{H:Hp}{s:Shared}{a:Addr}{kvs:List (List aj×V)}(I:Inv X pins σ H s)(e:H a=some (.dT kvs)):∃o,s.heap.get? a=some o∧Inv X pins σ (upd H a (.frz o (.dT kvs))) s:=by
 obtain⟨z,hd,xs,rel,o,es,ep,h1,h2,h3,h4,h5⟩:=(show ObjOk X.prog X.w H s.heap a (.dT kvs) from I.hok a _ e)
 refine⟨o,h1,ju (h':=s.heap) (t':=s.toks) I (by rw[e];exact True.intro) ⟨rfl,fun _ _=>rfl⟩ ⟨o,h1⟩ ⟨h1,z,hd,xs,KT.keeps rel fun b ys eb=>?_,o,es,ep,h1,h2,h3,h4,h5⟩⟩
 rw[ah (bh eb e (fun z=>nomatch z))]
 exact eb
section
variable{prog:Program}{w:World}{A:Around}{E:Value→Shared→Prop}{s:Shared}{it d:Addr}{i n ep:Nat}{od:Obj}{es:Array DictEntry}
end
theorem fQ{α β:Type}{F:α→β→Prop}:∀{l₁:List α} {l₂:List β} {i:Nat} {x:α},Paired F l₁ l₂→l₁[i]?=some x→∃y,l₂[i]?=some y∧F x y
 | _,_,0,_,.cons r _,h=>⟨_,rfl,by cases h;exact r⟩
 | _,_,i+1,_,.cons _ t,h=>by
   obtain⟨y,e,r⟩:=fQ (i:=i) t (by simpa using h)
   exact⟨y,by simpa using e,r⟩
abbrev TF:=St→Hp→(Hp→Prop)→Prop
def i8(X:Cx)(e:Expr)(t:TF):Prop:=∀(pins:List (Addr×Obj)) (s:Shared) (σ:St) (H:Hp) (Q:Hp→Prop),Inv X pins σ H s→t σ H Q→
 wpAny (model X.prog X.w) X.A (eval e X.env) (fun v s1=>∃y k,v=.str y k∧y.length≤2000∧∃H',Inv X pins σ H' s1∧Q H') X.xe s
def gy(X:Cx)(es:List Expr)(t:TF):Prop:=∀(pins:List (Addr×Obj)) (s:Shared) (σ:St) (H:Hp) (Q:Hp→Prop) (out:Str),out.length+2000*es.length≤16777216→Inv X pins σ H s→t σ H Q→
 wpAny (model X.prog X.w) X.A (joinParts out (evalEach es X.env)) (fun v s1=>∃y k,v=.str y k∧∃H',Inv X pins σ H' s1∧Q H') X.xe s
section
variable{X:Cx}
theorem pX{x:Str}{j:Nat}{pos:Pos}(hl:x.length≤2000):i8 X (.Constant (.str x) j pos) (fun _ H Q=>Q H):=fun pins s σ H Q I h=>Calls.Constant_str ⟨x,_,rfl,hl,H,I.tok _,h⟩
theorem qL{e:Expr}{te:TE}{pos:Pos}(he:PE X e te):i8 X (.FormattedValue e (-1) none pos) (fun σ H Q=>te σ H fun x H'=>∃i:Int,x=.int i∧i.natAbs.log2<1900∧Q H'):=fun pins s σ H Q I h=>by
 refine FormattedValue_plain (ak (he pins s σ H _ I h) fun v s1 ⟨x,H1,I1,rx,i,ex,hi,q⟩=>?_)
 subst ex
 obtain⟨k,rfl⟩:=rx
 refine formatField_int_small (by lia) ⟨_,_,rfl,?_,H1,?_,q⟩
 ·have:=int_text_length_le (a:=i) (k:=1900) (by decide) hi
  rw[PySem.ofString_length]
  lia
 ·exact I1.kept (h':=s1.heap) (t':=s1.toks+1+1) fun _ _ q=>q
theorem rM:gy X [] (fun _ H Q=>Q H):=fun pins s σ H Q out hl I h=>joinParts_nil ⟨out,_,rfl,H,I.tok _,h⟩ (by show out.length≤2 ^ 24;simp at hl;lia)
theorem hW{e:Expr}{es:List Expr}{t u:TF}(he:i8 X e t)(hr:gy X es u)(hs:evalEach (e::es) X.env=eval e X.env::evalEach es X.env:=by rfl):gy X (e::es) (fun σ H Q=>t σ H fun H'=>u σ H' Q):=fun pins s σ H Q out hl I h=>by
 rw[hs]
 refine joinParts_cons (wpAny_mono (he pins s σ H _ I h) (fun v s1 ⟨y,k,ev,hy,H1,I1,q⟩=>?_) fun _ _ z=>z)
 subst ev
 have len:(out++y).length=out.length+y.length:=strLen_append _ _
 have hl':out.length+2000*(es.length+1)≤16777216:=hl
 refine⟨by rw[len];show _≤2 ^ 24;lia,hr pins s1 σ H1 Q (out++y) (by rw[len];lia) I1 q⟩
def xM(t:TF):TE:=fun σ H Q=>t σ H fun H'=>∀z:Str,Q (.str z) H'
theorem xU{e e2:Expr}{es:List Expr}{t:TF}{pos:Pos}(h:gy X (e::e2::es) t)(few:es.length≤100)(hs:evalEach (e::e2::es) X.env=eval e X.env::eval e2 X.env::evalEach es X.env:=by rfl):PE X (.JoinedStr (e::e2::es) pos) (xM t):=fun pins s σ H Q I q=>by
 have:=h pins s σ H _ Str.empty (by show 0+2000*(es.length+2)≤16777216;lia) I q
 rw[hs] at this
 refine JoinedStr_many (wpAny_mono this (fun v s1 ⟨y,k,ev,H1,I1,q1⟩=>?_) fun _ _ z=>z)
 subst ev
 exact⟨.str y,H1,I1,⟨k,rfl⟩,q1 y⟩
end
section
variable{prog:Program}{w:World}{A:Around}{E:Value→Shared→Prop}{s:Shared}{it d:Addr}{i n ep:Nat}{od:Obj}{es:Array DictEntry}
end
section
variable{s:Shared}{prog:Program}{w:World}{A:Around}{E:Value→Shared→Prop}
end
def aH:List Int→List Int→Bool
 | [],[]=>false
 | [],_::_=>true
 | _::_,[]=>false
 | x::xs,y::ys=>if x=y then aH xs ys else decide (x<y)
theorem sM:∀ys:List Int,aH [] ys=decide (0<ys.length)
 | []=>rfl
 | _::_=>by simp[aH]
theorem wM:∀xs:List Int,aH xs []=false
 | []=>rfl
 | _::_=>rfl
section
open SeqAt MeetsSeq MeetsSeq2 MeetsSeq3 SeqRoads2
open AutoSeq1 (wpAny_loadPart')
def LtAt(A:Around)(s:Shared)(y x:Value)(b:Bool):Prop:=∀(prog:Program) (w:World) (E:Value→Shared→Prop) (Q:Value→Shared→Prop),Q (.bool b) s→wpAny (model prog w) A (richCompare .Lt y x) Q E s
def rO(a b:Int)(xs ys:List Int):Bool:=if a=b then aH xs ys else decide (a<b)
theorem gz:∀xs:List Int,aH xs xs=false
 | []=>rfl
 | x::xs=>by simp only[aH,if_true];exact gz xs
end
theorem bJ{C:List Value→Prop}(h:∀a,C [a]):∀us:List Value,us.length=1→C us
 | [a],_=>h a
theorem jA{C:List Value→Prop}(h:∀a b,C [a,b]):∀us:List Value,us.length=2→C us
 | [a,b],_=>h a b
theorem cT{C:List Value→Prop}(h:∀a b c,C [a,b,c]):∀us:List Value,us.length=3→C us
 | [a,b,c],_=>h a b c
theorem q9{C:List Value→Prop}(h:∀a b c d,C [a,b,c,d]):∀us:List Value,us.length=4→C us
 | [a,b,c,d],_=>h a b c d
theorem i4{K:PySem.W.Frag}{a:Addr}{xs:List V}{g:TG}{tb:TS}{D:Ends}{σ:St}{H:Hp}(Pv:Nat→St→Hp→Prop)(h0:Pv 0 σ H)(hl:∀i σ H,i≤xs.length→Pv i σ H→SqL K H a xs)(hs:∀(D2:Ends) i x σ H,(∀σ' H',Pv (i+1) σ' H'→D2.nx σ' H')→xs[i]?=some x→Pv i σ H→g x σ H fun σ2 H2=>tb D2 σ2 H2)(hd:∀σ H,Pv xs.length σ H→D.nx σ H):FW (ce K a) g tb D σ H:=
 gZ Pv h0 hl (fun i x σ H hx p=>hs _ i x σ H (fun _ _ h=>h) hx p) hd
theorem uc{lo:Int}{n:Nat}{g:TG}{tb:TS}{D:Ends}{σ:St}{H:Hp}(Pv:Nat→St→Hp→Prop)(h0:Pv 0 σ H)(hs:∀(D2:Ends) i σ H,(∀σ' H',Pv (i+1) σ' H'→D2.nx σ' H')→i<n→Pv i σ H→g (.int (lo+i)) σ H fun σ2 H2=>tb D2 σ2 H2)(hd:∀σ H,Pv n σ H→D.nx σ H):FW (cD lo n) g tb D σ H:=
 gB Pv h0 (fun i σ H hx p=>hs _ i σ H (fun _ _ h=>h) hx p) hd
section
variable{X:Cx}{tg:Expr}
end
section
variable{X:Cx}{a b c:Expr}{ta:TA}{p p2 pos pos2:Pos}
end
theorem kZ:∀{xs ys zs:List Int},aH xs ys=true→aH ys zs=true→aH xs zs=true
 | [],[],_,h,_=>by simp[aH] at h
 | [],_::_,[],_,h=>by simp[aH] at h
 | [],_::_,_::_,_,_=>(rfl:true=true)
 | _::_,[],_,h,_=>by simp[aH] at h
 | _::_,_::_,[],_,h=>by simp[aH] at h
 | x::xs,y::ys,z::zs,h1,h2=>by
   simp only[aH] at h1 h2 ⊢
   by_cases e1:x=y
   ·rw[if_pos e1] at h1
    by_cases e2:y=z
    ·rw[if_pos e2] at h2
     rw[if_pos (e1.trans e2)]
     exact kZ h1 h2
    ·rw[if_neg e2] at h2
     rw[if_neg (by rw[e1];exact e2),e1]
     exact h2
   ·rw[if_neg e1] at h1
    have l1:=of_decide_eq_true h1
    by_cases e2:y=z
    ·rw[if_neg (by rw[←e2];exact e1),←e2]
     exact h1
    ·rw[if_neg e2] at h2
     have l2:=of_decide_eq_true h2
     rw[if_neg (by lia)]
     exact decide_eq_true (Int.lt_trans l1 l2)
abbrev K3:=Int×Int×List Int
section
variable{s:Shared}{prog:Program}{w:World}{A:Around}{E:Value→Shared→Prop}
end
section
open SeqAt MeetsSeq MeetsSeq2 MeetsSeq3 SeqRoads2
open AutoSeq1 (wpAny_loadPart')
end
def wJ(isL:Bool)(H:Hp)(c:Addr)(k:K3):Prop:=match isL with
 | false=>∃d:Int,k.2.2=[d]∧H c=some (.tup [.int k.1,.int k.2.1,.int d])
 | true=>∃g:Addr,H c=some (.tup [.int k.1,.int k.2.1,.ref g])∧H g=some (.lst (k.2.2.map V.int))
structure Trips(isL:Bool)(H:Hp)(cs:List Addr)(ks:List K3):Prop where
 len:cs.length=ks.length
 at_:∀(i:Nat) (c:Addr) (k:K3),cs[i]?=some c→ks[i]?=some k→wJ isL H c k
section
variable{X:Cx}{e d:Expr}{te td:TE}{p pos kp:Pos}{k:Nat}
end
section
variable{prog:Program}{w:World}{A:Around}{E:Value→Shared→Prop}{s:Shared}
end
section
variable{X:Cx}{tg a:Expr}{ta:TA}{p p2 pos pos2:Pos}
end
theorem sN{X:Cx}{k:Nat}(hr:Room k X.A):OpR X (compareOp .NotIn) (fun y x H Q=>∃a o,x=.ref a∧DGet H a y o∧Q (.bl (!o.isSome)) H):=by
 intro pins s σ H y x v u Q I ry rx h
 obtain⟨a,o,e,g,q⟩:=h
 subst e
 obtain rfl:u=Value.ref a:=rx
 exact vD (dw hr) I g ry fun s3 I3=>⟨.bl (!o.isSome),H,I3,rfl,q⟩
section
variable{prog:Program}{w:World}{A:Around}{E:Value→Shared→Prop}{s:Shared}
end
section
variable{prog:Program}{w:World}{A:Around}{E:Value→Shared→Prop}{s:Shared}
end
structure RoomH(k:Nat)(A:Around):Prop where
 dp:A.depth+3*k+5<recursionLimit
 un:A.units+16*k+200<cLine
theorem xh{k:Nat}{A:Around}{v:Option Value}(r:Room k A):RoomH k (A.mark v):=⟨r.dp,r.un⟩
structure FnHOk(P:Program)(w:World)(K:PySem.W.Frag)(mg:Str→Option Value)(base:Heap)(k:Nat)(f:Addr)(fd:FuncData)(ps:List Str)(sp:Sp):Prop where
 len:∀vs H Q E,sp vs H Q E→vs.length=ps.length
 run:∀(A:Around) (outer:List Env) (s:Shared) (H:Hp) (args:Args) (us:List Value) (vs:List V) (Q:VK),RoomH k A→Env0 P w K mg base A outer s H→BindsTo s fd args (ps.zip us)→Vals vs us→sp vs H Q E0→
  codeAny (model P w) A (.call (.ref f) args) (CR ai outer P w H s Q E0) s
structure FnH(P:Program)(w:World)(K:PySem.W.Frag)(mg:Str→Option Value)(base:Heap)(x:Str)(k:Nat)(ps:List Str)(sp:Sp):Prop where
 ex:∃f fd,FnHOk P w K mg base k f fd ps sp∧mg x=some (.ref f)∧PySem.W.keepIn K (.ref f)=true∧Binds K fd ps []
theorem sL{X:Cx}{k j:Nat}{ps:List Str}{sp:Sp}{x:Str}{p pos:Pos}{e:Expr}{es:List Expr}{t:TA}(F:FnH X.prog X.w X.K X.mg X.base x k ps sp)(hr:RoomH j X.A)(ha:PA X (e::es) t)(hg:Gl X x:=by rfl)(hj:k≤j:=by decide)
 (hdb:(x == ("__debug__":Str))=false:=by decide)(he:starEach (e::es) X.env=(false,eval e X.env)::starEach es X.env:=by rfl)(hpl:(backTo pos (starEach es X.env)).any (·.1)=false:=by rfl):
 PE X (.Call (.Name x p) (e::es) [] pos) (ig sp [] E0 t):=by
 obtain⟨f,fd,F,hm,hk,hb⟩:=F.ex
 have hr:RoomH k X.A:=⟨by have:=hr.dp;lia,by have:=hr.un;lia⟩
 intro pins s σ H Q I h
 refine wpAny_Call_Name_kw (fh I hg hm ?_ hdb)
 refine PySem.W.callWith_K (h₀:=X.base) I.ok.mod.kin hk (ak (ha pos pins s σ H _ I h) fun us s1 ⟨vs,H1,I1,r,q⟩=>⟨I1.kIn,?_⟩) he hpl
 have r2:Vals (vs++[]) (us++[]):=r.append .nil
 have hl:(us++[]).length=ps.length:=by rw[←r2.length];exact F.len _ _ _ _ q
 refine wpAny_call (codeAny_mono (F.run X.A X.stack s1 H1 ⟨us,[]⟩ (us++[]) (vs++[]) Q hr I1.env0 (hb s1 us I1.kIn hl) r2 q) fun r s' hq=>?_)
 cases r with
 | error e=>exact False.elim hq
 | ok fl=>
   cases fl with
   | ret u=>exact I1.after hq
   | next=>exact False.elim hq
   | brk=>exact False.elim hq
   | cont=>exact False.elim hq
abbrev jt(P:Program)(w:World)(K:PySem.W.Frag)(mg:Str→Option Value)(base:Heap)(N:List Str)(qual:Str)(scope:Scope)(f:Addr)(cd:Value)(A:Around)(outer:List Env)(s:Shared)(H:Hp):Cx:=
 {bE ai P w K mg base N qual scope f cd A outer s H E0 with calm:=false,xe:=fun _ _=>False}
theorem zG{P:Program}{w:World}{K:PySem.W.Frag}{mg:Str→Option Value}{base:Heap}{x:Str}{st:Stmt}{N ps:List Str}{k:Nat}{sp:Sp}(M:Md K mg)(F:FF K x st)(S:FnScope N ps (ar st))(hbind:∀(kV doc pm:Value) (an:Option Addr) (cdv ct:Value) (us:List Value),us.length=ps.length→bindArgs (PySem.W.fnOf x x (bW st) (bz st) (ar st) .none kV doc pm an cdv ct) ⟨us,[]⟩=pure (ps.zip us))(len:∀vs H Q E,sp vs H Q E→vs.length=ps.length)(hbody:∀(f:Addr) (cdv:Value) (A:Around) (outer:List Env) (s:Shared) (H:Hp) (vs:List V) (Q:VK),RoomH k (A.deeper (envOfC x (ar st) s.heap.objs.size f cdv))→sp vs H Q E0→∃t,PSs (jt P w K mg base N x (ar st) f cdv A outer s H) (bz st) t∧t {nx:=fun _ H'=>Q .non H',rt:=Q} (start N vs) H):FnH P w K mg base x (k+1) ps sp:=by
 obtain⟨f,oc,od,an,osl,kV,doc,pm,cdv,ct,a,l,c,kk⟩:=F.ex
 have F1:=iD (st:=st) l c kk
 refine⟨f,_,⟨len,fun A outer s H args us vs Q hr e0 hb r hsp=>?_⟩,M.ns _ _ a,kk,F1.binds hbind⟩
 have hl:=len _ _ _ _ hsp
 have KX:K.In s.heap:=e0.mod.kin.keeps fun b o e=>(e0.bs b o e).1
 have lim:s.heap.NoLimit:=e0.mod.nolimit.keeps fun b o e=>(e0.bs b o e).1
 have hkind:∀y∈ps.zip us,(ar st).names.lookup y.1=some .local∨((ar st).names.lookup y.1=some .cell∧((cellsFrom (s.heap.objs.size+1) (ar st).names []).lookup y.1).isSome=true):=fun⟨n,v⟩ hy=>by
  rcases S.par n (List.of_mem_zip hy).1 with q | q
  ·exact .inl q
  ·exact .inr ⟨q,PySem.W.cellsFrom_some _ _ _ (.inl q)⟩
 refine codeAny_call_function (show A.depth<recursionLimit by have:=hr.dp;lia) (KX _ _ l) rfl S.co S.gen rfl (PySem.W.codeRec_of KX c) (hb _ _ _ _ ?_)
 refine wpAny_newFunctionEnv_cells S.kind hkind fun env he s1 x'=>?_
 subst he
 refine⟨lim.keeps x'.toInCall.keep,codeAny_func ?_⟩
 have hr':RoomH k (A.deeper (envOfC x (ar st) s.heap.objs.size f cdv)):=⟨by have:=hr.dp;show A.depth+1+3*k+5<_;lia,by have:=hr.un;show A.units+3+16*k+200<_;lia⟩
 obtain⟨t,ht,hq⟩:=hbody f cdv A outer s H vs Q hr' hsp
 have e1:Env0 P w K mg base ({A with handled:=none}:Around) outer s H:=⟨e0.frames,e0.mod,e0.bs,e0.bsz,e0.funs,e0.frf,e0.hok,e0.bare⟩
 have I0:Inv (bE ai P w K mg base N x (ar st) f cdv ({A with handled:=none}:Around) outer s H E0) [] (start N vs) H s1:=pB S rfl e1 hl r x'
 have I:Inv (jt P w K mg base N x (ar st) f cdv A outer s H) [] (start N vs) H s1:=
  ⟨⟨I0.ok.mod,I0.ok.kind,I0.ok.glob,I0.ok.blt,I0.ok.above,I0.ok.inj,I0.ok.has,I0.ok.cab,(fun q=>by cases q),Around.frames_deeper e0.frames,I0.ok.stk,I0.ok.exf,I0.ok.bs,I0.ok.bsz,I0.ok.noex,I0.ok.exfs,I0.ok.funs,I0.ok.frf⟩,I0.os,I0.bare,I0.base,I0.loc,I0.cell,I0.free,I0.freeC,I0.pin,I0.hok,I0.len⟩
 refine wpAny_mono (ht [] s1 (start N vs) H _ I hq) (fun fl s' hs=>?_) fun e s' hs=>False.elim hs
 have fin:∀{σ':St} {H':Hp} {v:V} {u:Value},Inv (jt P w K mg base N x (ar st) f cdv A outer s H) [] σ' H' s'→RelV v u→Q v H'→CE outer P w H s Q u s':=fun{σ' H' v u} J rv q=>⟨v,H',J.os,J.bare,J.base,J.hok,rv,q⟩
 cases fl with
 | ret u=>obtain⟨v,σ',H',J,rv,q⟩:=hs;exact fin J rv q
 | next=>obtain⟨σ',H',J,q⟩:=hs;exact fin (v:=V.non) (u:=Value.none) J rfl q
 | brk=>obtain⟨_,_,_,q⟩:=hs;exact False.elim q
 | cont=>obtain⟨_,_,_,q⟩:=hs;exact False.elim q
section
variable{X:Cx}{e:Expr}{te:TE}{p pos:Pos}
end
section
variable{X:Cx}
end
section
variable{X:Cx}{a b c:Expr}{ta:TA}{p p2 pos pos2:Pos}
end
section
variable{prog:Program}{w:World}{A:Around}{E:Value→Shared→Prop}{s:Shared}
theorem yB:typeLookup (.type "list") "keys"=pure none:=am_miss_of_fast (by decide+kernel)
theorem wu{a:Addr}{xs:Array Value}{n:Nat}{sl:Array (Option Value)}{Q:Option Value→Shared→Prop}(hx:s.heap.get? a=some {cls:=.type "list",dict:=none,data:=.seq xs n,slots:=sl})(hA:A.handled=none)(h:∀h' tk,(∀b o,s.heap.get? b=some o→h'.get? b=some o)→Q none {s with heap:=h',toks:=tk}):wpAny (model prog w) A (getAttr? (.ref a) "keys") Q E s:=by
 obtain⟨hp,g,dr,tk0,os⟩:=s
 have ty:∀tk,(⟨hp,g,dr,tk,os⟩:Shared).TypeIs (.ref a) "list":=fun _=>⟨_,hx,rfl⟩
 have q1:=sub_AttributeError
 have q2:=F.slot_list_getattribute.lookup
 have q3:=F.slot_list_getattribute.bind (.ref a)
 have q4:=am_list_getattr_none
 unfold getAttr? getAttrBy? getAttrBy
 repeat (any_goals (first | assumption | exact ty _ | ((with_reducible show wpAny _ _ (call (Value.builtin "list.__getattribute__") _ _) _ _ _);refine call_meets F.slot_list_getattribute (ty _) am_entry_list_getattribute (F.args_list_getattribute_2 _ _) (meets_getattribute_miss_list a xs n sl "keys" _ yB (by decide+kernel)) ⟨hx,hA,fun h' tk' e made=>?_⟩) | wp_step))
 obtain⟨t',u',he⟩:=made.there
 show wpAny _ _ (getattributeRaised _ _ _ _ _ _ _) _ _ _
 unfold getattributeRaised
 repeat (any_goals (first | assumption | wp_step))
 exact h _ _ made.keeps
end
section
variable{prog:Program}{w:World}{κ:Type}[DecidableEq κ]{knd:KeyKind prog w κ}{A:Around}{E:Value→Shared→Prop}{s:Shared}
theorem gU:plainId "dict.update.loop"=true:=by decide+kernel
theorem qb:entryFor table "dict.update.loop"=some Builtin.«dict.update.loop»:=entryFor_of_fast (by kernel_rfl)
end
section
variable{X:Cx}{pins:List (Addr×Obj)}{σ:St}{H:Hp}{s:Shared}
end
theorem mQ:∀{ps:List Addr} {its:List Value},Vals (ps.map V.ref) its→its=ps.map Value.ref
 | [],_,h=>by cases h;rfl
 | p::ps,_,h=>by
   cases h with
   | cons r t=>
     obtain rfl:=mQ t
     rw[show _=Value.ref p from r];rfl
theorem uv:bootBuiltins "dict"=some (.type "dict"):=by decide+kernel
section
variable{X:Cx}{e:Expr}{te:TE}{p pos:Pos}
end
section
variable{X:Cx}{e:Expr}{te:TE}{p pos:Pos}
end
section
variable{prog:Program}{w:World}{A:Around}{E:Value→Shared→Prop}{s:Shared}{a₀:Array Keyed}
theorem ud(vs:List Value):(pairsOf vs).map (·.2)=vs.toArray:=by
 apply Array.toList_inj.mp
 rw[Array.toList_map,pairsOf_toList,List.map_snd_zip (Nat.le_refl _)]
end
section
variable{prog:Program}{w:World}{κ:Type}[DecidableEq κ]{knd:KeyKind prog w κ}{A:Around}{E:Value→Shared→Prop}{s:Shared}
end
theorem qd:bootBuiltins "sorted"=some (.builtin "sorted"):=by decide+kernel
section
variable{X:Cx}{e:Expr}{te:TE}{p pos:Pos}
end
section
variable{prog:Program}{w:World}{A:Around}{E:Value→Shared→Prop}{s:Shared}
end
section
open SeqAt MeetsSeq MeetsSeq2 MeetsSeq3 SeqRoads2
open AutoSeq1 (wpAny_loadPart')
def aB(t:List Nat):List Int:=t.map fun(c:Nat)=>(c:Int)
def dF(xs:List Nat)(items:Array Value):Prop:=items.size=xs.length∧∀(j:Nat) (h:j<items.size),∃(x:Nat) (t:Tok),xs[j]?=some x∧items[j]=.str (aw x) t
theorem LtAt.signs{A:Around}{s:Shared}{c d:Nat}{t u:Tok}:LtAt A s (.str (aw c) t) (.str (aw d) u) (decide ((c:Int)<(d:Int))):=fun prog w E Q h=>by
 have e:decide ((aw c).cps.toList<(aw d).cps.toList)=decide ((c:Int)<(d:Int)):=by
  apply decide_eq_decide.mpr
  show [c] < [d]↔_
  rw[List.cons_lt_cons_iff]
  simp
 rw[←e] at h
 exact richCompare_gives (op:=.Lt) (typeIs_str s _ t) (typeIs_str s _ u) F.slot_str_lt F.entry_str_lt (F.args_str_lt_2 _ _) (gives_str_lt _ _ t u) (fun x=>nomatch x) h
theorem zm{A:Around}{s:Shared}{c d:Nat}{t u:Tok}:EqAt A s (.str (aw c) t) (.str (aw d) u) (decide ((c:Int)=(d:Int))):=by
 have:=mJ (A:=A) (s:=s) (y:=sg c) (x:=sg d) (u:=.str (aw c) t) (v:=.str (aw d) u) ⟨t,rfl⟩ ⟨u,rfl⟩ rfl rfl
 have e:cG (sg c) (sg d)=decide ((c:Int)=(d:Int)):=by
  show(aw c == aw d)=_
  by_cases h:c=d
  ·subst h;simp
  ·rw[decide_eq_false (by lia)]
   refine beq_eq_false_iff_ne.mpr fun q=>h ?_
   have:=congrArg (fun z:Str=>z.cps) q
   simpa using this
 rw[e] at this
 exact this
theorem tO{l b:Addr}{items items2:Array Value}{n n2:Nat}{dd dd2:Option Addr}{sl sl2:Array (Option Value)}{xs ys:List Nat}(N1:dF xs items)(N2:dF ys items2)(k:Nat):∀i:Nat,items.size-i=k→i≤items.size→i≤items2.size→Meets (Builtin.«list.__eq__.loop» ⟨[.ref l,.ref b,rawInt i,rawInt 0],[]⟩) (fun A R s=>s.heap.get? l=some {cls:=.type "list",dict:=dd,data:=.seq items n,slots:=sl}∧s.heap.get? b=some {cls:=.type "list",dict:=dd2,data:=.seq items2 n2,slots:=sl2}∧R (.ok (.ret (.bool (aH ((aB xs).drop i) ((aB ys).drop i))))) s):=by
 have L1:(aB xs).length=xs.length:=List.length_map ..
 have L2:(aB ys).length=ys.length:=List.length_map ..
 have gt:∀(zs:List Nat) (i x:Nat),zs[i]?=some x→(aB zs)[i]?=some (x:Int):=fun zs i x h=>by unfold aB;rw[List.getElem?_map,h];rfl
 induction k with
 | zero=>
   intro i hk hle hle2 prog w A R s h
   obtain⟨hp,g,d,tk,os⟩:=s;obtain⟨hl,hb,h⟩:=h
   wp_walk using wpAny_loadPart' hl,wpAny_loadPart' hb
   have none1:items[((i:Nat):Int).toNat]?=none:=by simp;lia
   have e1:(aB xs).drop i=[]:=List.drop_eq_nil_of_le (by rw[L1,←N1.1];lia)
   rw[e1,sM,List.length_drop,L2,←N2.1] at h
   rw[none1]
   wp_walk using wpAny_loadPart' hl,wpAny_loadPart' hb
   have e2:decide (items.size<items2.size)=decide (0<items2.size-i):=decide_eq_decide.mpr (by lia)
   show R (.ok (.ret (.bool (decide (items.size<items2.size))))) _
   rw[e2]
   exact h
 | succ k ih=>
   intro i hk hle hle2 prog w A R s h
   obtain⟨hp,g,d,tk,os⟩:=s;obtain⟨hl,hb,h⟩:=h
   have lt1:i<items.size:=by lia
   by_cases jL:i<items2.size
   ·obtain⟨x,t,hx',ex⟩:=N1.2 i lt1
    obtain⟨y,u,hy',ey⟩:=N2.2 i jL
    have hx:=gt _ _ _ hx'
    have hy:=gt _ _ _ hy'
    have dx:(aB xs).drop i=(x:Int)::(aB xs).drop (i+1):=by
     obtain⟨q1,q2⟩:=List.getElem?_eq_some_iff.mp hx
     rw[List.drop_eq_getElem_cons q1,q2]
    have dy:(aB ys).drop i=(y:Int)::(aB ys).drop (i+1):=by
     obtain⟨q1,q2⟩:=List.getElem?_eq_some_iff.mp hy
     rw[List.drop_eq_getElem_cons q1,q2]
    wp_walk using wpAny_loadPart' hl,wpAny_loadPart' hb
    have at1:items[((i:Nat):Int).toNat]?=some (.str (aw x) t):=by simp[lt1,ex]
    have at2:items2[((i:Nat):Int).toNat]?=some (.str (aw y) u):=by simp[jL,ey]
    have hc:((i:Int)+1)=((i+1:Nat):Int):=by push_cast;rfl
    rw[dx,dy] at h
    simp only[aH] at h
    rw[at1,at2]
    refine wpAny_bind (zm prog w _ _ ?_)
    by_cases exy:(x:Int)=y
    ·rw[if_pos exy] at h
     rw[decide_eq_true exy]
     wp_walk
     rw[hc]
     exact⟨plainId_quiet plain_eq_loop _,codeAny_builtin entry_eq_loop (by
      rw[Around.under_plainId plain_eq_loop _]
      exact ih (i+1) (by lia) (by lia) (by lia) prog w A R _ ⟨hl,hb,h⟩)⟩
    ·rw[if_neg exy] at h
     rw[decide_eq_false exy]
     wp_walk using wpAny_loadPart' hl,wpAny_loadPart' hb
     rw[at1,at2]
     refine wpAny_bind (LtAt.signs prog w _ _ ?_)
     wp_walk
     exact h
   ·wp_walk using wpAny_loadPart' hl,wpAny_loadPart' hb
    obtain⟨x,t,hx,ex⟩:=N1.2 i lt1
    have at1:items[((i:Nat):Int).toNat]?=some (.str (aw x) t):=by simp[lt1,ex]
    have none2:items2[((i:Nat):Int).toNat]?=none:=by simp;lia
    have e1:(aB ys).drop i=[]:=List.drop_eq_nil_of_le (by rw[L2,←N2.1];lia)
    rw[e1,wM] at h
    rw[at1,none2]
    wp_walk using wpAny_loadPart' hl,wpAny_loadPart' hb
    have e2:decide (items.size<items2.size)=false:=decide_eq_false (by lia)
    show R (.ok (.ret (.bool (decide (items.size<items2.size))))) _
    rw[e2]
    exact h
theorem yU{l b:Addr}{items items2:Array Value}{n n2:Nat}{dd dd2:Option Addr}{sl sl2:Array (Option Value)}{xs ys:List Nat}(N1:dF xs items)(N2:dF ys items2):Meets (Builtin.«list.__lt__» ⟨[.ref l,.ref b],[]⟩) (fun A R s=>s.heap.get? l=some {cls:=.type "list",dict:=dd,data:=.seq items n,slots:=sl}∧s.heap.get? b=some {cls:=.type "list",dict:=dd2,data:=.seq items2 n2,slots:=sl2}∧R (.ok (.ret (.bool (aH (aB xs) (aB ys))))) s):=by
 intro prog w A R s h
 obtain⟨hp,g,d,tk,os⟩:=s;obtain⟨hl,hb,h⟩:=h
 have sub:=AutoSeq1.sub_list_list
 wp_walk using wpAny_loadPart' hl,wpAny_loadPart' hb
 exact⟨plainId_quiet plain_eq_loop _,codeAny_builtin entry_eq_loop (by
  rw[Around.under_plainId plain_eq_loop _]
  exact tO N1 N2 _ 0 rfl (Nat.zero_le _) (Nat.zero_le _) prog w A R _ ⟨hl,hb,by simpa using h⟩)⟩
theorem tZ{xs:List Nat}{its:List Value}(r:Vals (xs.map sg) its):dF xs its.toArray:=by
 have hl:=r.length
 rw[List.length_map] at hl
 refine⟨by rw[List.size_toArray];lia,fun j h=>?_⟩
 have hj:j<xs.length:=by rw[List.size_toArray] at h;lia
 obtain⟨u,hu,ru⟩:=r.get (show(xs.map sg)[j]?=some (sg xs[j]) by simp[hj])
 obtain⟨t,rfl⟩:=ru
 refine⟨xs[j],t,List.getElem?_eq_getElem hj,?_⟩
 have h2:=(List.getElem?_eq_some_iff.mp hu).2
 simpa using h2
end
abbrev K2:=Int×List Nat
def jL(x y:K2):Bool:=rO x.1 y.1 (aB x.2) (aB y.2)
def sU(H:Hp)(c:Addr)(k:K2):Prop:=(∀x∈k.2,x<0x110000)∧∃g:Addr,H c=some (.tup [.int k.1,.ref g])∧H g=some (.lst (k.2.map sg))
structure Pairs2(H:Hp)(cs:List Addr)(ks:List K2):Prop where
 len:cs.length=ks.length
 at_:∀(i:Nat) (c:Addr) (k:K2),cs[i]?=some c→ks[i]?=some k→sU H c k
section
variable{X:Cx}{e d:Expr}{te td:TE}{p pos kp:Pos}{k:Nat}
end
section
variable{X:Cx}{tg a b c:Expr}{ta:TA}{p pos:Pos}
end
section
variable{X:Cx}{a:Expr}{ta:TA}{p p2 pos pos2:Pos}
end
end L2
namespace L2
open PySem PySem.Spec PyProof.Rows PySem.W
section
variable{prog:Program}{w:World}{A:Around}{E:Value→Shared→Prop}{s:Shared}
end
section
variable{X:Cx}{e:Expr}{te:TE}{p pos:Pos}
end
theorem wF:∀k:Fin 26,Builtin.Str.occurrences "abcdefghijklmnopqrstuvwxyz" ⟨#[97+k.val]⟩ 0 26 1=[k.val]:=by decide+kernel
def tP:V→List V→Hp→VK→Prop:=fun x vs H Q=>∃c:Nat,x=.str "abcdefghijklmnopqrstuvwxyz"∧vs=[sg c]∧97≤c∧c≤122∧Q (.int ((c-97:Nat):Int)) H
theorem zK{X:Cx}:lc X "str.index" tP:=by
 intro pins s σ H x vs v us Q I rx rv h
 obtain⟨c,rfl,rfl,h1,h2,q⟩:=h
 obtain⟨t,rfl⟩:=rx
 obtain⟨u,rfl,ru⟩:=rv.one
 obtain⟨t',rfl⟩:=ru
 have e:=wF ⟨c-97,by lia⟩
 rw[show 97+(⟨c-97,by lia⟩:Fin 26).val=c by show 97+(c-97)=c;lia] at e
 exact call_gives F.slot_str_index (typeIs_str s _ t) F.entry_str_index (F.args_str_index_2 _ _) (gives_str_index _ _ t t' (c-97) [] e) ⟨.int ((c-97:Nat):Int),H,I.kept (h':=s.heap) (t':=s.toks+1) (fun b o e=>e),⟨_,rfl⟩,q⟩
structure Ordr(κ:Type) where
 lt:κ→κ→Bool
 irr:∀a,lt a a=false
 tr:∀a b c,lt a b=true→lt b c=true→lt a c=true
 neg:∀a b c,lt a c=true→lt a b=true∨lt b c=true
namespace Ordr
variable{κ:Type}(O:Ordr κ)
def le(a b:κ):Prop:=O.lt b a=false
variable{O}
theorem le_refl(a:κ):O.le a a:=O.irr a
theorem le_of_lt{a b:κ}(h:O.lt a b=true):O.le a b:=by
 cases z:O.lt b a with
 | false=>exact z
 | true=>have:=O.tr _ _ _ h z;rw[O.irr] at this;cases this
theorem le_trans{a b c:κ}(h1:O.le a b)(h2:O.le b c):O.le a c:=by
 cases z:O.lt c a with
 | false=>exact z
 | true=>
   rcases O.neg _ b _ z with y | y
   ·rw[show O.lt c b=false from h2] at y;cases y
   ·rw[show O.lt b a=false from h1] at y;cases y
theorem lt_le{a b c:κ}(h1:O.lt a b=true)(h2:O.le b c):O.lt a c=true:=by
 rcases O.neg _ c _ h1 with y | y
 ·exact y
 ·rw[show O.lt c b=false from h2] at y;cases y
theorem le_lt{a b c:κ}(h1:O.le a b)(h2:O.lt b c=true):O.lt a c=true:=by
 rcases O.neg _ a _ h2 with y | y
 ·rw[show O.lt b a=false from h1] at y;cases y
 ·exact y
theorem le_not{a b:κ}(h:¬O.lt a b=true):O.le b a:=by
 cases z:O.lt a b with
 | false=>exact z
 | true=>exact absurd z h
end Ordr
section
variable{κ:Type}(O:Ordr κ)(key:Keyed→κ)
def kk(a:Array Keyed)(i:Nat):κ:=key ((a[i]?).getD (.none,.none))
theorem bH{a b:Array Keyed}{i j:Nat}(h:a[i]?=b[j]?):kk key a i=kk key b j:=by unfold kk;rw[h]
def Rise(a:Array Keyed)(lo hi:Nat):Prop:=∀i j,lo≤i→i≤j→j<hi→O.le (kk key a i) (kk key a j)
def OnlyA(a b:Array Keyed)(lo hi:Nat):Prop:=∀i,i<lo∨hi≤i→b[i]?=a[i]?
structure Bas(a₀:Array Keyed)(kd:SortKind)(st:SortSt):Prop where
 perm:(arrOf st).Perm a₀
 kind:kindOf st=kd
 failed:failedOf st=none
theorem OnlyA.refl(a:Array Keyed)(lo hi:Nat):OnlyA a a lo hi:=fun _ _=>rfl
theorem OnlyA.trans{a b c:Array Keyed}{lo hi:Nat}(h:OnlyA a b lo hi)(g:OnlyA b c lo hi):OnlyA a c lo hi:=fun i hi=>(g i hi).trans (h i hi)
theorem OnlyA.wide{a b:Array Keyed}{lo hi lo' hi':Nat}(h:OnlyA a b lo hi)(h1:lo'≤lo)(h2:hi≤hi'):OnlyA a b lo' hi':=fun i z=>h i (by lia)
theorem Rise.keep{O:Ordr κ}{key:Keyed→κ}{a b:Array Keyed}{lo hi l r:Nat}(h:Rise O key a l r)(g:OnlyA a b lo hi)(d:r≤lo∨hi≤l):Rise O key b l r:=fun i j h1 h2 h3=>by
 rw[bH key (g i (by lia)),bH key (g j (by lia))]
 exact h i j h1 h2 h3
theorem nr{O:Ordr κ}{key:Keyed→κ}{a:Array Keyed}{lo hi:Nat}(h:∀i,lo≤i→i+1<hi→O.le (kk key a i) (kk key a (i+1))):Rise O key a lo hi:=by
 intro i j h1 h2 h3
 induction j with
 | zero => have:i=0:=by lia
           subst this;exact Ordr.le_refl _
 | succ j ih=>
   by_cases e:i=j+1
   ·subst e;exact Ordr.le_refl _
   ·exact Ordr.le_trans (ih (by lia) (by lia)) (h j (by lia) (by lia))
variable{prog:Program}{w:World}{A:Around}{E:Value→Shared→Prop}{s:Shared}{a₀:Array Keyed}{kd:SortKind}
def cJ(prog:Program)(w:World)(A:Around)(E:Value→Shared→Prop)(s:Shared)(a₀:Array Keyed)(kd:SortKind):Prop:=∀x y,x∈a₀→y∈a₀→∀(st:SortSt) (Q:Option Bool→SortSt→Prop),kindOf st=kd→Q (some (O.lt (key x) (key y))) st→wpS (model prog w) A E s (lt' x y) Q st
variable{O key}
theorem Bas.size{st:SortSt}(h:Bas a₀ kd st):(arrOf st).size=a₀.size:=h.perm.size_eq
theorem Bas.at{st:SortSt}(h:Bas a₀ kd st){i:Nat}(hi:i<a₀.size):∃x,(arrOf st)[i]?=some x∧x∈a₀:=by
 have hl:i<(arrOf st).size:=by rw[h.size];exact hi
 refine⟨(arrOf st)[i],by simp[hl],?_⟩
 exact h.perm.mem_iff.mp (Array.getElem_mem hl)
theorem Bas.set{st:SortSt}(h:Bas a₀ kd st){xs:Array Keyed}(hp:xs.Perm (arrOf st)):Bas a₀ kd (setArr st xs):=⟨hp.trans h.perm,h.kind,h.failed⟩
theorem gn(C:cJ O key prog w A E s a₀ kd){st:SortSt}{i j:Nat}{Q:Option Bool→SortSt→Prop}(hB:Bas a₀ kd st)(hi:i<a₀.size)(hj:j<a₀.size)(h:Q (some (O.lt (kk key (arrOf st) i) (kk key (arrOf st) j))) st):wpS (model prog w) A E s (ltAt' i j) Q st:=by
 obtain⟨x,e1,m1⟩:=hB.at hi
 obtain⟨y,e2,m2⟩:=hB.at hj
 rw[ltAt'_eq]
 refine wpS_bind (wpS_get ?_)
 show wpS _ _ _ _ (do let x←elem' (arrOf st) i;let y←elem' (arrOf st) j;lt' x y) Q st
 rw[elem'_eq,elem'_eq,e1,e2]
 refine wpS_bind (wpS_pure (wpS_bind (wpS_pure (C x y m1 m2 st Q hB.kind ?_))))
 unfold kk at h
 rw[e1,e2] at h
 exact h
theorem rL(C:cJ O key prog w A E s a₀ kd){st:SortSt}{lo n ok:Nat}{Q:Bool→SortSt→Prop}(hB:Bas a₀ kd st)(hn:lo+n≤a₀.size)(hok:ok≤n)(hs:Rise O key (arrOf st) lo (lo+ok))(h:∀st',Bas a₀ kd st'→pendingOf st'=pendingOf st→OnlyA (arrOf st) (arrOf st') lo (lo+n)→Rise O key (arrOf st') lo (lo+n)→Q true st'):wpS (model prog w) A E s (binarySort' lo n ok) Q st:=by
 rw[binarySort'_eq]
 refine wpS_bind (wpS_mono (wpS_forRange (I:=fun k c st'=>c=(none,())∧Bas a₀ kd st'∧pendingOf st'=pendingOf st∧OnlyA (arrOf st) (arrOf st') lo (lo+n)∧Rise O key (arrOf st') lo (lo+k)) (Q:=fun c st'=>c=(none,())∧Bas a₀ kd st'∧pendingOf st'=pendingOf st∧OnlyA (arrOf st) (arrOf st') lo (lo+n)∧Rise O key (arrOf st') lo (lo+max (max ok 1) n)) ?one ?last ?init) ?behind)
 case init=>
  refine⟨rfl,hB,rfl,OnlyA.refl _ _ _,fun i j h1 h2 h3=>?_⟩
  by_cases e:ok=0
  ·have:i=j:=by lia
   subst this;exact Ordr.le_refl _
  ·exact hs i j h1 h2 (by lia)
 case last=>exact fun c st' z=>z
 case behind=>
  rintro c st' ⟨rfl,hB',hp,ho,hr⟩
  refine wpS_pure (h st' hB' hp ho fun i j h1 h2 h3=>hr i j h1 h2 (by lia))
 case one=>
  rintro k c st' hk1 hk2 ⟨rfl,hB',hp,ho,hr⟩
  dsimp only
  refine wpS_bind (wpS_mono (wpS_forRange (I:=fun x c z=>z=st'∧∃l r,c=(none,l,r)∧l≤r∧r≤k∧(r-l)+x≤k∧(∀i,i<l→O.le (kk key (arrOf st') (lo+i)) (kk key (arrOf st') (lo+k)))∧(∀i,r≤i→i<k→O.lt (kk key (arrOf st') (lo+k)) (kk key (arrOf st') (lo+i))=true)) (Q:=fun c z=>z=st'∧∃l,c=(none,l,l)∧l≤k∧(∀i,i<l→O.le (kk key (arrOf st') (lo+i)) (kk key (arrOf st') (lo+k)))∧(∀i,l≤i→i<k→O.lt (kk key (arrOf st') (lo+k)) (kk key (arrOf st') (lo+i))=true)) ?in1 ?in2 ?in3) ?in4)
  case in3=>exact⟨rfl,0,k,rfl,by lia,by lia,by lia,fun i hi=>by lia,fun i h1 h2=>by lia⟩
  case in2=>
   rintro c z ⟨rfl,l,r,rfl,h1,h2,h3,h4,h5⟩
   have:l=r:=by lia
   subst this
   exact⟨rfl,l,rfl,h2,h4,h5⟩
  case in1=>
   rintro x c z _ hx ⟨rfl,l,r,rfl,h1,h2,h3,h4,h5⟩
   dsimp only
   by_cases hlr:l≥r
   ·rw[if_pos hlr]
    have:l=r:=by lia
    subst this
    exact wpS_pure ⟨rfl,l,rfl,h2,h4,h5⟩
   ·rw[if_neg hlr]
    refine wpS_bind (gn C hB' (by lia) (by lia) ?_)
    dsimp only
    have hm1:l≤(l+r) / 2:=by lia
    have hm2:(l+r) / 2<r:=by lia
    by_cases hc:O.lt (kk key (arrOf z) (lo+k)) (kk key (arrOf z) (lo+(l+r) / 2))=true
    ·rw[if_pos hc]
     refine wpS_pure ⟨rfl,l,(l+r) / 2,rfl,by lia,by lia,by lia,h4,fun i h6 h7=>?_⟩
     exact Ordr.lt_le hc (hr _ _ (by lia) (by lia) (by lia))
    ·rw[if_neg hc]
     refine wpS_pure ⟨rfl,(l+r) / 2+1,r,rfl,by lia,by lia,by lia,fun i h6=>?_,h5⟩
     exact Ordr.le_trans (hr _ _ (by lia) (by lia) (by lia)) (Ordr.le_not hc)
  case in4=>
   rintro c z ⟨rfl,l,rfl,h2,h4,h5⟩
   dsimp only
   rw[moveDown'_eq]
   refine wpS_bind (wpS_modify (wpS_pure ⟨rfl,hB'.set (bubble_perm _ _ _),hp,?_,?_⟩))
   ·intro i hi
    show(bubble (arrOf z) (lo+k) (lo+k-(lo+l)))[i]?=_
    rw[getElem?_bubble (by rw[hB'.size];lia) _ (by lia),if_neg (by lia),if_neg (by lia)]
    exact ho i hi
   ·have g:∀i,kk key (bubble (arrOf z) (lo+k) (lo+k-(lo+l))) i=if i=lo+l then kk key (arrOf z) (lo+k) else if lo+l<i∧i≤lo+k then kk key (arrOf z) (i-1) else kk key (arrOf z) i:=fun i=>by
     have:=getElem?_bubble (xs:=arrOf z) (src:=lo+k) (by rw[hB'.size];lia) (lo+k-(lo+l)) (by lia) i
     rw[show lo+k-(lo+k-(lo+l))=lo+l by lia] at this
     by_cases c1:i=lo+l
     ·rw[if_pos c1] at this ⊢;exact bH key this
     ·rw[if_neg c1] at this ⊢
      by_cases c2:lo+l<i∧i≤lo+k
      ·rw[if_pos c2] at this ⊢;exact bH key this
      ·rw[if_neg c2] at this ⊢;exact bH key this
    refine nr fun i h6 h7=>?_
    show O.le (kk key (bubble (arrOf z) (lo+k) (lo+k-(lo+l))) i) (kk key (bubble (arrOf z) (lo+k) (lo+k-(lo+l))) (i+1))
    rw[g,g]
    by_cases c1:i=lo+l
    ·rw[if_pos c1,if_neg (by lia),if_pos (by lia)]
     refine Ordr.le_of_lt ?_
     have:=h5 (i-lo) (by lia) (by lia)
     rw[show lo+(i-lo)=i+1-1 by lia] at this
     exact this
    ·rw[if_neg c1]
     by_cases c2:i+1=lo+l
     ·rw[if_neg (by lia),if_pos c2]
      have:=h4 (i-lo) (by lia)
      rw[show lo+(i-lo)=i by lia] at this
      exact this
     ·rw[if_neg c2]
      by_cases c3:lo+l<i∧i≤lo+k
      ·rw[if_pos c3,if_pos (by lia)]
       exact hr _ _ (by lia) (by lia) (by lia)
      ·rw[if_neg c3,if_neg (by lia)]
       exact hr _ _ (by lia) (by lia) (by lia)
end
section
variable{κ:Type}{O:Ordr κ}{key:Keyed→κ}{prog:Program}{w:World}{A:Around}{E:Value→Shared→Prop}{s:Shared}{a₀:Array Keyed}{kd:SortKind}
def iC(O:Ordr κ)(key:Keyed→κ)(a:Array Keyed)(lo hi:Nat):Prop:=∀i j,lo≤i→i≤j→j<hi→O.le (kk key a j) (kk key a i)
def ib(O:Ordr κ)(key:Keyed→κ)(a:Array Keyed)(lo hi:Nat):Prop:=∀i j,lo≤i→i<hi→lo≤j→j<hi→O.le (kk key a i) (kk key a j)
theorem cU{a:Array Keyed}{p q:Nat}(hq:q≤a.size)(i:Nat):kk key (mirror a p q ((q-p) / 2)) i=if p≤i∧i<q then kk key a (p+q-1-i) else kk key a i:=by
 have e:=getElem?_mirror_all (xs:=a) (i:=p) hq i
 by_cases c:p≤i∧i<q
 ·rw[if_pos c] at e ⊢;exact bH key e
 ·rw[if_neg c] at e ⊢;exact bH key e
theorem eW{a:Array Keyed}{p q lo hi:Nat}(hq:q≤a.size)(h1:lo≤p)(h2:q≤hi):OnlyA a (mirror a p q ((q-p) / 2)) lo hi:=fun i z=>by
 rw[getElem?_mirror_all hq,if_neg (by lia)]
theorem yo{a:Array Keyed}{lo hi p q:Nat}(h:iC O key a lo hi)(hq:q≤a.size)(h1:lo≤p)(h2:q≤hi)(ev:ib O key a p q):iC O key (mirror a p q ((q-p) / 2)) lo hi:=fun i j z1 z2 z3=>by
 rw[cU hq,cU hq]
 by_cases ci:p≤i∧i<q <;> by_cases cj:p≤j∧j<q
 ·rw[if_pos ci,if_pos cj];exact ev _ _ (by lia) (by lia) (by lia) (by lia)
 ·rw[if_pos ci,if_neg cj];exact h _ _ (by lia) (by lia) (by lia)
 ·rw[if_neg ci,if_pos cj];exact h _ _ (by lia) (by lia) (by lia)
 ·rw[if_neg ci,if_neg cj];exact h _ _ z1 z2 z3
theorem gT{a:Array Keyed}{lo hi:Nat}(h:iC O key a lo hi)(hq:hi≤a.size):Rise O key (mirror a lo hi ((hi-lo) / 2)) lo hi:=fun i j z1 z2 z3=>by
 rw[cU hq,cU hq,if_pos (by lia),if_pos (by lia)]
 exact h _ _ (by lia) (by lia) (by lia)
structure Down(O:Ordr κ)(key:Keyed→κ)(a₀:Array Keyed)(kd:SortKind)(st z:SortSt)(lo nrem n q:Nat):Prop where
 bas:Bas a₀ kd z
 pend:pendingOf z=pendingOf st
 only:OnlyA (arrOf st) (arrOf z) lo (lo+nrem)
 q1:q<n
 fall:iC O key (arrOf z) lo (lo+n)
 even:ib O key (arrOf z) (lo+n-(q+1)) (lo+n)
theorem Down.turn{st z:SortSt}{lo nrem n q:Nat}(h:Down O key a₀ kd st z lo nrem n q)(hn:n≤nrem)(hs:lo+nrem≤a₀.size):Down O key a₀ kd st (setArr z (mirror (arrOf z) (lo+n-(q+1)) (lo+n) ((lo+n-(lo+n-(q+1))) / 2))) lo nrem n 0:=by
 have q1:=h.q1
 have hz:lo+n≤(arrOf z).size:=by rw[h.bas.size];lia
 refine⟨h.bas.set (mirror_perm _ _ _ _),h.pend,h.only.trans (eW hz (by lia) (by lia)),by lia,yo h.fall hz (by lia) (Nat.le_refl _) h.even,fun i j h1 h2 h3 h4=>?_⟩
 have:i=j:=by lia
 subst this;exact Ordr.le_refl _
theorem x9(C:cJ O key prog w A E s a₀ kd){st:SortSt}{lo nrem:Nat}{Q:Option Nat→SortSt→Prop}(hB:Bas a₀ kd st)(hn:lo+nrem≤a₀.size)(h1:1≤nrem)(h:∀st' n,Bas a₀ kd st'→pendingOf st'=pendingOf st→OnlyA (arrOf st) (arrOf st') lo (lo+nrem)→1≤n→n≤nrem→Rise O key (arrOf st') lo (lo+n)→Q (some n) st'):wpS (model prog w) A E s (countRun' lo nrem) Q st:=by
 rw[countRun'_eq]
 have up:∀(z:SortSt) (m:Nat),Bas a₀ kd z→1≤m→m≤nrem→Rise O key (arrOf z) lo (lo+m)→∀(Q':Option (Option Nat)×Nat→SortSt→Prop),(∀n,m≤n→n≤nrem→Rise O key (arrOf z) lo (lo+n)→(n<nrem→O.lt (kk key (arrOf z) (lo+n)) (kk key (arrOf z) (lo+n-1))=true)→Q' (none,n) z)→
  wpS (model prog w) A E s (forIn [m:nrem] ((none,m):Option (Option Nat)×Nat) fun _ r=>do
   let x←ltAt' (lo+r.2) (lo+r.2-1)
   match x with
   | some smaller=>if smaller=true then pure (ForInStep.done (none,r.2)) else pure (ForInStep.yield (none,r.2+1))
   | _=>pure (ForInStep.done (some none,r.2))) Q' z:=by
  intro z m hBz m1 m2 hr Q' hQ
  refine wpS_forRange (I:=fun x c z'=>z'=z∧c=(none,x)∧m≤x∧x≤nrem∧Rise O key (arrOf z) lo (lo+x)) ?_ ?_ ⟨rfl,rfl,Nat.le_refl _,m2,hr⟩
  ·rintro x c z' hx1 hx2 ⟨rfl,rfl,g1,g2,g3⟩
   dsimp only
   refine wpS_bind (gn C hBz (by lia) (by lia) ?_)
   dsimp only
   by_cases hc:O.lt (kk key (arrOf z') (lo+x)) (kk key (arrOf z') (lo+x-1))=true
   ·rw[if_pos hc]
    exact wpS_pure (hQ x g1 g2 g3 fun _=>hc)
   ·rw[if_neg hc]
    refine wpS_pure ⟨rfl,rfl,by lia,by lia,nr fun i z1 z2=>?_⟩
    by_cases e:i+1=lo+x
    ·rw[e,show i=lo+x-1 by lia]
     exact Ordr.le_not hc
    ·exact g3 _ _ z1 (by lia) (by lia)
  ·rintro c z' ⟨rfl,rfl,g1,g2,g3⟩
   rw[Nat.max_eq_right m2] at g1 g2 g3 ⊢
   exact hQ nrem g1 g2 g3 fun z=>absurd z (Nat.lt_irrefl _)
 have hsz:lo+nrem≤(arrOf st).size:=by rw[hB.size];exact hn
 have r1:Rise O key (arrOf st) lo (lo+1):=fun i j z1 z2 z3=>by
  have:i=j:=by lia
  subst this;exact Ordr.le_refl _
 have down:∀(z:SortSt) (m:Nat),Down O key a₀ kd st z lo nrem m 0→m≤nrem→∀(Q':Option (Option Nat)×Nat×Nat→SortSt→Prop),(∀z' n q,Down O key a₀ kd st z' lo nrem n q→n≤nrem→Q' (none,n,q) z')→
  wpS (model prog w) A E s (forIn [m:nrem] ((none,m,0):Option (Option Nat)×Nat×Nat) fun _ r=>do
   let x←ltAt' (lo+r.2.1) (lo+r.2.1-1)
   match x with
   | some smaller=>
     if smaller=true then
      if r.2.2>0 then do
       reverseSlice' (lo+r.2.1-(r.2.2+1)) (lo+r.2.1)
       pure (ForInStep.yield (none,r.2.1+1,0))
      else pure (ForInStep.yield (none,r.2.1+1,0))
     else do
      let x←ltAt' (lo+r.2.1-1) (lo+r.2.1)
      match x with
      | some larger=>if larger=true then pure (ForInStep.done (none,r.2.1,r.2.2)) else pure (ForInStep.yield (none,r.2.1+1,r.2.2+1))
      | _=>pure (ForInStep.done (some none,r.2.1,r.2.2))
   | _=>pure (ForInStep.done (some none,r.2.1,r.2.2))) Q' z:=by
  intro z m hD m2 Q' hQ
  refine wpS_forRange (I:=fun x c z'=>∃q,c=(none,x,q)∧x≤nrem∧Down O key a₀ kd st z' lo nrem x q) ?_ ?_ ⟨0,rfl,m2,hD⟩
  ·rintro x c z' hx1 hx2 ⟨q,rfl,g2,g3⟩
   dsimp only
   have q1:=g3.q1
   refine wpS_bind (gn C g3.bas (by lia) (by lia) ?_)
   dsimp only
   by_cases hc:O.lt (kk key (arrOf z') (lo+x)) (kk key (arrOf z') (lo+x-1))=true
   ·rw[if_pos hc]
    have more:∀z'':SortSt,Down O key a₀ kd st z'' lo nrem x 0→O.lt (kk key (arrOf z'') (lo+x)) (kk key (arrOf z'') (lo+x-1))=true→Down O key a₀ kd st z'' lo nrem (x+1) 0:=fun z'' D hlt=>by
     refine⟨D.bas,D.pend,D.only,by lia,fun i j z1 z2 z3=>?_,fun i j z1 z2 z3 z4=>?_⟩
     ·by_cases ej:j=lo+x
      ·subst ej
       by_cases ei:i=lo+x
       ·subst ei;exact Ordr.le_refl _
       ·exact Ordr.le_trans (Ordr.le_of_lt hlt) (D.fall _ _ z1 (by lia) (by lia))
      ·exact D.fall _ _ z1 z2 (by lia)
     ·have:i=j:=by lia
      subst this;exact Ordr.le_refl _
    by_cases hq:q>0
    ·rw[if_pos hq,reverseSlice'_eq]
     refine wpS_bind (wpS_modify (wpS_pure ⟨0,rfl,by lia,more _ (g3.turn g2 hn) ?_⟩))
     have hz:lo+x≤(arrOf z').size:=by rw[g3.bas.size];lia
     show O.lt (kk key (mirror (arrOf z') _ _ _) _) (kk key (mirror (arrOf z') _ _ _) _)=true
     rw[cU hz,cU hz,if_neg (by lia),if_pos (by lia)]
     exact Ordr.lt_le hc (g3.even _ _ (by lia) (by lia) (by lia) (by lia))
    ·rw[if_neg hq]
     have:q=0:=by lia
     subst this
     exact wpS_pure ⟨0,rfl,by lia,more _ g3 hc⟩
   ·rw[if_neg hc]
    refine wpS_bind (gn C g3.bas (by lia) (by lia) ?_)
    dsimp only
    by_cases hl:O.lt (kk key (arrOf z') (lo+x-1)) (kk key (arrOf z') (lo+x))=true
    ·rw[if_pos hl]
     exact wpS_pure (hQ _ _ _ g3 g2)
    ·rw[if_neg hl]
     have le1:=Ordr.le_not hc
     have le2:=Ordr.le_not hl
     refine wpS_pure ⟨q+1,rfl,by lia,g3.bas,g3.pend,g3.only,by lia,fun i j z1 z2 z3=>?_,fun i j z1 z2 z3 z4=>?_⟩
     ·by_cases ej:j=lo+x
      ·subst ej
       by_cases ei:i=lo+x
       ·subst ei;exact Ordr.le_refl _
       ·exact Ordr.le_trans le2 (g3.fall _ _ z1 (by lia) (by lia))
      ·exact g3.fall _ _ z1 z2 (by lia)
     ·by_cases ei:i=lo+x <;> by_cases ej:j=lo+x
      ·subst ei ej;exact Ordr.le_refl _
      ·subst ei;exact Ordr.le_trans le2 (g3.even _ _ (by lia) (by lia) (by lia) (by lia))
      ·subst ej;exact Ordr.le_trans (g3.even _ _ (by lia) (by lia) (by lia) (by lia)) le1
      ·exact g3.even _ _ (by lia) (by lia) (by lia) (by lia)
  ·rintro c z' ⟨q,rfl,g2,g3⟩
   rw[Nat.max_eq_right m2] at g2 g3 ⊢
   exact hQ _ _ _ g3 g2
 refine wpS_bind (up st 1 hB (Nat.le_refl _) h1 r1 _ fun n n1 n2 hr hlt=>?_)
 dsimp only
 by_cases en:n=nrem
 ·rw[if_pos (by rw[en];exact beq_self_eq_true _)]
  exact wpS_pure (h st n hB rfl (OnlyA.refl _ _ _) n1 n2 hr)
 ·rw[if_neg (by simpa using en)]
  have hl:=hlt (by lia)
  have dn:∀z:SortSt,Bas a₀ kd z→pendingOf z=pendingOf st→OnlyA (arrOf st) (arrOf z) lo (lo+nrem)→ib O key (arrOf z) lo (lo+n)→O.lt (kk key (arrOf z) (lo+n)) (kk key (arrOf z) (lo+n-1))=true→Down O key a₀ kd st z lo nrem (n+1) 0:=fun z b1 b2 b3 ev hz=>by
   refine⟨b1,b2,b3,by lia,fun i j z1 z2 z3=>?_,fun i j z1 z2 z3 z4=>?_⟩
   ·by_cases ej:j=lo+n
    ·subst ej
     by_cases ei:i=lo+n
     ·subst ei;exact Ordr.le_refl _
     ·exact Ordr.le_trans (Ordr.le_of_lt hz) (ev _ _ (by lia) (by lia) (by lia) (by lia))
    ·exact ev _ _ (by lia) (by lia) (by lia) (by lia)
   ·have:i=j:=by lia
    subst this;exact Ordr.le_refl _
  by_cases hn1:n>1
  ·rw[if_pos hn1]
   refine wpS_bind (gn C hB (by lia) (by lia) ?_)
   dsimp only
   by_cases hc:O.lt (kk key (arrOf st) lo) (kk key (arrOf st) (lo+n-1))=true
   ·rw[if_pos hc]
    exact wpS_pure (h st n hB rfl (OnlyA.refl _ _ _) n1 n2 hr)
   ·rw[if_neg hc,reverseSlice'_eq]
    have hz:lo+n≤(arrOf st).size:=by lia
    have le1:=Ordr.le_not hc
    have ev:ib O key (arrOf st) lo (lo+n):=fun i j z1 z2 z3 z4=>Ordr.le_trans (hr i (lo+n-1) z1 (by lia) (by lia)) (Ordr.le_trans le1 (hr lo j (by lia) z3 (by lia)))
    refine wpS_bind (wpS_modify ?_)
    have D0:=dn (setArr st (mirror (arrOf st) lo (lo+n) ((lo+n-lo) / 2))) (hB.set (mirror_perm _ _ _ _)) rfl (eW hz (Nat.le_refl _) (by lia)) (fun i j z1 z2 z3 z4=>by
     show O.le (kk key (mirror (arrOf st) _ _ _) _) (kk key (mirror (arrOf st) _ _ _) _)
     rw[cU hz,cU hz,if_pos (by lia),if_pos (by lia)]
     exact ev _ _ (by lia) (by lia) (by lia) (by lia)) (by
     show O.lt (kk key (mirror (arrOf st) _ _ _) _) (kk key (mirror (arrOf st) _ _ _) _)=true
     rw[cU hz,cU hz,if_neg (by lia),if_pos (by lia)]
     exact Ordr.lt_le hl (ev _ _ (by lia) (by lia) (by lia) (by lia)))
    refine wpS_bind (wpS_lift (wpAny_rule ⟨rfl,?_⟩))
    refine wpS_bind (down _ (n+1) D0 (by lia) _ fun z' m q D1 hm=>?_)
    dsimp only
    by_cases hq:q>0
    ·rw[if_pos hq]
     refine wpS_bind ?_
     rw[reverseSlice'_eq]
     refine wpS_modify ?_
     have D2:=D1.turn hm hn
     rw[reverseSlice'_eq]
     refine wpS_bind (wpS_modify ?_)
     exact wpS_bind (up _ m (D2.bas.set (mirror_perm _ _ _ _)) (by have:=D2.q1;lia) hm (gT D2.fall (by rw[D2.bas.size];lia)) _ fun n' g1 g2 g3 _=>wpS_pure (h _ n' (D2.bas.set (mirror_perm _ _ _ _)) D2.pend (D2.only.trans (eW (by rw[D2.bas.size];lia) (Nat.le_refl _) (by lia))) (by have:=D2.q1;lia) g2 g3))
    ·rw[if_neg hq]
     have e0:q=0:=by lia
     subst e0
     rw[reverseSlice'_eq]
     refine wpS_bind (wpS_modify ?_)
     exact wpS_bind (up _ m (D1.bas.set (mirror_perm _ _ _ _)) (by have:=D1.q1;lia) hm (gT D1.fall (by rw[D1.bas.size];lia)) _ fun n' g1 g2 g3 _=>wpS_pure (h _ n' (D1.bas.set (mirror_perm _ _ _ _)) D1.pend (D1.only.trans (eW (by rw[D1.bas.size];lia) (Nat.le_refl _) (by lia))) (by have:=D1.q1;lia) g2 g3))
  ·rw[if_neg hn1]
   have:n=1:=by lia
   subst this
   have D0:=dn st hB rfl (OnlyA.refl _ _ _) (fun i j z1 z2 z3 z4=>by
    have e0:i=j:=by lia
    subst e0;exact Ordr.le_refl _) hl
   refine wpS_bind (wpS_lift (wpAny_rule ⟨rfl,?_⟩))
   refine wpS_bind (down _ (1+1) D0 (by lia) _ fun z' m q D1 hm=>?_)
   dsimp only
   by_cases hq:q>0
   ·rw[if_pos hq]
    refine wpS_bind ?_
    rw[reverseSlice'_eq]
    refine wpS_modify ?_
    have D2:=D1.turn hm hn
    rw[reverseSlice'_eq]
    refine wpS_bind (wpS_modify ?_)
    exact wpS_bind (up _ m (D2.bas.set (mirror_perm _ _ _ _)) (by have:=D2.q1;lia) hm (gT D2.fall (by rw[D2.bas.size];lia)) _ fun n' g1 g2 g3 _=>wpS_pure (h _ n' (D2.bas.set (mirror_perm _ _ _ _)) D2.pend (D2.only.trans (eW (by rw[D2.bas.size];lia) (Nat.le_refl _) (by lia))) (by have:=D2.q1;lia) g2 g3))
   ·rw[if_neg hq]
    have e0:q=0:=by lia
    subst e0
    rw[reverseSlice'_eq]
    refine wpS_bind (wpS_modify ?_)
    exact wpS_bind (up _ m (D1.bas.set (mirror_perm _ _ _ _)) (by have:=D1.q1;lia) hm (gT D1.fall (by rw[D1.bas.size];lia)) _ fun n' g1 g2 g3 _=>wpS_pure (h _ n' (D1.bas.set (mirror_perm _ _ _ _)) D1.pend (D1.only.trans (eW (by rw[D1.bas.size];lia) (Nat.le_refl _) (by lia))) (by have:=D1.q1;lia) g2 g3))
end
def dM:Bool→Keyed→Array Keyed→Nat→Nat→Nat→StateT SortSt Sem (Option Nat):=sortPriv% PySem.Builtin.gallop
theorem uo(lf:Bool)(ky:Keyed)(xs:Array Keyed)(b0 n hint:Nat):dM lf ky xs b0 n hint=(do
 let past (i:Nat):StateT SortSt Sem (Option Bool):=do
  let x←elem' xs (b0+i)
  if lf then lt' x ky else return (←lt' ky x).map (!·)
 let mut p1:=0
 let mut p2:=1
 let mut lo:=0
 let mut hi:=0
 let some rt←past hint | return none
 if rt then
  let mo:=n-hint
  for _ in [0:n] do
   if p2≥mo then break
   let some yet←past (hint+p2) | return none
   if !yet then break
   p1:=p2
   p2:=2*p2+1
  lo:=hint+p1+1
  hi:=hint+min p2 mo
 else
  let mo:=hint+1
  for _ in [0:n] do
   if p2≥mo then break
   let some yet←past (hint-p2) | return none
   if yet then break
   p1:=p2
   p2:=2*p2+1
  lo:=hint+1-min p2 mo
  hi:=hint-p1
 for _ in [0:n] do
  if lo≥hi then break
  let m:=lo+(hi-lo) / 2
  let some yet←past m | return none
  if yet then lo:=m+1 else hi:=m
 return some hi):=rfl
section
variable{κ:Type}{O:Ordr κ}{key:Keyed→κ}{prog:Program}{w:World}{A:Around}{E:Value→Shared→Prop}{s:Shared}{a₀:Array Keyed}{kd:SortKind}
structure Edge(P:Nat→Bool)(n k:Nat):Prop where
 le:k≤n
 yes:∀i,i<k→P i=true
 no:∀i,k≤i→i<n→P i=false
def aW(O:Ordr κ)(key:Keyed→κ)(lf:Bool)(ky:Keyed)(xs:Array Keyed)(b0 i:Nat):Bool:=if lf=true then O.lt (kk key xs (b0+i)) (key ky) else !O.lt (key ky) (kk key xs (b0+i))
theorem fm(C:cJ O key prog w A E s a₀ kd){st:SortSt}{lf:Bool}{ky:Keyed}{xs:Array Keyed}{b0 n hint:Nat}{Q:Option Nat→SortSt→Prop}(hk:kindOf st=kd)(mk:ky∈a₀)(mx:∀i,i<n→∃x,xs[b0+i]?=some x∧x∈a₀)(hr:Rise O key xs b0 (b0+n))(hh:hint<n)(h:∀k,Edge (aW O key lf ky xs b0) n k→Q (some k) st):wpS (model prog w) A E s (dM lf ky xs b0 n hint) Q st:=by
 rw[uo]
 generalize hP:aW O key lf ky xs b0=P at h
 have mono:∀i j,i≤j→j<n→P j=true→P i=true:=by
  intro i j h1 h2 h3
  rw[←hP] at h3 ⊢
  unfold aW at h3 ⊢
  have hle:=hr (b0+i) (b0+j) (by lia) (by lia) (by lia)
  cases lf with
  | true=>
    rw[if_pos rfl] at h3 ⊢
    exact Ordr.le_lt hle h3
  | false=>
    rw[if_neg Bool.false_ne_true] at h3 ⊢
    cases z:O.lt (key ky) (kk key xs (b0+i)) with
    | false=>rfl
    | true=>rw[Ordr.lt_le z hle] at h3;cases h3
 have monoF:∀i j,i≤j→j<n→P i=false→P j=false:=fun i j h1 h2 h3=>by
  cases z:P j with
  | false=>rfl
  | true=>rw[mono i j h1 h2 z] at h3;cases h3
 have past:∀i,i<n→∀Q':Option Bool→SortSt→Prop,Q' (some (P i)) st→wpS (model prog w) A E s (do
  let x←elem' xs (b0+i)
  if lf=true then lt' x ky else do
   let y←lt' ky x
   pure (y.map (!·))) Q' st:=by
  intro i hi Q' q
  obtain⟨x,ex,mx⟩:=mx i hi
  rw[elem'_eq,ex]
  refine wpS_bind (wpS_pure ?_)
  have ek:kk key xs (b0+i)=key x:=by unfold kk;rw[ex];rfl
  rw[←hP] at q
  unfold aW at q
  rw[ek] at q
  cases lf with
  | true=>
    rw[if_pos rfl] at q ⊢
    exact C x ky mx mk st _ hk q
  | false=>
    rw[if_neg Bool.false_ne_true] at q ⊢
    exact wpS_bind (C ky x mk mx st _ hk (wpS_pure q))
 have halves:∀lo hi,lo≤hi→hi≤n→(∀i,i<lo→P i=true)→(∀i,hi≤i→i<n→P i=false)→∀Q':Option (Option Nat)×Nat×Nat→SortSt→Prop,(∀k,Edge P n k→Q' (none,k,k) st)→
  wpS (model prog w) A E s (forIn [0:n] ((none,lo,hi):Option (Option Nat)×Nat×Nat) fun _ r=>
   if r.2.1≥r.2.2 then pure (ForInStep.done (none,r.2.1,r.2.2)) else do
    let y←(do
     let x←elem' xs (b0+(r.2.1+(r.2.2-r.2.1) / 2))
     if lf=true then lt' x ky else do
      let y←lt' ky x
      pure (y.map (!·)))
    match y with
    | some yet=>if yet=true then pure (ForInStep.yield (none,r.2.1+(r.2.2-r.2.1) / 2+1,r.2.2)) else pure (ForInStep.yield (none,r.2.1,r.2.1+(r.2.2-r.2.1) / 2))
    | _=>pure (ForInStep.done (some none,r.2.1,r.2.2))) Q' st:=by
  intro lo hi h1 h2 h3 h4 Q' hQ
  refine wpS_forRange (I:=fun x c z=>z=st∧∃l r,c=(none,l,r)∧l≤r∧r≤n∧(r-l)+x≤n∧(∀i,i<l→P i=true)∧(∀i,r≤i→i<n→P i=false)) ?_ ?_ ⟨rfl,lo,hi,rfl,h1,h2,by lia,h3,h4⟩
  ·rintro x c z _ hx ⟨rfl,l,r,rfl,g1,g2,g3,g4,g5⟩
   dsimp only
   by_cases hlr:l≥r
   ·rw[if_pos hlr]
    have e:l=r:=by lia
    subst e
    exact wpS_pure (hQ l ⟨g2,g4,g5⟩)
   ·rw[if_neg hlr]
    refine wpS_bind (past _ (by lia) _ ?_)
    dsimp only
    by_cases hc:P (l+(r-l) / 2)=true
    ·rw[if_pos hc]
     exact wpS_pure ⟨rfl,_,r,rfl,by lia,g2,by lia,fun i hi=>mono _ _ (by lia) (by lia) hc,g5⟩
    ·rw[if_neg hc]
     have hf:P (l+(r-l) / 2)=false:=by simpa using hc
     exact wpS_pure ⟨rfl,l,_,rfl,by lia,by lia,by lia,g4,fun i hi hn=>monoF _ _ hi hn hf⟩
  ·rintro c z ⟨rfl,l,r,rfl,g1,g2,g3,g4,g5⟩
   have e:l=r:=by lia
   subst e
   exact hQ l ⟨g2,g4,g5⟩
 dsimp only
 refine wpS_bind (past hint hh _ ?_)
 dsimp only
 by_cases hc:P hint=true
 ·rw[if_pos hc]
  refine wpS_bind (wpS_mono (wpS_forRange (I:=fun x c z=>z=st∧∃q1 q2,c=(none,q1,q2)∧q1<q2∧x+1≤q2∧hint+q1<n∧P (hint+q1)=true) (Q:=fun c z=>z=st∧∃q1 q2,c=(none,q1,q2)∧q1<q2∧hint+q1<n∧P (hint+q1)=true∧(q2<n-hint→P (hint+q2)=false)) ?_ ?_ ⟨rfl,0,1,rfl,by lia,by lia,by lia,hc⟩) ?_)
  ·rintro x c z _ hx ⟨rfl,q1,q2,rfl,g1,g2,g3,g4⟩
   dsimp only
   by_cases hm:q2≥n-hint
   ·rw[if_pos hm]
    exact wpS_pure ⟨rfl,q1,q2,rfl,g1,g3,g4,fun z=>by lia⟩
   ·rw[if_neg hm]
    refine wpS_bind (past _ (by lia) _ ?_)
    dsimp only
    cases hy:P (hint+q2) with
    | false=>
      rw[if_pos (by decide)]
      exact wpS_pure ⟨rfl,q1,q2,rfl,g1,g3,g4,fun _=>hy⟩
    | true=>
      rw[if_neg (by decide)]
      exact wpS_pure ⟨rfl,q2,2*q2+1,rfl,by lia,by lia,by lia,hy⟩
  ·rintro c z ⟨rfl,q1,q2,rfl,g1,g2,g3,g4⟩
   exact⟨rfl,q1,q2,rfl,g1,g3,g4,fun z=>by lia⟩
  ·rintro c z ⟨rfl,q1,q2,rfl,g1,g3,g4,g5⟩
   dsimp only
   refine wpS_bind (halves _ _ (by lia) (by lia) (fun i hi=>mono _ _ (by lia) g3 g4) (fun i h1 h2=>?_) _ fun k e=>?_)
   ·exact monoF _ _ (show hint+q2≤i by lia) h2 (g5 (by lia))
   ·exact wpS_pure (h k e)
 ·rw[if_neg hc]
  have hf:P hint=false:=by simpa using hc
  refine wpS_bind (wpS_mono (wpS_forRange (I:=fun x c z=>z=st∧∃q1 q2,c=(none,q1,q2)∧q1<q2∧x+1≤q2∧q1≤hint∧P (hint-q1)=false) (Q:=fun c z=>z=st∧∃q1 q2,c=(none,q1,q2)∧q1<q2∧q1≤hint∧P (hint-q1)=false∧(q2<hint+1→P (hint-q2)=true)) ?_ ?_ ⟨rfl,0,1,rfl,by lia,by lia,by lia,hf⟩) ?_)
  ·rintro x c z _ hx ⟨rfl,q1,q2,rfl,g1,g2,g3,g4⟩
   dsimp only
   by_cases hm:q2≥hint+1
   ·rw[if_pos hm]
    exact wpS_pure ⟨rfl,q1,q2,rfl,g1,g3,g4,fun z=>by lia⟩
   ·rw[if_neg hm]
    refine wpS_bind (past _ (by lia) _ ?_)
    dsimp only
    cases hy:P (hint-q2) with
    | true=>
      rw[if_pos rfl]
      exact wpS_pure ⟨rfl,q1,q2,rfl,g1,g3,g4,fun _=>hy⟩
    | false=>
      rw[if_neg Bool.false_ne_true]
      exact wpS_pure ⟨rfl,q2,2*q2+1,rfl,by lia,by lia,by lia,hy⟩
  ·rintro c z ⟨rfl,q1,q2,rfl,g1,g2,g3,g4⟩
   exact⟨rfl,q1,q2,rfl,g1,g3,g4,fun z=>by lia⟩
  ·rintro c z ⟨rfl,q1,q2,rfl,g1,g3,g4,g5⟩
   dsimp only
   refine wpS_bind (halves _ _ (by lia) (by lia) (fun i hi=>?_) (fun i h1 h2=>monoF _ _ h1 h2 g4) _ fun k e=>?_)
   ·exact mono _ _ (show i≤hint-q2 by lia) (by lia) (g5 (by lia))
   ·exact wpS_pure (h k e)
end
section
variable{κ:Type}{O:Ordr κ}{key:Keyed→κ}
def eE(O:Ordr κ)(key:Keyed→κ)(xs ys:List Keyed):Prop:=∀x∈xs,∀y∈ys,O.le (key x) (key y)
def Up(O:Ordr κ)(key:Keyed→κ)(xs:List Keyed):Prop:=xs.Pairwise fun x y=>O.le (key x) (key y)
structure Mg(O:Ordr κ)(key:Keyed→κ)(T out xs ys:List Keyed):Prop where
 perm:(out++(xs++ys)).Perm T
 up:Up O key out
 lx:eE O key out xs
 ly:eE O key out ys
 ux:Up O key xs
 uy:Up O key ys
theorem Up.app{xs ys:List Keyed}(h1:Up O key xs)(h2:Up O key ys)(h3:eE O key xs ys):Up O key (xs++ys):=List.pairwise_append.mpr ⟨h1,h2,h3⟩
theorem Mg.mvX{T out x1 x2 ys:List Keyed}(h:Mg O key T out (x1++x2) ys)(g:eE O key x1 ys):Mg O key T (out++x1) x2 ys:=by
 have ux:=List.pairwise_append.mp h.ux
 refine⟨by have:=h.perm;simpa using this,Up.app h.up ux.1 fun x hx y hy=>h.lx x hx y (List.mem_append_left _ hy),fun x hx y hy=>?_,fun x hx y hy=>?_,ux.2.1,h.uy⟩
 ·rcases List.mem_append.mp hx with z | z
  ·exact h.lx x z y (List.mem_append_right _ hy)
  ·exact ux.2.2 x z y hy
 ·rcases List.mem_append.mp hx with z | z
  ·exact h.ly x z y hy
  ·exact g x z y hy
theorem Mg.mvY{T out xs y1 y2:List Keyed}(h:Mg O key T out xs (y1++y2))(g:eE O key y1 xs):Mg O key T (out++y1) xs y2:=by
 have uy:=List.pairwise_append.mp h.uy
 refine⟨?_,Up.app h.up uy.1 fun x hx y hy=>h.ly x hx y (List.mem_append_left _ hy),fun x hx y hy=>?_,fun x hx y hy=>?_,h.ux,uy.2.1⟩
 ·refine List.Perm.trans ?_ h.perm
  rw[List.append_assoc]
  refine List.Perm.append_left _ ?_
  rw[←List.append_assoc,←List.append_assoc]
  exact List.Perm.append_right _ List.perm_append_comm
 ·rcases List.mem_append.mp hx with z | z
  ·exact h.lx x z y hy
  ·exact g x z y hy
 ·rcases List.mem_append.mp hx with z | z
  ·exact h.ly x z y (List.mem_append_right _ hy)
  ·exact uy.2.2 x z y hy
def Made(O:Ordr κ)(key:Keyed→κ)(T:List Keyed)(r:List Keyed):Prop:=r.Perm T∧Up O key r
theorem Mg.endY{T out xs:List Keyed}(h:Mg O key T out xs []):Made O key T (out++xs):=⟨by have:=h.perm;simpa using this,Up.app h.up h.ux h.lx⟩
theorem Mg.endX{T out xs ys:List Keyed}(h:Mg O key T out xs ys)(g:eE O key ys xs):Made O key T (out++ys++xs):=by
 refine⟨?_,Up.app (Up.app h.up h.uy h.ly) h.ux fun x hx y hy=>?_⟩
 ·refine List.Perm.trans ?_ h.perm
  rw[List.append_assoc]
  exact List.Perm.append_left _ List.perm_append_comm
 ·rcases List.mem_append.mp hx with z | z
  ·exact h.lx x z y hy
  ·exact g x z y hy
theorem rB{xs:List Keyed}{n:Nat}(h:Up O key xs):Up O key (xs.drop n):=h.sublist (List.drop_sublist _ _)
theorem wQ{x y:Keyed}{xs:List Keyed}(h:Up O key (x::xs))(hy:y∈x::xs):O.le (key x) (key y):=by
 rcases List.mem_cons.mp hy with rfl | z
 ·exact Ordr.le_refl _
 ·exact(List.pairwise_cons.mp h).1 y z
end
def ki:Array Keyed→Array Keyed→StateT SortSt Sem (Array Keyed):=sortPriv% PySem.Builtin.mergeLo
def setG(g:Nat):StateT SortSt Sem Unit:=modify fun s=>SortSt.mk' (kindOf s) (arrOf s) (pendingOf s) g (failedOf s)
theorem tG(xa xb:Array Keyed):ki xa xb=(do
 rule "list.sort.merge-lo"
 let tot:=xa.size+xb.size
 let fin (o:Array Keyed) (i j:Nat):=o++xa.extract i xa.size++xb.extract j xb.size
 let oneA (o:Array Keyed) (i j:Nat):=o++xb.extract j xb.size++xa.extract i xa.size
 let mut o:Array Keyed:=#[←elem' xb 0]
 let mut i:=0
 let mut j:=1
 if j == xb.size then return fin o i j
 if i+1 == xa.size then return oneA o i j
 let mut mg:=gallopOf (←get)
 for _ in [0:tot] do
  let mut ca:=0
  let mut cb:=0
  for _ in [0:tot] do
   let some won←lt' (←elem' xb j) (←elem' xa i) | return fin o i j
   if won then
    o:=o.push (←elem' xb j);j:=j+1;cb:=cb+1;ca:=0
    if j == xb.size then return fin o i j
    if cb≥mg then break
   else
    o:=o.push (←elem' xa i);i:=i+1;ca:=ca+1;cb:=0
    if i+1 == xa.size then return oneA o i j
    if ca≥mg then break
  rule "list.sort.gallop"
  mg:=mg+1
  for _ in [0:tot] do
   if mg>1 then mg:=mg-1
   setG mg
   let some k←dM false (←elem' xb j) xa i (xa.size-i) 0 | return fin o i j
   ca:=k
   if k>0 then
    o:=o++xa.extract i (i+k);i:=i+k
    if i+1 == xa.size then return oneA o i j
    if i == xa.size then return fin o i j
   o:=o.push (←elem' xb j);j:=j+1
   if j == xb.size then return fin o i j
   let some k←dM true (←elem' xa i) xb j (xb.size-j) 0 | return fin o i j
   cb:=k
   if k>0 then
    o:=o++xb.extract j (j+k);j:=j+k
    if j == xb.size then return fin o i j
   o:=o.push (←elem' xa i);i:=i+1
   if i+1 == xa.size then return oneA o i j
   if ca<7 && cb<7 then break
  mg:=mg+1
  setG mg
 unsupported "internal:list.sort.merge-bound"):=rfl
section
variable{κ:Type}{O:Ordr κ}{key:Keyed→κ}{prog:Program}{w:World}{A:Around}{E:Value→Shared→Prop}{s:Shared}{a₀:Array Keyed}{kd:SortKind}
structure SamS(st z:SortSt):Prop where
 arr:arrOf z=arrOf st
 kind:kindOf z=kindOf st
 pend:pendingOf z=pendingOf st
 failed:failedOf z=failedOf st
theorem SamS.refl(st:SortSt):SamS st st:=⟨rfl,rfl,rfl,rfl⟩
theorem iL{M:Model}{z:SortSt}{g:Nat}{Q:PUnit→SortSt→Prop}(h:Q ⟨⟩ (SortSt.mk' (kindOf z) (arrOf z) (pendingOf z) g (failedOf z))):wpS M A E s (setG g) Q z:=wpS_modify h
theorem SamS.setG{st z:SortSt}(h:SamS st z)(g:Nat):SamS st (SortSt.mk' (kindOf z) (arrOf z) (pendingOf z) g (failedOf z)):=⟨h.arr,h.kind,h.pend,h.failed⟩
theorem bg{M:Model}{z:SortSt}{xs:Array Keyed}{i:Nat}{x:Keyed}{Q:Keyed→SortSt→Prop}(e:xs[i]?=some x)(h:Q x z):wpS M A E s (elem' xs i) Q z:=by
 rw[elem'_eq,e]
 exact wpS_pure h
theorem be{xs:Array Keyed}{i:Nat}{x:Keyed}(e:xs[i]?=some x):kk key xs i=key x:=by unfold kk;rw[e];rfl
theorem fO{xs:Array Keyed}{i:Nat}{x:Keyed}(e:xs[i]?=some x):xs.toList.drop i=x::xs.toList.drop (i+1):=by
 rw[←Array.getElem?_toList] at e
 obtain⟨h1,h2⟩:=List.getElem?_eq_some_iff.mp e
 rw[List.drop_eq_getElem_cons h1,h2]
theorem gi{xs:Array Keyed}(h:Up O key xs.toList)(lo hi:Nat)(hh:hi≤xs.size):Rise O key xs lo hi:=fun i j h1 h2 h3=>by
 have l1:i<xs.size:=by lia
 have l2:j<xs.size:=by lia
 rw[be (x:=xs[i]) (by simp[l1]),be (x:=xs[j]) (by simp[l2])]
 rcases Nat.lt_or_eq_of_le h2 with z | z
 ·have:=List.pairwise_iff_getElem.mp h i j (by simpa using l1) (by simpa using l2) z
  simpa using this
 ·subst z;exact Ordr.le_refl _
theorem dI(xs:Array Keyed)(i:Nat):(xs.extract i xs.size).toList=xs.toList.drop i:=by
 rw[Array.toList_extract,List.extract_eq_drop_take]
 exact List.take_of_length_le (by rw[List.length_drop];simp)
theorem oK(xs:Array Keyed)(i k:Nat):(xs.extract i (i+k)).toList=(xs.toList.drop i).take k:=by
 rw[Array.toList_extract,List.extract_eq_drop_take,Nat.add_sub_cancel_left]
structure JLo(O:Ordr κ)(key:Keyed→κ)(xa xb:Array Keyed)(T:List Keyed)(o:Array Keyed)(i j:Nat):Prop where
 mg:Mg O key T o.toList (xa.toList.drop i) (xb.toList.drop j)
 i1:i+1<xa.size
 j1:j<xb.size
 sz:o.size=i+j
structure Two(O:Ordr κ)(key:Keyed→κ)(a₀ xa xb:Array Keyed):Prop where
 ma:∀(i:Nat) (x:Keyed),xa[i]?=some x→x∈a₀
 mb:∀(i:Nat) (x:Keyed),xb[i]?=some x→x∈a₀
 ua:Up O key xa.toList
 ub:Up O key xb.toList
 na:1≤xa.size
 nb:1≤xb.size
 first:∀x y:Keyed,xa[0]?=some x→xb[0]?=some y→O.lt (key y) (key x)=true
 last:∀(x y:Keyed) (j:Nat),xa[xa.size-1]?=some x→xb[j]?=some y→O.lt (key y) (key x)=true
variable{xa xb:Array Keyed}{T:List Keyed}{o:Array Keyed}{i j:Nat}
theorem fX(h:Mg O key T o.toList (xa.toList.drop i) (xb.toList.drop j))(e:j=xb.size):Made O key T (o++xa.extract i xa.size++xb.extract j xb.size).toList:=by
 rw[Array.toList_append,Array.toList_append,dI,dI]
 have e0:xb.toList.drop j=[]:=List.drop_eq_nil_of_le (by rw[e];simp)
 rw[e0] at h ⊢
 rw[List.append_nil]
 exact h.endY
theorem fL(W:Two O key a₀ xa xb)(h:Mg O key T o.toList (xa.toList.drop i) (xb.toList.drop j))(e:i+1=xa.size):Made O key T (o++xb.extract j xb.size++xa.extract i xa.size).toList:=by
 rw[Array.toList_append,Array.toList_append,dI,dI]
 refine h.endX fun y hy x hx=>?_
 have l1:i<xa.size:=by lia
 have ex:xa[i]?=some xa[i]:=by simp[l1]
 rw[fO ex,List.drop_eq_nil_of_le (by simp;lia)] at hx
 rw[List.mem_singleton.mp hx]
 obtain⟨q,hq⟩:=List.mem_iff_getElem?.mp hy
 rw[List.getElem?_drop,Array.getElem?_toList] at hq
 exact Ordr.le_of_lt (W.last _ y _ (by rw[show xa.size-1=i by lia];exact ex) hq)
theorem iQ{xs:Array Keyed}{k:Nat}{y z:Keyed}(hu:Up O key xs.toList)(e:xs[k]?=some y)(h:O.le (key z) (key y)):eE O key [z] (xs.toList.drop k):=fun u hu' v hv=>by
 rw[List.mem_singleton.mp hu']
 rw[fO e] at hv
 have:=rB (n:=k) hu
 rw[fO e] at this
 exact Ordr.le_trans h (wQ this hv)
theorem gs(W:Two O key a₀ xa xb)(h:Mg O key T o.toList (xa.toList.drop i) (xb.toList.drop j)){x y:Keyed}(ex:xa[i]?=some x)(ey:xb[j]?=some y)(hc:O.le (key y) (key x)):Mg O key T (o.push y).toList (xa.toList.drop i) (xb.toList.drop (j+1)):=by
 rw[fO ey] at h
 have:=h.mvY (y1:=[y]) (iQ W.ua ex hc)
 rw[Array.toList_push]
 exact this
theorem iH(W:Two O key a₀ xa xb)(h:Mg O key T o.toList (xa.toList.drop i) (xb.toList.drop j)){x y:Keyed}(ex:xa[i]?=some x)(ey:xb[j]?=some y)(hc:O.le (key x) (key y)):Mg O key T (o.push x).toList (xa.toList.drop (i+1)) (xb.toList.drop j):=by
 rw[fO ex] at h
 have:=h.mvX (x1:=[x]) (iQ W.ub ey hc)
 rw[Array.toList_push]
 exact this
theorem qR(W:Two O key a₀ xa xb){k:Nat}{y:Keyed}(ey:xb[j]?=some y)(hi:i<xa.size)(g:Edge (aW O key false y xa i) (xa.size-i) k):i+k<xa.size∧∀x,xa[i+k]?=some x→O.lt (key y) (key x)=true:=by
 have lt:i+k<xa.size:=by
  by_cases z:i+k<xa.size
  ·exact z
  ·have hk:k=xa.size-i:=by have:=g.le;lia
   have l1:xa.size-1<xa.size:=by lia
   have ex:xa[xa.size-1]?=some xa[xa.size-1]:=by simp[l1]
   have h1:=g.yes (xa.size-1-i) (by lia)
   unfold aW at h1
   rw[if_neg Bool.false_ne_true,show i+(xa.size-1-i)=xa.size-1 by lia,be ex,W.last _ y _ ex ey] at h1
   cases h1
 refine⟨lt,fun x ex=>?_⟩
 have h1:=g.no k (Nat.le_refl _) (by lia)
 unfold aW at h1
 rw[if_neg Bool.false_ne_true,be ex] at h1
 cases z:O.lt (key y) (key x) with
 | true=>rfl
 | false=>rw[z] at h1;cases h1
theorem mh(W:Two O key a₀ xa xb)(h:Mg O key T o.toList (xa.toList.drop i) (xb.toList.drop j)){k:Nat}{y:Keyed}(ey:xb[j]?=some y)(g:Edge (aW O key false y xa i) (xa.size-i) k):Mg O key T (o++xa.extract i (i+k)).toList (xa.toList.drop (i+k)) (xb.toList.drop j):=by
 rw[Array.toList_append,oK,←List.drop_drop]
 rw[←List.take_append_drop k (xa.toList.drop i)] at h
 refine h.mvX fun x hx v hv=>?_
 obtain⟨q,hq⟩:=List.mem_iff_getElem?.mp hx
 have hqk:q<k:=by
  have:=(List.getElem?_eq_some_iff.mp hq).1
  rw[List.length_take] at this;lia
 rw[List.getElem?_take_of_lt hqk,List.getElem?_drop,Array.getElem?_toList] at hq
 have h1:=g.yes q hqk
 unfold aW at h1
 rw[if_neg Bool.false_ne_true,be hq] at h1
 have h2:O.le (key x) (key y):=by
  show O.lt (key y) (key x)=false
  cases z:O.lt (key y) (key x) with
  | false=>rfl
  | true=>rw[z] at h1;cases h1
 exact iQ W.ub ey h2 x (List.mem_singleton.mpr rfl) v hv
theorem og(W:Two O key a₀ xa xb)(h:Mg O key T o.toList (xa.toList.drop i) (xb.toList.drop j)){k:Nat}{x:Keyed}(ex:xa[i]?=some x)(g:Edge (aW O key true x xb j) (xb.size-j) k):Mg O key T (o++xb.extract j (j+k)).toList (xa.toList.drop i) (xb.toList.drop (j+k))∧∀y,j+k<xb.size→xb[j+k]?=some y→O.le (key x) (key y):=by
 constructor
 ·rw[Array.toList_append,oK,←List.drop_drop]
  rw[←List.take_append_drop k (xb.toList.drop j)] at h
  refine h.mvY fun y hy v hv=>?_
  obtain⟨q,hq⟩:=List.mem_iff_getElem?.mp hy
  have hqk:q<k:=by
   have:=(List.getElem?_eq_some_iff.mp hq).1
   rw[List.length_take] at this;lia
  rw[List.getElem?_take_of_lt hqk,List.getElem?_drop,Array.getElem?_toList] at hq
  have h1:=g.yes q hqk
  unfold aW at h1
  rw[if_pos rfl,be hq] at h1
  exact iQ W.ua ex (Ordr.le_of_lt h1) y (List.mem_singleton.mpr rfl) v hv
 ·intro y hl ey
  have h1:=g.no k (Nat.le_refl _) (by lia)
  unfold aW at h1
  rw[if_pos rfl,be ey] at h1
  exact h1
theorem aQ{xs:Array Keyed}{i:Nat}(h:i<xs.size):xs[i]?=some xs[i]:=by simp[h]
theorem qr(xs o:Array Keyed)(i k:Nat)(h:i+k≤xs.size):(o++xs.extract i (i+k)).size=o.size+k:=by
 rw[Array.size_append,Array.size_extract];lia
theorem nV{M:Model}{α:Type}{Q:α→SortSt→Prop}{z:SortSt}{c:Nat→Prop}{dc:∀g,Decidable (c g)}{x F:Nat→StateT SortSt Sem α}(hx:∀g,x g=F (g-1))(h:∀g,wpS M A E s (F g) Q z):∀g,wpS M A E s (@ite _ (c g) (dc g) (x g) (F g)) Q z:=fun g=>by
 rw[hx]
 split
 ·exact h _
 ·exact h _
theorem gX{M:Model}{α:Type}{Q:α→SortSt→Prop}{z:SortSt}{c:Nat→Prop}{dc:∀i,Decidable (c i)}{x F:Array Keyed→Nat→StateT SortSt Sem α}{o:Array Keyed}{i:Nat}(P:Array Keyed→Nat→Prop)(h:∀o i,P o i→wpS M A E s (F o i) Q z)(h1:c i→(∀o i,P o i→wpS M A E s (F o i) Q z)→wpS M A E s (x o i) Q z)(h2:¬c i→P o i):∀o',o=o'→∀i',i=i'→wpS M A E s (@ite _ (c i') (dc i') (x o' i') (F o' i')) Q z:=by
 rintro _ rfl _ rfl
 split
 ·exact h1 ‹_› h
 ·exact h _ _ (h2 ‹_›)
theorem wW(C:cJ O key prog w A E s a₀ kd){st:SortSt}{Q:Array Keyed→SortSt→Prop}(hk:kindOf st=kd)(W:Two O key a₀ xa xb)(h:∀r z,SamS st z→Made O key (xa.toList++xb.toList) r.toList→Q r z):wpS (model prog w) A E s (ki xa xb) Q st:=by
 obtain⟨T,hT⟩:∃T,T=xa.toList++xb.toList:=⟨_,rfl⟩
 rw[←hT] at h
 have na:=W.na
 have nb:=W.nb
 rw[tG]
 refine wpS_bind (wpS_lift (wpAny_rule ⟨rfl,?_⟩))
 dsimp only
 have ey0:=aQ (xs:=xb) (i:=0) (by lia)
 have ex0:=aQ (xs:=xa) (i:=0) (by lia)
 have M0:Mg O key T #[xb[0]].toList (xa.toList.drop 0) (xb.toList.drop 1):=by
  have h0:Mg O key T [] (xa.toList.drop 0) (xb.toList.drop 0):=⟨by rw[hT];simp,List.Pairwise.nil,(fun x hx=>by cases hx),(fun x hx=>by cases hx),by simpa using W.ua,by simpa using W.ub⟩
  exact gs (o:=#[]) W h0 ex0 ey0 (Ordr.le_of_lt (W.first _ _ ex0 ey0))
 refine wpS_bind (bg ey0 ?_)
 by_cases e1:1=xb.size
 ·rw[if_pos (by rw[←e1];rfl)]
  exact wpS_pure (h _ st (SamS.refl _) (fX M0 e1))
 rw[if_neg (by simpa using e1)]
 by_cases e2:0+1=xa.size
 ·rw[if_pos (by rw[←e2];rfl)]
  exact wpS_pure (h _ st (SamS.refl _) (fL W M0 e2))
 rw[if_neg (by simpa using e2)]
 refine wpS_bind (wpS_get ?_)
 have J0:JLo O key xa xb T #[xb[0]] 0 1:=⟨M0,by lia,by lia,rfl⟩
 refine wpS_bind (wpS_mono (wpS_forRange (I:=fun x c z=>SamS st z∧∃o i j g,c=(none,o,i,j,g)∧JLo O key xa xb T o i j∧x+1≤o.size) (Q:=fun c z=>SamS st z∧∃r,c.1=some r∧Made O key T r.toList) ?out1 ?out2 ⟨SamS.refl _,_,_,_,_,rfl,J0,by simp⟩) ?out3)
 case out3=>
  rintro⟨c1,c2⟩ z ⟨SS,r,e,M⟩
  dsimp only at e
  subst e
  exact wpS_pure (h r z SS M)
 case out2=>
  rintro c z ⟨SS,o,i,j,g,rfl,J,hx⟩
  have:=J.sz;have:=J.i1;have:=J.j1
  lia
 case out1=>
  rintro x0 c z _ hx0 ⟨SS,o,i,j,g,rfl,J,hx⟩
  dsimp only
  have hkz:kindOf z=kd:=SS.kind.trans hk
  refine wpS_bind (wpS_mono (wpS_forRange (I:=fun x c z'=>z'=z∧∃o' i j ca cb,c=(none,o',i,j,ca,cb)∧JLo O key xa xb T o' i j∧o.size+min x 1≤o'.size) (Q:=fun c z'=>z'=z∧((∃o' i j ca cb,c=(none,o',i,j,ca,cb)∧JLo O key xa xb T o' i j∧o.size+1≤o'.size)∨∃r,c.1=some r∧Made O key T r.toList)) ?in1 ?in2 ⟨rfl,o,i,j,0,0,rfl,J,by lia⟩) ?in3)
  case in2=>
   rintro c z' ⟨rfl,o',i,j,ca,cb,rfl,J,hp⟩
   refine⟨rfl,.inl ⟨o',i,j,ca,cb,rfl,J,?_⟩⟩
   have:min (max 0 (xa.size+xb.size)) 1=1:=by lia
   lia
  case in1=>
   rintro x c z' _ hx ⟨rfl,o',i,j,ca,cb,rfl,J,hp⟩
   dsimp only
   have ex:=aQ (xs:=xa) (i:=i) (by have:=J.i1;lia)
   have ey:=aQ (xs:=xb) (i:=j) J.j1
   have i1:=J.i1
   have j1:=J.j1
   refine wpS_bind (bg ey (wpS_bind (bg ex (wpS_bind (C _ _ (W.mb _ _ ey) (W.ma _ _ ex) z' _ hkz ?_)))))
   dsimp only
   by_cases hc:O.lt (key xb[j]) (key xa[i])=true
   ·rw[if_pos hc]
    refine wpS_bind (bg ey ?_)
    have M1:=gs W J.mg ex ey (Ordr.le_of_lt hc)
    by_cases e:j+1=xb.size
    ·rw[if_pos (by simpa using e)]
     exact wpS_pure ⟨rfl,.inr ⟨_,rfl,fX M1 e⟩⟩
    ·rw[if_neg (by simpa using e)]
     have J1:JLo O key xa xb T (o'.push xb[j]) i (j+1):=⟨M1,i1,by lia,by rw[Array.size_push,J.sz];lia⟩
     have sz1:o.size+1≤(o'.push xb[j]).size:=by rw[Array.size_push];lia
     split
     ·exact wpS_pure ⟨rfl,.inl ⟨_,_,_,_,_,rfl,J1,sz1⟩⟩
     ·exact wpS_pure ⟨rfl,_,_,_,_,_,rfl,J1,by lia⟩
   ·rw[if_neg hc]
    refine wpS_bind (bg ex ?_)
    have M1:=iH W J.mg ex ey (Ordr.le_not hc)
    by_cases e:i+1+1=xa.size
    ·rw[if_pos (by simpa using e)]
     exact wpS_pure ⟨rfl,.inr ⟨_,rfl,fL W M1 e⟩⟩
    ·rw[if_neg (by simpa using e)]
     have J1:JLo O key xa xb T (o'.push xa[i]) (i+1) j:=⟨M1,by lia,j1,by rw[Array.size_push,J.sz];lia⟩
     have sz1:o.size+1≤(o'.push xa[i]).size:=by rw[Array.size_push];lia
     split
     ·exact wpS_pure ⟨rfl,.inl ⟨_,_,_,_,_,rfl,J1,sz1⟩⟩
     ·exact wpS_pure ⟨rfl,_,_,_,_,_,rfl,J1,by lia⟩
  case in3=>
   rintro c z' ⟨rfl,⟨o1,i,j,ca,cb,rfl,J1,hp⟩ | ⟨r,e,M⟩⟩
   ·dsimp only
    refine wpS_bind (wpS_lift (wpAny_rule ⟨rfl,?_⟩))
    refine wpS_bind (wpS_mono (wpS_forRange (I:=fun x c z=>SamS st z∧∃o' i j g ca cb,c=(none,o',i,j,g,ca,cb)∧JLo O key xa xb T o' i j∧o.size+1≤o'.size) (Q:=fun c z=>SamS st z∧((∃o' i j g ca cb,c=(none,o',i,j,g,ca,cb)∧JLo O key xa xb T o' i j∧o.size+1≤o'.size)∨∃r,c.1=some r∧Made O key T r.toList)) ?gl1 ?gl2 ⟨SS,o1,i,j,_,_,_,rfl,J1,hp⟩) ?gl3)
    case gl2=>
     rintro c z ⟨SS,h⟩
     exact⟨SS,.inl h⟩
    case gl3=>
     rintro c z ⟨SS,⟨o',i,j,g,ca,cb,rfl,J,hp⟩ | ⟨r,e,M⟩⟩
     ·dsimp only
      exact wpS_bind (iL (wpS_pure ⟨SS.setG _,_,_,_,_,rfl,J,by lia⟩))
     ·obtain⟨c1,c2⟩:=c
      dsimp only at e
      subst e
      exact wpS_pure ⟨SS,r,rfl,M⟩
    case gl1=>
     rintro x c z _ hx ⟨SS,o2,i,j,g,ca,cb,rfl,J,hp⟩
     dsimp only
     revert g
     refine nV (fun g=>rfl) fun g=>?_
     refine wpS_bind (iL ?_)
     have SS1:=SS.setG g
     have i1:=J.i1
     have j1:=J.j1
     have jsz:=J.sz
     have ey:=aQ (xs:=xb) (i:=j) j1
     refine wpS_bind (bg ey (wpS_bind (fm C (SS1.kind.trans hk) (W.mb _ _ ey) (fun q hq=>⟨_,aQ (by lia),W.ma _ _ (aQ (by lia))⟩) (gi W.ua _ _ (by lia)) (by lia) fun k eg=>?_)))
     dsimp only
     have M1:=mh W J.mg ey eg
     obtain⟨lk,ltk⟩:=qR W ey (by lia) eg
     obtain⟨ax,ex⟩:∃ax,xa[i+k]?=some ax:=⟨_,aQ lk⟩
     have hlt:=ltk _ ex
     have sz1:=qr xa o2 i k (by lia)
     generalize hgi:i=i'
     revert i'
     generalize hgo:o2=o'
     revert o'
     refine gX (o:=o2) (i:=i) (fun o3 i3=>i3+1<xa.size∧Mg O key T o3.toList (xa.toList.drop i3) (xb.toList.drop j)∧o3.size=i3+j∧o.size+1≤o3.size∧xa[i3]?=some ax) ?b1 (fun hk0 hF=>?w1) (fun hk0=>?w2)
     case w1=>
      by_cases ea:i+k+1=xa.size
      ·rw[if_pos (by simpa using ea)]
       exact wpS_pure ⟨SS1,.inr ⟨_,rfl,fL W M1 ea⟩⟩
      ·rw[if_neg (by simpa using ea),if_neg (by simp;lia)]
       exact hF _ _ ⟨by lia,M1,by lia,by lia,ex⟩
     case w2=>
      have e5:k=0:=by lia
      subst e5
      exact⟨i1,J.mg,jsz,hp,ex⟩
     case b1=>
      rintro o3 i3 ⟨hi3,M3,z3,p3,x3⟩
      refine wpS_bind (bg ey ?_)
      have M4:=gs W M3 x3 ey (Ordr.le_of_lt hlt)
      by_cases eb:j+1=xb.size
      ·rw[if_pos (by simpa using eb)]
       exact wpS_pure ⟨SS1,.inr ⟨_,rfl,fX M4 eb⟩⟩
      ·rw[if_neg (by simpa using eb)]
       refine wpS_bind (bg x3 (wpS_bind (fm C (SS1.kind.trans hk) (W.ma _ _ x3) (fun q hq=>⟨_,aQ (by lia),W.mb _ _ (aQ (by lia))⟩) (gi W.ub _ _ (by lia)) (by lia) fun k2 eg2=>?_)))
       dsimp only
       obtain⟨M5,le5⟩:=og W M4 x3 eg2
       have hk2:=eg2.le
       obtain⟨o4,e4⟩:∃o4,o4=o3.push xb[j]:=⟨_,rfl⟩
       obtain⟨j4,e8⟩:∃j4,j4=j+1:=⟨_,rfl⟩
       have sz4:o4.size=o3.size+1:=by rw[e4,Array.size_push]
       rw[←e4] at M4 M5 ⊢
       rw[←e8] at M4 M5 le5 hk2 eb ⊢
       have iG:=qr xb o4 j4 k2 (by lia)
       generalize hgi:j4=j'
       revert j'
       generalize hgo:o4=o'
       revert o'
       refine gX (o:=o4) (i:=j4) (fun o5 j5=>j5<xb.size∧Mg O key T (o5.push ax).toList (xa.toList.drop (i3+1)) (xb.toList.drop j5)∧o5.size=i3+j5∧o.size+1≤o5.size) ?b2 (fun hk0 hF=>?w3) (fun hk0=>?w4)
       case w3=>
        by_cases ec:j4+k2=xb.size
        ·rw[if_pos (by simpa using ec)]
         exact wpS_pure ⟨SS1,.inr ⟨_,rfl,fX M5 ec⟩⟩
        ·rw[if_neg (by simpa using ec)]
         have ey5:=aQ (xs:=xb) (i:=j4+k2) (by lia)
         exact hF _ _ ⟨by lia,iH W M5 x3 ey5 (le5 _ (by lia) ey5),by lia,by lia⟩
       case w4=>
        have e5:k2=0:=by lia
        subst e5
        have ey5:=aQ (xs:=xb) (i:=j4) (by lia)
        exact⟨by lia,iH W M4 x3 ey5 (le5 _ (by lia) ey5),by lia,by lia⟩
       case b2=>
        rintro o5 j5 ⟨hj5,M6,z5,p5⟩
        refine wpS_bind (bg x3 ?_)
        by_cases ed:i3+1+1=xa.size
        ·rw[if_pos (by simpa using ed)]
         exact wpS_pure ⟨SS1,.inr ⟨_,rfl,fL W M6 ed⟩⟩
        ·rw[if_neg (by simpa using ed)]
         have J6:JLo O key xa xb T (o5.push ax) (i3+1) j5:=⟨M6,by lia,by lia,by rw[Array.size_push];lia⟩
         have p6:=J6.sz
         split
         ·exact wpS_pure ⟨SS1,.inl ⟨_,_,_,_,_,_,rfl,J6,by rw[p6];lia⟩⟩
         ·exact wpS_pure ⟨SS1,_,_,_,_,_,_,rfl,J6,by rw[p6];lia⟩
   ·obtain⟨c1,c2⟩:=c
    dsimp only at e
    subst e
    exact wpS_pure ⟨SS,r,rfl,M⟩
end
def Ordr.flip{κ:Type}(O:Ordr κ):Ordr κ:=⟨fun a b=>O.lt b a,O.irr,fun _ _ _ h1 h2=>O.tr _ _ _ h2 h1,fun _ b _ h=>(O.neg _ b _ h).symm⟩
def kC:Array Keyed→Array Keyed→StateT SortSt Sem (Array Keyed):=sortPriv% PySem.Builtin.mergeHi
theorem uJ(xa xb:Array Keyed):kC xa xb=(do
 rule "list.sort.merge-hi"
 let tot:=xa.size+xb.size
 let fin (o:Array Keyed) (i j:Nat):=xa.extract 0 i++xb.extract 0 j++o.reverse
 let oneB (o:Array Keyed) (i j:Nat):=xb.extract 0 j++xa.extract 0 i++o.reverse
 let mut i:=xa.size-1
 let mut j:=xb.size
 let mut o:Array Keyed:=#[←elem' xa i]
 if i == 0 then return fin o i j
 if j == 1 then return oneB o i j
 let mut mg:=gallopOf (←get)
 for _ in [0:tot] do
  let mut ca:=0
  let mut cb:=0
  for _ in [0:tot] do
   let some won←lt' (←elem' xb (j-1)) (←elem' xa (i-1)) | return fin o i j
   if won then
    i:=i-1;o:=o.push (←elem' xa i);ca:=ca+1;cb:=0
    if i == 0 then return fin o i j
    if ca≥mg then break
   else
    j:=j-1;o:=o.push (←elem' xb j);cb:=cb+1;ca:=0
    if j == 1 then return oneB o i j
    if cb≥mg then break
  rule "list.sort.gallop"
  mg:=mg+1
  for _ in [0:tot] do
   if mg>1 then mg:=mg-1
   setG mg
   let some p←dM false (←elem' xb (j-1)) xa 0 i (i-1) | return fin o i j
   let k:=i-p
   ca:=k
   if k>0 then
    o:=o++(xa.extract p i).reverse;i:=p
    if i == 0 then return fin o i j
   j:=j-1;o:=o.push (←elem' xb j)
   if j == 1 then return oneB o i j
   let some p←dM true (←elem' xa (i-1)) xb 0 j (j-1) | return fin o i j
   let k:=j-p
   cb:=k
   if k>0 then
    o:=o++(xb.extract p j).reverse;j:=p
    if j == 1 then return oneB o i j
    if j == 0 then return fin o i j
   i:=i-1;o:=o.push (←elem' xa i)
   if i == 0 then return fin o i j
   if ca<7 && cb<7 then break
  mg:=mg+1
  setG mg
 unsupported "internal:list.sort.merge-bound"):=rfl
section
variable{κ:Type}{O:Ordr κ}{key:Keyed→κ}{prog:Program}{w:World}{A:Around}{E:Value→Shared→Prop}{s:Shared}{a₀:Array Keyed}{kd:SortKind}
theorem kM{xs:Array Keyed}{n q:Nat}(hn:n≤xs.size)(hq:q<n):xs.reverse[xs.size-n+q]?=xs[n-1-q]?:=by
 rw[Array.getElem?_reverse (by lia)]
 congr 1
 lia
theorem gN{xs:Array Keyed}{n q:Nat}(hn:n≤xs.size)(hq:q<n):kk key xs.reverse (xs.size-n+q)=kk key xs (n-1-q):=bH key (kM hn hq)
theorem mt(xs:Array Keyed){p n:Nat}(hp:p≤n)(hn:n≤xs.size):(xs.extract p n).reverse=xs.reverse.extract (xs.size-n) (xs.size-n+(n-p)):=by
 apply Array.ext
 ·simp;lia
 ·intro i h1 h2
  simp only[Array.getElem_reverse,Array.getElem_extract]
  simp at h1
  congr 1
  simp
  lia
theorem Up.flip{xs:List Keyed}(h:Up O key xs):Up O.flip key xs.reverse:=List.pairwise_reverse.mpr h
theorem Made.flip{T T' r:List Keyed}(h:Made O.flip key T r)(p:T.Perm T'):Made O key T' r.reverse:=⟨(List.reverse_perm _).trans (h.1.trans p),List.pairwise_reverse.mpr h.2⟩
theorem Two.flip{xa xb:Array Keyed}(W:Two O key a₀ xa xb):Two O.flip key a₀ xb.reverse xa.reverse:=by
 have na:=W.na
 have nb:=W.nb
 have gb:∀(i:Nat) (x:Keyed),xb.reverse[i]?=some x→∃j:Nat,xb[j]?=some x∧i<xb.size∧j=xb.size-1-i:=fun i x e=>by
  have hi:i<xb.size:=by
   have:=(Array.getElem?_eq_some_iff.mp e).1
   simpa using this
  rw[Array.getElem?_reverse hi] at e
  exact⟨_,e,hi,rfl⟩
 have ga:∀(i:Nat) (x:Keyed),xa.reverse[i]?=some x→∃j:Nat,xa[j]?=some x∧i<xa.size∧j=xa.size-1-i:=fun i x e=>by
  have hi:i<xa.size:=by
   have:=(Array.getElem?_eq_some_iff.mp e).1
   simpa using this
  rw[Array.getElem?_reverse hi] at e
  exact⟨_,e,hi,rfl⟩
 refine⟨fun i x e=>?_,fun i x e=>?_,by rw[Array.toList_reverse];exact W.ub.flip,by rw[Array.toList_reverse];exact W.ua.flip,by simpa using nb,by simpa using na,fun x y ex ey=>?_,fun x y j ex ey=>?_⟩
 ·obtain⟨j,e',_⟩:=gb i x e
  exact W.mb j x e'
 ·obtain⟨j,e',_⟩:=ga i x e
  exact W.ma j x e'
 ·obtain⟨j,e1,_,h1⟩:=gb 0 x ex
  obtain⟨k,e2,_,h2⟩:=ga 0 y ey
  subst h2
  exact W.last y x j e2 e1
 ·obtain⟨k,e1,_,h1⟩:=gb _ x ex
  obtain⟨m,e2,_,h2⟩:=ga _ y ey
  rw[Array.size_reverse] at h1
  have hk:k=0:=by lia
  subst hk
  have ea0:=aQ (xs:=xa) (i:=0) (by lia)
  have lt0:=W.first _ x ea0 e1
  have hr:=gi W.ua 0 xa.size (Nat.le_refl _) 0 m (Nat.le_refl _) (Nat.zero_le _) (by lia)
  rw[be ea0,be e2] at hr
  have:=Ordr.lt_le (O:=O) lt0 hr
  exact this
theorem wx{xs:Array Keyed}{n p:Nat}{y:Keyed}(hn:n≤xs.size)(g:Edge (aW O key false y xs 0) n p):Edge (aW O.flip key true y xs.reverse (xs.size-n)) (xs.reverse.size-(xs.size-n)) (n-p):=by
 have hp:=g.le
 refine⟨by rw[Array.size_reverse];lia,fun q hq=>?_,fun q h1 h2=>?_⟩
 ·have:=g.no (n-1-q) (by lia) (by lia)
  unfold aW at this ⊢
  rw[if_neg Bool.false_ne_true,Nat.zero_add] at this
  rw[if_pos rfl,gN hn (by lia)]
  show O.lt (key y) _=true
  cases z:O.lt (key y) (kk key xs (n-1-q)) with
  | true=>rfl
  | false=>rw[z] at this;cases this
 ·rw[Array.size_reverse] at h2
  have:=g.yes (n-1-q) (by lia)
  unfold aW at this ⊢
  rw[if_neg Bool.false_ne_true,Nat.zero_add] at this
  rw[if_pos rfl,gN hn (by lia)]
  show O.lt (key y) _=false
  cases z:O.lt (key y) (kk key xs (n-1-q)) with
  | false=>rfl
  | true=>rw[z] at this;cases this
theorem mU{xs:Array Keyed}{n p:Nat}{y:Keyed}(hn:n≤xs.size)(g:Edge (aW O key true y xs 0) n p):Edge (aW O.flip key false y xs.reverse (xs.size-n)) (xs.reverse.size-(xs.size-n)) (n-p):=by
 have hp:=g.le
 refine⟨by rw[Array.size_reverse];lia,fun q hq=>?_,fun q h1 h2=>?_⟩
 ·have:=g.no (n-1-q) (by lia) (by lia)
  unfold aW at this ⊢
  rw[if_pos rfl,Nat.zero_add] at this
  rw[if_neg Bool.false_ne_true,gN hn (by lia)]
  show(!O.lt _ (key y))=true
  rw[this];rfl
 ·rw[Array.size_reverse] at h2
  have:=g.yes (n-1-q) (by lia)
  unfold aW at this ⊢
  rw[if_pos rfl,Nat.zero_add] at this
  rw[if_neg Bool.false_ne_true,gN hn (by lia)]
  show(!O.lt _ (key y))=false
  rw[this];rfl
variable{xa xb:Array Keyed}{T:List Keyed}{o:Array Keyed}{i j:Nat}
theorem gE(xs:Array Keyed){n:Nat}(hn:n≤xs.size):(xs.reverse.toList.drop (xs.size-n)).reverse=(xs.extract 0 n).toList:=by
 rw[Array.toList_reverse,List.drop_reverse,List.reverse_reverse,Array.toList_extract,List.extract_eq_drop_take,Array.length_toList,List.drop_zero]
 congr 1
 lia
theorem vY{na nb:Nat}(ha:na≤xa.size)(hb:nb≤xb.size)(h:Mg O.flip key (xb.reverse.toList++xa.reverse.toList) o.toList (xb.reverse.toList.drop (xb.size-nb)) (xa.reverse.toList.drop (xa.size-na)))(e:na=0):Made O key (xa.toList++xb.toList) (xa.extract 0 na++xb.extract 0 nb++o.reverse).toList:=by
 have:=fX h (by rw[Array.size_reverse];lia)
 have m:=this.flip (T':=xa.toList++xb.toList) (by
  rw[Array.toList_reverse,Array.toList_reverse]
  exact((List.reverse_perm _).append (List.reverse_perm _)).trans List.perm_append_comm)
 rw[Array.toList_append,Array.toList_append,dI,dI,List.reverse_append,List.reverse_append,gE xa ha,gE xb hb] at m
 rw[Array.toList_append,Array.toList_append,Array.toList_reverse,List.append_assoc]
 exact m
theorem xD{na nb:Nat}(ha:na≤xa.size)(hb:nb≤xb.size)(W:Two O.flip key a₀ xb.reverse xa.reverse)(h:Mg O.flip key (xb.reverse.toList++xa.reverse.toList) o.toList (xb.reverse.toList.drop (xb.size-nb)) (xa.reverse.toList.drop (xa.size-na)))(e:nb=1):Made O key (xa.toList++xb.toList) (xb.extract 0 nb++xa.extract 0 na++o.reverse).toList:=by
 have:=fL W h (by rw[Array.size_reverse];lia)
 have m:=this.flip (T':=xa.toList++xb.toList) (by
  rw[Array.toList_reverse,Array.toList_reverse]
  exact((List.reverse_perm _).append (List.reverse_perm _)).trans List.perm_append_comm)
 rw[Array.toList_append,Array.toList_append,dI,dI,List.reverse_append,List.reverse_append,gE xa ha,gE xb hb] at m
 rw[Array.toList_append,Array.toList_append,Array.toList_reverse,List.append_assoc]
 exact m
structure JHi(O:Ordr κ)(key:Keyed→κ)(xa xb:Array Keyed)(T:List Keyed)(o:Array Keyed)(i j:Nat):Prop where
 mg:Mg O.flip key T o.toList (xb.reverse.toList.drop (xb.size-j)) (xa.reverse.toList.drop (xa.size-i))
 i1:1≤i
 i2:i≤xa.size
 j1:2≤j
 j2:j≤xb.size
 sz:o.size=(xa.size-i)+(xb.size-j)
theorem rj(o xs:Array Keyed){p n:Nat}(hn:n≤xs.size):(o++(xs.extract p n).reverse).size=o.size+(n-p):=by
 rw[Array.size_append,Array.size_reverse,Array.size_extract];lia
theorem vM(C:cJ O key prog w A E s a₀ kd){st:SortSt}{Q:Array Keyed→SortSt→Prop}(hk:kindOf st=kd)(V:Two O key a₀ xa xb)(h:∀r z,SamS st z→Made O key (xa.toList++xb.toList) r.toList→Q r z):wpS (model prog w) A E s (kC xa xb) Q st:=by
 have W:=V.flip
 have na:=V.na
 have nb:=V.nb
 obtain⟨T,hT⟩:∃T,T=xb.reverse.toList++xa.reverse.toList:=⟨_,rfl⟩
 have fin:∀{o:Array Keyed} {i j:Nat},i≤xa.size→j≤xb.size→Mg O.flip key T o.toList (xb.reverse.toList.drop (xb.size-j)) (xa.reverse.toList.drop (xa.size-i))→i=0→Made O key (xa.toList++xb.toList) (xa.extract 0 i++xb.extract 0 j++o.reverse).toList:=fun h1 h2 m e=>by
  rw[hT] at m
  exact vY h1 h2 m e
 have oneB:∀{o:Array Keyed} {i j:Nat},i≤xa.size→j≤xb.size→Mg O.flip key T o.toList (xb.reverse.toList.drop (xb.size-j)) (xa.reverse.toList.drop (xa.size-i))→j=1→Made O key (xa.toList++xb.toList) (xb.extract 0 j++xa.extract 0 i++o.reverse).toList:=fun h1 h2 m e=>by
  rw[hT] at m
  exact xD h1 h2 W m e
 generalize xa.toList++xb.toList=TT at h fin oneB
 have sa:xa.reverse.size=xa.size:=Array.size_reverse
 have sb:xb.reverse.size=xb.size:=Array.size_reverse
 have atA:∀{i:Nat} {x:Keyed},1≤i→i≤xa.size→xa[i-1]?=some x→xa.reverse[xa.size-i]?=some x:=fun{i x} h1 h2 e=>by
  have:=kM (xs:=xa) (n:=i) (q:=0) h2 (by lia)
  rw[Nat.add_zero,Nat.sub_zero] at this
  rw[this];exact e
 have atB:∀{i:Nat} {x:Keyed},1≤i→i≤xb.size→xb[i-1]?=some x→xb.reverse[xb.size-i]?=some x:=fun{i x} h1 h2 e=>by
  have:=kM (xs:=xb) (n:=i) (q:=0) h2 (by lia)
  rw[Nat.add_zero,Nat.sub_zero] at this
  rw[this];exact e
 have pushA:∀{o:Array Keyed} {i j:Nat} {x y:Keyed},1≤i→i≤xa.size→1≤j→j≤xb.size→xb[j-1]?=some x→xa[i-1]?=some y→O.lt (key x) (key y)=true→Mg O.flip key T o.toList (xb.reverse.toList.drop (xb.size-j)) (xa.reverse.toList.drop (xa.size-i))→Mg O.flip key T (o.push y).toList (xb.reverse.toList.drop (xb.size-j)) (xa.reverse.toList.drop (xa.size-(i-1))):=fun{o i j x y} h1 h2 h3 h4 ex ey hc m=>by
  have:=gs W m (atB h3 h4 ex) (atA h1 h2 ey) (Ordr.le_of_lt (O:=O.flip) hc)
  rw[show xa.size-(i-1)=xa.size-i+1 by lia]
  exact this
 have pushB:∀{o:Array Keyed} {i j:Nat} {x y:Keyed},1≤i→i≤xa.size→1≤j→j≤xb.size→xb[j-1]?=some x→xa[i-1]?=some y→O.le (key y) (key x)→Mg O.flip key T o.toList (xb.reverse.toList.drop (xb.size-j)) (xa.reverse.toList.drop (xa.size-i))→Mg O.flip key T (o.push x).toList (xb.reverse.toList.drop (xb.size-(j-1))) (xa.reverse.toList.drop (xa.size-i)):=fun{o i j x y} h1 h2 h3 h4 ex ey hc m=>by
  have:=iH W m (atB h3 h4 ex) (atA h1 h2 ey) (show O.flip.le (key x) (key y) from hc)
  rw[show xb.size-(j-1)=xb.size-j+1 by lia]
  exact this
 have galA:∀{o:Array Keyed} {i j p:Nat} {x:Keyed},1≤i→i≤xa.size→1≤j→j≤xb.size→xb[j-1]?=some x→Edge (aW O key false x xa 0) i p→Mg O.flip key T o.toList (xb.reverse.toList.drop (xb.size-j)) (xa.reverse.toList.drop (xa.size-i))→Mg O.flip key T (o++(xa.extract p i).reverse).toList (xb.reverse.toList.drop (xb.size-j)) (xa.reverse.toList.drop (xa.size-p))∧∀y,1≤p→xa[p-1]?=some y→O.le (key y) (key x):=fun{o i j p x} h1 h2 h3 h4 ex g m=>by
  have gl:=g.le
  obtain⟨m1,m2⟩:=og W m (atB h3 h4 ex) (wx h2 g)
  rw[←mt xa gl h2,show xa.size-i+(i-p)=xa.size-p by lia] at m1
  refine⟨m1,fun y hp ey=>?_⟩
  have:=m2 y (by rw[sa];lia) (by rw[show xa.size-i+(i-p)=xa.size-p by lia];exact atA hp (by lia) ey)
  exact this
 have galB:∀{o:Array Keyed} {i j p:Nat} {y:Keyed},1≤i→i≤xa.size→1≤j→j≤xb.size→xa[i-1]?=some y→Edge (aW O key true y xb 0) j p→Mg O.flip key T o.toList (xb.reverse.toList.drop (xb.size-j)) (xa.reverse.toList.drop (xa.size-i))→Mg O.flip key T (o++(xb.extract p j).reverse).toList (xb.reverse.toList.drop (xb.size-p)) (xa.reverse.toList.drop (xa.size-i))∧1≤p∧∀x,xb[p-1]?=some x→O.lt (key x) (key y)=true:=fun{o i j p y} h1 h2 h3 h4 ey g m=>by
  have gl:=g.le
  have m1:=mh W m (atA h1 h2 ey) (mU h4 g)
  obtain⟨l1,l2⟩:=qR W (atA h1 h2 ey) (i:=xb.size-j) (by rw[sb];lia) (mU h4 g)
  rw[sb] at l1
  rw[←mt xb gl h4,show xb.size-j+(j-p)=xb.size-p by lia] at m1
  refine⟨m1,by lia,fun x ex=>?_⟩
  have:=l2 x (by rw[show xb.size-j+(j-p)=xb.size-p by lia];exact atB (by lia) (by lia) ex)
  exact this
 rw[uJ]
 refine wpS_bind (wpS_lift (wpAny_rule ⟨rfl,?_⟩))
 dsimp only
 have ea0:=aQ (xs:=xa) (i:=xa.size-1) (by lia)
 have eb0:=aQ (xs:=xb) (i:=xb.size-1) (by lia)
 have M0:Mg O.flip key T #[xa[xa.size-1]].toList (xb.reverse.toList.drop (xb.size-xb.size)) (xa.reverse.toList.drop (xa.size-(xa.size-1))):=by
  have h0:Mg O.flip key T (#[]:Array Keyed).toList (xb.reverse.toList.drop (xb.size-xb.size)) (xa.reverse.toList.drop (xa.size-xa.size)):=⟨by rw[hT];simp,List.Pairwise.nil,(fun x hx=>by cases hx),(fun x hx=>by cases hx),by simpa using W.ua,by simpa using W.ub⟩
  exact pushA (i:=xa.size) (j:=xb.size) na (Nat.le_refl _) nb (Nat.le_refl _) eb0 ea0 (V.last _ _ _ ea0 eb0) h0
 refine wpS_bind (bg ea0 ?_)
 by_cases e1:xa.size-1=0
 ·rw[if_pos (by simpa using e1)]
  exact wpS_pure (h _ st (SamS.refl _) (fin (by lia) (Nat.le_refl _) M0 e1))
 rw[if_neg (by simpa using e1)]
 by_cases e2:xb.size=1
 ·rw[if_pos (by simpa using e2)]
  exact wpS_pure (h _ st (SamS.refl _) (oneB (by lia) (Nat.le_refl _) M0 e2))
 rw[if_neg (by simpa using e2)]
 refine wpS_bind (wpS_get ?_)
 have J0:JHi O key xa xb T #[xa[xa.size-1]] (xa.size-1) xb.size:=⟨M0,by lia,by lia,by lia,Nat.le_refl _,by simp;lia⟩
 refine wpS_bind (wpS_mono (wpS_forRange (I:=fun x c z=>SamS st z∧∃o i j g,c=(none,i,j,o,g)∧JHi O key xa xb T o i j∧x+1≤o.size) (Q:=fun c z=>SamS st z∧∃r,c.1=some r∧Made O key TT r.toList) ?out1 ?out2 ⟨SamS.refl _,_,_,_,_,rfl,J0,by simp⟩) ?out3)
 case out3=>
  rintro⟨c1,c2⟩ z ⟨SS,r,e,M⟩
  dsimp only at e
  subst e
  exact wpS_pure (h r z SS M)
 case out2=>
  rintro c z ⟨SS,o,i,j,g,rfl,J,hx⟩
  have:=J.sz;have:=J.i1;have:=J.j1
  lia
 case out1=>
  rintro x0 c z _ hx0 ⟨SS,o,i,j,g,rfl,J,hx⟩
  dsimp only
  have hkz:kindOf z=kd:=SS.kind.trans hk
  refine wpS_bind (wpS_mono (wpS_forRange (I:=fun x c z'=>z'=z∧∃o' i j ca cb,c=(none,i,j,o',ca,cb)∧JHi O key xa xb T o' i j∧o.size+min x 1≤o'.size) (Q:=fun c z'=>z'=z∧((∃o' i j ca cb,c=(none,i,j,o',ca,cb)∧JHi O key xa xb T o' i j∧o.size+1≤o'.size)∨∃r,c.1=some r∧Made O key TT r.toList)) ?in1 ?in2 ⟨rfl,o,i,j,0,0,rfl,J,by lia⟩) ?in3)
  case in2=>
   rintro c z' ⟨rfl,o',i,j,ca,cb,rfl,J,hp⟩
   refine⟨rfl,.inl ⟨o',i,j,ca,cb,rfl,J,?_⟩⟩
   have:min (max 0 (xa.size+xb.size)) 1=1:=by lia
   lia
  case in1=>
   rintro x c z' _ hx ⟨rfl,o',i,j,ca,cb,rfl,J,hp⟩
   dsimp only
   have i1:=J.i1
   have i2:=J.i2
   have j1:=J.j1
   have j2:=J.j2
   have sz:=J.sz
   have ey:=aQ (xs:=xa) (i:=i-1) (by lia)
   have ex:=aQ (xs:=xb) (i:=j-1) (by lia)
   refine wpS_bind (bg ex (wpS_bind (bg ey (wpS_bind (C _ _ (V.mb _ _ ex) (V.ma _ _ ey) z' _ hkz ?_)))))
   dsimp only
   by_cases hc:O.lt (key xb[j-1]) (key xa[i-1])=true
   ·rw[if_pos hc]
    refine wpS_bind (bg ey ?_)
    have M1:=pushA i1 i2 (by lia) j2 ex ey hc J.mg
    by_cases e:i-1=0
    ·rw[if_pos (by simpa using e)]
     exact wpS_pure ⟨rfl,.inr ⟨_,rfl,fin (by lia) j2 M1 e⟩⟩
    ·rw[if_neg (by simpa using e)]
     have J1:JHi O key xa xb T (o'.push xa[i-1]) (i-1) j:=⟨M1,by lia,by lia,j1,j2,by rw[Array.size_push];lia⟩
     have sz1:o.size+1≤(o'.push xa[i-1]).size:=by rw[Array.size_push];lia
     split
     ·exact wpS_pure ⟨rfl,.inl ⟨_,_,_,_,_,rfl,J1,sz1⟩⟩
     ·exact wpS_pure ⟨rfl,_,_,_,_,_,rfl,J1,by lia⟩
   ·rw[if_neg hc]
    refine wpS_bind (bg ex ?_)
    have M1:=pushB i1 i2 (by lia) j2 ex ey (Ordr.le_not hc) J.mg
    by_cases e:j-1=1
    ·rw[if_pos (by simpa using e)]
     exact wpS_pure ⟨rfl,.inr ⟨_,rfl,oneB i2 (by lia) M1 e⟩⟩
    ·rw[if_neg (by simpa using e)]
     have J1:JHi O key xa xb T (o'.push xb[j-1]) i (j-1):=⟨M1,i1,i2,by lia,by lia,by rw[Array.size_push];lia⟩
     have sz1:o.size+1≤(o'.push xb[j-1]).size:=by rw[Array.size_push];lia
     split
     ·exact wpS_pure ⟨rfl,.inl ⟨_,_,_,_,_,rfl,J1,sz1⟩⟩
     ·exact wpS_pure ⟨rfl,_,_,_,_,_,rfl,J1,by lia⟩
  case in3=>
   rintro c z' ⟨rfl,⟨o1,i,j,ca,cb,rfl,J1,hp⟩ | ⟨r,e,M⟩⟩
   ·dsimp only
    refine wpS_bind (wpS_lift (wpAny_rule ⟨rfl,?_⟩))
    refine wpS_bind (wpS_mono (wpS_forRange (I:=fun x c z=>SamS st z∧∃o' i j g ca cb,c=(none,i,j,o',g,ca,cb)∧JHi O key xa xb T o' i j∧o.size+1≤o'.size) (Q:=fun c z=>SamS st z∧((∃o' i j g ca cb,c=(none,i,j,o',g,ca,cb)∧JHi O key xa xb T o' i j∧o.size+1≤o'.size)∨∃r,c.1=some r∧Made O key TT r.toList)) ?gl1 ?gl2 ⟨SS,o1,i,j,_,_,_,rfl,J1,hp⟩) ?gl3)
    case gl2=>
     rintro c z ⟨SS,h⟩
     exact⟨SS,.inl h⟩
    case gl3=>
     rintro c z ⟨SS,⟨o',i,j,g,ca,cb,rfl,J,hp⟩ | ⟨r,e,M⟩⟩
     ·dsimp only
      exact wpS_bind (iL (wpS_pure ⟨SS.setG _,_,_,_,_,rfl,J,by lia⟩))
     ·obtain⟨c1,c2⟩:=c
      dsimp only at e
      subst e
      exact wpS_pure ⟨SS,r,rfl,M⟩
    case gl1=>
     rintro x c z _ hx ⟨SS,o2,i,j,g,ca,cb,rfl,J,hp⟩
     dsimp only
     revert g
     refine nV (fun g=>rfl) fun g=>?_
     refine wpS_bind (iL ?_)
     have SS1:=SS.setG g
     have i1:=J.i1
     have i2:=J.i2
     have j1:=J.j1
     have j2:=J.j2
     have sz:=J.sz
     obtain⟨bx,ex⟩:∃bx,xb[j-1]?=some bx:=⟨_,aQ (by lia)⟩
     refine wpS_bind (bg ex (wpS_bind (fm C (SS1.kind.trans hk) (V.mb _ _ ex) (fun q hq=>⟨_,aQ (by lia),V.ma _ _ (aQ (by lia))⟩) (gi V.ua _ _ (by lia)) (by lia) fun p eg=>?_)))
     dsimp only
     obtain⟨M1,le1⟩:=galA i1 i2 (by lia) j2 ex eg J.mg
     have pl:=eg.le
     have sz1:=rj o2 xa (p:=p) i2
     generalize hkk:i-p=k1
     generalize hgi:i=i'
     revert i'
     generalize hgo:o2=o'
     revert o'
     refine gX (o:=o2) (i:=i) (fun o3 i3=>(1≤i3∧i3≤xa.size)∧Mg O.flip key T o3.toList (xb.reverse.toList.drop (xb.size-j)) (xa.reverse.toList.drop (xa.size-i3))∧o3.size=(xa.size-i3)+(xb.size-j)∧o.size+1≤o3.size∧∃ay,xa[i3-1]?=some ay∧O.le (key ay) (key bx)) ?b1 (fun hk0 hF=>?w1) (fun hk0=>?w2)
     case w1=>
      by_cases ea:p=0
      ·rw[if_pos (by simpa using ea)]
       exact wpS_pure ⟨SS1,.inr ⟨_,rfl,fin (by lia) j2 M1 ea⟩⟩
      ·rw[if_neg (by simpa using ea)]
       obtain⟨ay,ey⟩:∃ay,xa[p-1]?=some ay:=⟨_,aQ (by lia)⟩
       exact hF (o2++(xa.extract p i).reverse) p ⟨by lia,M1,by lia,by lia,ay,ey,le1 _ (by lia) ey⟩
     case w2=>
      have e5:p=i:=by lia
      subst e5
      obtain⟨ay,ey⟩:∃ay,xa[p-1]?=some ay:=⟨_,aQ (by lia)⟩
      exact⟨⟨i1,i2⟩,J.mg,sz,hp,ay,ey,le1 _ (by lia) ey⟩
     case b1=>
      rintro o3 i3 ⟨hi3,M3,z3,p3,ay,y3,le3⟩
      refine wpS_bind (bg ex ?_)
      have M4:=pushB hi3.1 hi3.2 (by lia) j2 ex y3 le3 M3
      by_cases eb:j-1=1
      ·rw[if_pos (by simpa using eb)]
       exact wpS_pure ⟨SS1,.inr ⟨_,rfl,oneB hi3.2 (by lia) M4 eb⟩⟩
      ·rw[if_neg (by simpa using eb)]
       clear M1 le1 pl sz1 eg
       obtain⟨o4,e4⟩:∃o4,o4=o3.push bx:=⟨_,rfl⟩
       obtain⟨j4,e8⟩:∃j4,j4=j-1:=⟨_,rfl⟩
       have sz4:o4.size=o3.size+1:=by rw[e4,Array.size_push]
       rw[←e4] at M4 ⊢
       rw[←e8] at M4 eb ⊢
       have j41:2≤j4:=by lia
       have j42:j4≤xb.size:=by lia
       have z4:o4.size=(xa.size-i3)+(xb.size-j4):=by lia
       have p4:o.size+1≤o4.size:=by lia
       clear z3 p3 M3 e4 e8 ex sz4 eb j1 j2 sz
       refine wpS_bind (bg y3 (wpS_bind (fm C (SS1.kind.trans hk) (V.ma _ _ y3) (fun q hq=>⟨_,aQ (by lia),V.mb _ _ (aQ (by lia))⟩) (gi V.ub _ _ (by lia)) (by lia) fun p2 eg2=>?_)))
       dsimp only
       obtain⟨M5,p21,lt5⟩:=galB hi3.1 hi3.2 (by lia) (by lia) y3 eg2 M4
       have hk2:=eg2.le
       have iG:=rj o4 xb (p:=p2) (n:=j4) (by lia)
       generalize hkk2:j4-p2=k2
       generalize hgi:j4=j'
       revert j'
       generalize hgo:o4=o'
       revert o'
       refine gX (o:=o4) (i:=j4) (fun o5 j5=>(2≤j5∧j5≤xb.size)∧Mg O.flip key T (o5.push ay).toList (xb.reverse.toList.drop (xb.size-j5)) (xa.reverse.toList.drop (xa.size-(i3-1)))∧o5.size=(xa.size-i3)+(xb.size-j5)∧o.size+1≤o5.size) ?b2 (fun hk0 hF=>?w3) (fun hk0=>?w4)
       case w3=>
        by_cases ec:p2=1
        ·rw[if_pos (by simpa using ec)]
         exact wpS_pure ⟨SS1,.inr ⟨_,rfl,oneB hi3.2 (by lia) M5 ec⟩⟩
        ·rw[if_neg (by simpa using ec),if_neg (by simp;lia)]
         obtain⟨bx5,ex5⟩:∃bx5,xb[p2-1]?=some bx5:=⟨_,aQ (by lia)⟩
         exact hF (o4++(xb.extract p2 j4).reverse) p2 ⟨by lia,pushA hi3.1 hi3.2 p21 (by lia) ex5 y3 (lt5 _ ex5) M5,by lia,by lia⟩
       case w4=>
        have e9:p2=j4:=by lia
        subst e9
        obtain⟨bx5,ex5⟩:∃bx5,xb[p2-1]?=some bx5:=⟨_,aQ (by lia)⟩
        exact⟨by lia,pushA hi3.1 hi3.2 p21 j42 ex5 y3 (lt5 _ ex5) M4,z4,p4⟩
       case b2=>
        rintro o5 j5 ⟨hj5,M6,z5,p5⟩
        clear M5 lt5 hk2 iG eg2 M4 z4 p4
        refine wpS_bind (bg y3 ?_)
        by_cases ed:i3-1=0
        ·rw[if_pos (by simpa using ed)]
         exact wpS_pure ⟨SS1,.inr ⟨_,rfl,fin (by lia) (by lia) M6 ed⟩⟩
        ·rw[if_neg (by simpa using ed)]
         have J6:JHi O key xa xb T (o5.push ay) (i3-1) j5:=⟨M6,by lia,by lia,by lia,by lia,by rw[Array.size_push];lia⟩
         have p6:=J6.sz
         split
         ·exact wpS_pure ⟨SS1,.inl ⟨_,_,_,_,_,_,rfl,J6,by rw[p6];lia⟩⟩
         ·exact wpS_pure ⟨SS1,_,_,_,_,_,_,rfl,J6,by rw[p6];lia⟩
   ·obtain⟨c1,c2⟩:=c
    dsimp only at e
    subst e
    exact wpS_pure ⟨SS,r,rfl,M⟩
end
section
variable{κ:Type}{O:Ordr κ}{key:Keyed→κ}{prog:Program}{w:World}{A:Around}{E:Value→Shared→Prop}{s:Shared}{a₀:Array Keyed}{kd:SortKind}
def eK(a:Array Keyed)(lo:Nat)(r:List (Keyed×Nat)):Array Keyed:=r.foldl (fun b q=>b.setIfInBounds (lo+q.2) q.1) a
theorem lK(lo:Nat):∀(r:List Keyed) (n:Nat) (a:Array Keyed),lo+n+r.length≤a.size→(eK a lo (r.zipIdx n)).toList=a.toList.take (lo+n)++r++a.toList.drop (lo+n+r.length)
 | [],n,a,h=>by simp[eK]
 | x::r,n,a,h=>by
   have hl:lo+n<a.toList.length:=by rw[Array.length_toList];simp at h;lia
   have ih:=lK lo r (n+1) (a.setIfInBounds (lo+n) x) (by rw[Array.size_setIfInBounds];simp at h;lia)
   have e0:eK a lo ((x::r).zipIdx n)=eK (a.setIfInBounds (lo+n) x) lo (r.zipIdx (n+1)):=rfl
   rw[e0,ih,Array.toList_setIfInBounds,List.set_eq_take_append_cons_drop,if_pos hl]
   have tl:(a.toList.take (lo+n)).length=lo+n:=by rw[List.length_take];lia
   have e1:(a.toList.take (lo+n)++x::a.toList.drop (lo+n+1)).take (lo+(n+1))=a.toList.take (lo+n)++[x]:=by
    rw[List.take_append,tl,List.take_of_length_le (by rw[tl];lia),show lo+(n+1)-(lo+n)=1 by lia];rfl
   have e2:(a.toList.take (lo+n)++x::a.toList.drop (lo+n+1)).drop (lo+(n+1)+r.length)=a.toList.drop (lo+n+(x::r).length):=by
    rw[List.drop_append,tl,List.drop_eq_nil_of_le (by rw[tl];lia),List.nil_append,show lo+(n+1)+r.length-(lo+n)=r.length+1 by lia,List.drop_succ_cons,List.drop_drop,List.length_cons]
    congr 1
    lia
   rw[e1,e2]
   simp
theorem lL(a:Array Keyed){lo sb hi:Nat}(h1:lo≤sb)(h2:sb≤hi):(a.extract lo sb).toList++(a.extract sb hi).toList=(a.toList.drop lo).take (hi-lo):=by
 rw[Array.toList_extract,Array.toList_extract,List.extract_eq_drop_take,List.extract_eq_drop_take]
 have e1:(a.toList.drop lo).take (hi-lo)=(a.toList.drop lo).take (sb-lo)++((a.toList.drop lo).drop (sb-lo)).take (hi-sb):=by
  rw[show hi-lo=(sb-lo)+(hi-sb) by lia,List.take_add]
 rw[e1,List.drop_drop,show lo+(sb-lo)=sb by lia]
theorem xE{a a':Array Keyed}{sa lo sb hi en:Nat}{r:List Keyed}(h1:sa≤lo)(h2:lo<sb)(h3:sb≤hi)(h4:hi≤en)(h5:en≤a.size)(h6:sb<en)(Ra:Rise O key a sa sb)(Rb:Rise O key a sb en)(pre:∀p,sa≤p→p<lo→O.le (kk key a p) (kk key a sb))(suf:∀q,hi≤q→q<en→O.le (kk key a (sb-1)) (kk key a q))(M:Made O key ((a.extract lo sb).toList++(a.extract sb hi).toList) r)(e:a'.toList=a.toList.take lo++r++a.toList.drop hi):Rise O key a' sa en∧a'.toList.Perm a.toList∧OnlyA a a' lo hi:=by
 obtain⟨pm,up⟩:=M
 rw[lL a (by lia) h3] at pm
 have rl:r.length=hi-lo:=by rw[pm.length_eq,List.length_take,List.length_drop,Array.length_toList];lia
 have tl:(a.toList.take lo).length=lo:=by rw[List.length_take,Array.length_toList];lia
 have g1:∀p,p<lo→a'[p]?=a[p]?:=fun p hp=>by
  rw[←Array.getElem?_toList,e,List.append_assoc,List.getElem?_append_left (by lia),List.getElem?_take_of_lt hp,Array.getElem?_toList]
 have g3:∀p,hi≤p→a'[p]?=a[p]?:=fun p hp=>by
  rw[←Array.getElem?_toList,e,List.getElem?_append_right (by rw[List.length_append,tl,rl];lia),List.length_append,tl,rl,List.getElem?_drop,Array.getElem?_toList]
  congr 1
  lia
 have g2:∀p,lo≤p→p<hi→a'[p]?=r[p-lo]?:=fun p hp hq=>by
  rw[←Array.getElem?_toList,e,List.getElem?_append_left (by rw[List.length_append,tl,rl];lia),List.getElem?_append_right (by lia),tl]
 have mem:∀m∈r,∃p,lo≤p∧p<hi∧a[p]?=some m:=fun m hm=>by
  obtain⟨q,hq⟩:=List.mem_iff_getElem?.mp (pm.mem_iff.mp hm)
  have ql:q<hi-lo:=by
   have:=(List.getElem?_eq_some_iff.mp hq).1
   rw[List.length_take] at this;lia
  rw[List.getElem?_take_of_lt ql,List.getElem?_drop,Array.getElem?_toList] at hq
  exact⟨lo+q,by lia,by lia,hq⟩
 have k2:∀p,lo≤p→p<hi→∃p',lo≤p'∧p'<hi∧kk key a' p=kk key a p':=fun p hp hq=>by
  have hr:r[p-lo]?=some (r[p-lo]'(by lia)):=List.getElem?_eq_getElem (by lia)
  obtain⟨p',q1,q2,q3⟩:=mem _ (List.mem_of_getElem? hr)
  exact⟨p',q1,q2,bH key ((g2 p hp hq).trans (hr.trans q3.symm))⟩
 have lowM:∀p p',sa≤p→p<lo→lo≤p'→p'<hi→O.le (kk key a p) (kk key a p'):=fun p p' q1 q2 q3 q4=>by
  rcases Nat.lt_or_ge p' sb with z | z
  ·exact Ra p p' q1 (by lia) z
  ·exact Ordr.le_trans (pre p q1 q2) (Rb sb p' (Nat.le_refl _) z (by lia))
 have midH:∀p' q,lo≤p'→p'<hi→hi≤q→q<en→O.le (kk key a p') (kk key a q):=fun p' q q1 q2 q3 q4=>by
  rcases Nat.lt_or_ge p' sb with z | z
  ·exact Ordr.le_trans (Ra p' (sb-1) (by lia) (by lia) (by lia)) (suf q q3 q4)
  ·exact Rb p' q z (by lia) q4
 refine⟨fun p q q1 q2 q3=>?_,?_,fun p hp=>?_⟩
 ·rcases Nat.lt_or_ge p lo with z1 | z1
  ·rw[bH key (g1 p z1)]
   rcases Nat.lt_or_ge q lo with z2 | z2
   ·rw[bH key (g1 q z2)];exact Ra p q q1 q2 (by lia)
   ·rcases Nat.lt_or_ge q hi with z3 | z3
    ·obtain⟨q',r1,r2,r3⟩:=k2 q z2 z3
     rw[r3];exact lowM p q' q1 z1 r1 r2
    ·rw[bH key (g3 q z3)]
     exact Ordr.le_trans (Ra p (sb-1) q1 (by lia) (by lia)) (suf q z3 q3)
  ·rcases Nat.lt_or_ge p hi with z4 | z4
   ·rcases Nat.lt_or_ge q hi with z3 | z3
    ·rcases Nat.lt_or_eq_of_le q2 with z5 | z5
     ·have hr1:r[p-lo]?=some (r[p-lo]'(by lia)):=List.getElem?_eq_getElem (by lia)
      have hr2:r[q-lo]?=some (r[q-lo]'(by lia)):=List.getElem?_eq_getElem (by lia)
      rw[be ((g2 p z1 z4).trans hr1),be ((g2 q (by lia) z3).trans hr2)]
      exact List.pairwise_iff_getElem.mp up (p-lo) (q-lo) (by lia) (by lia) (by lia)
     ·rw[z5];exact Ordr.le_refl _
    ·obtain⟨p',r1,r2,r3⟩:=k2 p z1 z4
     rw[r3,bH key (g3 q z3)]
     exact midH p' q r1 r2 z3 q3
   ·rw[bH key (g3 p z4),bH key (g3 q (by lia))]
    exact Rb p q (by lia) q2 q3
 ·rw[e]
  have e1:a.toList=a.toList.take lo++((a.toList.drop lo).take (hi-lo)++a.toList.drop hi):=by
   have:(a.toList.drop lo).take (hi-lo)++a.toList.drop hi=a.toList.drop lo:=by
    conv=>rhs;rw[←List.take_append_drop (hi-lo) (a.toList.drop lo)]
    rw[List.drop_drop,show lo+(hi-lo)=hi by lia]
   rw[this,List.take_append_drop]
  conv=>rhs;rw[e1]
  rw[List.append_assoc]
  exact(pm.append_right _).append_left _
 ·rcases hp with hp | hp
  ·exact g1 p hp
  ·exact g3 p hp
end
def qv:Nat→StateT SortSt Sem Bool:=sortPriv% PySem.Builtin.mergeAt
theorem vB(i:Nat):qv i=(do
 let z←get
 let (some (la,ca,pw),some (lb,cb,_)):=((pendingOf z)[i]?,(pendingOf z)[i+1]?) | unsupported "internal:list.sort.pending"
 set (SortSt.mk' (kindOf z) (arrOf z) (((pendingOf z).setIfInBounds i (la,ca+cb,pw)).eraseIdxIfInBounds (i+1)) (gallopOf z) (failedOf z))
 let some k←dM false (←elem' (arrOf z) lb) (arrOf z) la ca 0 | return false
 let (la,ca):=(la+k,ca-k)
 if ca == 0 then return true
 let some cb←dM true (←elem' (arrOf z) (la+ca-1)) (arrOf z) lb cb (cb-1) | return false
 if cb == 0 then return true
 let xx:=(arrOf z).extract la lb
 let yy:=(arrOf z).extract lb (lb+cb)
 let m←if ca≤cb then ki xx yy else kC xx yy
 modify fun q=>SortSt.mk' (kindOf q) (m.toList.zipIdx.foldl (fun a (p,j)=>a.setIfInBounds (la+j) p) (arrOf q)) (pendingOf q) (gallopOf q) (failedOf q)
 return (failedOf (←get)).isNone):=rfl
section
variable{κ:Type}{O:Ordr κ}{key:Keyed→κ}{prog:Program}{w:World}{A:Around}{E:Value→Shared→Prop}{s:Shared}{a₀:Array Keyed}{kd:SortKind}
theorem yZ{M:Model}{st z:SortSt}{Q:PUnit→SortSt→Prop}(h:Q ⟨⟩ z):wpS M A E s (set z:StateT SortSt Sem PUnit) Q st:=by
 unfold wpS
 rw[StateT.run_set]
 exact wpAny_pure ⟨rfl,h⟩
theorem nN{a:Array Keyed}{sa sb en:Nat}(h:sb<en)(Ra:Rise O key a sa sb)(Rb:Rise O key a sb en)(m:∀p,sa≤p→p<sb→O.le (kk key a p) (kk key a sb)):Rise O key a sa en:=fun p q q1 q2 q3=>by
 rcases Nat.lt_or_ge p sb with z | z
 ·rcases Nat.lt_or_ge q sb with y | y
  ·exact Ra p q q1 q2 y
  ·exact Ordr.le_trans (m p q1 z) (Rb sb q (Nat.le_refl _) y q3)
 ·exact Rb p q z q2 q3
theorem dX{a:Array Keyed}{lo hi i:Nat}{x:Keyed}(h:hi≤a.size)(e:(a.extract lo hi)[i]?=some x):lo+i<hi∧a[lo+i]?=some x:=by
 rw[Array.getElem?_extract] at e
 split at e
 ·exact⟨by lia,e⟩
 ·cases e
theorem oJ{a:Array Keyed}{lo hi:Nat}(h:hi≤a.size)(R:Rise O key a lo hi):Up O key (a.extract lo hi).toList:=by
 refine List.pairwise_iff_getElem.mpr fun i j h1 h2 h3=>?_
 rw[Array.length_toList] at h1 h2
 have e1:(a.extract lo hi)[i]?=some ((a.extract lo hi).toList[i]):=by rw[←Array.getElem?_toList];exact List.getElem?_eq_getElem _
 have e2:(a.extract lo hi)[j]?=some ((a.extract lo hi).toList[j]):=by rw[←Array.getElem?_toList];exact List.getElem?_eq_getElem _
 obtain⟨l1,g1⟩:=dX h e1
 obtain⟨l2,g2⟩:=dX h e2
 have:=R (lo+i) (lo+j) (by lia) (by lia) l2
 rw[be g1,be g2] at this
 exact this
theorem wE(C:cJ O key prog w A E s a₀ kd){st:SortSt}{i la ca pa lb cb pb:Nat}{Q:Bool→SortSt→Prop}(hB:Bas a₀ kd st)(e1:(pendingOf st)[i]?=some (la,ca,pa))(e2:(pendingOf st)[i+1]?=some (lb,cb,pb))(el:lb=la+ca)(c1:1≤ca)(c2:1≤cb)(hz:lb+cb≤a₀.size)(Ra:Rise O key (arrOf st) la lb)(Rb:Rise O key (arrOf st) lb (lb+cb))(h:∀z,Bas a₀ kd z→pendingOf z=((pendingOf st).setIfInBounds i (la,ca+cb,pa)).eraseIdxIfInBounds (i+1)→OnlyA (arrOf st) (arrOf z) la (lb+cb)→Rise O key (arrOf z) la (lb+cb)→Q true z):wpS (model prog w) A E s (qv i) Q st:=by
 rw[vB]
 refine wpS_bind (wpS_get ?_)
 dsimp only
 rw[e1,e2]
 dsimp only
 refine wpS_bind (yZ ?_)
 obtain⟨P,hP⟩:∃P,P=((pendingOf st).setIfInBounds i (la,ca+cb,pa)).eraseIdxIfInBounds (i+1):=⟨_,rfl⟩
 rw[←hP] at h ⊢
 have hsz:=hB.size
 have BZ:Bas a₀ kd (SortSt.mk' (kindOf st) (arrOf st) P (gallopOf st) (failedOf st)):=⟨hB.perm,hB.kind,hB.failed⟩
 obtain⟨y0,ey0,my0⟩:=hB.at (i:=lb) (by lia)
 have mem:∀{q:Nat} {x:Keyed},(arrOf st)[q]?=some x→x∈a₀:=fun{q x} e=>by
  have hq:q<a₀.size:=by
   have:=(Array.getElem?_eq_some_iff.mp e).1
   lia
  obtain⟨x',e',m'⟩:=hB.at hq
  rw[e] at e'
  rw[Option.some.inj e'];exact m'
 refine wpS_bind (bg ey0 (wpS_bind (fm C BZ.kind my0 (fun q hq=>?m1) (by rw[←el];exact Ra) (by lia) fun k eg=>?_)))
 case m1=>
  obtain⟨x,ex,mx⟩:=hB.at (i:=la+q) (by lia)
  exact⟨x,ex,mx⟩
 dsimp only
 have kl:=eg.le
 have lowB:∀p,la≤p→p<la+k→O.le (kk key (arrOf st) p) (kk key (arrOf st) lb):=fun p h1 h2=>by
  have:=eg.yes (p-la) (by lia)
  unfold aW at this
  rw[if_neg Bool.false_ne_true,show la+(p-la)=p by lia] at this
  rw[be ey0]
  show O.lt (key y0) (kk key (arrOf st) p)=false
  cases z:O.lt (key y0) (kk key (arrOf st) p) with
  | false=>rfl
  | true=>rw[z] at this;cases this
 by_cases z0:ca-k=0
 ·rw[if_pos (by simpa using z0)]
  exact wpS_pure (h _ BZ rfl (OnlyA.refl _ _ _) (nN (by lia) Ra Rb fun p h1 h2=>lowB p h1 (by lia)))
 rw[if_neg (by simpa using z0),show la+k+(ca-k)-1=lb-1 by lia]
 obtain⟨xl,exl,mxl⟩:=hB.at (i:=lb-1) (by lia)
 refine wpS_bind (bg exl (wpS_bind (fm C BZ.kind mxl (fun q hq=>?m2) Rb (by lia) fun k2 eg2=>?_)))
 case m2=>
  obtain⟨x,ex,mx⟩:=hB.at (i:=lb+q) (by lia)
  exact⟨x,ex,mx⟩
 dsimp only
 have kl2:=eg2.le
 have hiL:∀q,lb+k2≤q→q<lb+cb→O.le (kk key (arrOf st) (lb-1)) (kk key (arrOf st) q):=fun q h1 h2=>by
  have:=eg2.no (q-lb) (by lia) (by lia)
  unfold aW at this
  rw[if_pos rfl,show lb+(q-lb)=q by lia] at this
  rw[be exl]
  exact this
 by_cases z1:k2=0
 ·rw[if_pos (by simpa using z1)]
  exact wpS_pure (h _ BZ rfl (OnlyA.refl _ _ _) (nN (by lia) Ra Rb fun p h1 h2=>Ordr.le_trans (Ra p (lb-1) h1 (by lia) (by lia)) (hiL lb (by lia) (by lia))))
 rw[if_neg (by simpa using z1)]
 have W:Two O key a₀ ((arrOf st).extract (la+k) lb) ((arrOf st).extract lb (lb+k2)):=by
  refine⟨fun q x e=>mem (dX (by lia) e).2,fun q x e=>mem (dX (by lia) e).2,oJ (by lia) fun p q h1 h2 h3=>Ra p q (by lia) h2 h3,oJ (by lia) fun p q h1 h2 h3=>Rb p q h1 h2 (by lia),by rw[Array.size_extract];lia,by rw[Array.size_extract];lia,fun x y ex ey=>?_,fun x y j ex ey=>?_⟩
  ·obtain⟨_,g1⟩:=dX (by lia) ex
   obtain⟨_,g2⟩:=dX (by lia) ey
   rw[Nat.add_zero] at g1
   have:=eg.no k (Nat.le_refl _) (by lia)
   unfold aW at this
   rw[if_neg Bool.false_ne_true,be g1] at this
   rw[show lb+0=lb by lia,ey0] at g2
   rw[←Option.some.inj g2]
   cases z:O.lt (key y0) (key x) with
   | true=>rfl
   | false=>rw[z] at this;cases this
  ·rw[Array.size_extract] at ex
   obtain⟨_,g1⟩:=dX (by lia) ex
   obtain⟨l2,g2⟩:=dX (by lia) ey
   rw[show la+k+(min lb (arrOf st).size-(la+k)-1)=lb-1 by lia,exl] at g1
   have:=eg2.yes j (by lia)
   unfold aW at this
   rw[if_pos rfl,be g2,Option.some.inj g1] at this
   exact this
 have cont:∀(r:Array Keyed) (z:SortSt),SamS (SortSt.mk' (kindOf st) (arrOf st) P (gallopOf st) (failedOf st)) z→Made O key (((arrOf st).extract (la+k) lb).toList++((arrOf st).extract lb (lb+k2)).toList) r.toList→Q true (SortSt.mk' (kindOf z) (eK (arrOf z) (la+k) r.toList.zipIdx) (pendingOf z) (gallopOf z) (failedOf z)):=fun r z SS M=>by
  have ea:arrOf z=arrOf st:=SS.arr
  have rl:r.toList.length=lb+k2-(la+k):=by
   rw[M.1.length_eq,lL _ (by lia) (by lia),List.length_take,List.length_drop,Array.length_toList];lia
  have pe:=lK (la+k) r.toList 0 (arrOf z) (by rw[ea,rl];lia)
  rw[Nat.add_zero,rl,ea,show la+k+(lb+k2-(la+k))=lb+k2 by lia] at pe
  obtain⟨R1,R2,R3⟩:=xE (a':=eK (arrOf st) (la+k) r.toList.zipIdx) (sa:=la) (en:=lb+cb) (by lia) (by lia) (by lia) (by lia) (by lia) (by lia) Ra Rb (fun p h1 h2=>lowB p h1 h2) hiL M pe
  rw[ea]
  exact h _ ⟨(Array.perm_iff_toList_perm.mpr R2).trans hB.perm,SS.kind.trans hB.kind,SS.failed.trans hB.failed⟩ SS.pend (R3.wide (by lia) (by lia)) R1
 have fz:∀(z:SortSt),SamS (SortSt.mk' (kindOf st) (arrOf st) P (gallopOf st) (failedOf st)) z→(failedOf z).isNone=true:=fun z SS=>by rw[SS.failed,show failedOf (SortSt.mk' (kindOf st) (arrOf st) P (gallopOf st) (failedOf st))=none from hB.failed];rfl
 split
 ·refine wpS_bind (wW C BZ.kind W fun r z SS M=>wpS_bind (wpS_modify (wpS_bind (wpS_get (wpS_pure ?_)))))
  rw[show(failedOf (SortSt.mk' (kindOf z) _ (pendingOf z) (gallopOf z) (failedOf z))).isNone=true from fz z SS]
  exact cont r z SS M
 ·refine wpS_bind (vM C BZ.kind W fun r z SS M=>wpS_bind (wpS_modify (wpS_bind (wpS_get (wpS_pure ?_)))))
  rw[show(failedOf (SortSt.mk' (kindOf z) _ (pendingOf z) (gallopOf z) (failedOf z))).isNone=true from fz z SS]
  exact cont r z SS M
end
section
variable{κ:Type}{O:Ordr κ}{key:Keyed→κ}{prog:Program}{w:World}{A:Around}{E:Value→Shared→Prop}{s:Shared}{a₀:Array Keyed}{kd:SortKind}
inductive Stk (O:Ordr κ) (key:Keyed→κ) (x:Array Keyed):List (Nat×Nat×Nat)→Nat→Nat→Prop
 | nil (a:Nat):Stk O key x [] a a
 | cons {a n p b:Nat} {r:List (Nat×Nat×Nat)}:1≤n→Rise O key x a (a+n)→Stk O key x r (a+n) b→Stk O key x ((a,n,p)::r) a b
theorem Stk.len{x:Array Keyed}{l:List (Nat×Nat×Nat)}{a b:Nat}(h:Stk O key x l a b):a+l.length≤b:=by
 induction h with
 | nil=>simp
 | cons h1 _ _ ih=>rw[List.length_cons];lia
theorem Stk.snoc{x:Array Keyed}{l:List (Nat×Nat×Nat)}{a b n p:Nat}(h:Stk O key x l a b)(h1:1≤n)(R:Rise O key x b (b+n)):Stk O key x (l++[(b,n,p)]) a (b+n):=by
 induction h with
 | nil=>exact .cons h1 R (.nil _)
 | cons g1 g2 _ ih=>exact .cons g1 g2 (ih R)
theorem Stk.keep{x y:Array Keyed}{l:List (Nat×Nat×Nat)}{a b lo hi:Nat}(h:Stk O key x l a b)(g:OnlyA x y lo hi)(d:b≤lo∨hi≤a):Stk O key y l a b:=by
 induction h with
 | nil=>exact .nil _
 | cons g1 g2 g3 ih=>
   have:=g3.len
   exact .cons g1 (g2.keep g (by lia)) (ih (by lia))
theorem Stk.at{x:Array Keyed}{l:List (Nat×Nat×Nat)}{a b:Nat}(h:Stk O key x l a b):∀{i u n p:Nat},l[i]?=some (u,n,p)→1≤n∧a≤u∧u+n≤b∧Rise O key x u (u+n):=by
 induction h with
 | nil=>intro i u n p e;simp at e
 | cons g1 g2 g3 ih=>
   intro i u n p e
   cases i with
   | zero=>
     have e:=Option.some.inj e
     injection e with e1 e2
     injection e2 with e2 e3
     subst e1 e2
     exact⟨g1,Nat.le_refl _,(by have:=g3.len;lia),g2⟩
   | succ i=>
     obtain⟨k1,k2,k3,k4⟩:=ih e
     exact⟨k1,by lia,k3,k4⟩
theorem Stk.merge{x y:Array Keyed}{l:List (Nat×Nat×Nat)}{a b:Nat}(h:Stk O key x l a b):∀{i u n p v m q:Nat},l[i]?=some (u,n,p)→l[i+1]?=some (v,m,q)→v=u+n∧(OnlyA x y u (v+m)→Rise O key y u (v+m)→Stk O key y ((l.set i (u,n+m,p)).eraseIdx (i+1)) a b):=by
 induction h with
 | nil=>intro i u n p v m q e;simp at e
 | @cons a n0 p0 b r g1 g2 g3 ih=>
   intro i u n p v m q e1 e2
   cases i with
   | zero=>
     have e:=Option.some.inj e1
     injection e with e1 e3
     injection e3 with e3 e4
     subst e1 e3 e4
     cases g3 with
     | nil=>simp at e2
     | @cons _ n1 p1 _ r1 k1 k2 k3=>
       have e:=Option.some.inj e2
       injection e with f1 f3
       injection f3 with f3 f4
       subst f3
       refine⟨f1.symm,fun On R=>?_⟩
       subst f1
       have:=k3.len
       show Stk O key y ((a,n0+n1,p0)::r1) a b
       refine .cons (by lia) (by rw[←Nat.add_assoc];exact R) ?_
       rw[←Nat.add_assoc]
       exact k3.keep On (by lia)
   | succ i=>
     obtain⟨j1,j2⟩:=ih e1 e2
     obtain⟨_,k2,_,_⟩:=g3.at e1
     exact⟨j1,fun On R=>.cons g1 (g2.keep On (by lia)) (j2 On R)⟩
theorem Stk.pow{x:Array Keyed}{l:List (Nat×Nat×Nat)}{a b pw:Nat}(h:Stk O key x l a b):∀i,Stk O key x (l.modify i fun q=>(q.1,q.2.1,pw)) a b:=by
 induction h with
 | nil=>intro i;cases i <;> exact .nil _
 | cons g1 g2 g3 ih=>
   intro i
   cases i with
   | zero=>exact .cons g1 g2 g3
   | succ i=>exact .cons g1 g2 (ih i)
theorem jR(C:cJ O key prog w A E s a₀ kd){z:SortSt}{i lo:Nat}{Q:Bool→SortSt→Prop}(hB:Bas a₀ kd z)(S:Stk O key (arrOf z) (pendingOf z).toList 0 lo)(hl:lo≤a₀.size)(hi:i+1<(pendingOf z).size)(h:∀z',Bas a₀ kd z'→Stk O key (arrOf z') (pendingOf z').toList 0 lo→(pendingOf z').size+1=(pendingOf z).size→OnlyA (arrOf z) (arrOf z') 0 lo→Q true z'):wpS (model prog w) A E s (mergeAt' i) Q z:=by
 have e1:(pendingOf z)[i]?=some ((pendingOf z)[i]):=Array.getElem?_eq_getElem _
 have e2:(pendingOf z)[i+1]?=some ((pendingOf z)[i+1]):=Array.getElem?_eq_getElem _
 obtain⟨⟨u,n,p⟩,hu⟩:∃q,q=(pendingOf z)[i]:=⟨_,rfl⟩
 obtain⟨⟨v,m,q⟩,hv⟩:∃q,q=(pendingOf z)[i+1]:=⟨_,rfl⟩
 rw[←hu] at e1
 rw[←hv] at e2
 have f1:(pendingOf z).toList[i]?=some (u,n,p):=by rw[Array.getElem?_toList];exact e1
 have f2:(pendingOf z).toList[i+1]?=some (v,m,q):=by rw[Array.getElem?_toList];exact e2
 obtain⟨a1,a2,a3,a4⟩:=S.at f1
 obtain⟨b1,b2,b3,b4⟩:=S.at f2
 have ev:=(S.merge (y:=arrOf z) f1 f2).1
 refine wE C hB e1 e2 ev a1 b1 (by lia) (by rw[ev];exact a4) b4 fun z' B' P' On R=>?_
 have st:=(S.merge (y:=arrOf z') f1 f2).2 On R
 have sz:(pendingOf z').size+1=(pendingOf z).size:=by
  rw[P']
  unfold Array.eraseIdxIfInBounds
  rw[dif_pos (by rw[Array.size_setIfInBounds];exact hi),Array.size_eraseIdx,Array.size_setIfInBounds];lia
 refine h z' B' ?_ sz (On.wide (by lia) (by lia))
 rw[P']
 unfold Array.eraseIdxIfInBounds
 rw[dif_pos (by rw[Array.size_setIfInBounds];exact hi),Array.toList_eraseIdx,Array.toList_setIfInBounds]
 exact st
theorem lO(C:cJ O key prog w A E s a₀ kd){st:SortSt}{Q:Unit→SortSt→Prop}(hB:Bas a₀ kd st)(hp:pendingOf st=#[])(h1:1≤a₀.size)(h:∀z,Bas a₀ kd z→Rise O key (arrOf z) 0 a₀.size→Q () z):wpS (model prog w) A E s sortRuns' Q st:=by
 rw[sortRuns'_eq]
 refine wpS_bind (wpS_get ?_)
 dsimp only
 simp only[hB.size]
 generalize minRun' a₀.size a₀.size 0=mr
 have S0:Stk O key (arrOf st) (pendingOf st).toList 0 0:=by rw[hp];exact .nil _
 refine wpS_bind (wpS_mono (wpS_forRange (I:=fun x c z=>∃lo,c=(none,lo)∧Bas a₀ kd z∧Stk O key (arrOf z) (pendingOf z).toList 0 lo∧lo≤a₀.size∧x≤lo) (Q:=fun c z=>c=(none,a₀.size)∧Bas a₀ kd z∧Stk O key (arrOf z) (pendingOf z).toList 0 a₀.size) ?one ?last ⟨0,rfl,hB,S0,Nat.zero_le _,Nat.le_refl _⟩) ?behind)
 case last=>
  rintro c z ⟨lo,rfl,B,S,l1,l2⟩
  have e:lo=a₀.size:=by lia
  subst e
  exact⟨rfl,B,S⟩
 case one=>
  rintro x c z _ hx ⟨lo,rfl,B,S,l1,l2⟩
  dsimp only
  by_cases hlo:lo≥a₀.size
  ·rw[if_pos hlo]
   have e:lo=a₀.size:=by lia
   subst e
   exact wpS_pure ⟨rfl,B,S⟩
  ·rw[if_neg hlo]
   refine wpS_bind (x9 C B (by lia) (by lia) fun z1 n B1 P1 On1 n1 n2 R1=>?_)
   dsimp only
   have S1:Stk O key (arrOf z1) (pendingOf z1).toList 0 lo:=by rw[P1];exact S.keep On1 (.inl (Nat.le_refl _))
   by_cases hmr:n<mr
   ·rw[if_pos hmr]
    refine wpS_bind (wpS_lift (wpAny_rule ⟨rfl,?_⟩))
    refine wpS_bind (rL C B1 (by lia) (by lia) R1 fun z2 B2 P2 On2 R2=>?_)
    rw[if_neg (by simp)]
    have S2:Stk O key (arrOf z2) (pendingOf z2).toList 0 lo:=by rw[P2];exact S1.keep On2 (.inl (Nat.le_refl _))
    have m1:1≤min (a₀.size-lo) mr:=by lia
    have m2:lo+min (a₀.size-lo) mr≤a₀.size:=by lia
    generalize min (a₀.size-lo) mr=N at R2 m1 m2 ⊢
    refine wpS_bind (wpS_get ?_)
    cases hb:(pendingOf z2).back? with
    | none=>
      dsimp only
      refine wpS_bind (wpS_modify (wpS_pure ⟨lo+N,rfl,⟨B2.perm,B2.kind,B2.failed⟩,?_,m2,by lia⟩))
      show Stk O key (arrOf z2) ((pendingOf z2).push (lo,N,0)).toList 0 (lo+N)
      rw[Array.toList_push]
      exact S2.snoc m1 R2
    | some t=>
      obtain⟨s1,k1,q1⟩:=t
      dsimp only
      refine wpS_bind (wpS_mono (wpS_forRange (I:=fun _ c z=>c=(none,())∧Bas a₀ kd z∧Stk O key (arrOf z) (pendingOf z).toList 0 lo∧Rise O key (arrOf z) lo (lo+N)) (Q:=fun c z=>c=(none,())∧Bas a₀ kd z∧Stk O key (arrOf z) (pendingOf z).toList 0 lo∧Rise O key (arrOf z) lo (lo+N)) ?st (fun c z q=>q) ⟨rfl,B2,S2,R2⟩) ?en)
      case st=>
       rintro y c z _ _ ⟨rfl,Bz,Sz,Rz⟩
       refine wpS_bind (wpS_get ?_)
       by_cases h2:(pendingOf z).size>1
       ·rw[if_pos h2]
        cases he:(pendingOf z)[(pendingOf z).size-2]? with
        | none=>exact wpS_pure ⟨rfl,Bz,Sz,Rz⟩
        | some t=>
          obtain⟨t1,t2,t3⟩:=t
          dsimp only
          split
          ·exact wpS_pure ⟨rfl,Bz,Sz,Rz⟩
          ·refine wpS_bind (jR C Bz Sz l1 (by lia) fun z' B' S' _ On'=>?_)
           rw[if_neg (by simp)]
           exact wpS_pure ⟨rfl,B',S',Rz.keep On' (.inr (Nat.le_refl _))⟩
       ·rw[if_neg h2]
        exact wpS_pure ⟨rfl,Bz,Sz,Rz⟩
      case en=>
       rintro c z ⟨rfl,Bz,Sz,Rz⟩
       dsimp only
       refine wpS_bind (wpS_modify (wpS_bind (wpS_modify (wpS_pure ⟨lo+N,rfl,⟨Bz.perm,Bz.kind,Bz.failed⟩,?_,m2,by lia⟩))))
       show Stk O key (arrOf z) (((pendingOf z).modify _ _).push (lo,N,0)).toList 0 (lo+N)
       rw[Array.toList_push,Array.toList_modify]
       exact(Sz.pow _).snoc m1 Rz
   ·rw[if_neg hmr]
    have m2:lo+n≤a₀.size:=by lia
    refine wpS_bind (wpS_get ?_)
    cases hb:(pendingOf z1).back? with
    | none=>
      dsimp only
      refine wpS_bind (wpS_modify (wpS_pure ⟨lo+n,rfl,⟨B1.perm,B1.kind,B1.failed⟩,?_,m2,by lia⟩))
      show Stk O key (arrOf z1) ((pendingOf z1).push (lo,n,0)).toList 0 (lo+n)
      rw[Array.toList_push]
      exact S1.snoc n1 R1
    | some t=>
      obtain⟨s1,k1,q1⟩:=t
      dsimp only
      refine wpS_bind (wpS_mono (wpS_forRange (I:=fun _ c z=>c=(none,())∧Bas a₀ kd z∧Stk O key (arrOf z) (pendingOf z).toList 0 lo∧Rise O key (arrOf z) lo (lo+n)) (Q:=fun c z=>c=(none,())∧Bas a₀ kd z∧Stk O key (arrOf z) (pendingOf z).toList 0 lo∧Rise O key (arrOf z) lo (lo+n)) ?st (fun c z q=>q) ⟨rfl,B1,S1,R1⟩) ?en)
      case st=>
       rintro y c z _ _ ⟨rfl,Bz,Sz,Rz⟩
       refine wpS_bind (wpS_get ?_)
       by_cases h2:(pendingOf z).size>1
       ·rw[if_pos h2]
        cases he:(pendingOf z)[(pendingOf z).size-2]? with
        | none=>exact wpS_pure ⟨rfl,Bz,Sz,Rz⟩
        | some t=>
          obtain⟨t1,t2,t3⟩:=t
          dsimp only
          split
          ·exact wpS_pure ⟨rfl,Bz,Sz,Rz⟩
          ·refine wpS_bind (jR C Bz Sz l1 (by lia) fun z' B' S' _ On'=>?_)
           rw[if_neg (by simp)]
           exact wpS_pure ⟨rfl,B',S',Rz.keep On' (.inr (Nat.le_refl _))⟩
       ·rw[if_neg h2]
        exact wpS_pure ⟨rfl,Bz,Sz,Rz⟩
      case en=>
       rintro c z ⟨rfl,Bz,Sz,Rz⟩
       dsimp only
       refine wpS_bind (wpS_modify (wpS_bind (wpS_modify (wpS_pure ⟨lo+n,rfl,⟨Bz.perm,Bz.kind,Bz.failed⟩,?_,m2,by lia⟩))))
       show Stk O key (arrOf z) (((pendingOf z).modify _ _).push (lo,n,0)).toList 0 (lo+n)
       rw[Array.toList_push,Array.toList_modify]
       exact(Sz.pow _).snoc n1 Rz
 case behind=>
  rintro c z ⟨rfl,B,S⟩
  dsimp only
  refine wpS_bind (wpS_mono (wpS_forRange (I:=fun x c z=>c=(none,())∧Bas a₀ kd z∧Stk O key (arrOf z) (pendingOf z).toList 0 a₀.size∧((pendingOf z).size≤1∨(pendingOf z).size+x≤a₀.size)) (Q:=fun c z=>c=(none,())∧Bas a₀ kd z∧Stk O key (arrOf z) (pendingOf z).toList 0 a₀.size∧(pendingOf z).size≤1) ?go ?stop ⟨rfl,B,S,.inr (by have:=S.len;rw[Array.length_toList] at this;lia)⟩) ?fin)
  case stop=>
   rintro c z ⟨rfl,B,S,o⟩
   exact⟨rfl,B,S,by lia⟩
  case go=>
   rintro x c z _ hx ⟨rfl,B,S,o⟩
   refine wpS_bind (wpS_get ?_)
   by_cases h2:(pendingOf z).size≤1
   ·rw[if_pos h2]
    exact wpS_pure ⟨rfl,B,S,h2⟩
   ·rw[if_neg h2]
    have hi:∀b:Bool,(if b=true then(pendingOf z).size-2-1 else(pendingOf z).size-2)+1<(pendingOf z).size:=fun b=>by
     cases b
     ·rw[if_neg Bool.false_ne_true];lia
     ·rw[if_pos rfl];lia
    refine wpS_bind (jR C B S (Nat.le_refl _) (hi _) fun z' B' S' sz' _=>?_)
    rw[if_neg (by simp)]
    exact wpS_pure ⟨rfl,B',S',by lia⟩
  case fin=>
   rintro c z ⟨rfl,B,S,o⟩
   refine wpS_pure (h z B ?_)
   rw[←Array.length_toList] at o
   cases hl:(pendingOf z).toList with
   | nil=>
     rw[hl] at S
     generalize e:a₀.size=m at S h1
     cases S
     lia
   | cons q r=>
     rw[hl] at S o
     have hr:r=[]:=by
      cases r with
      | nil=>rfl
      | cons _ _=>simp at o
     subst hr
     obtain⟨u,n,p⟩:=q
     generalize e:a₀.size=m at S ⊢
     cases S with
     | cons g1 g2 g3=>
       cases g3
       exact g2
end
def kL:Ordr Int:=⟨fun a b=>decide (a<b),fun a=>decide_eq_false (Int.lt_irrefl a),fun a b c h1 h2=>decide_eq_true (Int.lt_trans (of_decide_eq_true h1) (of_decide_eq_true h2)),fun a b c h=>by
 have:=of_decide_eq_true h
 by_cases z:a<b
 ·exact .inl (decide_eq_true z)
 ·exact .inr (decide_eq_true (by lia))⟩
section
variable{prog:Program}{w:World}{A:Around}{E:Value→Shared→Prop}{s:Shared}
end
section
variable{X:Cx}{e:Expr}{te:TE}{p pos:Pos}
end
section
variable{prog:Program}{w:World}{A:Around}{R:Result→Shared→Prop}{I S ax:Addr}{items:Array Value}{L:Nat→List Value}
end
section
variable{X:Cx}{e e2:Expr}{te te2:TE}{p pos:Pos}
end
def uq(P:Addr)(ps:Array Value):Heap→Prop:=fun h=>h.get? P=some (PySem.W.tabObj ps)
def jj(c:Addr)(qual:Str):Heap→Prop:=fun h=>h.CodeRec (.ref c) qual
def cH(mg:Str→Option Value)(h:Heap):Prop:=∃bm ob,mg "__builtins__"=some (.ref bm)∧bm≠builtinsNs∧h.get? bm=some ob∧ob.cls=.type "module"∧ob.dict=some builtinsNs∧ob.data=.plain
def cE(P:Addr)(ps:Array Value):HO:=.ext (uq P ps)
theorem jS{prog:Program}{w:World}{H:Hp}{h:Heap}{P:Addr}{ps:Array Value}(e:h.get? P=some (PySem.W.tabObj ps)):ObjOk prog w H h P (cE P ps):=⟨e,⟨_,e⟩,fun _ _ z k=>k _ z⟩
section
variable{Pr:Program}{w:World}{K:PySem.W.Frag}{mg mb:Str→Option Value}{CX:bB}{k:Nat}{fa a P:Addr}{fd:FuncData}{x:Str}{sp:Sp}{s₁:Shared}{vs:List Value}{ns:List Int}
structure Beg(K:PySem.W.Frag)(a P:Addr)(H:Hp):Prop where
 tab:H P=some (cE P #[])
 only:∀b u,H b=some u→(b=P∧u=cE P #[])∨(b=a∧K.lookup a=none∧∃o xs,u=.frz o (.lst xs))
theorem vQ(KX:K.In s₁.heap)(hns:s₁.heap.Ns mainGlobals mg)(hb:s₁.heap.Ns builtinsNs mb)(hbb:∀x:Str,x≠"__name__"→mb x=bootBuiltins x)(hbm:cH mg s₁.heap)(hlim:s₁.heap.NoLimit)(hg:s₁.gens=#[])(ha:s₁.heap.get? a=some {cls:=.type "list",data:=.seq vs.toArray})(hi:IntsAre vs ns)(hl:ns.length≤sizeLine)(hr:Room k callerA)(hP:s₁.heap.get? P=some (PySem.W.tabObj #[]))(hKP:K.lookup P=none)(hcT:isCodeTable s₁.heap P)(F:∀base:Heap,K.In base→base.Ns mainGlobals mg→cH mg base→FnOk Pr w K mg base CX k fa fd [x] sp)(hbind:∀(s:Shared) (u:Value),BindsTo s fd ⟨[u],[]⟩ [(x,u)])(hsp:∀H:Hp,Beg K a P H→SqL K H a (ns.map V.int)→sp [.ref a] H (fun v H'=>v=.bl true∧∃ps,H' P=some (cE P ps)) fun _ _ _=>False)
 (hCX:∀H e s',CX [] H s₁ (fun _ _ _=>False) e s'→False):
 codeAny (model Pr w) callerA (.call (.ref fa) ⟨[.ref a],[]⟩) (fun r s'=>r=.ok (.ret (.bool true))∧OldK s₁.heap s'.heap∧s'.os=s₁.os∧AllBare s'.gens) s₁:=by
 have rv:=ow hi
 have nPa:P≠a:=fun z=>by rw[z,ha] at hP;cases hP
 have go:∀H:Hp,Beg K a P H→SqL K H a (ns.map V.int)→HOk Pr w H s₁.heap→codeAny (model Pr w) callerA (.call (.ref fa) ⟨[.ref a],[]⟩) (fun r s'=>r=.ok (.ret (.bool true))∧OldK s₁.heap s'.heap∧s'.os=s₁.os∧AllBare s'.gens) s₁:=by
  intro H B hS hok
  have fr:∀{b:Addr} {o:Obj},s₁.heap.get? b=some o→(∀xs n,o.data≠ .seq xs n)→(∀f,o.data≠ .fields f)→H b=none:=fun{b o} e n1 n2=>by
   cases q:H b with
   | none=>rfl
   | some u=>
     rcases B.only b u q with⟨z,_⟩ | ⟨z,_⟩
     ·rw[z,hP] at e;cases e;exact absurd rfl (n2 _)
     ·rw[z,ha] at e;cases e;exact absurd rfl (n1 _ _)
  have up:∀{b:Addr} {m:Str→Option Value},s₁.heap.Ns b m→(dk s₁.heap H).Ns b m:=fun{b m} ⟨o,es,ep,e,d,r⟩=>⟨o,es,ep,jE e (fr e (fun _ _ z=>by rw[d] at z;cases z) fun _ z=>by rw[d] at z;cases z),d,r⟩
  have hKb:K.In (dk s₁.heap H):=fun b o e=>jE (KX b o e) (by
   cases q:H b with
   | none=>rfl
   | some u=>
     rcases B.only b u q with⟨z,_⟩ | ⟨z,z2,_⟩
     ·rw[z,hKP] at e;cases e
     ·rw[z,z2] at e;cases e)
  have hMb:cH mg (dk s₁.heap H):=by
   obtain⟨bm,ob,h1,h2,h3,h4,h5,h6⟩:=hbm
   exact⟨bm,ob,h1,h2,jE h3 (fr h3 (fun _ _ z=>by rw[h6] at z;cases z) fun _ z=>by rw[h6] at z;cases z),h4,h5,h6⟩
  have hM:Mod K mg (dk s₁.heap H):=⟨hKb,up hns,⟨mb,up hb,hbb⟩,let ⟨mc,h1,h2⟩:=hlim;⟨mc,up h1,h2⟩⟩
  have e0:Env0 Pr w K mg (dk s₁.heap H) callerA [] s₁ H:=⟨rfl,hM,fun b o e=>u5 e,Nat.le_of_eq (yK _ _),trivial,(fun b hb=>nomatch hb),hok,.of_eq hg⟩
  refine codeAny_mono ((F _ hKb (up hns) hMb).run callerA [] s₁ H ⟨[.ref a],[]⟩ [.ref a] [.ref a] _ _ hr e0 (hbind s₁ (.ref a)) (.cons rfl .nil) (hsp H B hS)) fun r s' h=>?_
  match r,h with
  | .error e,h=>exact(hCX H e s' h).elim
  | .ok (.ret u),h=>
    obtain⟨v,H',os,bare,un,hok',r',rfl,ps,hps⟩:=h
    obtain rfl:u=Value.bool true:=r'
    obtain⟨gP,_⟩:=hok' P _ hps
    have cases3:∀b o,s₁.heap.get? b=some o→s'.heap.get? b=some o∨b=P:=fun b o e=>by
     cases q:H b with
     | none=>exact .inl (un.keep b o e q (fun z=>nomatch z) (fun z=>nomatch z))
     | some u=>
       rcases B.only b u q with⟨z,_⟩ | ⟨z,_,ob,xs,z2⟩
       ·exact .inr z
       ·subst z2
        obtain⟨e1,_⟩:=hok b _ q
        obtain⟨e2,_⟩:=hok' b _ (un.frzs b ob _ q)
        rw[e] at e1;cases e1
        exact .inl e2
    refine⟨rfl,⟨fun b o e=>?_,fun b o e=>?_⟩,os,bare⟩
    ·rcases cases3 b o e with z | z
     ·exact .inl z
     ·subst z
      rw[hP] at e;cases e
      exact .inr (.inl ⟨hcT,rfl,#[],ps,rfl,by rw[Array.empty_append];exact gP⟩)
    ·rcases cases3 b o e with z | z
     ·exact⟨o,z⟩
     ·subst z;exact⟨_,gP⟩
 cases hk:K.lookup a with
 | some o=>
   have e:=KX a o hk
   rw[ha] at e
   cases e
   refine go (fun b=>if b=P then some (cE P #[]) else none) ⟨if_pos rfl,fun b u q=>?_⟩ (.inr ⟨_,vs.toArray,_,hk,rfl,rfl,rfl,by rw[List.size_toArray,hi.length];exact hl,by simpa using rv⟩) fun b u q=>?_
   ·try dsimp only at q
    by_cases z:b=P
    ·rw[if_pos z] at q;cases q;exact .inl ⟨z,rfl⟩
    ·rw[if_neg z] at q;cases q
   ·try dsimp only at q
    by_cases z:b=P
    ·rw[if_pos z] at q;cases q;subst z;exact jS hP
    ·rw[if_neg z] at q;cases q
 | none=>
   refine go (fun b=>if b=P then some (cE P #[]) else if b=a then some (.frz {cls:=.type "list",data:=.seq vs.toArray} (.lst (ns.map V.int))) else none) ⟨if_pos rfl,fun b u q=>?_⟩ (.inl (.inr ⟨{cls:=.type "list",data:=.seq vs.toArray},by show(if a=P then _ else if a=a then _ else _)=_;rw[if_neg (Ne.symm nPa),if_pos rfl]⟩)) fun b u q=>?_
   ·try dsimp only at q
    by_cases z:b=P
    ·rw[if_pos z] at q;cases q;exact .inl ⟨z,rfl⟩
    ·rw[if_neg z] at q
     by_cases z2:b=a
     ·rw[if_pos z2] at q;cases q;exact .inr ⟨z2,hk,_,_,rfl⟩
     ·rw[if_neg z2] at q;cases q
   ·try dsimp only at q
    by_cases z:b=P
    ·rw[if_pos z] at q;cases q;subst z;exact jS hP
    ·rw[if_neg z] at q
     by_cases z2:b=a
     ·rw[if_pos z2] at q;cases q;subst z2
      exact⟨ha,by rw[List.length_map];exact hl,vs,_,rv,ha⟩
     ·rw[if_neg z2] at q;cases q
end
theorem walk_tab{l:PySem.W.OpenLaw}{n k:Nat}{q:Program}{loose:List Str}{XP:(Str→Option Value)→Heap→Prop}{YP:World→Heap→Prop}{d:DefRec}{K:Params→PySem.W.Frag}{CX:World→bB}{sp:World→Sp}{x:Str}{c P:Addr}(hn:l.most=some n)(hn2:n≤sizeLine)(hdf:d.params.defaults=[])(hr:Room k callerA)(hY:∀(w:World) (h:Heap),YP w h→(K w.params).In h)(hT:∀(w:World) (h:Heap),YP w h→h.get? P=some (PySem.W.tabObj #[]))(hC:∀w:World,PySem.W.codeHdIn (K w.params) c P=true)(hKP:∀w:World,(K w.params).lookup P=none)(F:∀(w:World) (mg:Str→Option Value) (fa:Addr) (h:Heap),(K w.params).In h→h.Ns mainGlobals mg→mg d.name=some (.ref fa)→∃fd:FuncData,(∀(s:Shared) (u:Value),BindsTo s fd ⟨[u],[]⟩ [(x,u)])∧∀base:Heap,(K w.params).In base→base.Ns mainGlobals mg→cH mg base→FnOk l.prog w (K w.params) mg base (CX w) k fa fd [x] (sp w))(hsp:∀(w:World) (H:Hp) (a:Addr) (ns:List Int),ns.length≤n→Beg (K w.params) a P H→SqL (K w.params) H a (ns.map V.int)→sp w [.ref a] H (fun v H'=>v=.bl true∧∃ps,H' P=some (cE P ps)) fun _ _ _=>False)
 (hCX:∀(w:World) (H:Hp) (s:Shared) (e:Value) (s':Shared),CX w [] H s (fun _ _ _=>False) e s'→False):
 PySem.W.WalkO q loose XP YP l.row.toRowW d [] (fun f vs=>PySem.call f vs):=by
 refine Att.attach_call hn hdf fun w s₀ s₁ mg mb fa o pm cd doc a vs ns G Y ho hd hcd hmg hobj hints hlen hg=>?_
 have KX:=hY w _ Y
 obtain⟨fd,hb,hF⟩:=F w mg fa _ KX G.T.g hmg
 have hc:=PySem.W.codeHd_of_K KX (hC w)
 have hP:=hT w _ Y
 exact vQ KX G.T.g G.T.b G.T.builtins G.T.bmain G.T.nolimit hg hobj hints (Nat.le_trans hlen hn2) hr hP (hKP w) (hc.tab hP).isCodeTable hF hb (fun H B hS=>hsp w H a ns hlen B hS) fun H e s'=>hCX w H s₁ e s'
abbrev fZ(qual:Str)(scope:Scope)(L f c:Addr)(fv:Str)(cw:Addr):Env:=PySem.W.envX qual scope L f (.ref c) [(fv,cw)]
abbrev jz(X:Cx)(A:Around)(N:List Str)(env:Env)(s:Shared)(H:Hp):Cx:=
 {X with A:=A.deeper env,N:=N,s₀:=s,H₀:=H,env:=env,outer:=X.stack,stack:=env::X.stack,ex:=[],fn:=fun _=>false,calm:=true,pn:=[],xe:=fun _ _=>False}
structure LamSc(fv y:Str)(scope:Scope):Prop where
 kind:scope.kind=.function
 co:scope.isCoroutine=false
 gen:scope.isGenerator=false
 nocell:∀x∈scope.names,x.2≠ .cell
 yl:scope.names.lookup y=some .local
 ff:scope.names.lookup fv=some .free
 one:∀x∈scope.names,x.2=.free→x.1=fv
theorem gx{fv x:Str}{cw c:Addr}(e:([(fv,cw)]:List (Str×Addr)).lookup x=some c):x=fv∧c=cw:=by
 rw[List.lookup_cons] at e
 cases h:x == fv with
 | true=>rw[h] at e;exact⟨eq_of_beq h,(Option.some.inj e).symm⟩
 | false=>rw[h] at e;cases e
theorem mF{fv:Str}{cw:Addr}:([(fv,cw)]:List (Str×Addr)).lookup fv=some cw:=by rw[List.lookup_cons,beq_self_eq_true]
theorem wA{X:Cx}{pins:List (Addr×Obj)}{σ:St}{H:Hp}{s:Shared}{A:Around}{f c cw:Addr}{name qual fv y:Str}{params:Arguments}{body:Expr}{scope:Scope}{pm ctv u uw:Value}{v vw:V}{tb:TE}{Q:VK}{R:Result→Shared→Prop}(I:Inv X pins σ H s)(hA:A.frames=some X.stack)(hh:A.handled=none)(hd:A.depth<recursionLimit)(S:LamSc fv y scope)(hny:fv≠y)(ho:s.heap.get? f=some (PySem.W.kla_obj name qual params body scope [(fv,cw)] pm c ctv))(hcd:s.heap.CodeRec (.ref c) qual)(hcw:s.heap.IsCell cw (some uw))(hHc:H cw=none)(rw':RelV vw uw)(ru:RelV v u)(hbind:bindArgs (PySem.W.kla_fn name qual params body scope [(fv,cw)] pm (.ref c) ctv) ⟨[u],[]⟩=pure [(y,u)])(hb:PE (jz X A [fv,y] (fZ qual scope s.heap.objs.size f c fv cw) s H) body tb)(q:tb [some vw,some v] H Q)(k:∀v' u' H' s',Inv X pins σ H' s'→Un (aF X.stack) [] H H' s.heap s'.heap→RelV v' u'→Q v' H'→R (.ok (.ret u')) s'):codeAny (model X.prog X.w) A (.call (.ref f) ⟨[u],[]⟩) R s:=by
 refine PySem.W.kla_callFunE hd ho rfl S.co S.gen rfl hcd ?_
 rw[hbind]
 refine wpAny_pure (wpAny_newFunctionEnv S.nocell (fun x hx=>by rw[List.mem_singleton.mp hx];exact S.yl) (fun h1 hns hsb=>?_) S.kind)
 have kp:∀b o,s.heap.get? b=some o→h1.get? b=some o:=fun b o e=>hsb.extBut b o (Nat.ne_of_lt (Heap.lt_size e)) (Heap.get?_push_of_some _ e)
 refine⟨I.nolimit.keeps kp,?_⟩
 show codeAny _ _ (.expr body (fZ qual scope s.heap.objs.size f c fv cw)) _ _
 have e0:=I.env0
 have kf:(fZ qual scope s.heap.objs.size f c fv cw).kindOf fv=some .free:=S.ff
 have J:Inv (jz X A [fv,y] (fZ qual scope s.heap.objs.size f c fv cw) s H) [] [some vw,some v] H {s with heap:=h1,toks:=s.toks+ [(y,u)].length}:=by
  refine⟨⟨I.ok.mod,S.kind,rfl,rfl,Nat.le_refl _,fun x z c' h1 h2=>?_,fun x hx=>?_,fun x c' h=>(by cases h),fun _=>hh,Around.frames_deeper hA,.inr ⟨rfl,rfl⟩,fun b z=>(nomatch z),e0.bs,e0.bsz,fun b _ _ z=>(nomatch z),fun b z=>(nomatch z),e0.funs,e0.frf⟩,
   rfl,I.bare,Un.kept kp,⟨_,hns,fun i x z h1' h2' h3'=>?_⟩,fun x c' e=>?_,I.fresh,fun x c' e=>?_,fun p hp=>(nomatch hp),I.hok.kept kp,rfl⟩
  ·exact(gx h1).1.trans (gx h2).1.symm
  ·rcases hx with hx | hx
   ·exact absurd rfl (S.nocell _ (PySem.mem_of_lookup hx))
   ·have:=S.one _ (PySem.mem_of_lookup hx) rfl
    exact⟨cw,by rw[show x=fv from this];exact mF⟩
  ·match i,h1',h2' with
   | 0,h1',h2'=>
     obtain rfl:fv=x:=Option.some.inj h1'
     cases h2'
     obtain⟨o,e1,e2⟩:=hcw
     exact⟨uw,rw',.inr ⟨.inr kf,cw,mF,o,kp _ _ e1,e2⟩⟩
   | 1,h1',h2'=>
     obtain rfl:y=x:=Option.some.inj h1'
     cases h2'
     refine⟨u,ru,.inl ⟨S.yl,?_⟩⟩
     show([(y,u)]:List (Str×Value)).reverse.lookup y=some u
     rw[List.reverse_singleton,List.lookup_cons,beq_self_eq_true]
   | i+2,h1',_=>cases h1'
  ·obtain⟨_,rfl⟩:=gx e
   obtain⟨o,e1,e2⟩:=hcw
   exact⟨_,o,kp _ _ e1,e2⟩
  ·obtain⟨_,rfl⟩:=gx e
   exact hHc
 refine PySem.W.kla_codeExpr (wpAny_mono (hb [] _ _ H Q J q) (fun u' s' ⟨v',H',J',r',q'⟩=>?_) fun _ _ z=>z.elim)
 exact k v' u' H' s' (I.call' J'.os J'.base J'.hok J'.bare (fun b z=>(nomatch z))) J'.base r' q'
def jr(H:Hp)(P:Addr)(pos:Pos)(qual:Str)(c:Addr):Prop:=H P=some (cE P #[rawInt pos.line,rawInt pos.col,.ref c])∧H c=some (.ext (jj c qual))
def Tab(H:Hp)(P:Addr)(pos:Pos)(qual:Str):Prop:=H P=some (cE P #[])∨∃c,jr H P pos qual c
theorem Tab.same{H H':Hp}{P:Addr}{pos:Pos}{qual:Str}(h:Tab H P pos qual)(s:Same H H'):Tab H' P pos qual:=by
 rcases h with h | ⟨c,h1,h2⟩
 ·exact .inl (s _ _ h)
 ·exact .inr ⟨c,s _ _ h1,s _ _ h2⟩
theorem uh{prog:Program}{w:World}{H:Hp}{h:Heap}{c:Addr}{qual:Str}(e:h.CodeRec (.ref c) qual):ObjOk prog w H h c (.ext (jj c qual)):=by
 obtain⟨c',oc,vs,t,e1,e2,e3,e4⟩:=id e
 cases e1
 refine⟨e,⟨_,e2⟩,fun h1 h2 z k=>?_⟩
 obtain⟨c',oc',vs',t',f1,f2,f3,f4⟩:=z
 cases f1
 exact⟨c,oc',vs',t',rfl,k _ f2,f3,f4⟩
theorem Inv.trackE{X:Cx}{pins:List (Addr×Obj)}{σ:St}{H:Hp}{s:Shared}{e:Addr}{u:HO}(I:Inv X pins σ H s)(hn:H e=none)(h0:X.s₀.heap.get? e=none)(hl:e≠X.env.locals)(hc:∀x c,X.env.cells.lookup x=some c→c≠e)(hp:∀p∈X.pn++pins,p.1≠e)(hx:ObjOk X.prog X.w (upd H e u) s.heap e u):Inv X pins σ (upd H e u) s:=by
 have ne:∀{b:Addr} {o:HO},H b=some o→(upd H e u) b=some o:=fun{b o} q=>by rw[ah (fun z=>by rw[z,hn] at q;cases q)];exact q
 have nn:∀{b:Addr},b≠e→H b=none→(upd H e u) b=none:=fun{b} z q=>by rw[ah z];exact q
 refine⟨I.ok,I.os,I.bare,⟨I.base.keep,I.base.slot,fun b o q n hx=>nn (fun z=>by rw[z,h0] at q;cases q) (I.base.free b o q n hx),I.base.there,fun b xs q=>ne (I.base.tups b xs q),fun b o u q=>ne (I.base.frzs b o u q),fun b ps q=>?_⟩,I.loc,I.cell,nn (Ne.symm hl) I.free,fun x c q=>nn (hc x c q) (I.freeC x c q),fun p q=>?_,fun b o q=>?_,I.len⟩
 ·obtain⟨m,q'⟩:=I.base.tbls b ps q
  exact⟨m,ne q'⟩
 ·obtain⟨a1,a2,a3,a4,a5⟩:=I.pin p q
  exact⟨a1,nn (hp p q) a2,a3,a4,a5⟩
 ·by_cases z:b=e
  ·subst z
   rw[ad] at q
   cases q
   exact hx
  ·rw[ah z] at q
   exact(I.hok b o q).stay (fun c v _ q'=>q') (fun c q'=>ne q') fun c xs q'=>ne q'
theorem vZ{X:Cx}{pins:List (Addr×Obj)}{σ:St}{H:Hp}{s:Shared}{M:Model}{A:Around}{E:Value→Shared→Prop}{Q:Value→Shared→Prop}{cc P cw:Addr}{fv:Str}{params:Arguments}{body:Expr}{scope:Scope}{lp:Pos}(I:Inv X pins σ H s)(hcode:X.env.code=.ref cc)(C:PySem.W.CodeHd X.base cc P)(hBm:cH X.mg X.base)(T:Tab H P lp (X.env.qual++"<lambda>"))(hcl:closureFor scope X.env=pure [(fv,cw)])(hdef:defaultsOf params X.env=([],[]))(h:∀f c pm ctv H' s',Inv X pins σ H' s'→jr H' P lp (X.env.qual++"<lambda>") c→Keep P H H'→s'.heap.get? f=some (PySem.W.kla_obj "<lambda>" (X.env.qual++"<lambda>") params body scope [(fv,cw)] pm c ctv)→H' f=none→s.heap.objs.size≤f→(∀b,s'.heap.objs.size≤b→s.heap.objs.size≤b)→Q (.ref f) s'):wpAny M A (eval (.Lambda params body scope lp) X.env) Q E s:=by
 refine PySem.W.kla_eval hdef ?_
 have hg:=I.mod.glob.keeps I.bk
 have Cs:=C.keeps I.bk
 have tab:∀ps,H P=some (cE P ps)→s.heap.get? P=some (PySem.W.tabObj ps):=fun ps e=>(I.hok P _ e).1
 have hgP:mainGlobals≠P:=fun z=>by
  obtain⟨o,es,ep,e,d,_⟩:=I.mod.glob
  have:=(I.bs _ _ e).2
  rw[z] at this
  rcases T with t | ⟨c,t,_⟩ <;> (rw[this] at t;cases t)
 have hB:s.heap.BuiltinsAt X.mg P:=by
  obtain⟨bm,ob,b1,b2,b3,b4,b5,b6⟩:=hBm
  refine⟨bm,ob,b1,b2,fun z=>?_,fun z=>?_,I.bk _ _ b3,b4,b5,b6⟩
  ·obtain⟨o,es,ep,e,d,_⟩:=I.mod.glob
   rw[z,e] at b3;cases b3;rw[d] at b6;cases b6
  ·have:=(I.bs _ _ b3).2
   rw[z] at this
   rcases T with t | ⟨c,t,_⟩ <;> (rw[this] at t;cases t)
 rcases T with t | ⟨c,t,tc⟩
 ·refine PySem.W.kla_makeFunction (mg:=X.mg) hcl I.ok.glob hg hcode Cs (tab _ t) (by first | trivial | exact rfl | decide) rfl hgP hB fun c ctv h' tk hx hge hlt hrec htb=>?_
  rw[Array.empty_append] at htb
  have I1:=I.write (x:=P) (e:=P) (o:=cE P #[rawInt lp.line,rawInt lp.col,.ref c]) (t':=tk) (by rw[t];exact trivial) (.inl rfl) (fun b u hb e=>hx b u hb e) ⟨_,htb⟩ (jS htb)
  have nP:c≠P:=fun z=>by have:=Heap.lt_size (tab _ t);rw[←z] at this;exact absurd (Nat.lt_of_lt_of_le this hge) (Nat.lt_irrefl _)
  have ltc:∀{b:Addr} {o:Obj},s.heap.get? b=some o→b≠c:=fun e=>Nat.ne_of_lt (Nat.lt_of_lt_of_le (Heap.lt_size e) hge)
  have hc0:H c=none:=I.hok.fresh hge
  have I2:=I1.trackE (e:=c) (u:=.ext (jj c (X.env.qual++"<lambda>"))) (by rw[ah nP];exact hc0) (Heap.get?_none_of_le (Nat.le_trans I.sz hge)) (Nat.ne_of_gt (Nat.lt_of_lt_of_le I.lt hge)) (fun x c' e=>by obtain⟨v,o,e1,_⟩:=I.cell x c' e;exact ltc e1) (fun p hp=>ltc (I.pin p hp).1) (uh hrec)
  have I3:=I2.kept (h':=h'.push (PySem.W.kla_obj "<lambda>" (X.env.qual++"<lambda>") params body scope [(fv,cw)] ((X.mg "__name__").getD .none) c ctv)) (t':=tk) fun b o e=>Heap.get?_push_of_some _ e
  have hf:s.heap.objs.size≤h'.objs.size:=Nat.le_trans hge (Nat.le_of_lt hlt)
  refine h h'.objs.size c _ ctv _ _ I3 ⟨by rw[ah nP.symm,ad],ad⟩ (fun b o e n=>?_) (Heap.get?_push_size _ rfl) ?_ hf (fun b hb=>?_)
  ·rw[ah (fun z=>by rw[z,hc0] at e;cases e),ah n];exact e
  ·rw[ah (Nat.ne_of_gt hlt),ah (fun z=>by have:=Heap.lt_size htb;rw[←z] at this;exact absurd this (Nat.lt_irrefl _))]
   exact I.hok.fresh hf
  ·rw[Heap.size_push] at hb;exact Nat.le_trans hf (Nat.le_of_lt hb)
 ·have hrec:s.heap.CodeRec (.ref c) (X.env.qual++"<lambda>"):=(I.hok c _ tc).1
  refine PySem.W.kla_makeFunctionHit (mg:=X.mg) (cv:=.ref c) hcl I.ok.glob hg hcode Cs (tab _ t) (by first | trivial | exact⟨_,_,rfl⟩ | decide) ?_ hB fun ctv h' tk hk hsz=>?_
  ·exact codeAmong_snoc [] trivial rfl
  ·have I3:=I.kept (h':=h'.push (PySem.W.kla_obj "<lambda>" (X.env.qual++"<lambda>") params body scope [(fv,cw)] ((X.mg "__name__").getD .none) c ctv)) (t':=tk) fun b o e=>Heap.get?_push_of_some _ (hk b o e)
   refine h h'.objs.size c _ ctv _ _ I3 ⟨t,tc⟩ (fun b o e _=>e) (Heap.get?_push_size _ rfl) (I.hok.fresh hsz) hsz (fun b hb=>?_)
   rw[Heap.size_push] at hb;exact Nat.le_trans hsz (Nat.le_of_lt hb)
theorem iY:∀(xs ys:List Int),aH xs ys=true∨xs=ys∨aH ys xs=true
 | [],[]=>.inr (.inl rfl)
 | [],_::_=>.inl rfl
 | _::_,[]=>.inr (.inr rfl)
 | x::xs,y::ys=>by
   simp only[aH]
   by_cases e:x=y
   ·subst e
    rw[if_pos rfl]
    rcases iY xs ys with h | h | h
    ·exact .inl h
    ·exact .inr (.inl (by rw[h]))
    ·exact .inr (.inr (by rw[if_pos rfl];exact h))
   ·rw[if_neg e,if_neg (fun z=>e z.symm)]
    by_cases h:x<y
    ·exact .inl (decide_eq_true h)
    ·exact .inr (.inr (decide_eq_true (by lia)))
def jX:Ordr (List Int):=⟨aH,fun a=>gz a,fun a b c h1 h2=>kZ h1 h2,fun a b c h=>by
 rcases iY a b with z | z | z
 ·exact .inl z
 ·subst z;exact .inr h
 ·exact .inr (kZ z h)⟩
section
variable{prog:Program}{w:World}{A:Around}{E:Value→Shared→Prop}{s:Shared}
theorem yp{l b:Addr}{items items2:Array Value}{xs ys:List Nat}{Q:Bool→Shared→Prop}(hu:A.units<cLine)(hl:s.heap.IsList l items)(hb:s.heap.IsList b items2)(N1:dF xs items)(N2:dF ys items2)(h:Q (aH (aB xs) (aB ys)) s):wpAny (model prog w) A (oneLt' true (.ref l) (.ref b)) Q E s:=by
 obtain⟨⟨cls,dd,data,sl⟩,ho,hc,n,hd⟩:=id hl
 obtain⟨⟨cls2,dd2,data2,sl2⟩,ho2,hc2,n2,hd2⟩:=id hb
 simp only at hc hd hc2 hd2;subst hc hd hc2 hd2
 rw[oneLt'_eq,if_pos rfl]
 refine wpAny_bind (wpAny_cRoomFor hu (wpAny_bind (wpAny_callSpecialIfBound?_slot (T:="list") ⟨_,ho,rfl⟩ F.slot_list_lt (call_meets F.slot_list_lt ⟨_,ho,rfl⟩ F.entry_list_lt (F.args_list_lt_2 _ _) (yU N1 N2) ⟨ho,ho2,?_⟩))))
 exact wpAny_truthy_bool h
def nj(s:Shared)(k:Addr)(xs:List Nat):Prop:=∃items:Array Value,s.heap.IsList k items∧dF xs items
def jq(cz:Addr→List Nat)(p:Keyed):List Int:=match p.1 with | .ref k=>aB (cz k) | _=>[]
theorem sk{a₀:Array Keyed}{cz:Addr→List Nat}(hu:A.units<cLine)(h0:∀x∈a₀,∃k,x.1=.ref k∧nj s k (cz k)):cJ jX (jq cz) prog w A E s a₀ oneType':=by
 intro x y hx hy st Q hk q
 obtain⟨a,ex,i1,l1,n1⟩:=h0 x hx
 obtain⟨b,ey,i2,l2,n2⟩:=h0 y hy
 obtain⟨x1,x2⟩:=x
 obtain⟨y1,y2⟩:=y
 dsimp only at ex ey
 subst ex ey
 rw[lt'_eq]
 refine wpS_bind (wpS_get ?_)
 rw[hk,keyLt'_oneType]
 exact wpS_bind (wpS_lift (wpAny_attempt (yp hu l1 l2 n1 n2 ⟨rfl,wpS_pure q⟩)))
end
structure NewAd(X:Cx)(pins:List (Addr×Obj))(b:Addr):Prop where
 s0:X.s₀.heap.objs.size≤b
 loc:b≠X.env.locals
 cell:∀x c,X.env.cells.lookup x=some c→c≠b
 pin:∀p∈X.pn++pins,p.1≠b
 stk:b∉aF X.stack
theorem Inv.newAd{X:Cx}{pins:List (Addr×Obj)}{σ:St}{H:Hp}{s:Shared}{b:Addr}(I:Inv X pins σ H s)(hb:s.heap.objs.size≤b):NewAd X pins b:=by
 have lt:∀{a:Addr} {o:Obj},s.heap.get? a=some o→a≠b:=fun e=>Nat.ne_of_lt (Nat.lt_of_lt_of_le (Heap.lt_size e) hb)
 refine⟨Nat.le_trans I.sz hb,Nat.ne_of_gt (Nat.lt_of_lt_of_le I.lt hb),fun x c e=>?_,fun p hp=>lt (I.pin p hp).1,fun z=>?_⟩
 ·obtain⟨v,o,e1,_⟩:=I.cell x c e
  exact lt e1
 ·rcases List.mem_cons.mp (I.stkSub b z) with z' | z'
  ·exact absurd z' (Nat.ne_of_gt (Nat.lt_of_lt_of_le I.lt hb))
  ·exact I.nofs hb z'
theorem Inv.own{X:Cx}{pins:List (Addr×Obj)}{σ:St}{H:Hp}{s:Shared}{b:Addr}{h':Heap}{t':Nat}(I:Inv X pins σ H s)(n:NewAd X pins b)(hb:H b=none)(hs:Heap.SameBut b s.heap h'):Inv X pins σ H {s with heap:=h',toks:=t'}:=
 I.turned (fun c o hc e=>(hs.2 c hc).trans e) hb n.loc (.inr n.s0) n.cell n.pin
section
variable{X:Cx}{pins:List (Addr×Obj)}{σ:St}{H:Hp}{s:Shared}{f l:Addr}{ns:List Int}{kf:Int→List Nat}{fo:Obj}
structure KeyW(X:Cx)(pins:List (Addr×Obj))(σ:St)(H:Hp)(f:Addr)(fo:Obj)(D kS:Addr)(e1:Nat)(ns:List Int)(kf:Int→List Nat)(i:Nat)(s':Shared):Prop where
 ex:∃(H':Hp) (ks:List Addr) (e:Nat),Inv X pins σ H' s'∧Same H H'∧s'.heap.get? f=some fo∧H' f=none∧s'.heap.get? D=some (seqObj "list" #[] e1)∧H' D=none∧s'.heap.get? kS=some (seqObj "list" (ks.map Value.ref).toArray e)∧H' kS=none∧ks.length=i∧∀(j:Nat) (k:Addr) (n:Int),ks[j]?=some k→ns[j]?=some n→H' k=some (.lst ((kf n).map sg))
def kn(X:Cx)(pins:List (Addr×Obj))(σ:St)(H:Hp)(f:Addr)(fo:Obj)(ns:List Int)(kf:Int→List Nat):Prop:=
 ∀ n∈ns,∀(H':Hp) (s':Shared) (u:Value),Inv X pins σ H' s'→Same H H'→s'.heap.get? f=some fo→H' f=none→RelV (.int n) u→
   wpAny (model X.prog X.w) X.A.in1.in1 (call (.ref f) [u]) (fun u' s''=>∃(k:Addr) (H'':Hp),u'=.ref k∧Inv X pins σ H'' s''∧H'' k=some (.lst ((kf n).map sg))∧Same H' H''∧Un (aF X.stack) [] H' H'' s'.heap s''.heap) (fun _ _=>False) s'
theorem nU{D kS:Addr}{e1:Nat}{vs:List Value}{E:Value→Shared→Prop}{P:PUnit→Shared→Prop}{body:Value→PUnit→Sem (ForInStep PUnit)}(nD:NewAd X pins D)(nk:NewAd X pins kS)(nf:NewAd X pins f)(hDk:D≠kS)(hfk:f≠kS)(hv:Vals (ns.map V.int) vs)(hle:ns.length≤1000)(T:kn X pins σ H f fo ns kf)(hbody:∀x,body x ⟨⟩=(do
 match←(call (.ref f) [x]).attempt with
 | .ok k=>Builtin.List.listUpdate (.ref kS) (·.push k);pure (ForInStep.yield PUnit.unit)
 | .error e=>rule "list.sort.key-raised";let made←Builtin.List.listItems (.ref kS);Builtin.List.listUpdate (.ref kS) fun _=>#[];letGo made.toList.reverse [e];Builtin.List.listUpdate (.ref D) fun _=>vs.toArray;throw e)):
 ∀(r:List Value) (i:Nat) (s':Shared),vs.drop i=r→i≤vs.length→KeyW X pins σ H f fo D kS e1 ns kf i s'→(∀s'',KeyW X pins σ H f fo D kS e1 ns kf vs.length s''→P ⟨⟩ s'')→wpAny (model X.prog X.w) X.A.in1.in1 (forIn r PUnit.unit body) P E s'
 | [],i,s',hr,hi2,W,done=>by
   rw[List.forIn_nil]
   have hi:vs.length≤i:=List.drop_eq_nil_iff.mp hr
   exact wpAny_pure (done s' (by rw[show vs.length=i by lia];exact W))
 | x::r,i,s',hr,hi2,W,done=>by
   rw[List.forIn_cons,hbody]
   obtain⟨H',ks,e,I',sm,hf',Hf',hD',HD',hk',Hk',hl,hks⟩:=W.ex
   have hi:i<vs.length:=by
    refine Nat.lt_of_not_le fun z=>?_
    rw[List.drop_eq_nil_of_le z] at hr;cases hr
   have hx:vs[i]?=some x:=by
    have:=List.getElem?_drop (xs:=vs) (i:=i) (j:=0)
    rw[hr] at this
    simpa using this.symm
   have hil:i<ns.length:=by have:=hv.length;rw[List.length_map] at this;lia
   obtain⟨u,hu,ru⟩:=hv.get (show(ns.map V.int)[i]?=some (.int ns[i]) by simp[hil])
   obtain rfl:x=u:=by rw[hx] at hu;exact Option.some.inj hu
   refine wpAny_bind (wpAny_bind (wpAny_attempt (wpAny_mono (T ns[i] (List.getElem_mem hil) H' s' x I' sm hf' Hf' ru) (fun u' s'' h=>?_) fun _ _ z=>z.elim)))
   obtain⟨k,H'',rfl,I2,hk2,sm2,un⟩:=h
   have kp:∀{b:Addr} {o:Obj},NewAd X pins b→H' b=none→s'.heap.get? b=some o→s''.heap.get? b=some o∧H'' b=none:=fun{b o} n q e=>⟨un.keep b o e q n.stk (fun z=>nomatch z),un.free b o e q (fun z=>nomatch z)⟩
   obtain⟨hf2,Hf2⟩:=kp nf Hf' hf'
   obtain⟨hD2,HD2⟩:=kp nD HD' hD'
   obtain⟨hS2,HS2⟩:=kp nk Hk' hk'
   dsimp only
   have sb:=Heap.SameBut.update s''.heap kS (Obj.mapSeq (·.push (.ref k)))
   obtain⟨c2,hc2⟩:∃c2,(s''.heap.update kS (Obj.mapSeq (·.push (.ref k)))).get? kS=some (seqObj "list" ((ks.map Value.ref).toArray.push (.ref k)) c2):=⟨_,get?_update_seq hS2 (·.push (.ref k))⟩
   have szk:(ks.map Value.ref).toArray.size≤1000:=by simp;lia
   refine wpAny_bind (listUpdate_at hS2 rfl (wpAny_pure ?_) (Nat.le_trans szk (by decide)) (by rw[Array.size_push];exact Nat.le_trans (Nat.succ_le_succ szk) (by decide)))
   show wpAny _ _ (forIn r PUnit.unit body) P E _
   refine nU nD nk nf hDk hfk hv hle T hbody r (i+1) _ (by rw[←List.drop_drop,hr];rfl) hi ⟨H'',ks++[k],c2,I2.own nk HS2 sb,sm.trans sm2,(sb.2 f hfk).trans hf2,Hf2,(sb.2 D hDk).trans hD2,HD2,?_,HS2,by simp[hl],fun j k' n hj hn=>?_⟩ done
   ·rw[hc2];congr 1;simp[seqObj]
   ·by_cases z:j<ks.length
    ·rw[List.getElem?_append_left z] at hj
     exact sm2 _ _ (hks j k' n hj hn)
    ·rw[List.getElem?_append_right (by lia)] at hj
     have z0:j-ks.length=0:=by have:=(List.getElem?_eq_some_iff.mp hj).1;simp at this;lia
     rw[z0] at hj
     obtain rfl:k=k':=by simpa using hj
     have:j=i:=by lia
     subst this
     rw[List.getElem?_eq_getElem hil] at hn
     cases hn
     exact hk2
theorem qP{D kS:Addr}{e1 e:Nat}{vs:List Value}{ks:List Addr}{cz:Addr→List Nat}{st:SortSt}{E:Value→Shared→Prop}{P:PySem.Fin→Shared→Prop}{H':Hp}(I:Inv X pins σ H' s)(nD:NewAd X pins D)(nk:NewAd X pins kS)(hDk:D≠kS)(hD:s.heap.get? D=some (seqObj "list" #[] e1))(HD:H' D=none)(hS:s.heap.get? kS=some (seqObj "list" (ks.map Value.ref).toArray e))(HS:H' kS=none)(hv:Vals (ns.map V.int) vs)(hle:ns.length≤1000)(hkl:ks.length=ns.length)(hcz:∀(j:Nat) (k:Addr) (n:Int),ks[j]?=some k→ns[j]?=some n→cz k=kf n)(hp:(arrOf st).Perm ((ks.map Value.ref).toArray.zip vs.toArray))(hfl:failedOf st=none)(R:Rise jX (jq cz) (arrOf st) 0 ((ks.map Value.ref).toArray.zip vs.toArray).size)(done:∀(s':Shared) (ms:List Int) (ws:List Value) (c:Nat),Inv X pins σ H' s'→s'.heap.get? D=some (seqObj "list" ws.toArray c)→Vals (ms.map V.int) ws→ms.Perm ns→ms.Pairwise (fun a b=>aH (aB (kf b)) (aB (kf a))=false)→P (.done (.ret .none)) s'):
 wpAny (model X.prog X.w) X.A.in1.in1 (ksk_tail D false e1 (.ref kS) st) P E s:=by
 have hvl:ns.length=vs.length:=by have:=hv.length;rw[List.length_map] at this;exact this
 have hz:((ks.map Value.ref).toArray.zip vs.toArray).toList=(ks.map Value.ref).zip vs:=by simp
 have hzl:((ks.map Value.ref).toArray.zip vs.toArray).size=vs.length:=by simp;lia
 have hsz:(arrOf st).size=vs.length:=by rw[hp.size_eq,hzl]
 have hpl:(arrOf st).toList.Perm ((ks.map Value.ref).zip vs):=by rw[←hz];exact Array.perm_iff_toList_perm.mp hp
 have pr:∀p∈(arrOf st).toList,∃(j:Nat) (k:Addr) (n:Int) (t:Tok),ks[j]?=some k∧ns[j]?=some n∧p=(.ref k,.int n t):=fun p hp'=>by
  obtain⟨j,hj⟩:=List.mem_iff_getElem?.mp (hpl.mem_iff.mp hp')
  obtain⟨p1,p2⟩:=p
  rw[List.getElem?_zip_eq_some] at hj
  obtain⟨h1,h2⟩:=hj
  dsimp only at h1 h2
  have jl:j<ns.length:=by have:=(List.getElem?_eq_some_iff.mp h2).1;lia
  obtain⟨u,hu,ru⟩:=hv.get (show(ns.map V.int)[j]?=some (.int ns[j]) by simp[jl])
  rw[h2] at hu
  cases hu
  obtain⟨t,rfl⟩:=ru
  have kl:j<ks.length:=by lia
  rw[List.getElem?_map,List.getElem?_eq_getElem kl] at h1
  cases h1
  exact⟨j,ks[j],ns[j],t,List.getElem?_eq_getElem kl,List.getElem?_eq_getElem jl,rfl⟩
 have hvn:vs.map numOf=ns:=by
  apply List.ext_getElem?
  intro j
  by_cases jl:j<ns.length
  ·obtain⟨u,hu,ru⟩:=hv.get (show(ns.map V.int)[j]?=some (.int ns[j]) by simp[jl])
   obtain⟨t,rfl⟩:=ru
   rw[List.getElem?_map,hu,List.getElem?_eq_getElem jl];rfl
  ·rw[List.getElem?_eq_none (by rw[List.length_map];lia),List.getElem?_eq_none (by lia)]
 have sb1:=Heap.SameBut.update s.heap kS (Obj.mapSeq fun _=>(#[]:Array Value))
 have hD1:=(sb1.2 D hDk).trans hD
 obtain⟨c2,hc2⟩:∃c2,((s.heap.update kS (Obj.mapSeq fun _=>(#[]:Array Value))).update D (Obj.mapSeq fun _=>(arrOf st).map (·.2))).get? D=some (seqObj "list" ((arrOf st).map (·.2)) c2):=⟨_,get?_update_seq hD1 fun _=>(arrOf st).map (·.2)⟩
 have sb2:=Heap.SameBut.update (s.heap.update kS (Obj.mapSeq fun _=>(#[]:Array Value))) D (Obj.mapSeq fun _=>(arrOf st).map (·.2))
 unfold ksk_tail
 refine wpAny_bind (listUpdate_at hS rfl (wpAny_bind (wpAny_letGo (wpAny_bind (seqEpoch_at hD1 rfl (wpAny_bind (listUpdate_at hD1 rfl ?_ (Nat.zero_le _) ?_)))))) ?_ (Nat.zero_le _))
 ·rw[hfl]
  simp only[bne_self_eq_false,Bool.false_eq_true,if_false]
  refine wpAny_pure (done _ ((arrOf st).toList.map fun p=>numOf p.2) ((arrOf st).toList.map (·.2)) c2 ((I.own (t':=s.toks) nk HS sb1).own (t':=s.toks) nD HD sb2) ?_ ?_ ?_ ?_)
  ·show Heap.get? _ D=_
   rw[hc2,←Array.toList_map,Array.toArray_toList]
  ·rw[List.map_map]
   refine jy (by simp) fun j x u hx hu=>?_
   rw[List.getElem?_map] at hx hu
   cases q:(arrOf st).toList[j]? with
   | none=>rw[q] at hx;cases hx
   | some p=>
     rw[q] at hx hu
     obtain⟨_,k,n,t,_,_,rfl⟩:=pr p (List.mem_of_getElem? q)
     cases hx
     cases hu
     exact⟨t,rfl⟩
  ·have h1:=hpl.map fun p=>numOf p.2
   have h2:((ks.map Value.ref).zip vs).map (fun p=>numOf p.2)=ns:=by
    rw[show(fun p:Value×Value=>numOf p.2)=numOf ∘ Prod.snd from rfl,←List.map_map,List.map_snd_zip (by rw[List.length_map];lia),hvn]
   rw[h2] at h1
   exact h1
  ·refine List.pairwise_map.mpr (List.pairwise_iff_getElem.mpr fun i j h1 h3 h4=>?_)
   rw[Array.length_toList] at h1 h3
   have r:=R i j (Nat.zero_le _) (by lia) (by rw[hzl];lia)
   rw[be (aQ h1),be (aQ h3)] at r
   obtain⟨j1,k1,n1,t1,a1,b1,c1⟩:=pr (arrOf st)[i] (by simp)
   obtain⟨j2,k2,n2,t2,a2,b2,c2⟩:=pr (arrOf st)[j] (by simp)
   rw[c1,c2] at r
   have r':aH (aB (cz k2)) (aB (cz k1))=false:=r
   rw[hcz _ _ _ a1 b1,hcz _ _ _ a2 b2] at r'
   simp only[Array.getElem_toList]
   rw[c1,c2]
   exact r'
 ·rw[if_neg Bool.false_ne_true,Array.size_map,hsz];exact Nat.le_trans (show vs.length≤1000 by lia) (by decide)
 ·simp;exact Nat.le_trans (show ks.length≤1000 by lia) (by decide)
end
section
variable{X:Cx}{pins:List (Addr×Obj)}{σ:St}{H:Hp}{s:Shared}{f l:Addr}{ns:List Int}{kf:Int→List Nat}{fo:Obj}
theorem gr{n:Nat}(h:n≤1000):n≤sizeLine:=Nat.le_of_lt (bn h)
theorem vp{D kS:Addr}{e1 e:Nat}{vs:List Value}{ks:List Addr}{E:Value→Shared→Prop}{P:PySem.Fin→Shared→Prop}{H':Hp}(hu:(X.A.in1.in1).units<cLine)(I:Inv X pins σ H' s)(nD:NewAd X pins D)(nk:NewAd X pins kS)(hDk:D≠kS)(hD:s.heap.get? D=some (seqObj "list" #[] e1))(HD:H' D=none)(hS:s.heap.get? kS=some (seqObj "list" (ks.map Value.ref).toArray e))(HS:H' kS=none)(hv:Vals (ns.map V.int) vs)(hle:ns.length≤1000)(hkl:ks.length=ns.length)(hks:∀(j:Nat) (k:Addr) (n:Int),ks[j]?=some k→ns[j]?=some n→H' k=some (.lst ((kf n).map sg)))(done:∀(s':Shared) (ms:List Int) (ws:List Value) (c:Nat),Inv X pins σ H' s'→s'.heap.get? D=some (seqObj "list" ws.toArray c)→Vals (ms.map V.int) ws→ms.Perm ns→ms.Pairwise (fun a b=>aH (aB (kf b)) (aB (kf a))=false)→P (.done (.ret .none)) s'):
 wpAny (model X.prog X.w) X.A.in1.in1 (ksk_end D false vs.toArray e1 (.ref kS) (ks.map Value.ref).toArray) P E s:=by
 have hvl:ns.length=vs.length:=by have:=hv.length;rw[List.length_map] at this;exact this
 have hzl:((ks.map Value.ref).toArray.zip vs.toArray).size=vs.length:=by simp;lia
 have hex:∀k:Addr,∃xs:List Nat,∀(j:Nat) (n:Int),ks[j]?=some k→ns[j]?=some n→xs=kf n:=fun k=>by
  by_cases hk:k∈ks
  ·obtain⟨j0,hj0⟩:=List.mem_iff_getElem?.mp hk
   have jl:j0<ns.length:=by have:=(List.getElem?_eq_some_iff.mp hj0).1;lia
   refine⟨kf ns[j0],fun j n h1 h2=>?_⟩
   have a1:=hks j0 k ns[j0] hj0 (List.getElem?_eq_getElem jl)
   have a2:=hks j k n h1 h2
   rw[a1] at a2
   have a3:(kf ns[j0]).map sg=(kf n).map sg:=by injection a2 with a2;injection a2
   refine List.map_inj_right (f:=sg) (fun x y h=>?_) |>.mp a3
   have:aw x=aw y:=V.str.inj h
   simpa [aw] using this
  ·exact⟨[],fun j n h1 _=>absurd (List.mem_of_getElem? h1) hk⟩
 obtain⟨cz,hcz⟩:=Classical.axiomOfChoice hex
 have lat:∀k∈ks,nj s k (cz k):=fun k hk=>by
  obtain⟨j0,hj0⟩:=List.mem_iff_getElem?.mp hk
  have jl:j0<ns.length:=by have:=(List.getElem?_eq_some_iff.mp hj0).1;lia
  have e0:=List.getElem?_eq_getElem jl
  rw[hcz k j0 _ hj0 e0]
  obtain⟨_,its,m,r,_,g⟩:=I.lstM (hks j0 k _ hj0 e0)
  exact⟨its.toArray,⟨_,g,rfl,m,rfl⟩,tZ r⟩
 have at0:∀p∈(ks.map Value.ref).toArray.zip vs.toArray,∃k,p.1=.ref k∧k∈ks:=fun p hp=>by
  have:p∈(ks.map Value.ref).zip vs:=by simpa using Array.mem_toList_iff.mpr hp
  obtain⟨p1,p2⟩:=p
  obtain⟨k,hk,e⟩:=List.mem_map.mp (List.of_mem_zip this).1
  exact⟨k,e.symm,hk⟩
 unfold ksk_end
 dsimp only
 rw[if_neg Bool.false_ne_true,if_neg Bool.false_ne_true]
 by_cases h2:vs.toArray.size<2
 ·rw[if_pos h2,if_pos h2]
  refine wpAny_bind (wpAny_pure ?_)
  rw[StateT.run_pure]
  refine wpAny_bind (wpAny_pure ?_)
  refine qP (cz:=cz) (st:=SortSt.mk' general' ((ks.map Value.ref).toArray.zip vs.toArray) #[] 7 none) I nD nk hDk hD HD hS HS hv hle hkl (fun j k n h1 h2=>hcz k j n h1 h2) (Array.Perm.refl _) rfl ?_ done
  intro i j h1 h3 h4
  rw[hzl] at h4
  rw[List.size_toArray] at h2
  have:i=j:=by lia
  subst this
  exact Ordr.le_refl _
 ·rw[if_neg h2,if_neg h2]
  rw[List.size_toArray] at h2
  refine wpAny_bind (PySem.W.kas_kind (T:=.type "list") (by rw[List.length_map];lia) (fun v hv=>?_) rfl rfl ?_)
  ·obtain⟨k,hk,rfl⟩:=List.mem_map.mp hv
   obtain⟨items,⟨o,ho,hoc,_⟩,_⟩:=lat k hk
   rw[←hoc]
   exact(PySem.W.Looks.ld ho).andThen .now
  ·refine wpAny_bind (wpAny_mono (lO (sk (cz:=cz) (a₀:=(ks.map Value.ref).toArray.zip vs.toArray) hu fun p hp=>by obtain⟨k,e,hk⟩:=at0 p hp;exact⟨k,e,lat k hk⟩) (a₀:=(ks.map Value.ref).toArray.zip vs.toArray) (kd:=oneType') (st:=SortSt.mk' oneType' ((ks.map Value.ref).toArray.zip vs.toArray) #[] 7 none) (Q:=fun _ z=>(arrOf z).Perm ((ks.map Value.ref).toArray.zip vs.toArray)∧failedOf z=none∧Rise jX (jq cz) (arrOf z) 0 ((ks.map Value.ref).toArray.zip vs.toArray).size) ⟨Array.Perm.refl _,rfl,rfl⟩ rfl (by rw[hzl];lia) fun z B R=>⟨B.perm,B.failed,R⟩) ?_ fun _ _ e=>e)
   rintro⟨⟨⟩,z⟩ s' ⟨rfl,pm,hf,R⟩
   exact qP (cz:=cz) I nD nk hDk hD HD hS HS hv hle hkl (fun j k n h1 h2=>hcz k j n h1 h2) pm hf R done
theorem vo{D:Addr}{n0:Nat}{vs:List Value}{E:Value→Shared→Prop}{P:PySem.Fin→Shared→Prop}(hu:(X.A.in1.in1).units<cLine)(I:Inv X pins σ H s)(nD:NewAd X pins D)(hD:s.heap.get? D=some (seqObj "list" vs.toArray n0))(HD:H D=none)(nf:NewAd X pins f)(hf:s.heap.get? f=some fo)(Hf:H f=none)(hDf:D≠f)(hv:Vals (ns.map V.int) vs)(hle:ns.length≤1000)(T:kn X pins σ H f fo ns kf)(done:∀(H':Hp) (s':Shared) (ms:List Int) (ws:List Value) (c:Nat),Inv X pins σ H' s'→Same H H'→s'.heap.get? D=some (seqObj "list" ws.toArray c)→H' D=none→Vals (ms.map V.int) ws→ms.Perm ns→ms.Pairwise (fun a b=>aH (aB (kf b)) (aB (kf a))=false)→P (.done (.ret .none)) s'):
 wpAny (model X.prog X.w) X.A.in1.in1 (ksk_tree D (.ref f) false) P E s:=by
 have hvl:ns.length=vs.length:=by have:=hv.length;rw[List.length_map] at this;exact this
 have sb:=Heap.SameBut.update s.heap D (Obj.mapSeq fun _=>(#[]:Array Value))
 obtain⟨e1,hD1⟩:∃e1,(s.heap.update D (Obj.mapSeq fun _=>(#[]:Array Value))).get? D=some (seqObj "list" #[] e1):=⟨_,get?_update_seq hD fun _=>#[]⟩
 have I1:=I.own (t':=s.toks) nD HD sb
 have hf1:=(sb.2 f hDf.symm).trans hf
 have ltD:D<s.heap.objs.size:=Heap.lt_size hD
 have ltf:f<s.heap.objs.size:=Heap.lt_size hf
 generalize eg:s.heap.update D (Obj.mapSeq fun _=>(#[]:Array Value))=g at hD1 I1 hf1
 have hg:g.objs.size=s.heap.objs.size:=by rw[←eg,Heap.size_update]
 unfold ksk_tree
 refine wpAny_bind (listItems_at hD rfl (wpAny_bind (listUpdate_at hD rfl ?_ (by rw[List.size_toArray];exact gr (by lia)) (Nat.zero_le _))))
 show wpAny _ _ _ _ _ {s with heap:=s.heap.update D (Obj.mapSeq fun _=>(#[]:Array Value))}
 rw[eg]
 refine wpAny_bind (seqEpoch_at hD1 rfl (wpAny_bind (wpAny_newTuple (wpAny_bind (wpAny_newList (wpAny_holding ?_) (Nat.zero_le _))) (gr (by simp;lia)))))
 dsimp only
 have hk1:(g.push (seqObj "tuple" vs.toArray 0)).objs.size=s.heap.objs.size+1:=by rw[Heap.size_push,hg]
 have keep:∀b o,g.get? b=some o→((g.push (seqObj "tuple" vs.toArray 0)).push (seqObj "list" #[] 0)).get? b=some o:=fun b o e=>Heap.get?_push_of_some _ (Heap.get?_push_of_some _ e)
 have I2:=I1.kept (h':=(g.push (seqObj "tuple" vs.toArray 0)).push (seqObj "list" #[] 0)) (t':=s.toks) keep
 have nk:NewAd X pins (g.push (seqObj "tuple" vs.toArray 0)).objs.size:=I.newAd (by rw[hk1];exact Nat.le_succ _)
 have hDk:D≠(g.push (seqObj "tuple" vs.toArray 0)).objs.size:=by rw[hk1];exact Nat.ne_of_lt (Nat.lt_succ_of_lt ltD)
 have hfk:f≠(g.push (seqObj "tuple" vs.toArray 0)).objs.size:=by rw[hk1];exact Nat.ne_of_lt (Nat.lt_succ_of_lt ltf)
 have HS:H (g.push (seqObj "tuple" vs.toArray 0)).objs.size=none:=I.hok.fresh (by rw[hk1];exact Nat.le_succ _)
 have hS:((g.push (seqObj "tuple" vs.toArray 0)).push (seqObj "list" #[] 0)).get? (g.push (seqObj "tuple" vs.toArray 0)).objs.size=some (seqObj "list" #[] 0):=Heap.get?_push_size _ rfl
 show wpAny _ _ (ksk_rest D (.ref f) false vs.toArray e1 (.ref (g.push (seqObj "tuple" vs.toArray 0)).objs.size)) _ _ {s with heap:=(g.push (seqObj "tuple" vs.toArray 0)).push (seqObj "list" #[] 0)}
 generalize (g.push (seqObj "tuple" vs.toArray 0)).objs.size=kS at*
 unfold ksk_rest
 refine wpAny_bind (wpAny_rule (wpAny_bind ?_))
 rw[List.forIn_toArray]
 refine nU (e1:=e1) (vs:=vs) nD nk nf hDk hfk hv hle T (fun x=>rfl) vs 0 _ rfl (Nat.zero_le _) ⟨H,[],0,I2,Same.refl _,keep _ _ hf1,Hf,keep _ _ hD1,HD,hS,HS,rfl,fun j k n h=>by simp at h⟩ fun s3 W=>?_
 obtain⟨H3,ks,e,I3,sm,_,_,hD3,HD3,hS3,HS3,hl3,hks⟩:=W.ex
 refine wpAny_bind (listItems_at hS3 rfl ?_)
 exact vp hu I3 nD nk hDk hD3 HD3 hS3 HS3 hv hle (by lia) hks fun s' ms ws c I' g' v' p' o'=>done H3 s' ms ws c I' sm g' HD3 v' p' o'
end
def qp(P:Addr)(lp:Pos)(q:Str)(iw:Nat)(te tb:TE):TE:=fun σ H Q=>te σ H fun x H1=>∃(l:Addr) (ns:List Int) (vw:V) (kf:Int→List Nat),x=.ref l∧H1 l=some (.lst (ns.map V.int))∧ns.length≤1000∧σ[iw]?=some (some vw)∧Tab H1 P lp q∧
 (∀n∈ns,∀H',Keep P H1 H'→tb [some vw,some (.int n)] H' fun v H''=>∃k,v=.ref k∧H'' k=some (.lst ((kf n).map sg))∧Same H' H'')∧
 ∀(r:Addr) (ms:List Int) (H':Hp),ms.Perm ns→ms.Pairwise (fun a b=>aH (aB (kf b)) (aB (kf a))=false)→Keep P H1 H'→(∃c,jr H' P lp q c)→H1 r=none→H' r=some (.lst (ms.map V.int))→Q (.ref r) H'
theorem rN{X:Cx}{e body:Expr}{te tb:TE}{p pos kp lp:Pos}{params:Arguments}{scope:Scope}{fv y:Str}{cc P:Addr}{iw k:Nat}(hc:X.calm=true)(hm:X.mg "sorted"=none)(hr:Room (k+2) X.A)(hcode:X.env.code=.ref cc)(C:PySem.W.CodeHd X.base cc P)(hB:cH X.mg X.base)(S:LamSc fv y scope)(hny:fv≠y)(hN:X.N[iw]?=some fv)(hkc:X.env.kindOf fv=some .cell)(hcl:∀cw,X.env.cells.lookup fv=some cw→closureFor scope X.env=pure [(fv,cw)])(hdef:defaultsOf params X.env=([],[]))(hbind:∀(q:Str) (cw c:Addr) (pm ctv u:Value),bindArgs (PySem.W.kla_fn "<lambda>" q params body scope [(fv,cw)] pm (.ref c) ctv) ⟨[u],[]⟩=pure [(y,u)])(ha:PE X e te)(hb:∀(A:Around) (s:Shared) (H:Hp) (L f c cw:Addr),PE (jz X A [fv,y] (fZ (X.env.qual++"<lambda>") scope L f c fv cw) s H) body tb)(hg:Gl X "sorted":=by rfl)(he:starEach [e] X.env=[(false,eval e X.env)]:=by rfl):
 PE X (.Call (.Name "sorted" p) [e] [⟨some "key",.Lambda params body scope lp,kp⟩] pos) (qp P lp (X.env.qual++"<lambda>") iw te tb):=by
 intro pins s σ H Q I h
 refine wpAny_Call_Name_kw (dO I hg hm qd ?_)
 have hbk:backTo pos (starEach [e] X.env)=(false,eval e X.env)::backTo pos (starEach [] X.env):=by rw[he];rfl
 refine PyProof.Rows.callWith_kw ?_ hbk (by rw[he];rfl) (by rfl) (by rfl)
 refine ak ((aa ha ac (by exact he)) pos pins s σ H (fun vs H1=>match vs with | [x]=>qp P lp (X.env.qual++"<lambda>") iw (fun _ H Q=>Q x H) tb σ H1 Q | _=>False) I h) fun us s1 ⟨vs,H1,I1,r1,q1⟩=>?_
 match vs,q1 with
 | [x],q1=>
   obtain⟨u,rfl,ru⟩:=r1.one
   obtain⟨l,ns,vw,kf,rfl,hl,hle,hvw,T,turn,k1⟩:=q1
   cases ru
   have cellAt:∀{H':Hp} {s':Shared},Inv X pins σ H' s'→∃cw uw,X.env.cells.lookup fv=some cw∧s'.heap.IsCell cw (some uw)∧RelV vw uw∧H' cw=none:=fun{H' s'} I'=>by
    obtain⟨m,_,hloc⟩:=I'.loc
    obtain⟨uw,rw',lk⟩:=hloc iw fv vw hN hvw (.inr (.inl hkc))
    rcases lk with⟨z,_⟩ | ⟨_,cw,e1,e2⟩
    ·rw[hkc] at z;cases z
    ·exact⟨cw,uw,e1,e2,rw',I'.freeC fv cw e1⟩
   obtain⟨cw,_,hcw,_⟩:=cellAt I1
   refine PyProof.Rows.kws_cons (vZ I1 hcode C hB T (hcl cw hcw) hdef fun f c pm ctv H2 s2 I2 T2 k2 hf2 Hf2 hfs _=>PyProof.Rows.kws_nil ?_)
   have hl2:H2 l=some (.lst (ns.map V.int)):=k2 _ _ hl (fun z=>by
    rw[z] at hl
    rcases T with t | ⟨c',t,_⟩ <;> (rw[hl] at t;cases t))
   obtain⟨_,its,n,rv,hz,e1⟩:=I2.lstM hl2
   have hnl:ns.length=its.length:=by rw[←hz,List.length_map]
   have hL:s2.heap.IsList l its.toArray:=⟨_,e1,rfl,n,rfl⟩
   have hr2:Room k X.A.in1.in1:=hr.in1.in1
   have nf:NewAd X pins f:=I1.newAd hfs
   have TT:kn X pins σ H2 f (PySem.W.kla_obj "<lambda>" (X.env.qual++"<lambda>") params body scope [(fv,cw)] pm c ctv) ns kf:=by
    intro n0 hn0 H' s' u I' sm hf' _ ru
    obtain⟨cw',uw,e2,e3,e4,e5⟩:=cellAt I'
    rw[hcw] at e2
    cases e2
    have e0:=I'.env0.in1.in1
    have hcd:s'.heap.CodeRec (.ref c) (X.env.qual++"<lambda>"):=(I'.hok c _ (sm _ _ T2.2)).1
    refine wpAny_call (wA I' e0.frames hr2.hd hr2.depth S hny hf' hcd e3 e5 e4 ru (hbind _ _ _ _ _ _) (hb _ _ _ _ _ _ _) (turn n0 hn0 H' fun b o e n=>sm _ _ (k2 _ _ e n)) fun v' u' H'' s'' J un rv' q'=>?_)
    obtain⟨k0,rfl,hk0,sm2⟩:=q'
    cases rv'
    exact⟨k0,H'',rfl,J,hk0,sm2,un⟩
   refine PyProof.Rows.call_function_entry_kw kind_sorted plain_sorted entry_sorted (ksk_s1 _ _) ?_
   unfold Builtin.«sorted»
   refine wpAny_bind (m:=checkCount "sorted" 1 1 _) (wpAny_pure (wpAny_bind (collect_list hL (wpAny_bind (wpAny_newList ?_ (gr (by lia)))) (gr (by lia)))))
   have sz1:((s2.heap.push (seqObj "list" #[] 0)).update s2.heap.objs.size (Obj.mapSeq (·++its.toArray))).objs.size=s2.heap.objs.size+1:=by rw[Heap.size_update,size_push']
   have keep:∀b o,s2.heap.get? b=some o→(((s2.heap.push (seqObj "list" #[] 0)).update s2.heap.objs.size (Obj.mapSeq (·++its.toArray))).push (seqObj "list" its.toArray 0)).get? b=some o:=fun b o q=>by
    have hlt:b<s2.heap.objs.size:=Heap.lt_size q
    refine Heap.get?_push_of_some _ ((Heap.get?_update_other _ _ (Nat.ne_of_gt hlt)).trans (Heap.get?_push_of_some _ q))
   have at1:(((s2.heap.push (seqObj "list" #[] 0)).update s2.heap.objs.size (Obj.mapSeq (·++its.toArray))).push (seqObj "list" its.toArray 0)).get? (s2.heap.objs.size+1)=some (seqObj "list" its.toArray 0):=by
    rw[←sz1];exact Heap.get?_push_size _ rfl
   have I3:=I2.kept (h':=((s2.heap.push (seqObj "list" #[] 0)).update s2.heap.objs.size (Obj.mapSeq (·++its.toArray))).push (seqObj "list" its.toArray 0)) (t':=s2.toks) keep
   have hf3:=keep _ _ hf2
   show wpAny _ _ _ _ _ {s2 with heap:=((s2.heap.push (seqObj "list" #[] 0)).update s2.heap.objs.size (Obj.mapSeq (·++its.toArray))).push (seqObj "list" its.toArray 0)}
   rw[sz1]
   generalize ((s2.heap.push (seqObj "list" #[] 0)).update s2.heap.objs.size (Obj.mapSeq (·++its.toArray))).push (seqObj "list" its.toArray 0)=g at*
   have nD:NewAd X pins (s2.heap.objs.size+1):=I2.newAd (Nat.le_succ _)
   have HD2:H2 (s2.heap.objs.size+1)=none:=I2.hok.fresh (Nat.le_succ _)
   have hDf:s2.heap.objs.size+1≠f:=Nat.ne_of_gt (Nat.lt_succ_of_lt (Heap.lt_size hf2))
   refine wpAny_bind (wpAny_holding (wpAny_call_entry_kw slot_list_sort ⟨_,at1,rfl⟩ entry_list_sort ?_ (ksk_l1 _ _)))
   show wpAny (model X.prog X.w) X.A.in1.in1 (Builtin.«list.sort» ⟨[.ref (s2.heap.objs.size+1)],[(Str.ofString "key",.ref f)]⟩) _ _ _
   rw[ksk_t1]
   refine vo hr2.units0 I3 nD at1 HD2 nf hf3 Hf2 hDf rv hle TT fun H4 s4 ms ws c4 I4 sm4 g4 HD4 v4 p4 o4=>⟨_,rfl,wpAny_pure ⟨_,rfl,?_⟩⟩
   have hwl:(ms.map V.int).length≤sizeLine:=by rw[List.length_map,p4.length_eq];exact gr hle
   have I5:=I4.trackE (e:=s2.heap.objs.size+1) (u:=.lst (ms.map V.int)) HD4 (Heap.get?_none_of_le nD.s0) nD.loc nD.cell nD.pin ⟨hwl,ws,c4,v4,g4⟩
   have sm5:Same H2 (upd H4 (s2.heap.objs.size+1) (.lst (ms.map V.int))):=sm4.trans (Same.upd HD4)
   have kk:Keep P H1 (upd H4 (s2.heap.objs.size+1) (.lst (ms.map V.int))):=fun b o e n=>sm5 _ _ (k2 _ _ e n)
   have HD1:H1 (s2.heap.objs.size+1)=none:=by
    cases q:H1 (s2.heap.objs.size+1) with
    | none=>rfl
    | some o=>
      by_cases z:s2.heap.objs.size+1=P
      ·have:=T2.1;rw[←z,HD2] at this;cases this
      ·have:=k2 _ _ q z;rw[HD2] at this;cases this
   exact⟨.ref (s2.heap.objs.size+1),_,I5,rfl,k1 _ ms _ p4 o4 kk ⟨c,sm5 _ _ T2.1,sm5 _ _ T2.2⟩ HD1 ad⟩
theorem tT{M:Model}{A:Around}{E:Value→Shared→Prop}{s:Shared}{src:Source}{n:Nat}{Q:Nat→Shared→Prop}(hn:n≠0)(h:∀i d,i<n→Q i {s with drawn:=d}):wpAny M A (choose src n) Q E s:=fun Γ p _=>by
 unfold choose
 rw[Sem.wp_choose]
 exact⟨hn,h _ _ (Nat.mod_lt _ (by lia))⟩
theorem qN{α:Type}{l:List α}{i:Nat}(h:i<l.length):(l[i]::l.eraseIdx i).Perm l:=by
 have e:l.take i++l[i]::l.drop (i+1)=l:=by rw[←List.drop_eq_getElem_cons h,List.take_append_drop]
 rw[List.eraseIdx_eq_take_drop_succ]
 conv=>rhs;rw[←e]
 exact List.perm_middle.symm
theorem oB{M:Model}{A:Around}{E:Value→Shared→Prop}{α:Type}:∀(n:Nat) (xs:List α) (s:Shared) (Q:List α→Shared→Prop),xs.length≤n→(∀ys d,ys.Perm xs→Q ys {s with drawn:=d})→wpAny M A (drawOrder n xs) Q E s
 | 0,xs,s,Q,hl,h=>by
   obtain rfl:xs=[]:=List.length_eq_zero_iff.mp (by lia)
   exact wpAny_pure (h [] s.drawn (List.Perm.refl _))
 | n+1,[],s,Q,hl,h=>wpAny_pure (h [] s.drawn (List.Perm.refl _))
 | n+1,x::xs,s,Q,hl,h=>by
   unfold drawOrder
   refine wpAny_bind (tT (by simp) fun i d hi=>?_)
   have hi':(x::xs)[i]?=some (x::xs)[i]:=by simp[hi]
   rw[hi']
   refine wpAny_bind (oB n ((x::xs).eraseIdx i) _ _ (by rw[List.length_eraseIdx];simp only[List.length_cons] at hl hi ⊢;split <;> lia) fun ys d2 p=>wpAny_pure (h _ d2 ?_))
   exact(p.cons _).trans (qN hi)
section
variable{prog:Program}{w:World}{A:Around}{E:Value→Shared→Prop}{s:Shared}{it d:Addr}{i n ep:Nat}{od:Obj}{es:Array DictEntry}
theorem uR{en:DictEntry}{Q:Option Value→Shared→Prop}(hit:s.heap.IsKeyIter it d i n ep)(e1:s.heap.get? d=some od)(e2:od.data=.dict es ep)(e3:es.size=n)(e4:es[i]?=some en)(q:∀h',h'.IsKeyIter it d (i+1) n ep→Heap.SameBut it s.heap h'→Q (some en.key) {s with heap:=h'}):wpAny (model prog w) A (pyNext (.ref it)) Q E s:=by
 obtain⟨io,i1,i2,i3⟩:=id hit
 obtain⟨lt,eg⟩:=Array.getElem?_eq_some_iff.mp e4
 unfold pyNext;refine wpAny_bind (wpAny_attempt (wpAny_callSpecial?_slot (name:=Str.ofString "__next__") hit.typeIs F.slot_dict_keyiterator_next (wpAny_call_entry F.slot_dict_keyiterator_next hit.typeIs F.entry_dict_keyiterator_next ?_ (F.args_dict_keyiterator_next_1 _))))
 refine wpAny_bind (wpAny_pure (wpAny_bind (wpAny_bind ?_)))
 first | refine wpAny_bind (wpAny_typeNameOfWhole_keyiter hit.typeIs (wpAny_pure (wpAny_bind (wpAny_fieldsOf i1 i3 ?_)))) | refine wpAny_bind (wpAny_typeNameOf_keyiter hit.typeIs (wpAny_pure (wpAny_bind (wpAny_fieldsOf i1 i3 ?_))))
 simp only[show Builtin.Dict_items.ownsTuple "dict_keyiterator"=false by decide,Bool.false_eq_true,if_false]
 show wpAny _ _ (if(Value.ref d == Value.none)=true then _ else _) _ _ s;rw[if_neg (show¬((Value.ref d == Value.none)=true) by exact Bool.false_ne_true)]
 refine wpAny_bind (wpAny_pure (wpAny_bind (wpAny_dictEntries e1 e2 ?_)))
 rw[if_neg (by rw[e3];simp)];refine wpAny_bind (wpAny_pure (wpAny_bind (wpAny_dictEpoch e1 e2 ?_)))
 rw[if_neg (by simp)];refine wpAny_pure ?_
 simp only[show¬((i:Int)<0) by lia,if_false,Int.toNat_natCast,e4]
 refine wpAny_bind ?_
 first | refine wpAny_bind (wpAny_typeNameOfWhole_keyiter hit.typeIs (wpAny_pure (wpAny_bind (wpAny_isOneOf_keyiter hit.typeIs ?_)))) | refine wpAny_bind (wpAny_typeNameOf_keyiter hit.typeIs (wpAny_pure (wpAny_bind (wpAny_isOneOf_keyiter hit.typeIs ?_))))
 show wpAny _ _ (setField (.ref it) 1 (rawInt ((i:Int)+1)) >>= _) _ _ s;refine wpAny_bind (wpAny_setField i1 i3 (by simp) ?_)
 have on:(s.heap.update it (Obj.mapFields (·.setIfInBounds 1 (rawInt ((i:Int)+1))))).IsKeyIter it d (i+1) n ep:=⟨_,Heap.get?_update_self _ i1 (Obj.isFreed_of_fields (Obj.data_mapFields i3 _)),(Obj.cls_mapFields ..).trans i2,by rw[Obj.data_mapFields i3];simp[rawInt]⟩
 generalize hh:s.heap.update it (Obj.mapFields (·.setIfInBounds 1 (rawInt ((i:Int)+1))))=h1 at on ⊢
 have sb:Heap.SameBut it s.heap h1:=by rw[←hh];exact Heap.SameBut.update ..
 refine wpAny_bind (wpAny_holding (wpAny_bind (wpAny_isOneOf_keyiter (s:={s with heap:=h1}) on.typeIs ?_)))
 show wpAny _ _ (pure en.key) _ _ _
 exact wpAny_pure (wpAny_pure ⟨_,rfl,wpAny_pure (q h1 on sb)⟩)
theorem sB{Q:Option Value→Shared→Prop}(calm:A.handled=none)(hit:s.heap.IsKeyIter it d i n ep)(e1:s.heap.get? d=some od)(e2:od.data=.dict es ep)(e3:es.size=n)(e4:n≤i)(q:∀h',Heap.ExtBut it s.heap h'→Q none {s with heap:=h'}):wpAny (model prog w) A (pyNext (.ref it)) Q E s:=by
 obtain⟨io,i1,i2,i3⟩:=id hit
 unfold pyNext;refine wpAny_bind (wpAny_attempt (wpAny_callSpecial?_slot (name:=Str.ofString "__next__") hit.typeIs F.slot_dict_keyiterator_next (wpAny_call_entry F.slot_dict_keyiterator_next hit.typeIs F.entry_dict_keyiterator_next ?_ (F.args_dict_keyiterator_next_1 _))))
 refine wpAny_bind (wpAny_pure (wpAny_bind (wpAny_bind ?_)))
 first | refine wpAny_bind (wpAny_typeNameOfWhole_keyiter hit.typeIs (wpAny_pure (wpAny_bind (wpAny_fieldsOf i1 i3 ?_)))) | refine wpAny_bind (wpAny_typeNameOf_keyiter hit.typeIs (wpAny_pure (wpAny_bind (wpAny_fieldsOf i1 i3 ?_))))
 simp only[show Builtin.Dict_items.ownsTuple "dict_keyiterator"=false by decide,Bool.false_eq_true,if_false]
 show wpAny _ _ (if(Value.ref d == Value.none)=true then _ else _) _ _ s;rw[if_neg (show¬((Value.ref d == Value.none)=true) by exact Bool.false_ne_true)]
 refine wpAny_bind (wpAny_pure (wpAny_bind (wpAny_dictEntries e1 e2 ?_)))
 rw[if_neg (by rw[e3];simp)];refine wpAny_bind (wpAny_pure (wpAny_bind (wpAny_dictEpoch e1 e2 ?_)))
 rw[if_neg (by simp)];refine wpAny_pure ?_
 simp only[show¬((i:Int)<0) by lia,if_false,Int.toNat_natCast,Array.getElem?_eq_none (show es.size≤i by lia)]
 refine wpAny_bind ?_
 first | refine wpAny_bind (wpAny_typeNameOfWhole_keyiter hit.typeIs (wpAny_pure ?_)) | skip
 show wpAny _ _ (setField (.ref it) 0 .none >>= _) _ _ s;refine wpAny_bind (wpAny_setField i1 i3 (by simp) ?_)
 show wpAny _ _ (newExc (.type "StopIteration") [] >>= _) _ _ _;refine wpAny_bind ?_
 simp only[newExc,newTuple];refine wpAny_bind (wpAny_newObj_type ?_ (by size_fits))
 refine wpAny_bind (m:=firstArgMember _ _) (wpAny_of_eq (a:=Value.none) (by first | (simp only[firstArgMember];rfl) | rfl) ?_)
 refine wpAny_newObj_type ?_ (by size_fits);simp only[raiseNew]
 refine wpAny_bind (wpAny_handled ?_);rw[show A.in1.handled=none from calm]
 refine wpAny_bind (wpAny_pure (wpAny_throw ?_));refine wpAny_bind (wpAny_isInstance (T:="StopIteration") (b:=true) ⟨_,Heap.get?_push_size _ rfl,rfl⟩ isSubtype_stop (wpAny_pure ?_))
 exact q _ (((Heap.SameBut.update ..).extBut.push _).push _)
theorem vj{Q:Value→Shared→Prop}(hT:s.TypeIs (.ref d) "dict")(hd:(d == sysModules)=false)(e1:s.heap.get? d=some od)(e2:od.data=.dict es ep)(e3:es.size=n)(q:Q (.ref s.heap.objs.size) {s with heap:=s.heap.push {cls:=.type "dict_keyiterator",data:=.fields #[.ref d,.int 0 0,.int n 0,.int ep 0]}}):wpAny (model prog w) A (pyIter (.ref d)) Q E s:=by
 refine wpAny_pyIter_slot hT F.slot_dict_iter (wpAny_call_entry F.slot_dict_iter hT F.entry_dict_iter ?_ (F.args_dict_iter_1 _));unfold Builtin.«dict.__iter__» Builtin.Dict.dictSlotNone
 refine wpAny_bind (wpAny_bind (wpAny_notOrdered_dict hT ?_));show wpAny _ _ (pure (Value.ref d)) _ _ s
 refine wpAny_pure ?_;show wpAny _ _ (Builtin.Dict.showsAll d >>= _) _ _ s
 unfold Builtin.Dict.showsAll;rw[if_neg (by rw[hd];decide)]
 refine wpAny_bind (wpAny_pure (wpAny_bind (wpAny_dictEntries e1 e2 (wpAny_bind (wpAny_dictEpoch e1 e2 (wpAny_bind ?_))))))
 refine wpAny_newObj_type (wpAny_pure ⟨_,rfl,"dict_keyiterator",_,⟨_,Heap.get?_push_size _ rfl,rfl⟩,F.slot_dict_keyiterator_next.lookup,?_⟩);simpa [rawInt,e3] using q
end
def cF(d:Addr)(o:Obj)(kvs:List (List aj×V)):It:=
 ⟨fun i H=>H d=some (.frz o (.dT kvs))∧i<kvs.length,fun i H x H'=>H'=H∧∃k v b,kvs[i]?=some (k,v)∧x=.ref b∧H b=some (.tup (k.map kV)),fun i H=>H d=some (.frz o (.dT kvs))∧kvs.length≤i⟩
theorem qx{X:Cx}{pins:List (Addr×Obj)}{σ:St}{H:Hp}{s:Shared}{d:Addr}{o:Obj}{kvs:List (List aj×V)}(I:Inv X pins σ H s)(e:H d=some (.frz o (.dT kvs))){es:Array DictEntry}{ep:Nat}(eo:o.data=.dict es ep):s.heap.get? d=some o∧es.size=kvs.length∧∀(i:Nat) (k:List aj) (x:V),kvs[i]?=some (k,x)→∃(en:DictEntry) (b:Addr),es[i]?=some en∧en.key=.ref b∧H b=some (.tup (k.map kV)):=by
 obtain⟨e1,z,hd,xs,rel,o',es',ep',h1,h2,h3,h4,h5⟩:=(show ObjOk X.prog X.w H s.heap d (.frz o (.dT kvs)) from I.hok d _ e)
 rw[e1] at h1
 cases h1
 rw[eo] at h3
 cases h3
 refine⟨e1,by rw[size_of_entries h4,Paired.length rel],fun i k x hx=>?_⟩
 obtain⟨y,hy,ry⟩:=fQ rel hx
 exact⟨_,y.2.1,by rw[entry_at h4 i,hy];rfl,rfl,ry.2.1⟩
theorem wc{P:Program}{w:World}{K:PySem.W.Frag}{tg:Expr}(d it:Addr)(o:Obj)(kvs:List (List aj×V)){es:Array DictEntry}{ep:Nat}(eo:o.data=.dict es ep):Turn P w K tg (cF d o kvs) [it] it (fun i h=>h.IsKeyIter it d i kvs.length ep) where
 mem:=by simp
 obj:=fun i h st b hb=>by
  have eb:b=it:=by simpa using hb
  obtain⟨ob,e,c,dd⟩:=st
  exact⟨ob,eb▸e,fun v z=>by rw[dd] at z;cases z⟩
 keep:=fun i h h' st k=>by
  obtain⟨ob,e,r⟩:=st
  exact⟨ob,k it (by simp) ob e,r⟩
 item:=by
  intro X hP hw hK hc i pins s σ H E I hf st hg
  subst hP hw hK
  obtain⟨he,hi⟩:=hg
  obtain⟨e1,e3,at_⟩:=qx I he eo
  obtain⟨en,kb,e4,ek,ry⟩:=at_ i kvs[i].1 kvs[i].2 (List.getElem?_eq_getElem hi)
  obtain⟨f0,f1,f2,f3,f4,f5⟩:=hf it (by simp)
  refine uR st e1 eo e3 e4 fun h' st' sb=>?_
  have I1:Inv X pins σ H {s with heap:=h'}:=I.turned (t':=s.toks) (fun b ob hb e=>(sb.2 b hb).trans e) f0 f1 f3 f4 f5
  obtain⟨ob,e,c,dd⟩:=id st'
  exact⟨en.key,rfl,fA (s:={s with heap:=h'}) e c dd (by decide) ⟨.ref kb,H,I1,ek,⟨rfl,kvs[i].1,kvs[i].2,kb,List.getElem?_eq_getElem hi,rfl,ry⟩,st',fun b hb=>(hf b hb).1⟩⟩
 done:=by
  intro X hP hw hK hc i pins s σ H E I hf st hg
  subst hP hw hK
  obtain⟨he,hi⟩:=hg
  obtain⟨e1,e3,_⟩:=qx I he eo
  obtain⟨f0,f1,f2,f3,f4,f5⟩:=hf it (by simp)
  exact sB (I.ok.hd hc) st e1 eo e3 hi fun h' eb=>⟨rfl,I.turned (t':=s.toks) (fun b ob hb e=>eb b ob hb e) f0 f1 f3 f4 f5⟩
 self:=fun _ _ _ _ _ st h=>wpAny_pyIter_keyiter st h
def zh(te:TE):TI:=fun σ H R=>te σ H fun x H1=>∃a kvs,x=.ref a∧((H1 a=some (.dT kvs)∧∀o,R (cF a o kvs) (upd H1 a (.frz o (.dT kvs))))∨∃o,H1 a=some (.frz o (.dT kvs))∧R (cF a o kvs) H1)
theorem ou{X:Cx}{tg e:Expr}{te:TE}(he:PE X e te):PI X tg e (zh te):=by
 intro pins s σ H R I h
 refine ak (he pins s σ H _ I h) fun v s1 ⟨x,H1,I1,rx,a,kvs,ex,q⟩=>?_
 subst ex
 obtain rfl:v=Value.ref a:=rx
 have ok:ObjOk X.prog X.w H1 s1.heap a (.dT kvs):=by
  rcases q with⟨ha,_⟩ | ⟨o,ha,_⟩
  ·exact I1.hok a _ ha
  ·exact(show ObjOk X.prog X.w H1 s1.heap a (.frz o (.dT kvs)) from I1.hok a _ ha).2
 obtain⟨z,hd,xs,rel,ob,es,ep,h1,h2,h3,h4,h5⟩:=ok
 obtain⟨H2,I2,q⟩:∃H2,Inv X pins σ H2 s1∧R (cF a ob kvs) H2:=by
  rcases q with⟨ha,q⟩ | ⟨o,ha,q⟩
  ·obtain⟨ob',h1',I2⟩:=I1.still ha
   rw[h1] at h1'
   cases h1'
   exact⟨_,I2,q ob⟩
  ·have h1':=(show ObjOk X.prog X.w H1 s1.heap a (.frz o (.dT kvs)) from I1.hok a _ ha).1
   rw[h1] at h1'
   cases h1'
   exact⟨_,I1,q⟩
 refine vj (d:=a) (n:=kvs.length) ⟨ob,h1,h2.1⟩ hd h1 h3 (by rw[size_of_entries h4,Paired.length rel]) ?_
 refine⟨_,[_],_,cF a ob kvs,_,rfl,I2.kept (t':=s1.toks) fun b o e=>Heap.get?_push_of_some _ e,wc a _ ob kvs h3,⟨_,Heap.get?_push_size _ rfl,rfl,rfl⟩,fun b hb=>?_,q⟩
 have eb:=List.mem_singleton.mp hb
 subst eb
 exact I2.fpOk (Nat.le_refl _) (I2.hok.fresh (Nat.le_refl _))
theorem vH{a:Addr}{o:Obj}{kvs:List (List aj×V)}{g:TG}{tb:TS}{D:Ends}{σ:St}{H:Hp}(Pv:Nat→St→Hp→Prop)(h0:Pv 0 σ H)(hl:∀i σ H,i≤kvs.length→Pv i σ H→H a=some (.frz o (.dT kvs)))(hs:∀i k v b σ H,kvs[i]?=some (k,v)→H b=some (.tup (k.map kV))→Pv i σ H→g (.ref b) σ H fun σ2 H2=>tb {D with nx:=Pv (i+1),ct:=Pv (i+1),bk:=D.nx} σ2 H2)(hd:∀σ H,Pv kvs.length σ H→D.nx σ H):
 ∃ W:Nat→Nat→St→Hp→Prop,(∃m,W 0 m σ H)∧∀i m σ H,W i m σ H→
   ((cF a o kvs).stop i H∧D.nx σ H)∨((cF a o kvs).go i H∧∃N:St→Hp→Prop,(∀σ' H',N σ' H'→∃m',m'<m∧W (i+1) m' σ' H')∧∀x H',(cF a o kvs).yld i H x H'→g x σ H' fun σ2 H2=>tb {D with nx:=N,ct:=N,bk:=D.nx} σ2 H2):=by
 refine⟨fun i m σ H=>m=kvs.length-i∧i≤kvs.length∧Pv i σ H,⟨kvs.length,by simp,Nat.zero_le _,h0⟩,?_⟩
 rintro i m σ H ⟨rfl,hi,p⟩
 have q:=hl i σ H hi p
 by_cases hlt:i<kvs.length
 ·refine .inr ⟨⟨q,hlt⟩,Pv (i+1),fun σ' H' p'=>⟨kvs.length-(i+1),by lia,rfl,hlt,p'⟩,fun x H' y=>?_⟩
  obtain⟨e,k,v,b,y,ex,hb⟩:=y
  subst e ex
  exact hs i k v b σ _ y hb p
 ·have e:i=kvs.length:=by lia
  subst e
  exact .inl ⟨⟨q,Nat.le_refl _⟩,hd σ H p⟩
theorem sZ{a:Addr}{o:Obj}{kvs:List (List aj×V)}{tc:TT}{te:TE}{σ:St}{H1:Hp}{Q:Hp→Prop}{D:Addr}(Pv:Nat→List V→Hp→Prop)(hn:kvs.length<sizeLine)(h0:Pv 0 [] (upd H1 D (.lst [])))(hl:∀i ys H,Pv i ys H→ys.length≤i)(hq:∀i ys H,i≤kvs.length→Pv i ys H→H a=some (.frz o (.dT kvs)))(hs:∀i k w b ys H,kvs[i]?=some (k,w)→H b=some (.tup (k.map kV))→Pv i ys H→tc (σ++[some (.ref b)]) H fun c H2=>if c=true then te (σ++[some (.ref b)]) H2 fun v H3=>H3 D=some (.lst ys)∧Pv (i+1) (ys++[v]) (upd H3 D (.lst (ys++[v]))) else Pv (i+1) ys H2)
 (hd:∀ys H,Pv kvs.length ys H→Q H):
 ∃ W:Nat→Nat→List V→Hp→Prop,(∃m,W 0 m [] (upd H1 D (.lst [])))∧
   ∀ i m ys H,W i m ys H→((cF a o kvs).stop i H∧Q H)∨((cF a o kvs).go i H∧ys.length<sizeLine∧∃N:List V→Hp→Prop,(∀ys' H',N ys' H'→∃m',m'<m∧W (i+1) m' ys' H')∧∀x H',(cF a o kvs).yld i H x H'→tc (σ++[some x]) H' fun b H2=>
     if b=true then te (σ++[some x]) H2 fun v H3=>H3 D=some (.lst ys)∧N (ys++[v]) (upd H3 D (.lst (ys++[v]))) else N ys H2):=by
 refine⟨fun i m ys H=>m=kvs.length-i∧i≤kvs.length∧Pv i ys H,⟨kvs.length,by simp,Nat.zero_le _,h0⟩,?_⟩
 rintro i m ys H ⟨rfl,hi,p⟩
 have q:=hq i ys H hi p
 by_cases hlt:i<kvs.length
 ·refine .inr ⟨⟨q,hlt⟩,Nat.lt_of_le_of_lt (hl i ys H p) (Nat.lt_trans hlt hn),Pv (i+1),fun ys' H' p'=>⟨kvs.length-(i+1),by lia,rfl,hlt,p'⟩,fun x H' y=>?_⟩
  obtain⟨e,k,w,b,y,ex,hb⟩:=y
  subst e ex
  exact hs i k w b ys _ y hb p
 ·have e:i=kvs.length:=by lia
  subst e
  exact .inl ⟨⟨q,Nat.le_refl _⟩,hd ys H p⟩
section
variable{prog:Program}{w:World}{A:Around}{E:Value→Shared→Prop}{s:Shared}
abbrev tk(prog:Program)(w:World):HeapKind prog w (List aj):=tupleKind (bN prog w)
theorem kB{h h':Heap}{d:Addr}{xs:List (List aj×Addr×Value)}(hd:h.DictOfH (tk prog w) d xs)(k1:∀o,h.get? d=some o→h'.get? d=some o)(k2:∀x∈xs,∀o,h.get? x.2.1=some o→h'.get? x.2.1=some o):h'.DictOfH (tk prog w) d xs:=by
 obtain⟨o,es,ep,ho,hc,hdd,he,his,hn⟩:=hd
 refine⟨o,es,ep,k1 o ho,hc,hdd,he,fun x hx=>?_,hn⟩
 obtain⟨ob,items,m,e1,e2⟩:=his x hx
 exact⟨ob,items,m,k2 x hx ob e1,e2⟩
theorem sQ{h h':Heap}{k:List aj}{b:Addr}(e:(tk prog w).is h k b)(k2:∀o,h.get? b=some o→h'.get? b=some o):(tk prog w).is h' k b:=by
 obtain⟨ob,items,m,e1,e2⟩:=e
 exact⟨ob,items,m,k2 ob e1,e2⟩
theorem wT{d I l:Addr}{its:Array Value}{prs:List (List aj×Addr×Value)}{h₀:Heap}{R:Result→Shared→Prop}(hh:A.in1.handled=none)(room:A.in1.units<cLine)(hI:l≠I)(hdI:d≠I)(hdl:d≠l)(hn:prs.length=its.size)(hn2:prs.length≤100000)(hnd:(prs.map (·.1)).Nodup)(hit:∀(i:Nat) (v:Value),its[i]?=some v→∃(p:Addr) (k:List aj) (b:Addr) (val:Value),v=.ref p∧p≠d∧p≠I∧b≠d∧b≠I∧prs[i]?=some (k,b,val)∧(tk prog w).is h₀ k b∧h₀.IsTuple p #[.ref b,val]):∀(m i:Nat) (s:Shared) (t:Tok),i+m=its.size→(s.heap.IsListIter I l i∧s.heap.IsList l its)→s.heap.DictOfH (tk prog w) d (prs.take i)→(∀b o,b≠I→b≠d→h₀.get? b=some o→s.heap.get? b=some o)→(∀h' tk',h'.DictOfH (tk prog w) d prs→(∀b o,b≠I→b≠d→h₀.get? b=some o→h'.get? b=some o)→R (.ok (.ret .none)) {s with heap:=h',toks:=tk'})→codeAny (model prog w) A (.builtin "dict.update.loop" ⟨[.ref d,.ref I,.int (i:Int) t,.none],[]⟩) R s:=by
 have W:=Walks.list (prog:=prog) (w:=w) hh I l hI its
 have far:∀i,∀x∈prs.take i,x.2.1≠I∧x.2.1≠d:=fun i x hx=>by
  obtain⟨j,hj⟩:=List.mem_iff_getElem?.mp (List.mem_of_mem_take hx)
  have jl:j<its.size:=by have:=(List.getElem?_eq_some_iff.mp hj).1;lia
  obtain⟨p,k,b,val,_,_,_,bd,bI,e,_⟩:=hit j _ (Array.getElem?_eq_getElem jl)
  rw[hj] at e;cases e
  exact⟨bI,bd⟩
 intro m
 induction m with
 | zero=>
   intro i s t hm st hd hk hR
   obtain rfl:i=its.size:=by lia
   refine codeAny_builtin qb ?_;rw[Around.under_plainId gU _]
   refine wpAny_bind (W.done s _ _ st fun h' tk' keep=>?_)
   rw[List.take_of_length_le (by lia)] at hd
   have fr:=far prs.length
   rw[List.take_length] at fr
   exact wpAny_bind (wpAny_pure (wpAny_pure (hR h' tk' (kB hd (fun o=>keep d o (by simpa using hdI)) fun x hx o=>keep _ o (by simpa using(fr x hx).1)) fun b o h1 h2 e=>keep b o (by simpa using h1) (hk b o h1 h2 e))))
 | succ m ih=>
   intro i s t hm st hd hk hR
   have hlt:i<its.size:=by lia
   refine codeAny_builtin qb ?_;rw[Around.under_plainId gU _]
   refine wpAny_bind (W.item i s _ _ hlt st fun v h' tk' hv st' keep=>?_)
   obtain⟨p,k,b,val,rfl,pd,pI,bd,bI,hpr,hkey,hp⟩:=hit i v hv
   obtain⟨ob,hob,hcl,n',hda⟩:=hp
   have hp':=keep p _ (by simpa using pI) (hk p _ pI pd hob)
   have hT:({s with heap:=h',toks:=tk'}:Shared).TypeIs (.ref p) "tuple":=⟨_,hp',hcl⟩
   refine wpAny_bind (wpAny_holding (wpAny_bind (wpAny_tryCatch ?_)));unfold Builtin.Dict.pairItems
   refine wpAny_bind (wpAny_typeOf hT ?_);rw[if_pos (by decide)]
   refine wpAny_bind (wpAny_seqItems hp' hda (wpAny_pure ?_))
   show wpAny _ A.in1 (holding [.ref b,val] (dictSet d (.ref b) val)) _ _ _
   have hd':h'.DictOfH (tk prog w) d (prs.take i):=kB hd (fun o=>keep d o (by simpa using hdI)) fun x hx o=>keep _ o (by simpa using(far i x hx).1)
   have hkey':(tk prog w).is h' k b:=sQ hkey fun o e=>keep b o (by simpa using bI) (hk b o bI bd e)
   have hnew:atKey (prs.take i) k=none:=atKey_none_of_get fun j q e=>by
    have jl:j<i:=by have:=(List.getElem?_eq_some_iff.mp e).1;rw[List.length_take] at this;lia
    rw[List.getElem?_take_of_lt jl] at e
    have e1:(prs.map (·.1))[j]?=some k:=by rw[List.getElem?_map,e];rfl
    have e2:(prs.map (·.1))[i]?=some k:=by rw[List.getElem?_map,hpr];rfl
    obtain⟨l1,q1⟩:=List.getElem?_eq_some_iff.mp e1
    obtain⟨l2,q2⟩:=List.getElem?_eq_some_iff.mp e2
    exact List.pairwise_iff_getElem.mp hnd j i l1 l2 jl (q1.trans q2.symm)
   refine wpAny_holding (wpAny_dictSet_heap (hsz:=Nat.le_trans (by rw[List.length_take];lia:(prs.take i).length≤100000) (by decide)) room hkey' hd' fun h2 hd2 hs2=>?_)
   rw[storedH_new hnew] at hd2
   refine wpAny_pure ⟨plainId_quiet gU _,?_⟩
   refine ih (i+1) _ 0 (by lia) ⟨st'.1.at fun o e=>(hs2.2 I (Ne.symm hdI)).trans e,st'.2.at fun o e=>(hs2.2 l (Ne.symm hdl)).trans e⟩ ?_ (fun b' o h1 h2' e=>(hs2.2 b' h2').trans (keep b' o (by simpa using h1) (hk b' o h1 h2' e))) fun h3 tk3 a c=>hR h3 tk3 a c
   have e3:prs.take (i+1)=prs.take i++[(k,b,val)]:=by rw[List.take_add_one,hpr];rfl
   rw[e3];exact hd2
theorem xz{l:Addr}{its:Array Value}{prs:List (List aj×Addr×Value)}{Q:Value→Shared→Prop}(hA:A.handled=none)(room:A.in1.in1.units<cLine)(hnd:(prs.map (·.1)).Nodup)(hn:prs.length=its.size)(hn2:prs.length≤100000)(n:Nat)(hl:s.heap.get? l=some (seqObj "list" its n))(hit:∀(i:Nat) (v:Value),its[i]?=some v→∃(p:Addr) (k:List aj) (kb:Addr) (val:Value),v=.ref p∧prs[i]?=some (k,kb,val)∧(tk prog w).is s.heap k kb∧s.heap.IsTuple p #[.ref kb,val])(h:∀h' tk',h'.DictOfH (tk prog w) s.heap.objs.size prs→(∀b o,s.heap.get? b=some o→h'.get? b=some o)→Q (.ref s.heap.objs.size) {s with heap:=h',toks:=tk'}):wpAny (model prog w) A (call (.type "dict") [.ref l]) Q E s:=by
 refine callType_codes (Q₁:=fun x s₁=>x=.ref s.heap.objs.size∧s₁={s with heap:=s.heap.push {cls:=.type "dict",data:=.dict #[]}}) F.kt_called_dict (F.kt_typeCall_dict_1 _) F.entry_dict_init (kt_code_dict_new _ ⟨rfl,rfl⟩) ?_
 rintro x s₁ ⟨rfl,rfl⟩
 have d0:(s.heap.push {cls:=.type "dict",data:=.dict #[]}).DictOfH (tk prog w) s.heap.objs.size []:=Heap.DictOfH.new s.heap
 refine⟨d0.typeIs,F.args_dict_init_2 _ _,?_⟩
 unfold Builtin.«dict.__init__» Builtin.Dict.selfAndRest
 refine wpAny_bind (wpAny_bind (wpAny_notOrdered_dict d0.typeIs (wpAny_pure ?_)))
 have hl':(s.heap.push {cls:=.type "dict",data:=.dict #[]}).get? l=some (seqObj "list" its n):=Heap.get?_push_of_some _ hl
 show wpAny _ _ (Builtin.Dict.updateFrom "dict.__init__" s.heap.objs.size (.ref l) [] .none) _ _ _
 unfold Builtin.Dict.updateFrom
 have hT:({s with heap:=s.heap.push {cls:=.type "dict",data:=.dict #[]}}:Shared).TypeIs (.ref l) "list":=⟨_,hl',rfl⟩
 refine wpAny_bind (wpAny_typeOf hT ?_)
 rw[if_pos (by decide)]
 refine wpAny_bind (wu hl' hA fun h1 tk1 keep1=>?_)
 have hl1:=keep1 _ _ hl'
 have hL1:h1.IsList l its:=⟨_,hl1,rfl,n,rfl⟩
 show wpAny _ _ (rule _ >>= _) _ _ _
 refine wpAny_bind (wpAny_rule (wpAny_bind (wpAny_pyIter_list hL1 (wpAny_pure ⟨plainId_quiet gU _,?_⟩))))
 have hlt:l<s.heap.objs.size:=Heap.lt_size hl
 have dlt:s.heap.objs.size<h1.objs.size:=by
  obtain⟨o,es,ep,ho,_⟩:=d0
  exact Heap.lt_size (keep1 _ _ ho)
 refine wT (A:=A.in1) (h₀:=s.heap) (d:=s.heap.objs.size) (I:=h1.objs.size) (l:=l) (its:=its) (prs:=prs) (show A.in1.in1.handled=none from hA) room (Nat.ne_of_lt (Nat.lt_trans hlt dlt)) (Nat.ne_of_lt dlt) (Nat.ne_of_lt hlt).symm hn hn2 hnd (fun i v hv=>?_) its.size 0 _ _ (Nat.zero_add _) ?_ ?_ ?_ ?_
 ·obtain⟨p,k,kb,val,rfl,a,b,c⟩:=hit i v hv
  have:p<s.heap.objs.size:=by
   obtain⟨_,hob,_⟩:=c
   exact Heap.lt_size hob
  have kl:kb<s.heap.objs.size:=let ⟨_,_,_,e,_⟩:=b;Heap.lt_size e
  exact⟨p,k,kb,val,rfl,Nat.ne_of_lt this,Nat.ne_of_lt (Nat.lt_trans this dlt),Nat.ne_of_lt kl,Nat.ne_of_lt (Nat.lt_trans kl dlt),a,b,c⟩
 ·exact⟨⟨_,Heap.get?_push_size _ rfl,rfl,rfl⟩,hL1.push _⟩
 ·exact kB d0 (fun o ho=>Heap.get?_push_of_some _ (keep1 _ _ ho)) fun x hx=>by cases hx
 ·exact fun b o _ _ e=>Heap.get?_push_of_some _ (keep1 _ _ (Heap.get?_push_of_some _ e))
 ·intro h' tk hd hk
  exact⟨rfl,h h' tk hd fun b o e=>hk b o (Nat.ne_of_lt (Nat.lt_trans (Heap.lt_size e) dlt)) (Nat.ne_of_lt (Heap.lt_size e)) e⟩
end
section
variable{X:Cx}{pins:List (Addr×Obj)}{σ:St}{H:Hp}{s:Shared}
def ku(H:Hp)(p:Addr)(kv:List aj×V):Prop:=∃b,H p=some (.tup [.ref b,kv.2])∧H b=some (.tup (kv.1.map kV))
theorem mw(I:Inv X pins σ H s):∀(ps:List Addr) (prs:List (List aj×V)),ps.length=prs.length→(∀(i:Nat) (p:Addr) (kv:List aj×V),ps[i]?=some p→prs[i]?=some kv→ku H p kv)→∃vs:List (List aj×Addr×Value),KT H prs vs∧vs.map (·.1)=prs.map (·.1)∧∀(i:Nat) (p:Addr),ps[i]?=some p→∃(k:List aj) (b:Addr) (val:Value),vs[i]?=some (k,b,val)∧(tk X.prog X.w).is s.heap k b∧s.heap.IsTuple p #[.ref b,val]
 | [],[],_,_=>⟨[],.nil,rfl,fun i p h=>by simp at h⟩
 | p::ps,kv::prs,hl,h=>by
   obtain⟨vs,r,em,hv⟩:=mw I ps prs (by simpa using hl) fun i p' kv' h1 h2=>h (i+1) p' kv' (by simpa using h1) (by simpa using h2)
   obtain⟨b,hp,hb⟩:=h 0 p kv rfl rfl
   obtain⟨z,its,rr,e⟩:=I.hok p _ hp
   obtain⟨u1,u2,rfl,r1,r2⟩:=rr.two
   obtain rfl:u1=Value.ref b:=r1
   refine⟨(kv.1,b,u2)::vs,.cons ⟨rfl,hb,r2⟩ r,by rw[List.map_cons,List.map_cons,em],fun i p' hi=>?_⟩
   cases i with
   | zero=>
     obtain rfl:p=p':=by simpa using hi
     exact⟨kv.1,b,u2,rfl,fB I.hok hb,e⟩
   | succ i=>exact hv i p' (by simpa using hi)
 | [],_::_,hl,_=>by simp at hl
 | _::_,[],hl,_=>by simp at hl
end
section
variable{X:Cx}{e:Expr}{te:TE}{p pos:Pos}
def pP:V→Hp→VK→Prop:=fun x H1 Q=>∃(l:Addr) (ps:List Addr) (prs:List (List aj×V)),x=.ref l∧H1 l=some (.lst (ps.map V.ref))∧ps.length=prs.length∧(∀(i:Nat) (p:Addr) (kv:List aj×V),ps[i]?=some p→prs[i]?=some kv→ku H1 p kv)∧(prs.map (·.1)).Nodup∧prs.length≤100000∧∀d,H1 d=none→Q (.ref d) (upd H1 d (.dT prs))
def uS(te:TE):TE:=fun σ H Q=>te σ H fun x H1=>pP x H1 Q
theorem wX{k:Nat}(hr:Room k X.A)(hc:X.calm=true)(hm:X.mg "dict"=none)(ha:PE X e te)(hg:Gl X "dict":=by rfl)(he:starEach [e] X.env=[(false,eval e X.env)]:=by rfl):PE X (.Call (.Name "dict" p) [e] [] pos) (uS te):=
 fP (r:=r1 pP)
  (cR fun pins s σ H x us Q I rv ⟨l,ps,prs,ex,hl,hlen,hps,hnd,hn,q⟩=>by
   subst ex
   obtain⟨u,rfl,ru⟩:=rv.one
   cases ru
   obtain⟨z,its,n,r,hle,e1⟩:=I.lstM hl
   obtain rfl:=mQ r
   obtain⟨vs,rk,em,hv⟩:=mw I ps prs hlen hps
   have hvl:=Paired.length rk
   have hu:=hr.units
   refine xz (prs:=vs) (its:=(ps.map Value.ref).toArray) (by first | exact I.ok.hd hc | (show X.A.in1.handled=none;exact I.ok.hd hc)) (by first | (show X.A.units+1+1+1<cLine;lia) | (show X.A.units+1+1<cLine;lia)) (by rw[em];exact hnd) (by simp;lia) (by lia) n e1 (fun i v hi=>?_) fun h' tk' hd keep=>?_
   ·have hi':(ps.map Value.ref)[i]?=some v:=by simpa using hi
    rw[List.getElem?_map] at hi'
    cases ep:ps[i]? with
    | none=>rw[ep] at hi';cases hi'
    | some p=>
      rw[ep] at hi'
      obtain rfl:Value.ref p=v:=Option.some.inj hi'
      obtain⟨k,b,val,c1,c2,c3⟩:=hv i p ep
      exact⟨p,k,b,val,rfl,c1,c2,c3⟩
   ·obtain⟨o,es,ep,hq,h2,h3,h4,_,h5⟩:=hd
    have fr:H s.heap.objs.size=none:=I.fresh
    exact⟨.ref s.heap.objs.size,_,I.laid (a:=s.heap.objs.size) (o:=.dT prs) (t':=tk') keep (Nat.le_refl _) ⟨Nat.le_trans hn (by decide),beq_eq_false_iff_ne.mpr (Ne.symm (Nat.ne_of_lt I.big)),vs,rk.keeps fun b ys eb=>by rw[ah (aD eb fr)];exact eb,o,es,ep,hq,h2,h3,h4,h5⟩,rfl,q _ fr⟩)
  hg hm uv (aa ha ac (by exact he)) (he:=by exact he)
end
theorem vJ(t:SetTable)(n:Nat):(t.orStandIn n).led=t.led∧(t.plain=false→(t.orStandIn n).plain=false):=by
 unfold SetTable.orStandIn SetTable.standIn
 split
 ·exact⟨rfl,fun z=>z⟩
 ·exact⟨rfl,fun z=>by first | rfl | exact z⟩
theorem sO(t:SetTable)(es:Array (Int×Value))(h:Int)(x:Value):(layNew t es h x).2.1.led=t.led∧(t.plain=false→(layNew t es h x).2.1.plain=false):=by
 unfold layNew
 split
 ·rename_i slot wd _
  exact vJ (t.put slot).1 _
 ·exact⟨rfl,fun z=>by first | rfl | exact z⟩
theorem u3(t:SetTable)(es:Array (Int×Value))(n:Nat):(relayAll t es n).2.1.led=t.led∧(t.plain=false→(relayAll t es n).2.1.plain=false):=by
 unfold relayAll
 split
 ·rename_i t' order e
  dsimp only
  split
  ·unfold SetTable.relaid SetTable.laid at e
   cases q:SetTable.layClean (SetTable.sizeAbove n-1) (es.map (·.1)) with
   | none=>rw[q] at e;cases e
   | some owner=>
     rw[q] at e
     cases e
     exact⟨rfl,fun z=>z⟩
  ·exact⟨rfl,fun z=>by first | rfl | exact z⟩
 ·exact⟨rfl,fun z=>by first | rfl | exact z⟩
section
variable{prog:Program}{w:World}{A:Around}{E:Value→Shared→Prop}{s:Shared}
def bK:Value→Str | .str x _=>x | _=>⟨#[]⟩
def cV(w:World)(e:Int×Value):Prop:=∃k t,e=(hashStr w k,.str k t)
structure TxSet(w:World)(led:Bool)(ws:List Str)(o:Obj):Prop where
 ex:o.ExactSet
 got:∃es ep t,o.data=.set es ep t∧(∀e∈es.toList,cV w e)∧(es.toList.map fun e=>bK e.2).Perm ws∧t.fits es.size=true∧t.led=led∧(ws≠ []→t.plain=false)
theorem pf{l:List (Int×Value)}(h:∀e∈l,cV w e):ElemsOf (strKind prog w) l:=fun e m=>by
 obtain⟨k,t,rfl⟩:=h e m
 exact⟨⟨k,by show Value.isStrOf k (.str k t)=true;simp[Value.isStrOf],rfl⟩,rfl⟩
theorem j6{α:Type}{m:Sem α}{Q:α→Shared→Prop}(h:wpAny (model prog w) A m (fun _ s'=>s'=s) E s)(k:∀v,Q v s):wpAny (model prog w) A m Q E s:=wpAny_mono h (fun v s' e=>e▸k v) fun _ _ z=>z
theorem xY{α:Type}{c:Bool}{m:Sem Bool}{r:Bool→Sem α}{Q:α→Shared→Prop}(hm:wpAny (model prog w) A m (fun b s'=>b=false∧s'=s) E s)(h:∀b,b=false∨c=false→wpAny (model prog w) A (r b) Q E s):wpAny (model prog w) A (if c=true then m >>= r else pure true >>= r) Q E s:=by
 cases c with
 | false=>exact wpAny_bind (wpAny_pure (h true (.inr rfl)))
 | true=>exact wpAny_bind (wpAny_mono hm (fun b s' z=>z.2▸h b (.inl z.1)) fun _ _ z=>z)
def bA(k:Str)(ws:List Str):List Str:=if k∈ws then ws else ws++[k]
theorem TxSet.lay{o:Obj}{led:Bool}{ws:List Str}{es es':Array (Int×Value)}{ep:Nat}{t t':SetTable}(ex:o.ExactSet)(hd:o.data=.set es ep t)(h1:∀e∈es'.toList,cV w e)(h2:(es'.toList.map fun e=>bK e.2).Perm ws)(h3:t'.fits es'.size=true)(h4:t'.led=led)(h5:t'.plain=false):
 TxSet w led ws (Obj.putSet es' t' o)∧∃ep',(Obj.putSet es' t' o).data=.set es' ep' t':=by
 rw[putSet_of es' t' hd]
 exact⟨⟨ex,es',ep+1,t',rfl,h1,h2,h3,h4,fun _=>h5⟩,ep+1,rfl⟩
theorem qA{es:List (Int×Value)}{k:Str}(h:∀e∈es,cV w e):(es.findIdx? fun e=>(strKind prog w).is k e.2)=none↔k∉es.map fun e=>bK e.2:=by
 rw[List.findIdx?_eq_none_iff]
 constructor
 ·intro q z
  obtain⟨e,m,rfl⟩:=List.mem_map.mp z
  obtain⟨u,t,rfl⟩:=h e m
  exact absurd (q _ m) (by show¬Value.isStrOf u (.str u t)=false;simp[Value.isStrOf])
 ·intro q e m
  obtain⟨u,t,rfl⟩:=h e m
  show Value.isStrOf k (.str u t)=false
  have:u≠k:=fun z=>q (List.mem_map.mpr ⟨_,m,z⟩)
  simp[Value.isStrOf,this,Ne.symm this]
theorem r8{a:Addr}{o:Obj}{led:Bool}{ws:List Str}{k:Str}{tg:Tok}{Q:Bool→Shared→Prop}(ho:s.heap.get? a=some o)(hS:TxSet w led ws o)(room:ws.length+1<scanBound)(h:∀h' o' b,Heap.SameBut a s.heap h'→h'.get? a=some o'→TxSet w led (bA k ws) o'→Q b {s with heap:=h'}):wpAny (model prog w) A (setAddHashed a (.str k tg) (hashStr w k)) Q E s:=by
 obtain⟨ex,es,ep,t,hd,hT,hP,hf,hl,hp⟩:=hS
 have len:es.size=ws.length:=by have:=hP.length_eq;simpa using this
 have small:es.size<scanBound:=by lia
 have key:(strKind prog w).is k (.str k tg)=true:=by show Value.isStrOf k (.str k tg)=true;simp[Value.isStrOf]
 have seen:byScan (.str k tg) es=true:=byScan_of (knd:=strKind prog w) rfl small (pf hT)
 refine wpAny_holding ?_
 show wpAny _ _ (setState a >>= _) _ _ _
 refine wpAny_bind (wpAny_setState_of (hf:=hf) ho hd ?_)
 simp only[seen,if_true]
 refine wpAny_bind (wpAny_bind (wpAny_rule (wpAny_bind (wpAny_setScan_of (knd:=strKind prog w) key ho hd hf (pf hT) ?_))))
 by_cases inn:k∈ws
 ·have:(es.toList.findIdx? fun e=>(strKind prog w).is k e.2)≠none:=fun z=>(qA (prog:=prog) hT).mp z (hP.mem_iff.mpr inn)
  obtain⟨j,ej⟩:=Option.ne_none_iff_exists'.mp this
  rw[ej]
  refine wpAny_pure (wpAny_pure (?_:Q false s))
  have:=h s.heap o false (Heap.SameBut.refl a _) ho (by rw[bA,if_pos inn];exact⟨ex,es,ep,t,hd,hT,hP,hf,hl,hp⟩)
  cases s;exact this
 ·rw[(qA (prog:=prog) hT).mpr fun z=>inn (hP.mem_iff.mp z)]
  have pm:=layNew_perm t es (hashStr w k) (.str k tg)
  have ft:=layNew_fits t es (hashStr w k) (.str k tg)
  have mk:=(sO t es (hashStr w k) (.str k tg)).1
  have eh:(strKind prog w).hash k=hashStr w k:=rfl
  generalize layNew t es (hashStr w k) (.str k tg)=X at pm ft mk ⊢
  obtain⟨e1,t1,wd,gv⟩:=X
  dsimp only at pm ft mk ⊢
  have hT1:∀e∈e1.toList,cV w e:=fun e m=>by
   rcases List.mem_append.mp (Array.toList_push▸pm.mem_iff.mp m) with m | m
   ·exact hT e m
   ·exact List.mem_singleton.mp m▸⟨k,tg,rfl⟩
  have hP1:(e1.toList.map fun e=>bK e.2).Perm (bA k ws):=by
   rw[bA,if_neg inn]
   refine(pm.map _).trans ?_
   rw[Array.toList_push,List.map_append]
   exact hP.append_right _
  have n1:e1.size=ws.length+1:=by have:=hP1.length_eq;rw[bA,if_neg inn] at this;simpa using this
  refine wpAny_bind (j6 (by cases gv;exact wpAny_pure rfl;exact wpAny_rule rfl) fun _=>?_)
  refine xY ?_ fun b hb=>?_
  ·rw[hashByValue_scannable 8 rfl];exact wpAny_pure ⟨rfl,rfl⟩
  have lk:∀e2 t2,(∀e∈e2.toList,cV w e)→(e2.toList.map fun e=>bK e.2).Perm (bA k ws)→t2.fits e2.size=true→t2.led=led→t2.plain=false→∀(s':Shared) o',s'.heap.get? a=some o'→o'.ExactSet→(∃e0 p0 t0,o'.data=.set e0 p0 t0)→∀R:Unit→Shared→Prop,(∀o2,(s'.heap.update a (Obj.putSet e2 t2)).get? a=some o2→TxSet w led (bA k ws) o2→R () {s' with heap:=s'.heap.update a (Obj.putSet e2 t2)})→wpAny (model prog w) A (storeSet a e2 t2) R E s':=by
   intro e2 t2 c1 c2 c3 c4 c5 s' o' ho' ex' hd' R hR
   obtain⟨e0,p0,t0,hd'⟩:=hd'
   have n2:e2.size=ws.length+1:=by have:=c2.length_eq;rw[bA,if_neg inn] at this;simpa using this
   refine wpAny_storeSet_of ho' hd' (hR _ (Heap.get?_update_self _ ho' ?_) (TxSet.lay ex' hd' c1 c2 c3 c4 c5).1) (fits_of_scanBound (by lia))
   rw[putSet_of _ _ hd'];rfl
  generalize e2:(if b=true then t1 else{t1 with plain:=false})=t2
  have m2:t2.fits e1.size=true∧t2.led=led∧t2.plain=false:=by
   subst e2
   cases b with
   | false=>exact⟨SetTable.fits_plain_off ft,mk.trans hl,rfl⟩
   | true=>exact⟨ft,mk.trans hl,hb.resolve_left (by decide)⟩
  refine wpAny_bind (lk e1 t2 hT1 hP1 m2.1 m2.2.1 m2.2.2 s o ho ex ⟨_,_,_,hd⟩ _ fun o2 g2 S2=>?_)
  have sb:=Heap.SameBut.update s.heap a (Obj.putSet e1 t2)
  split
  ·have pr:=relayAll_perm t2 e1 (SetTable.grown e1.size)
   have fr:=relayAll_fits t2 e1 (SetTable.grown e1.size)
   have mr:=u3 t2 e1 (SetTable.grown e1.size)
   generalize relayAll t2 e1 (SetTable.grown e1.size)=Y at pr fr mr ⊢
   obtain⟨e3,t3,gv3⟩:=Y
   dsimp only at pr fr mr ⊢
   refine wpAny_bind (j6 (by cases gv3;exact wpAny_pure rfl;exact wpAny_rule rfl) fun _=>wpAny_bind ?_)
   obtain⟨ex2,e0,p0,t0,hd2,_⟩:=S2
   exact lk e3 t3 (fun e m=>hT1 e (pr.mem_iff.mp m)) ((pr.map _).trans hP1) fr (mr.1.trans m2.2.1) (mr.2 m2.2.2) _ o2 g2 ex2 ⟨e0,p0,t0,hd2⟩ _ fun o3 g3 S3=>wpAny_pure (wpAny_pure (h _ o3 true (sb.trans (Heap.SameBut.update _ a _)) g3 S3))
  ·exact wpAny_pure (wpAny_pure (h _ o2 true sb g2 S2))
end
section
variable{prog:Program}{w:World}{A:Around}{n:Nat}{P:Nat→Value→Prop}{St:Nat→Shared→Prop}{I:Addr}{fp wr:List Addr}{G:Array GenState→Array GenState→Prop}{R:Result→Shared→Prop}
def eA:List Str→List Str:=fun l=>l.foldl (fun ws k=>bA k ws) []
theorem xI{led:Bool}(W:WalksS prog w A.in1 I fp wr G n P St){a:Addr}(ha:a∉fp)(ky:Nat→Str)(hky:∀i v,P i v→∃t,v=.str (ky i) t)(few:n+1<scanBound)(ws:Nat→List Str)(hw:∀i,ws (i+1)=bA (ky i) (ws i))(hn:∀i,(ws i).length≤i):∀(d i:Nat) (s:Shared),i+d=n→St i s→(∃o,s.heap.get? a=some o∧TxSet w led (ws i) o)→(∀s',Moved (a::wr) G s s'→(∃o,s'.heap.get? a=some o∧TxSet w led (ws n) o)→R (.ok (.ret .none)) s')→codeAny (model prog w) A (.builtin "set.update.loop" ⟨[.ref a,.ref I],[]⟩) R s:=by
 have haw:a∉wr:=fun h=>ha (W.sub _ h)
 have up:∀b∈wr,b∈a::wr:=fun b hb=>List.mem_cons_of_mem _ hb
 intro d
 induction d with
 | zero=>
   intro i s e hst ⟨o,ho,hS⟩ k;obtain rfl:i=n:=by lia
   refine codeAny_builtin F.entry_set_update_loop ?_;rw[Around.under_plainId F.plain_set_update_loop _]
   refine wpAny_bind (W.done s _ _ hst fun s' hm=>?_);show wpAny _ A.in1 (ret Value.none) _ _ s'
   exact wpAny_pure (k s' (hm.mono up) ⟨o,hm.heap a _ haw ho,hS⟩)
 | succ d ih=>
   intro i s e hst ⟨o,ho,hS⟩ k
   refine codeAny_builtin F.entry_set_update_loop ?_;rw[Around.under_plainId F.plain_set_update_loop _]
   refine wpAny_bind (W.item i s _ _ (by lia) hst fun v s' hP hst' hm=>?_)
   obtain⟨tg,rfl⟩:=hky i v hP
   have ho':=hm.heap a _ haw ho
   refine wpAny_bind (wpAny_holding ?_);unfold setAdd
   refine wpAny_holding (wpAny_bind (wpAny_pyHash_str ?_))
   refine r8 (s:={s' with toks:=s'.toks+1}) ho' hS (by have:=hn i;lia) fun h' o2 _ hsb g2 S2=>?_
   have ne:∀b,b≠a→h'.get? b=s'.heap.get? b:=fun b hb=>hsb.2 b hb
   refine wpAny_pure ⟨plainId_quiet F.plain_set_update_loop _,ih (i+1) _ (by lia) (W.frame _ s' _ _ hst' (Nat.le_succ _) fun b hb o e'=>?_) ⟨o2,g2,hw i▸S2⟩ fun s'' hm2 hS4=>?_⟩
   ·rw[ne b fun z=>ha (z▸hb)];exact e'
   ·refine k s'' (Moved.trans W.gtrans ((hm.mono up).then_heap (Nat.le_succ _) fun b o hb e'=>?_) hm2) hS4
    rw[ne b fun z=>hb (z▸List.mem_cons_self)];exact e'
end
abbrev dj(led:Bool):Obj:={cls:=.type "set",dict:=none,data:=.set #[] 0 (.fresh 0 0 led)}
section
variable{prog:Program}{w:World}{A:Around}{E:Value→Shared→Prop}{s:Shared}
abbrev cS(w:World):Bool:=!w.params.followText "set-order"
theorem yC{Q:Value→Shared→Prop}(h:Q (.ref s.heap.objs.size) {s with heap:=s.heap.push (dj (cS w))}):wpAny (model prog w) A (newSet (.type "set")) Q E s:=
 wpAny_bind (wpAny_bind (wpAny_askSetting (wpAny_pure (wpAny_bind (wpAny_alloc (wpAny_pure h))))))
theorem wf(x:Value){Q₁:Value→Shared→Prop}(h:Q₁ (.ref s.heap.objs.size) {s with heap:=s.heap.push (dj (cS w))}):codeAny (model prog w) A (.call (.builtin "set.__new__") ⟨[.type "set",x],[]⟩) (wants Q₁ E) s:=by
 have own:=sub_set_self
 refine codeAny_of_tree (wpAny_bind (wpAny_of_eq (PySem.F.newCall_set_1 x) (wpAny_pure ⟨plainId_quiet PySem.F.plain_set_new _,codeAny_builtin PySem.F.entry_set_new ?_⟩)))
 rw[Around.under_plainId PySem.F.plain_set_new _];unfold Builtin.«set.__new__» Builtin.Frozenset.newClass
 generalize hN:newSet=N
 wp_walk
 subst hN
 exact yC (wpAny_pure h)
def nH(w:World)(s:Shared)(ws:List Str)(s':Shared):Prop:=∃h' tk,s'={s with heap:=h',toks:=tk}∧(∃o,h'.get? s.heap.objs.size=some o∧TxSet w (cS w) ws o)∧∀b o,b<s.heap.objs.size→s.heap.get? b=some o→h'.get? b=some o
theorem yr(k:Str)(ws:List Str):(bA k ws).length≤ws.length+1:=by unfold bA;split <;> simp
theorem tw(us:List Str):∃ws:Nat→List Str,(∀i,ws (i+1)=bA (us.getD i ⟨#[]⟩) (ws i))∧(∀i,(ws i).length≤i)∧ws us.length=eA us∧ws 0=[]:=by
 let ws:Nat→List Str:=fun i=>Nat.rec [] (fun i r=>bA (us.getD i ⟨#[]⟩) r) i
 have hw:∀i,ws (i+1)=bA (us.getD i ⟨#[]⟩) (ws i):=fun i=>rfl
 refine⟨ws,hw,fun i=>?_,?_,rfl⟩
 ·induction i with
  | zero=>exact Nat.le_refl _
  | succ i ih=>rw[hw];exact Nat.le_trans (yr _ _) (Nat.succ_le_succ ih)
 ·have:∀j,j≤us.length→ws j=eA (us.take j):=fun j=>by
   induction j with
   | zero=>intro _;rfl
   | succ j ih=>intro q;rw[hw,ih (by lia),List.take_add_one,eA,eA,List.foldl_append,List.getElem?_eq_getElem (by lia)];simp[List.getD_eq_getElem?_getD,List.getElem?_eq_getElem (show j<us.length by lia)]
  rw[this _ (Nat.le_refl _),List.take_length]
theorem wO{l:Addr}{items:Array Value}{us:List Str}{Q:Value→Shared→Prop}(hh:A.handled=none)(hl:s.heap.IsList l items)(hu:∀(i:Nat) (v:Value),items[i]?=some v→∃t,v=.str (us.getD i ⟨#[]⟩) t)(hz:items.size=us.length)(few:us.length+1<scanBound)(h:∀s',nH w s (eA us) s'→Q (.ref s.heap.objs.size) s'):wpAny (model prog w) A (call (.type "set") [.ref l]) Q E s:=by
 obtain⟨ws,hw,hn,he,w0⟩:=tw us
 have cs:=PySem.F.called_set
 obtain⟨c,tl,hmro⟩:=cs.mro
 have hmade:=cs.made;have hsub:=cs.sub;have h1:=cs.notType;have h2:=cs.canCreate;have hct:=PySem.F.typeCall_set_1 (.ref l)
 refine wpAny_call (codeAny_of_tree ?_);show wpAny _ _ (callAny (.type "set") _) _ _ _
 refine wpAny_pure ⟨Code.quiet_builtin _ (by decide+kernel),codeAny_builtin PySem.F.entry_type_call ?_⟩
 rw[Around.under_plain (weight_type_call_type "set" [.ref l] []) rfl];repeat (any_goals (first | assumption | wp_step))
 generalize eL:cS w=led at*
 refine codeAny_mono (wf (.ref l) (E:=E) (Q₁:=fun obj s₁=>obj=.ref s.heap.objs.size∧s₁={s with heap:=s.heap.push (dj led)}) ⟨rfl,by rw[eL]⟩) fun r s₁ hr=>?_
 match r,hr with
 | .error e,hr=>exact hr
 | .ok (.ret obj),hr=>
   obtain⟨rfl,rfl⟩:=hr
   have hS:(s.heap.push (dj led)).get? s.heap.objs.size=some (dj led):=Heap.get?_push_size _ rfl
   have hT:Shared.TypeIs {s with heap:=s.heap.push (dj led)} (.ref s.heap.objs.size) "set":=⟨_,hS,rfl⟩
   have hli:=cs.init.lookup;have hbi:=cs.init.bind (.ref s.heap.objs.size);repeat (any_goals (first | assumption | wp_step))
   refine codeAny_mono (codeAny_call_builtin (R:=wants (fun r s₂=>r=.none∧nH w s (eA us) s₂) E) cs.init.plain PySem.F.entry_set_init (check_set_init_1 hT ?_)) fun r₂ s₂ hr₂=>?_
   ·obtain⟨⟨ocls,odict,odata,oslots⟩,hol,hcl,nl,hdl⟩:=hl
    simp only at hcl hdl
    subst hcl hdl
    have hol':(s.heap.push (dj led)).get? l=some {cls:=.type "list",dict:=odict,data:=.seq items nl,slots:=oslots}:=Heap.get?_push_of_some _ hol
    have hsls:=PySem.F.sub_list_set;have hslf:=PySem.F.sub_list_frozenset
    have notD:(Value.type "list" == Value.type "dict")=false:=by decide
    have hl1:(s.heap.push (dj led)).IsList l items:=⟨_,hol',rfl,nl,rfl⟩
    unfold Builtin.«set.__init__» noKeywords Builtin.Frozenset.updateFrom;generalize hPI:pyIter=PI;wp_walk;subst hPI
    refine wpAny_pyIter_list hl1 (wpAny_bind (wpAny_runValue ?_))
    have sz:(s.heap.push (dj led)).objs.size=s.heap.objs.size+1:=Heap.size_push _ _
    have old:l<s.heap.objs.size:=Heap.lt_size hol
    refine xI (led:=led) ((Walks.list (by simp[hh]) _ l (by rw[sz];exact Nat.ne_of_lt (Nat.lt_succ_of_lt old)) items).toS) (by rw[sz];exact fun z=>(List.mem_cons.mp z).elim (fun e=>absurd e (Nat.ne_of_lt (Nat.lt_succ_self _))) fun z=>absurd (List.mem_singleton.mp z) (Nat.ne_of_gt old)) (fun i=>us.getD i ⟨#[]⟩) hu (by lia) ws hw hn items.size 0 _ (by lia) ⟨⟨_,Heap.get?_push_size _ rfl,rfl,rfl⟩,hl1.push _⟩ ?_ ?_
    ·exact⟨_,Heap.get?_push_of_some _ hS,⟨rfl,rfl,rfl⟩,#[],0,_,rfl,fun e m=>(nomatch m),w0▸ .refl _,rfl,rfl,fun z=>absurd w0 z⟩
    ·intro s' hm hS'
     obtain⟨h',g',d',tk',os'⟩:=s';obtain rfl:g'=s.gens:=hm.gens;obtain rfl:d'=s.drawn:=hm.drawn;obtain rfl:os'=s.os:=hm.os
     refine wpAny_pure (show wpAny _ _ (ret Value.none) _ _ _ from wpAny_pure ⟨rfl,h',tk',rfl,by rw[hz,he] at hS';rw[eL];exact hS',fun b o hb e=>?_⟩)
     exact hm.heap b o (fun z=>(List.mem_cons.mp z).elim (fun e=>absurd e (Nat.ne_of_lt hb)) fun z=>absurd (List.mem_singleton.mp z) (by rw[sz];exact Nat.ne_of_lt (Nat.lt_succ_of_lt hb))) (Heap.get?_push_of_some _ (Heap.get?_push_of_some _ e))
   ·match r₂,hr₂ with
    | .error e,hr₂=>exact hr₂
    | .ok (.ret r),hr₂=>
      obtain⟨rfl,hq⟩:=hr₂
      have hq':=h _ hq;repeat (any_goals (first | assumption | wp_step))
end
section
variable{prog:Program}{w:World}{A:Around}{E:Value→Shared→Prop}{s:Shared}
theorem wg:entryFor table "set.__iter__"=some Builtin.«frozenset.__iter__»:=entryFor_alias (id':="frozenset.__iter__") (by rw[fastTable_eq_tree];kernel_rfl) (by first | rfl | decide+kernel) (by decide+kernel) (by rw[fastTable_eq_tree];kernel_rfl)
theorem slot_setItNext:Slot "set_iterator" "__next__" "set_iterator.__next__":=
 .of (n:="__next__") (owner:="set_iterator") (by rw[typeLookup_type,builtinLookup_eq_fast];kernel_rfl) (by decide+kernel) (by decide+kernel) (by decide+kernel) (by first | exact .inl (by decide+kernel) | exact .inr (by decide+kernel)) (by rw[isSubtype_type];kernel_rfl)
theorem gK:entryFor table "set_iterator.__next__"=some Builtin.«set_iterator.__next__»:=entryFor_of_tree (by kernel_rfl)
theorem gu(x:Value):argsOk "set_iterator.__next__" ⟨[x],[]⟩:=by
 unfold argsOk;rw[signature?_of (rows:=Manifest.sig_set_iterator) (id:="set_iterator.__next__") (n:=['_','_','t','x','e','n','_','_']) (o:="set_iterator".toList.reverse) (by kernel_rfl) (by kernel_rfl)];kernel_rfl
theorem rg:Slot "set_iterator" "__iter__" "set_iterator.__iter__":=
 .of (n:="__iter__") (owner:="set_iterator") (by rw[typeLookup_type,builtinLookup_eq_fast];kernel_rfl) (by decide+kernel) (by decide+kernel) (by decide+kernel) (by first | exact .inl (by decide+kernel) | exact .inr (by decide+kernel)) (by rw[isSubtype_type];kernel_rfl)
theorem yx:entryFor table "set_iterator.__iter__"=some Builtin.«dict_keyiterator.__iter__»:=entryFor_alias (id':="dict_keyiterator.__iter__") (by rw[fastTable_eq_tree];kernel_rfl) (by first | rfl | decide+kernel) (by decide+kernel) (by rw[fastTable_eq_tree];kernel_rfl)
theorem tY(x:Value):argsOk "set_iterator.__iter__" ⟨[x],[]⟩:=by
 unfold argsOk;rw[signature?_of (rows:=Manifest.sig_set_iterator) (id:="set_iterator.__iter__") (n:=['_','_','r','e','t','i','_','_']) (o:="set_iterator".toList.reverse) (by kernel_rfl) (by kernel_rfl)];kernel_rfl
def SIt(h:Heap)(it:Addr)(first:Value)(i:Nat)(a:Addr)(n ep:Nat):Prop:=∃o,h.get? it=some o∧o.cls=.type "set_iterator"∧o.data=.fields #[first,.int i 0,.ref a,.int n 0,.int ep 0]
theorem SIt.typeIs{it a:Addr}{first:Value}{i n ep:Nat}(h:SIt s.heap it first i a n ep):Shared.TypeIs s (.ref it) "set_iterator":=let ⟨o,h1,h2,_⟩:=h;⟨o,h1,h2⟩
theorem SIt.set{it a:Addr}{first x:Value}{i j n ep:Nat}{h:Heap}(hi:SIt h it first i a n ep):SIt (h.update it (Obj.mapFields (·.setIfInBounds 0 x))) it x i a n ep∧SIt (h.update it (Obj.mapFields (·.setIfInBounds 1 (rawInt (j:Nat))))) it first j a n ep:=by
 obtain⟨o,h1,h2,h3⟩:=hi
 refine⟨⟨_,Heap.get?_update_self _ h1 (Obj.isFreed_of_fields (Obj.data_mapFields h3 _)),(Obj.cls_mapFields ..).trans h2,?_⟩,⟨_,Heap.get?_update_self _ h1 (Obj.isFreed_of_fields (Obj.data_mapFields h3 _)),(Obj.cls_mapFields ..).trans h2,?_⟩⟩
 ·rw[Obj.data_mapFields h3];simp
 ·rw[Obj.data_mapFields h3];simp[rawInt]
theorem kG{it a:Addr}{first:Value}{i n ep:Nat}{Q:Value→Shared→Prop}(hi:SIt s.heap it first i a n ep)(q:Q (.ref it) s):wpAny (model prog w) A (pyIter (.ref it)) Q E s:=by
 refine wpAny_pyIter_slot hi.typeIs rg (wpAny_call_entry rg hi.typeIs yx ?_ (tY _))
 exact wpAny_bind (wpAny_pure (wpAny_pure ⟨_,rfl,"set_iterator",_,hi.typeIs,slot_setItNext.lookup,q⟩))
theorem pJ{α:Type}{m:Sem α}{Q:α→Shared→Prop}{v:α}(h:wpAny (model prog w) A m (fun r s'=>r=v∧s'=s) (fun _ _=>False) s)(k:Q v s):wpAny (model prog w) A m Q E s:=wpAny_mono h (fun r s' e=>by obtain⟨rfl,rfl⟩:=e;exact k) fun _ _ z=>z.elim
theorem pQ{α:Type}{Q:α→Shared→Prop}{E:Value→Shared→Prop}{s:Shared}(calm:A.handled=none)(q:∀(v:Value) (h':Heap),Shared.TypeIs {s with heap:=h'} v "StopIteration"→(∀b o,s.heap.get? b=some o→h'.get? b=some o)→E v {s with heap:=h'}):wpAny (model prog w) A (newExc (.type "StopIteration") [] >>= fun e=>(raiseNew e:Sem α)) Q E s:=by
 refine wpAny_bind ?_
 simp only[newExc,newTuple];refine wpAny_bind (wpAny_newObj_type ?_ (by size_fits))
 refine wpAny_bind (m:=firstArgMember _ _) (wpAny_of_eq (a:=Value.none) (by first | (simp only[firstArgMember];rfl) | rfl) ?_)
 refine wpAny_newObj_type ?_ (by size_fits);simp only[raiseNew]
 refine wpAny_bind (wpAny_handled ?_);rw[calm]
 exact wpAny_bind (wpAny_pure (wpAny_throw (q _ _ (by exact⟨_,Heap.get?_push_size _ rfl,rfl⟩) fun b o e=>Heap.get?_push_of_some _ (Heap.get?_push_of_some _ e))))
theorem oY{it a:Addr}{o:Obj}{es:Array (Int×Value)}{ep:Nat}{t:SetTable}{slot i n nx:Nat}{x:Value}{Q:Option Value→Shared→Prop}(hi:SIt s.heap it (.int slot 0) i a n ep)(ho:s.heap.get? a=some o)(hd:o.data=.set es ep t)(hf:t.fits es.size=true)(hn:es.size=n)(hN:wpAny (model prog w) A.in1 (setNext a slot i ep) (fun r s'=>r=some (x,nx)∧s'=s) (fun _ _=>False) s)(q:∀h',SIt h' it (.int nx 0) (i+1) a n ep→Heap.SameBut it s.heap h'→Q (some x) {s with heap:=h'}):wpAny (model prog w) A (pyNext (.ref it)) Q E s:=by
 obtain⟨io,i1,i2,i3⟩:=id hi
 unfold pyNext;refine wpAny_bind (wpAny_attempt (wpAny_callSpecial?_slot (name:=Str.ofString "__next__") hi.typeIs slot_setItNext (wpAny_call_entry slot_setItNext hi.typeIs gK ?_ (gu _))))
 refine wpAny_bind (wpAny_pure (wpAny_bind (wpAny_fieldsOf i1 i3 ?_)))
 show wpAny _ _ (setEntries a >>= _) _ _ _
 refine wpAny_bind (wpAny_setEntries_of ho hd hf ?_)
 rw[if_neg (by rw[hn];simp)]
 refine wpAny_bind (pJ hN ?_)
 show wpAny _ _ (setField (.ref it) 0 (rawInt nx) >>= _) _ _ _
 refine wpAny_bind (wpAny_setField i1 i3 (by simp) ?_)
 have S1:=(hi.set (x:=rawInt nx) (j:=0)).1
 have b1:=Heap.SameBut.update s.heap it (Obj.mapFields (·.setIfInBounds 0 (rawInt nx)))
 generalize s.heap.update it (Obj.mapFields (·.setIfInBounds 0 (rawInt nx)))=h1 at S1 b1 ⊢
 have S2:=(S1.set (x:=.none) (j:=i+1)).2
 obtain⟨o1,j1,j2,j3⟩:=S1
 show wpAny _ _ (setField (.ref it) 1 (rawInt ((i:Int)+1)) >>= _) _ _ _
 exact wpAny_bind (wpAny_setField j1 j3 (by simp) (wpAny_pure ⟨_,rfl,wpAny_pure (q _ S2 (b1.trans (Heap.SameBut.update ..)))⟩))
theorem qS{it a:Addr}{o:Obj}{es:Array (Int×Value)}{ep:Nat}{t:SetTable}{slot i n:Nat}{Q:Option Value→Shared→Prop}(calm:A.handled=none)(hi:SIt s.heap it (.int slot 0) i a n ep)(ho:s.heap.get? a=some o)(hd:o.data=.set es ep t)(hf:t.fits es.size=true)(hn:es.size=n)(hN:wpAny (model prog w) A.in1 (setNext a slot i ep) (fun r s'=>r=none∧s'=s) (fun _ _=>False) s)(q:∀h',Heap.ExtBut it s.heap h'→Q none {s with heap:=h'}):wpAny (model prog w) A (pyNext (.ref it)) Q E s:=by
 obtain⟨io,i1,i2,i3⟩:=id hi
 unfold pyNext;refine wpAny_bind (wpAny_attempt (wpAny_callSpecial?_slot (name:=Str.ofString "__next__") hi.typeIs slot_setItNext (wpAny_call_entry slot_setItNext hi.typeIs gK ?_ (gu _))))
 refine wpAny_bind (wpAny_pure (wpAny_bind (wpAny_fieldsOf i1 i3 ?_)))
 show wpAny _ _ (setEntries a >>= _) _ _ _
 refine wpAny_bind (wpAny_setEntries_of ho hd hf ?_)
 rw[if_neg (by rw[hn];simp)]
 refine wpAny_bind (pJ hN ?_)
 show wpAny _ _ (setField (.ref it) 2 .none >>= _) _ _ _
 refine wpAny_bind (wpAny_setField i1 i3 (by simp) (pQ calm fun v h' ty kp=>?_))
 exact wpAny_bind (wpAny_isInstance (T:="StopIteration") (b:=true) ty isSubtype_stop (wpAny_pure (q h' fun b o hb e=>kp b o ((Heap.SameBut.update ..).extBut b o hb e))))
theorem we{it a tp:Addr}{o ot:Obj}{es:Array (Int×Value)}{ps:Array Value}{ep np:Nat}{t:SetTable}{i n p:Nat}{hx:Int}{x:Value}{Q:Option Value→Shared→Prop}(hi:SIt s.heap it (.ref tp) i a n ep)(ho:s.heap.get? a=some o)(hd:o.data=.set es ep t)(hf:t.fits es.size=true)(hn:es.size=n)(ht:s.heap.get? tp=some ot)(hs:ot.data=.seq ps np)(hp:ps[i]?=some (rawInt (p:Nat)))(he:es[p]?=some (hx,x))(q:∀h',SIt h' it (.ref tp) (i+1) a n ep→Heap.SameBut it s.heap h'→Q (some x) {s with heap:=h'}):wpAny (model prog w) A (pyNext (.ref it)) Q E s:=by
 obtain⟨io,i1,i2,i3⟩:=id hi
 unfold pyNext;refine wpAny_bind (wpAny_attempt (wpAny_callSpecial?_slot (name:=Str.ofString "__next__") hi.typeIs slot_setItNext (wpAny_call_entry slot_setItNext hi.typeIs gK ?_ (gu _))))
 refine wpAny_bind (wpAny_pure (wpAny_bind (wpAny_fieldsOf i1 i3 ?_)))
 show wpAny _ _ (setEntries a >>= _) _ _ _
 refine wpAny_bind (wpAny_setEntries_of ho hd hf ?_)
 rw[if_neg (by rw[hn];simp)]
 show wpAny _ _ (seqItems? (.ref tp) >>= _) _ _ _
 refine wpAny_bind (wpAny_seqItems ht hs ?_)
 simp only[Int.toNat_natCast,hp,rawInt]
 refine wpAny_bind ?_
 unfold setNextDrawn
 refine wpAny_bind (wpAny_setState_of (hf:=hf) ho hd ?_)
 simp only[bne_self_eq_false,Bool.false_eq_true,if_false,he]
 refine wpAny_pure ?_
 have S2:=(hi.set (x:=.none) (j:=i+1)).2
 show wpAny _ _ (setField (.ref it) 1 (rawInt ((i:Int)+1)) >>= _) _ _ _
 exact wpAny_bind (wpAny_setField i1 i3 (by simp) (wpAny_pure ⟨_,rfl,wpAny_pure (q _ S2 (Heap.SameBut.update ..))⟩))
theorem uW{it a tp:Addr}{o ot:Obj}{es:Array (Int×Value)}{ps:Array Value}{ep np:Nat}{t:SetTable}{i n:Nat}{Q:Option Value→Shared→Prop}(calm:A.handled=none)(hi:SIt s.heap it (.ref tp) i a n ep)(ho:s.heap.get? a=some o)(hd:o.data=.set es ep t)(hf:t.fits es.size=true)(hn:es.size=n)(ht:s.heap.get? tp=some ot)(hs:ot.data=.seq ps np)(hp:ps[i]?=none)(q:∀h',Heap.ExtBut it s.heap h'→Q none {s with heap:=h'}):wpAny (model prog w) A (pyNext (.ref it)) Q E s:=by
 obtain⟨io,i1,i2,i3⟩:=id hi
 unfold pyNext;refine wpAny_bind (wpAny_attempt (wpAny_callSpecial?_slot (name:=Str.ofString "__next__") hi.typeIs slot_setItNext (wpAny_call_entry slot_setItNext hi.typeIs gK ?_ (gu _))))
 refine wpAny_bind (wpAny_pure (wpAny_bind (wpAny_fieldsOf i1 i3 ?_)))
 show wpAny _ _ (setEntries a >>= _) _ _ _
 refine wpAny_bind (wpAny_setEntries_of ho hd hf ?_)
 rw[if_neg (by rw[hn];simp)]
 show wpAny _ _ (seqItems? (.ref tp) >>= _) _ _ _
 refine wpAny_bind (wpAny_seqItems ht hs ?_)
 simp only[Int.toNat_natCast,hp]
 show wpAny _ _ (setField (.ref it) 0 (rawInt 0) >>= _) _ _ _
 refine wpAny_bind (wpAny_setField i1 i3 (by simp) ?_)
 have S1:=(hi.set (x:=rawInt 0) (j:=0)).1
 have b1:=Heap.SameBut.update s.heap it (Obj.mapFields (·.setIfInBounds 0 (rawInt 0)))
 generalize s.heap.update it (Obj.mapFields (·.setIfInBounds 0 (rawInt 0)))=h1 at S1 b1 ⊢
 obtain⟨o1,j1,j2,j3⟩:=S1
 show wpAny _ _ (setField (.ref it) 2 .none >>= _) _ _ _
 refine wpAny_bind (wpAny_setField j1 j3 (by simp) (pQ calm fun v h' ty kp=>?_))
 exact wpAny_bind (wpAny_isInstance (T:="StopIteration") (b:=true) ty isSubtype_stop (wpAny_pure (q h' fun b o hb e=>kp b o ((Heap.SameBut.update ..).extBut b o hb (b1.extBut b o hb e)))))
end
theorem mX{α:Type}(f:Nat→Nat):∀(fuel k:Nat) (left:List α) (out:Array α),left.length≤fuel→(pickOrder.go f fuel k left out).toList.Perm (out.toList++left)
 | 0,k,left,out,h=>by
   obtain rfl:left=[]:=List.length_eq_zero_iff.mp (by lia)
   simp[pickOrder.go]
 | fuel+1,k,[],out,h=>by simp[pickOrder.go]
 | fuel+1,k,x::xs,out,h=>by
   have lt:f k % (x::xs).length<(x::xs).length:=Nat.mod_lt _ (by simp)
   unfold pickOrder.go
   rw[List.getElem?_eq_getElem lt]
   refine(mX f fuel (k+1) _ _ (by rw[List.length_eraseIdx_of_lt lt];simp only[List.length_cons] at h ⊢;lia)).trans ?_
   rw[Array.toList_push,List.append_assoc]
   exact(qN lt).append_left _
theorem ve{α:Type}(f:Nat→Nat)(xs:Array α):(pickOrder f xs).toList.Perm xs.toList:=by
 have:=mX f xs.size 0 xs.toList #[] (by simp)
 simpa [pickOrder] using this
section
variable{prog:Program}{w:World}{A:Around}{E:Value→Shared→Prop}{s:Shared}
theorem iT{Q:Bool→Shared→Prop}(h:Q (w.params.followText "set-order") s):wpAny (model prog w) A setsByText Q E s:=wpAny_bind (wpAny_askSetting (wpAny_pure h))
theorem nL{a:Addr}{o:Obj}{es:Array (Int×Value)}{ep:Nat}{t:SetTable}{slot i:Nat}{Q:Option (Value×Nat)→Shared→Prop}(hb:w.params.followText "set-order"=true)(ho:s.heap.get? a=some o)(hd:o.data=.set es ep t)(hf:t.fits es.size=true)(q:Q (((pickOrder (w.params.setOrder a ep) es)[i]?).map fun e=>(e.2,slot)) s):wpAny (model prog w) A (setNext a slot i ep) Q E s:=by
 unfold setNext
 refine wpAny_bind (wpAny_setState_of ho hd hf (wpAny_bind (iT ?_)))
 simp only[hb,if_true,bne_self_eq_false,Bool.false_eq_true,if_false]
 refine wpAny_bind ?_
 unfold setWalk
 refine wpAny_bind (wpAny_setState_of ho hd hf (wpAny_bind (iT ?_)))
 simp only[hb,if_true]
 exact wpAny_bind (wpAny_askSetting (wpAny_pure (wpAny_pure q)))
theorem tf(p j:Nat):SetTable.below #[p] j=if p<j then 1 else 0:=by
 by_cases h:p<j <;> simp[SetTable.below,SetTable.below.go,h]
theorem lP{a:Addr}{o:Obj}{e:Int×Value}{ep:Nat}{t:SetTable}{p slot i:Nat}{Q:Option (Value×Nat)→Shared→Prop}(hb:w.params.followText "set-order"=false)(hl:t.led=true)(hp:t.place=#[p])(ho:s.heap.get? a=some o)(hd:o.data=.set #[e] ep t)(hf:t.fits 1=true)(q:Q (if p<slot then none else some (e.2,p+1)) s):wpAny (model prog w) A (setNext a slot i ep) Q E s:=by
 unfold setNext
 refine wpAny_bind (wpAny_setState_of ho hd hf (wpAny_bind (iT ?_)))
 simp only[hb,if_false,Bool.false_eq_true]
 rw[if_neg (by show¬(!t.plain && decide ((#[e]:Array (Int×Value)).size>1))=true;simp)]
 refine wpAny_bind (j6 ?_ fun _=>?_)
 ·show wpAny _ _ (if(!t.led && !(#[e]:Array (Int×Value)).isEmpty)=true then _ else _) _ _ _
  rw[hl];exact wpAny_pure rfl
 ·rw[hp,tf]
  refine wpAny_pure ?_
  by_cases z:p<slot <;> simpa [z] using q
end
section
variable{prog:Program}{w:World}{A:Around}{E:Value→Shared→Prop}{s:Shared}
def dH(ys:List Str)(i:Nat)(v:Value):Prop:=∃t,∃h:i<ys.length,v=.str ys[i] t
theorem jZ{it:Addr}{h h':Heap}(sb:Heap.SameBut it h h'):∀b o,b∉ [it]→h.get? b=some o→h'.get? b=some o:=fun b o hb e=>(sb.2 b fun z=>hb (z▸List.mem_singleton_self _)).trans e
theorem jp{it:Addr}{h h':Heap}(sb:Heap.ExtBut it h h'):∀b o,b∉ [it]→h.get? b=some o→h'.get? b=some o:=fun b o hb e=>sb b o (fun z=>hb (z▸List.mem_singleton_self _)) e
theorem kA{it a:Addr}{first:Value}{i n ep:Nat}{h h':Heap}(x:SIt h it first i a n ep)(k:∀o,h.get? it=some o→h'.get? it=some o):SIt h' it first i a n ep:=let ⟨o,h1,h2,h3⟩:=x;⟨o,k o h1,h2,h3⟩
theorem mE{es:Array (Int×Value)}(hT:∀e∈es.toList,cV w e){p:Nat}(hp:p<es.size):∃t,es[p].2=.str (bK es[p].2) t:=by
 obtain⟨k,t,e⟩:=hT es[p] (by rw[←Array.getElem_toList];exact List.getElem_mem _)
 exact⟨t,by rw[e];rfl⟩
theorem rP{a it:Addr}{o:Obj}{es:Array (Int×Value)}{ep:Nat}{t:SetTable}(calm:A.handled=none)(hne:it≠a)(hb:w.params.followText "set-order"=true)(hd:o.data=.set es ep t)(hf:t.fits es.size=true)(hT:∀e∈es.toList,cV w e):∃ys:List Str,ys.Perm (es.toList.map fun e=>bK e.2)∧Walks prog w A it [it,a] [it] es.size (dH ys) (fun i h=>SIt h it (.int 0 0) i a es.size ep∧h.get? a=some o):=by
 have pm:=ve (w.params.setOrder a ep) es
 have sz:(pickOrder (w.params.setOrder a ep) es).size=es.size:=by simpa using pm.length_eq
 refine⟨(pickOrder (w.params.setOrder a ep) es).toList.map fun e=>bK e.2,pm.map _,fun b hb=>by simp at hb;simp[hb],fun i h h' x k=>⟨kA x.1 fun o e=>k it (by simp) o e,k a (by simp) o x.2⟩,fun i s Q E hi x q=>?_,fun s Q E x q=>?_,fun i s Q E x q=>kG x.1 q⟩
 ·have hi':i<(pickOrder (w.params.setOrder a ep) es).size:=by lia
  obtain⟨tg,ev⟩:=mE (w:=w) (es:=pickOrder (w.params.setOrder a ep) es) (fun e m=>hT e (pm.mem_iff.mp m)) hi'
  refine oY (slot:=0) (nx:=0) (x:=((pickOrder (w.params.setOrder a ep) es)[i]).2) x.1 x.2 hd hf rfl (nL hb x.2 hd hf ⟨by rw[Array.getElem?_eq_getElem hi'];rfl,rfl⟩) fun h' S sb=>?_
  exact q _ h' s.toks ⟨tg,by simpa using hi',by simpa using ev⟩ ⟨S,(sb.2 a hne.symm).trans x.2⟩ (jZ sb)
 ·exact qS (slot:=0) calm x.1 x.2 hd hf rfl (nL hb x.2 hd hf ⟨by rw[Array.getElem?_eq_none (by lia)];rfl,rfl⟩) fun h' sb=>q h' s.toks (jp sb)
theorem rX{a it tp:Addr}{o ot:Obj}{es:Array (Int×Value)}{ep np:Nat}{t:SetTable}{ps:List Nat}(calm:A.handled=none)(hne:it≠a)(hnt:it≠tp)(hd:o.data=.set es ep t)(hf:t.fits es.size=true)(hT:∀e∈es.toList,cV w e)(ht:ot.data=.seq (ps.map fun i:Nat=>rawInt i).toArray np)(pp:ps.Perm (List.range es.size)):
 ∃ys:List Str,ys.Perm (es.toList.map fun e=>bK e.2)∧Walks prog w A it [it,a,tp] [it] es.size (dH ys) (fun i h=>SIt h it (.ref tp) i a es.size ep∧h.get? a=some o∧h.get? tp=some ot):=by
 have sz:ps.length=es.size:=by simpa using pp.length_eq
 have inb:∀p∈ps,p<es.size:=fun p m=>List.mem_range.mp (pp.mem_iff.mp m)
 refine⟨ps.map fun p=>bK (es.getD p (0,.none)).2,?_,fun b hb=>by simp at hb;simp[hb],fun i h h' x k=>⟨kA x.1 fun o e=>k it (by simp) o e,k a (by simp) o x.2.1,k tp (by simp) ot x.2.2⟩,fun i s Q E hi x q=>?_,fun s Q E x q=>?_,fun i s Q E x q=>kG x.1 q⟩
 ·refine(pp.map _).trans (List.Perm.of_eq (List.ext_getElem (by simp) fun i h1 h2=>?_))
  have:i<es.size:=by simpa using h1
  simp[Array.getD,this]
 ·have hi':i<ps.length:=by lia
  have hp:=inb ps[i] (List.getElem_mem _)
  obtain⟨tg,ev⟩:=mE hT hp
  refine we (p:=ps[i]) (hx:=es[ps[i]].1) (x:=es[ps[i]].2) x.1 x.2.1 hd hf rfl x.2.2 ht (by simp[hi']) (by rw[Array.getElem?_eq_getElem hp]) fun h' S sb=>?_
  refine q _ h' s.toks ⟨tg,by simpa using hi',?_⟩ ⟨S,(sb.2 a hne.symm).trans x.2.1,(sb.2 tp hnt.symm).trans x.2.2⟩ (jZ sb)
  rw[List.getElem_map,Array.getD,dif_pos hp]
  exact ev
 ·exact uW calm x.1 x.2.1 hd hf rfl x.2.2 ht (by simp;lia) fun h' sb=>q h' s.toks (jp sb)
theorem xf{a it:Addr}{o:Obj}{e:Int×Value}{ep p:Nat}{t:SetTable}(calm:A.handled=none)(hne:it≠a)(hb:w.params.followText "set-order"=false)(hl:t.led=true)(hp:t.place=#[p])(hd:o.data=.set #[e] ep t)(hf:t.fits 1=true)(hT:cV w e):Walks prog w A it [it,a] [it] 1 (dH [bK e.2]) (fun i h=>SIt h it (.int (if i=0 then 0 else p+1:Nat) 0) i a 1 ep∧h.get? a=some o):=by
 refine⟨fun b hb=>by simp at hb;simp[hb],fun i h h' x k=>⟨kA x.1 fun o e=>k it (by simp) o e,k a (by simp) o x.2⟩,fun i s Q E hi x q=>?_,fun s Q E x q=>?_,fun i s Q E x q=>kG x.1 q⟩
 ·obtain rfl:i=0:=by lia
  obtain⟨k,tg,rfl⟩:=hT
  refine oY (slot:=0) (nx:=p+1) (x:=.str k tg) x.1 x.2 hd hf rfl (lP hb hl hp x.2 hd hf ⟨by simp,rfl⟩) fun h' S sb=>?_
  exact q _ h' s.toks ⟨tg,by simp,rfl⟩ ⟨S,(sb.2 a hne.symm).trans x.2⟩ (jZ sb)
 ·exact qS (slot:=p+1) calm x.1 x.2 hd hf rfl (lP hb hl hp x.2 hd hf ⟨by simp,rfl⟩) fun h' sb=>q h' s.toks (jp sb)
end
section
variable{prog:Program}{w:World}{A:Around}{E:Value→Shared→Prop}{s:Shared}
theorem ui{A':Around}{a:Addr}{o:Obj}{ws:List Str}{Q:Value→Shared→Prop}(calm:A'.handled=none)(ho:s.heap.get? a=some o)(hS:TxSet w (cS w) ws o)(hw:ws≠ [])(few:ws.length≤sizeLine)(q:∀(h':Heap) (dr:Drawn) (it:Addr) (ys:List Str) (fp:List Addr) (St:Nat→Heap→Prop),(∀b u,s.heap.get? b=some u→h'.get? b=some u)→s.heap.objs.size≤it→(∀b∈fp,b=a∨s.heap.objs.size≤b)→ys.Perm ws→Walks prog w A' it fp [it] ws.length (dH ys) St→St 0 h'→Q (.ref it) {s with heap:=h',drawn:=dr}):wpAny (model prog w) A (pyIter (.ref a)) Q E s:=by
 obtain⟨ex,es,ep,t,hd,hT,hP,hf,hl,hp⟩:=hS
 have hTy:Shared.TypeIs s (.ref a) "set":=⟨o,ho,ex.1⟩
 have len:es.size=ws.length:=by simpa using hP.length_eq
 have old:=Heap.lt_size ho
 rw[←len] at q
 refine wpAny_pyIter_slot hTy PySem.F.slot_set_iter (wpAny_call_entry PySem.F.slot_set_iter hTy wg ?_ (PySem.F.args_set_iter_1 _))
 unfold Builtin.«frozenset.__iter__»
 refine wpAny_bind (wpAny_bind (wpAny_pure (wpAny_pure (wpAny_bind (wpAny_bind (wpAny_setEntries_of ho hd hf (wpAny_pure (wpAny_bind ?_))))))))
 unfold setDrawn
 refine wpAny_bind (wpAny_setState_of ho hd hf (wpAny_bind (iT (wpAny_pure ?_))))
 show wpAny _ _ (if(!w.params.followText "set-order" && (!t.plain && decide (es.size>1)))=true then _ else _) _ _ _
 rw[hp hw]
 have last:∀(h:Heap) (dr:Drawn) (first:Value),(∀b u,s.heap.get? b=some u→h.get? b=some u)→(∀h',(∀b u,h.get? b=some u→h'.get? b=some u)→SIt h' h.objs.size first 0 a es.size ep→h'.get? a=some o→Q (.ref h.objs.size) {s with heap:=h',drawn:=dr})→
  wpAny (model prog w) A.in1 (setEpoch a >>= fun e=>newFields "set_iterator" [first,rawInt 0,.ref a,rawInt es.size,rawInt e] >>= fun v=>ret v) (fun fin s'=>∃v,fin=Fin.done (Flow.ret v)∧∃T' r,s'.TypeIs v T'∧typeLookup (Value.type T') (Str.ofString "__next__")=pure (some r)∧Q v s') E {s with heap:=h,drawn:=dr}:=fun h dr first k z=>
  wpAny_bind (wpAny_setEpoch_of (s:={s with heap:=h,drawn:=dr}) (k a o ho) hd hf (wpAny_bind (wpAny_newObj_type (wpAny_pure ⟨_,rfl,"set_iterator",_,⟨_,Heap.get?_push_size _ rfl,rfl⟩,slot_setItNext.lookup,z _ (fun b u e=>Heap.get?_push_of_some _ e) ⟨_,Heap.get?_push_size _ rfl,rfl,rfl⟩ (Heap.get?_push_of_some _ (k a o ho))⟩))))
 have s0:s={s with heap:=s.heap,drawn:=s.drawn}:=by cases s;rfl
 by_cases hb:w.params.followText "set-order"=true
 ·rw[hb]
  simp only[Bool.not_true,Bool.false_and,Bool.false_eq_true,if_false]
  refine wpAny_bind (wpAny_pure ?_);have:=last s.heap s.drawn (rawInt 0) (fun _ _ e=>e) fun h' k S ha=>by
   obtain⟨ys,py,W⟩:=rP (prog:=prog) (A:=A') (it:=s.heap.objs.size) calm (Nat.ne_of_gt old) hb hd hf hT
   exact q h' s.drawn _ ys _ _ k (Nat.le_refl _) (fun b m=>by simp at m;rcases m with rfl | rfl;exact .inr (Nat.le_refl _);exact .inl rfl) (py.trans hP) W ⟨S,ha⟩
  rw[s0];exact this
 ·have hb:w.params.followText "set-order"=false:=by simpa using hb
  rw[hb]
  by_cases two:es.size>1
  ·rw[decide_eq_true two]
   simp only[Bool.not_false,Bool.true_and,if_true]
   refine wpAny_bind (oB _ _ s _ (by simp) fun ps dr pp=>wpAny_bind (wpAny_newTuple ?_ (by have:=pp.length_eq;simp at this ⊢;lia)))
   refine last _ dr (.ref s.heap.objs.size) (fun b u e=>Heap.get?_push_of_some _ e) fun h' k S ha=>?_
   have sz:(s.heap.push {cls:=.type "tuple",data:=.seq (ps.map fun i:Nat=>rawInt i).toArray}).objs.size=s.heap.objs.size+1:=Heap.size_push _ _
   have tt:=k s.heap.objs.size _ (Heap.get?_push_size _ rfl)
   rw[sz] at S ⊢
   obtain⟨ys,py,W⟩:=rX (prog:=prog) (A:=A') (it:=s.heap.objs.size+1) (tp:=s.heap.objs.size) (ot:={cls:=.type "tuple",data:=.seq (ps.map fun i:Nat=>rawInt i).toArray}) calm (Nat.ne_of_gt (Nat.lt_succ_of_lt old)) (Nat.succ_ne_self _) hd hf hT rfl pp
   exact q h' dr _ ys _ _ (fun b u e=>k b u (Heap.get?_push_of_some _ e)) (Nat.le_succ _) (fun b m=>by simp at m;rcases m with rfl | rfl | rfl;exact .inr (Nat.le_succ _);exact .inl rfl;exact .inr (Nat.le_refl _)) (py.trans hP) W ⟨S,ha,tt⟩
  ·rw[decide_eq_false two]
   simp only[Bool.not_false,Bool.and_false,Bool.false_eq_true,if_false]
   refine wpAny_bind (wpAny_pure ?_);have one:es.size=1:=by
    have:ws.length≠0:=fun z=>hw (List.length_eq_zero_iff.mp z)
    lia
   obtain⟨e,rfl⟩:∃e,es=#[e]:=Array.size_eq_one_iff.mp one
   obtain⟨p,ep'⟩:∃p,t.place=#[p]:=Array.size_eq_one_iff.mp (by unfold SetTable.fits at hf;simp at hf;exact hf.1)
   have W:=xf (prog:=prog) (A:=A') (it:=s.heap.objs.size) calm (Nat.ne_of_gt old) hb (by rw[hl,cS,hb];rfl) ep' hd hf (hT e (by simp))
   have:=last s.heap s.drawn (rawInt 0) (fun _ _ e=>e) fun h' k S ha=>by
    exact q h' s.drawn _ _ _ _ k (Nat.le_refl _) (fun b m=>by simp at m;rcases m with rfl | rfl;exact .inr (Nat.le_refl _);exact .inl rfl) hP W ⟨S,ha⟩
   rw[s0];exact this
theorem yv{r:Addr}{Q:Bool→Shared→Prop}(hT:s.TypeIs (.ref r) "set")(h:Q false s):wpAny (model prog w) A (Builtin.List.listLengthHint (.ref r)) Q E s:=by
 have sp:splitId "set.__len__"=some ("set","__len__"):=by decide+kernel
 unfold Builtin.List.listLengthHint;refine wpAny_bind (wpAny_specialOf hT PySem.F.slot_set_len.lookup ?_)
 generalize hid:("set.__len__":String)=id0 at sp
 wp_delta
 rw[sp]
 subst hid
 refine wpAny_bind (wpAny_isInstance (T:="set") (b:=true) hT sub_set_self ?_)
 refine wpAny_ite_split (fun z=>absurd z (by decide)) fun _=>wpAny_ite_split (fun _=>wpAny_bind (wpAny_typeOf hT (wpAny_pure h))) fun z=>absurd (by decide+kernel) z
theorem vE{R:Result→Shared→Prop}{a l:Addr}{o:Obj}{ws:List Str}{c:Nat}(res:Value)(calm:A.handled=none)(ho:s.heap.get? a=some o)(hS:TxSet w (cS w) ws o)(hw:ws≠ [])(few:ws.length≤sizeLine)(hla:l≠a)(hl:s.heap.get? l=some {cls:=.type "list",data:=.seq #[] c})(q:∀(h':Heap) (dr:Drawn) (tk:Nat) (ys:List Str) (acc:Array Value) (c':Nat),(∀b u,b≠l→s.heap.get? b=some u→h'.get? b=some u)→h'.get? l=some {cls:=.type "list",data:=.seq acc c'}→ys.Perm ws→ItemsOf (dH ys) acc ws.length→R (.ok (.ret res)) {s with heap:=h',drawn:=dr,toks:=tk}):wpAny (model prog w) A.in1 (Builtin.List.listExtendWith (.ref l) (.ref a) res) (fun fin s'=>match fin with | .done f=>R (.ok f) s' | .again c'=>c'.quiet=true∧codeAny (model prog w) A c' R s') (fun e s'=>R (.error e) s') s:=by
 have hT:s.TypeIs (.ref a) "set":=⟨o,ho,hS.ex.1⟩
 unfold Builtin.List.listExtendWith;refine wpAny_bind (wpAny_typeOf hT ?_)
 rw[if_neg (by simp[Builtin.List.listSameRef,hla])]
 refine wpAny_bind (ui (A':=A.in1) calm ho hS hw few fun h1 dr it ys fp St k1 hit hfp py W st=>?_)
 have lf:l∉fp:=fun m=>(hfp l m).elim hla fun z=>absurd (Heap.lt_size hl) (Nat.not_lt.mpr z)
 refine wpAny_bind (wpAny_holding (yv ⟨o,k1 a o ho,hS.ex.1⟩ ?_))
 have g1:=k1 l _ hl
 have go:∀(h2:Heap) (c2:Nat),(∀b u,b≠l→h1.get? b=some u→h2.get? b=some u)→h2.get? l=some {cls:=.type "list",data:=.seq #[] c2}→codeAny (model prog w) A (.builtin "list.extend.loop" ⟨[.ref l,.ref it,res],[]⟩) R {s with heap:=h2,drawn:=dr}:=fun h2 c2 k2 g2=>by
  refine codeAny_extend_loopS W.toS few l lf res ws.length 0 {s with heap:=h2,drawn:=dr} #[] c2 rfl (Nat.zero_le _) (W.frame 0 h1 h2 st fun b m u e=>k2 b u (fun z=>lf (z▸m)) e) g2 (ItemsOf.nil _) fun s' acc c' hm hS' hacc=>?_
  rw[Moved.eq_with hm]
  refine q s'.heap dr s'.toks ys acc c' (fun b u hb e=>hm.heap b u (fun m=>?_) (k2 b u hb (k1 b u e))) hS' py hacc
  rcases List.mem_cons.mp m with z | m
  ·exact hb z
  ·exact absurd (Heap.lt_size e) (by rw[List.mem_singleton.mp m];exact Nat.not_lt.mpr hit)
 refine wpAny_ite_split (fun _=>wpAny_bind (wpAny_rule (wpAny_bind ?_))) fun _=>wpAny_pure ⟨plainId_quiet PySem.F.plain_extend_loop _,go h1 c (fun _ _ _ e=>e) g1⟩
 refine wpAny_bind (m:=updateSeq l (·.push .none)) (f:=fun _=>updateSeq l (·.pop)) (wpAny_updateSeq g1 rfl ?_)
 have g2:=Heap.get?_update_self (Obj.mapSeq (·.push Value.none)) g1 rfl
 refine wpAny_updateSeq (hz:=by seq_fits) g2 rfl (wpAny_pure ⟨plainId_quiet PySem.F.plain_extend_loop _,go _ _ (fun b u hb e=>?_) (Heap.get?_update_self (Obj.mapSeq (·.pop)) g2 rfl)⟩)
 rw[Heap.get?_update_other _ _ (Ne.symm hb),Heap.get?_update_other _ _ (Ne.symm hb)]
 exact e
end
section
variable{prog:Program}{w:World}{A:Around}{E:Value→Shared→Prop}{s:Shared}
theorem yi{a:Addr}{o:Obj}{ws:List Str}{R:List Value→Shared→Prop}(calm:A.handled=none)(ho:s.heap.get? a=some o)(hS:TxSet w (cS w) ws o)(hw:ws≠ [])(few:ws.length≤sizeLine)(q:∀(h':Heap) (dr:Drawn) (tk:Nat) (ys:List Str) (acc:Array Value),(∀b u,s.heap.get? b=some u→h'.get? b=some u)→ys.Perm ws→ItemsOf (dH ys) acc ws.length→R acc.toList {s with heap:=h',drawn:=dr,toks:=tk}):wpAny (model prog w) A (collect (.ref a)) R E s:=by
 have old:=Heap.lt_size ho
 refine wpAny_bind (wpAny_runValue (codeAny_builtin entry_proto_collect' (?_:wpAny _ (A.under _) _ _ _ s)));rw[Around.under_plainId PySem.F.plain_proto_collect _]
 refine wpAny_bind (m:=newList []) (f:=fun l=>again (.builtin "list.__iadd__" ⟨[l,.ref a],[]⟩)) (wpAny_newObj_type (wpAny_pure ⟨plainId_quiet PySem.F.plain_list_iadd _,codeAny_builtin entry_list_iadd' ?_⟩))
 rw[Around.under_plainId PySem.F.plain_list_iadd _];have hl:(s.heap.push {cls:=.type "list",data:=.seq ([]:List Value).toArray}).get? s.heap.objs.size=some {cls:=.type "list",data:=.seq #[]}:=Heap.get?_push_size _ rfl
 show wpAny _ A.in1 (Builtin.List.listExtendWith (.ref s.heap.objs.size) (.ref a) (.ref s.heap.objs.size)) _ _ _
 have go:=vE (prog:=prog) (A:=A) (R:=fun(r:Result) (s':Shared)=>∃(h':Heap) (dr:Drawn) (tk:Nat) (ys:List Str) (acc:Array Value) (c':Nat),r=.ok (.ret (.ref s.heap.objs.size))∧s'={s with heap:=h',drawn:=dr,toks:=tk}∧(∀b u,s.heap.get? b=some u→h'.get? b=some u)∧h'.get? s.heap.objs.size=some {cls:=.type "list",data:=.seq acc c'}∧ys.Perm ws∧ItemsOf (dH ys) acc ws.length)
  (s:={s with heap:=s.heap.push {cls:=.type "list",data:=.seq ([]:List Value).toArray}}) (.ref s.heap.objs.size) calm (Heap.get?_push_of_some _ ho) hS hw few (Nat.ne_of_gt old) hl
  fun h' dr tk ys acc c' k g py it=>⟨h',dr,tk,ys,acc,c',rfl,rfl,fun b u e=>k b u (Nat.ne_of_lt (Heap.lt_size e)) (Heap.get?_push_of_some _ e),g,py,it⟩
 have out:∀{r:Result} {s':Shared},(∃(h':Heap) (dr:Drawn) (tk:Nat) (ys:List Str) (acc:Array Value) (c':Nat),r=.ok (.ret (.ref s.heap.objs.size))∧s'={s with heap:=h',drawn:=dr,toks:=tk}∧(∀b u,s.heap.get? b=some u→h'.get? b=some u)∧h'.get? s.heap.objs.size=some {cls:=.type "list",data:=.seq acc c'}∧ys.Perm ws∧ItemsOf (dH ys) acc ws.length)→r=.ok (.ret (.ref s.heap.objs.size))∧wpAny (model prog w) A (match (Value.ref s.heap.objs.size) with | .ref a=>(load a >>= fun o=>match o.data with | .seq xs _=>pure xs.toList | _=>unsupported "internal:collect") | _=>unsupported "internal:collect") R E s':=by
  rintro r s' ⟨h',dr,tk,ys,acc,c',rfl,rfl,k,g,py,it⟩
  exact⟨rfl,wpAny_bind (wpAny_load g (wpAny_pure (q h' dr tk ys acc k py it)))⟩
 refine wpAny_mono go (fun fin s' x=>?_) fun e s' x=>?_
 ·cases fin with
  | done f=>
    obtain⟨e,y⟩:=out x
    cases e
    exact y
  | again c₁=>
    refine⟨x.1,codeAny_mono x.2 fun r s₂ y=>?_⟩
    obtain⟨e,z⟩:=out y
    subst e
    exact z
 ·have:=(out x).1
  cases this
end
def yN(vs:List Value):Prop:=∀v∈vs,∃x t,v=.str x t
theorem jB{α β:Type}{f:α→Sem β}{g:α→β}:∀{l:List α},(∀x∈l,f x=pure (g x))→l.mapM f=pure (l.map g)
 | [],_=>by simp
 | x::l,h=>by rw[List.mapM_cons,h x (by simp),jB (l:=l) fun y m=>h y (by simp[m])];simp
theorem yI{v:Value}{vs:List Value}(h:yN (v::vs)):keyKind' (v::vs).toArray=pure oneType':=by
 have e1:(v::vs).mapM firstOfTuple'=pure ((v::vs).map fun _=>none):=jB fun x m=>by obtain⟨y,t,rfl⟩:=h x m;rfl
 have e2:(v::vs).mapM typeOf=pure ((v::vs).map fun _=>Value.type "str"):=jB fun x m=>by obtain⟨y,t,rfl⟩:=h x m;rfl
 have a:((v::vs).map fun _=>Value.type "str").toArray.all (fun x=>x == Value.type "str")=true:=by simp
 have n:(((v::vs).map fun _=>(none:Option Value)).toArray.all fun x=>x.isSome)=false:=by simp
 have z:((v::vs).map fun _=>Value.type "str").toArray[0]?=some (Value.type "str"):=by simp
 rw[keyKind'_eq,oneTypeOnly'_eq,List.mapM_toArray,List.mapM_toArray,e1,e2]
 simp only[map_pure,pure_bind,n,z,a,Bool.false_eq_true,if_false,if_true,Option.isSome_some]
 simp
def d6(k:Keyed):Int:=match k.1 with | .str x _=>((x.cps.toList.headD 0:Nat):Int) | _=>0
section
variable{prog:Program}{w:World}{A:Around}{E:Value→Shared→Prop}{s:Shared}
theorem vC{c d:Nat}{t u:Tok}{Q:Bool→Shared→Prop}(h:Q (decide ((c:Int)<(d:Int))) s):wpAny (model prog w) A (oneLt' true (.str (aw c) t) (.str (aw d) u)) Q E s:=by
 have e:decide ((aw c).cps.toList<(aw d).cps.toList)=decide ((c:Int)<(d:Int)):=decide_eq_decide.mpr (by show [c] < [d]↔_;rw[List.cons_lt_cons_iff];simp)
 rw[oneLt'_eq,if_pos rfl]
 refine wpAny_bind (wpAny_cRoomFor_byValue rfl (wpAny_bind (wpAny_callSpecialIfBound?_slot (typeIs_str s _ t) PySem.F.slot_str_lt (wpAny_call_entry PySem.F.slot_str_lt (typeIs_str s _ t) PySem.F.entry_str_lt ?_ (PySem.F.args_str_lt_2 _ _)))))
 show wpAny _ _ (ret (.bool (decide ((aw c).cps.toList<(aw d).cps.toList)))) _ _ s
 rw[e]
 exact wpAny_pure ⟨_,rfl,wpAny_truthy_bool h⟩
theorem uz{a₀:Array Keyed}(h0:∀x∈a₀,∃c t,x.1=.str (aw c) t):cJ kL d6 prog w A E s a₀ oneType':=by
 intro x y hx hy st Q hk q
 obtain⟨a,t,ex⟩:=h0 x hx
 obtain⟨b,u,ey⟩:=h0 y hy
 obtain⟨x1,x2⟩:=x
 obtain⟨y1,y2⟩:=y
 dsimp only at ex ey
 subst ex ey
 rw[lt'_eq]
 refine wpS_bind (wpS_get ?_)
 rw[hk,keyLt'_oneType]
 exact wpS_bind (wpS_lift (wpAny_attempt (vC ⟨rfl,wpS_pure q⟩)))
def jC(vs:List Value):Prop:=∀v∈vs,∃c t,v=.str (aw c) t
def eQ(v:Value):Nat:=(bK v).cps.toList.headD 0
theorem nc{k:Keyed}(h:k.1=k.2)(hs:∃c t,k.2=.str (aw c) t):d6 k=((eQ k.2:Nat):Int):=by
 obtain⟨c,t,e⟩:=hs
 unfold d6 eQ
 rw[h,e]
 rfl
theorem sh{a:Addr}{vs:List Value}{n:Nat}{P:Fin→Shared→Prop}(ho:s.heap.get? a=some (seqObj "list" vs.toArray n))(hI:jC vs)(hle:vs.length≤1000)(h:∀ws:List Value,ws.Perm vs→(ws.map eQ).Pairwise (·≤ ·)→P (.done (.ret .none)) {s with heap:=sortedHeap s.heap a vs ws.toArray}):wpAny (model prog w) A (Builtin.«list.sort» ⟨[.ref a],[]⟩) P E s:=by
 have big:vs.length≤sizeLine:=Nat.le_trans hle (by decide)
 generalize hh:s.heap.update a (Obj.mapSeq fun _=>#[])=h0
 have g0:∃e0,h0.get? a=some (seqObj "list" #[] e0):=⟨_,hh▸get?_update_seq ho (fun _=>#[])⟩
 obtain⟨e0,g0⟩:=g0
 have g2:((h0.push (seqObj "tuple" vs.toArray 0)).push (seqObj "list" #[] 0)).get? a=some (seqObj "list" #[] e0):=Heap.get?_push_of_some _ (Heap.get?_push_of_some _ g0)
 rw[list_sort_plain]
 refine wpAny_bind (listItems_at ho rfl (wpAny_bind (listUpdate_at ho rfl ?_)))
 simp only[hh]
 refine wpAny_bind (seqEpoch_at g0 rfl (wpAny_bind (wpAny_newTuple (wpAny_bind (wpAny_newList (wpAny_holding (?_:wpAny (model prog w) A _ P E {s with heap:=(h0.push (seqObj "tuple" vs.toArray 0)).push (seqObj "list" #[] 0)})))))))
 have lay:∀ws:List Value,P (.done (.ret .none)) {s with heap:=sortedHeap s.heap a vs ws.toArray}→P (.done (.ret .none)) {s with heap:=((h0.push (seqObj "tuple" vs.toArray 0)).push (seqObj "list" #[] 0)).update a (Obj.mapSeq fun _=>ws.toArray)}:=fun ws x=>by
  rw[←hh];exact x
 have fin:∀z:SortSt,(arrOf z).Perm (pairsOf vs)→Rise kL d6 (arrOf z) 0 (pairsOf vs).size→((arrOf z).map (·.2)).size≤sizeLine∧P (.done (.ret .none)) {s with heap:=((h0.push (seqObj "tuple" vs.toArray 0)).push (seqObj "list" #[] 0)).update a (Obj.mapSeq fun _=>(arrOf z).map (·.2))}:=fun z pm R=>by
  have sz:(arrOf z).size=vs.length:=by rw[pm.size_eq,pairsOf_size]
  have both:∀k∈(arrOf z).toList,k.1=k.2∧∃c t,k.2=.str (aw c) t:=fun k hk=>by
   have hk':=(Array.perm_iff_toList_perm.mp pm).mem_iff.mp hk
   rw[pairsOf_toList] at hk'
   have m2:=(List.of_mem_zip hk').2
   obtain⟨i,hi⟩:=List.mem_iff_getElem?.mp hk'
   rw[List.getElem?_zip_eq_some] at hi
   exact⟨Option.some.inj (hi.1.symm.trans hi.2),hI _ m2⟩
  have rise:(((arrOf z).map (·.2)).toList.map eQ).Pairwise (·≤ ·):=by
   rw[Array.toList_map,List.map_map]
   refine List.pairwise_map.mpr (List.pairwise_iff_getElem.mpr fun i j h1 h3 h4=>?_)
   rw[Array.length_toList] at h1 h3
   have r:=R i j (Nat.zero_le _) (Nat.le_of_lt h4) (by rw[pairsOf_size,←sz];exact h3)
   rw[be (aQ h1),be (aQ h3)] at r
   have b1:=both (arrOf z)[i] (by rw[←Array.getElem_toList];exact List.getElem_mem _)
   have b2:=both (arrOf z)[j] (by rw[←Array.getElem_toList];exact List.getElem_mem _)
   have r':decide (d6 (arrOf z)[j]<d6 (arrOf z)[i])=false:=r
   rw[nc b1.1 b1.2,nc b2.1 b2.2] at r'
   have:=of_decide_eq_false r'
   simp only[Function.comp,Array.getElem_toList]
   lia
  have p2:=(Array.perm_iff_toList_perm.mp pm).map (·.2)
  rw[←Array.toList_map,←Array.toList_map,ud] at p2
  exact⟨by rw[←Array.length_toList,p2.length_eq];exact big,lay _ (h _ p2 rise)⟩
 by_cases few:vs.toArray.size<2
 ·simp only[if_pos few]
  obtain⟨f1,f2⟩:=fin (SortSt.mk' general' (vs.toArray.zip vs.toArray) #[] 7 none) (Array.Perm.refl _) (fun i j h1 h2 h3=>by
   have:i=j:=by rw[pairsOf_size] at h3;rw[List.size_toArray] at few;lia
   rw[this];exact Ordr.le_refl _)
  refine wpAny_bind (wpAny_pure (wpAny_bind (wpAny_pure (wpAny_bind (seqEpoch_at g2 rfl (wpAny_bind (listUpdate_at g2 rfl ?_ (hsz2:=Nat.le_succ_of_le f1))))))))
  exact wpAny_ite_split (fun z=>absurd z (by simp)) fun _=>wpAny_pure f2
 ·simp only[if_neg few]
  obtain⟨v,aq,rfl⟩:∃v aq,vs=v::aq:=by
   cases vs with
   | nil=>exact absurd (by decide) few
   | cons v aq=>exact⟨v,aq,rfl⟩
  have sgk:∀x∈pairsOf (v::aq),∃c t,x.1=.str (aw c) t:=fun x m=>by
   have m':=Array.mem_toList_iff.mpr m
   rw[pairsOf_toList] at m'
   exact hI x.1 (List.of_mem_zip m').1
  rw[yI fun x m=>by obtain⟨c,t,e⟩:=hI x m;exact⟨_,t,e⟩]
  refine wpAny_bind (wpAny_pure (wpAny_bind (wpAny_mono (lO (uz sgk) (kd:=oneType') (st:=SortSt.mk' oneType' ((v::aq).toArray.zip (v::aq).toArray) #[] 7 none) (Q:=fun _ z=>(arrOf z).Perm (pairsOf (v::aq))∧failedOf z=none∧Rise kL d6 (arrOf z) 0 (pairsOf (v::aq)).size) ⟨Array.Perm.refl _,rfl,rfl⟩ rfl (by rw[pairsOf_size];simp) fun z B R=>⟨B.perm,B.failed,R⟩) ?_ fun _ _ e=>e)))
  rintro⟨⟨⟩,z⟩ s' ⟨rfl,pm,hf,R⟩
  obtain⟨f1,f2⟩:=fin z pm R
  refine wpAny_bind (seqEpoch_at g2 rfl (wpAny_bind (listUpdate_at g2 rfl ?_ (hsz2:=Nat.le_succ_of_le f1))))
  rw[hf]
  exact wpAny_ite_split (fun z=>absurd z (by simp)) fun _=>wpAny_pure f2
end
def cg(c:Nat)(ls:List Nat):List Nat:=if c∈ls then ls else ls++[c]
def dW(u:List Nat):List Nat:=u.foldl (fun ls c=>cg c ls) []
theorem x5{c d:Nat}(h:aw c=aw d):c=d:=by
 have:=congrArg (fun z:Str=>z.cps) h
 simpa using this
theorem tJ(c:Nat)(ls:List Nat):(cg c ls).map aw=bA (aw c) (ls.map aw):=by
 unfold cg bA
 by_cases h:c∈ls
 ·rw[if_pos h,if_pos (List.mem_map.mpr ⟨c,h,rfl⟩)]
 ·rw[if_neg h,if_neg fun z=>by obtain⟨d,m,e⟩:=List.mem_map.mp z;exact h (x5 e▸m),List.map_append];rfl
theorem tU(u:List Nat):(dW u).map aw=eA (u.map aw):=by
 have:∀(u ls:List Nat),(u.foldl (fun ls c=>cg c ls) ls).map aw=(u.map aw).foldl (fun ws k=>bA k ws) (ls.map aw):=by
  intro u
  induction u with
  | nil=>intro ls;rfl
  | cons c u ih=>intro ls;rw[List.foldl_cons,ih,List.map_cons,List.foldl_cons,tJ]
 exact this u []
theorem vd(u:List Nat):(dW u).Nodup∧(∀c,c∈dW u↔c∈u)∧(dW u).length≤u.length:=by
 have:∀(u ls:List Nat),ls.Nodup→(u.foldl (fun ls c=>cg c ls) ls).Nodup∧(∀c,c∈u.foldl (fun ls c=>cg c ls) ls↔c∈ls∨c∈u)∧(u.foldl (fun ls c=>cg c ls) ls).length≤ls.length+u.length:=by
  intro u
  induction u with
  | nil=>intro ls h;exact⟨h,fun c=>by simp,Nat.le_refl _⟩
  | cons d u ih=>
    intro ls h
    have n:(cg d ls).Nodup∧(∀c,c∈cg d ls↔c∈ls∨c=d)∧(cg d ls).length≤ls.length+1:=by
     unfold cg
     by_cases z:d∈ls
     ·rw[if_pos z];exact⟨h,fun c=>⟨.inl,fun y=>y.elim id fun e=>e▸z⟩,Nat.le_succ _⟩
     ·rw[if_neg z];exact⟨List.nodup_append.mpr ⟨h,by simp,fun a m b q e=>z (by simp at q;rw[←q,←e];exact m)⟩,fun c=>by simp,by simp⟩
    obtain⟨i1,i2,i3⟩:=ih (cg d ls) n.1
    refine⟨i1,fun c=>?_,?_⟩
    ·rw[List.foldl_cons,i2,n.2.1,List.mem_cons,or_assoc]
    ·rw[List.foldl_cons];have:=n.2.2;simp only[List.length_cons];lia
 have t:=this u [] .nil
 exact⟨t.1,fun c=>(t.2.1 c).trans (by simp),Nat.le_trans t.2.2 (by simp)⟩
def iB(w:World)(a:Addr)(ls:List Nat):HO:=.ext fun h=>∃o,h.get? a=some o∧TxSet w (cS w) (ls.map aw) o
theorem mI:∀{ws:List Value},jC ws→Vals ((ws.map eQ).map sg) ws
 | [],_=>.nil
 | v::ws,h=>by
   obtain⟨c,t,rfl⟩:=h v (by simp)
   exact .cons ⟨t,rfl⟩ (mI fun x m=>h x (by simp[m]))
theorem rA:bootBuiltins "set"=some (.type "set"):=by decide+kernel
section
variable{prog:Program}{w:World}{A:Around}{E:Value→Shared→Prop}{s:Shared}
theorem vi{a:Addr}{o:Obj}{ls:List Nat}{Q:Value→Shared→Prop}(calm:A.handled=none)(ho:s.heap.get? a=some o)(hS:TxSet w (cS w) (ls.map aw) o)(hw:ls≠ [])(few:ls.length≤1000)(h:∀(h1 h':Heap) (dr:Drawn) (tk:Nat) (ms:List Nat) (vs:List Value) (c:Nat),(∀b u,s.heap.get? b=some u→h1.get? b=some u)→(∀b u,h1.get? b=some u→h'.get? b=some u)→ms.Perm ls→ms.Pairwise (·≤ ·)→Vals (ms.map sg) vs→h'.get? h1.objs.size=some (seqObj "list" vs.toArray c)→Q (.ref h1.objs.size) {s with heap:=h',drawn:=dr,toks:=tk}):wpAny (model prog w) A (call (.builtin "sorted") [.ref a]) Q E s:=by
 have f2:(ls.map aw).length≤sizeLine:=by rw[List.length_map];exact Nat.le_trans few (by decide)
 refine Calls.call_function_entry kind_sorted plain_sorted entry_sorted (args_sorted1 _) ?_
 unfold Builtin.«sorted»
 refine wpAny_bind (m:=checkCount "sorted" 1 1 _) (wpAny_pure ?_)
 refine wpAny_bind (yi (A:=A.in1) calm ho hS (by simpa using hw) f2 fun h1 dr tk ys acc keep py hacc=>?_)
 have hlen:acc.toList.length=ls.length:=by rw[Array.length_toList,hacc.1,List.length_map]
 have yl:ys.length=ls.length:=by simpa using py.length_eq
 have ay:acc.toList.map bK=ys:=by
  refine List.ext_getElem (by rw[List.length_map];lia) fun i h1 h2=>?_
  have hi:i<acc.size:=by simpa using h1
  obtain⟨t,q1,q2⟩:=hacc.2 i acc[i] (Array.getElem?_eq_getElem hi)
  rw[List.getElem_map,Array.getElem_toList,q2];rfl
 have hI:jC acc.toList:=fun v m=>by
  obtain⟨i,hi⟩:=List.mem_iff_getElem?.mp m
  obtain⟨t,q1,q2⟩:=hacc.2 i v (by rw[←Array.getElem?_toList];exact hi)
  obtain⟨c,_,e⟩:=List.mem_map.mp (py.mem_iff.mp (List.getElem_mem q1))
  exact⟨c,t,by rw[q2,e]⟩
 refine wpAny_bind (wpAny_newList ?_ (by rw[hlen];exact Nat.le_trans few (by decide)))
 have hoL:(h1.push (seqObj "list" acc.toList.toArray 0)).get? h1.objs.size=some (seqObj "list" acc.toList.toArray 0):=Heap.get?_push_size _ rfl
 refine wpAny_bind (wpAny_holding (wpAny_call_entry slot_list_sort ⟨_,hoL,rfl⟩ entry_list_sort (sh hoL hI (by lia) fun vs pv rv=>⟨_,rfl,?_⟩) (args_list_sort _)))
 refine wpAny_pure ⟨_,rfl,?_⟩;obtain⟨c1,o1⟩:∃c1,((h1.push (seqObj "list" acc.toList.toArray 0)).update h1.objs.size (Obj.mapSeq fun _=>#[])).get? h1.objs.size=some (seqObj "list" #[] c1):=⟨_,get?_update_seq hoL (fun _=>#[])⟩
 have o2:=Heap.get?_push_of_some (seqObj "list" #[] 0) (Heap.get?_push_of_some (seqObj "tuple" acc.toList.toArray 0) o1)
 refine h h1 _ dr tk (vs.map eQ) vs _ keep (fun b u e1=>?_) ?_ rv (mI fun v m=>hI v (pv.mem_iff.mp m)) (get?_update_seq o2 (fun _=>vs.toArray))
 ·have nb:h1.objs.size≠b:=(Nat.ne_of_lt (Heap.lt_size e1)).symm
  show(sortedHeap _ _ _ _).get? b=some u
  unfold sortedHeap
  rw[Heap.get?_update_other _ _ nb]
  refine Heap.get?_push_of_some _ (Heap.get?_push_of_some _ ?_)
  rw[Heap.get?_update_other _ _ nb]
  exact Heap.get?_push_of_some _ e1
 ·have p1:(vs.map bK).Perm (ls.map aw):=((pv.map bK).trans (List.Perm.of_eq ay)).trans py
  have p2:=p1.map fun z:Str=>z.cps.toList.headD 0
  rw[List.map_map,List.map_map] at p2
  exact p2.trans (List.Perm.of_eq ((List.map_congr_left fun _ _=>rfl).trans (List.map_id ls)))
end
theorem Inv.drawnTo{X:Cx}{pins:List (Addr×Obj)}{σ:St}{H:Hp}{s:Shared}{d:Drawn}(I:Inv X pins σ H s):Inv X pins σ H {s with drawn:=d}:=⟨I.ok,I.os,I.bare,I.base,I.loc,I.cell,I.free,I.freeC,I.pin,I.hok,I.len⟩
section
variable{X:Cx}{e:Expr}{te:TE}{p pos:Pos}
def lW(w:World):V→Hp→VK→Prop:=fun x H1 Q=>∃(l:Addr) (u:List Nat),x=.ref l∧H1 l=some (.lst (u.map sg))∧u.length≤1000∧∀a,H1 a=none→Q (.ref a) (upd H1 a (iB w a (dW u)))
def tI(w:World)(te:TE):TE:=fun σ H Q=>te σ H fun x H1=>lW w x H1 Q
theorem uO(hc:X.calm=true)(hm:X.mg "set"=none)(ha:PE X e te)(hg:Gl X "set":=by rfl)(he:starEach [e] X.env=[(false,eval e X.env)]:=by rfl):PE X (.Call (.Name "set" p) [e] [] pos) (tI X.w te):=
 fP (r:=r1 (lW X.w))
  (cR fun pins s σ H x us Q I rv ⟨l,u,ex,hl,hn,q⟩=>by
   subst ex
   obtain⟨v,rfl,ru⟩:=rv.one
   cases ru
   obtain⟨z,its,n,r,hle,e1⟩:=I.lstM hl
   have rl:=r.length
   refine wO (us:=u.map aw) (items:=its.toArray) (by first | exact I.ok.hd hc | (show X.A.in1.handled=none;exact I.ok.hd hc)) ⟨_,e1,rfl,n,rfl⟩ (fun i v hi=>?_) (by simpa using rl.symm) (by rw[List.length_map];unfold scanBound;lia) fun s' ⟨h',tk,es,⟨o,g,S⟩,keep⟩=>?_
   ·have hi':its[i]?=some v:=by simpa using hi
    have lt:i<u.length:=by have:=(List.getElem?_eq_some_iff.mp hi').1;simp only[List.length_map] at rl;lia
    obtain⟨y,ey,t,e⟩:=fQ (i:=i) (x:=sg u[i]) r (by simp[lt])
    rw[ey] at hi'
    obtain rfl:=Option.some.inj hi'
    exact⟨t,by rw[e,List.getD_eq_getElem?_getD,List.getElem?_map,List.getElem?_eq_getElem lt];rfl⟩
   ·subst es
    have fr:H s.heap.objs.size=none:=I.fresh
    have k:∀b o,s.heap.get? b=some o→h'.get? b=some o:=fun b o e=>keep b o (Heap.lt_size e) e
    rw[←tU] at S
    exact⟨.ref s.heap.objs.size,_,I.laid (a:=s.heap.objs.size) (o:=iB X.w s.heap.objs.size (dW u)) (t':=tk) k (Nat.le_refl _) ⟨⟨o,g,S⟩,⟨o,g⟩,fun h1 h2 ⟨o,g,S⟩ kk=>⟨o,kk o g,S⟩⟩,rfl,q _ fr⟩)
  hg hm rA (aa ha ac (by exact he)) (he:=by exact he)
def oH(w:World):V→Hp→VK→Prop:=fun x H1 Q=>∃(a:Addr) (ls:List Nat),x=.ref a∧H1 a=some (iB w a ls)∧ls≠ []∧ls.length≤1000∧∀(r:Addr) (ms:List Nat),ms.Perm ls∧ms.Pairwise (·≤ ·)→H1 r=none→Q (.ref r) (upd H1 r (.lst (ms.map sg)))
def uf(w:World)(te:TE):TE:=fun σ H Q=>te σ H fun x H1=>oH w x H1 Q
theorem vt(hc:X.calm=true)(hm:X.mg "sorted"=none)(ha:PE X e te)(hg:Gl X "sorted":=by rfl)(he:starEach [e] X.env=[(false,eval e X.env)]:=by rfl):PE X (.Call (.Name "sorted" p) [e] [] pos) (uf X.w te):=
 cL (r:=r1 (oH X.w))
  (cR fun pins s σ H x us Q I rv ⟨a,ls,ex,hH,hw,hn,q⟩=>by
   subst ex
   obtain⟨v,rfl,ru⟩:=rv.one
   cases ru
   obtain⟨⟨o,g,S⟩,_⟩:=I.hok a _ hH
   refine vi (by first | exact I.ok.hd hc | (show X.A.in1.handled=none;exact I.ok.hd hc)) g S hw hn fun h1 h' dr tk ms vs c k1 k2 pm ri rv at2=>?_
   have I1:Inv X pins σ H {s with heap:=h1,drawn:=dr,toks:=tk}:=(I.kept (h':=h1) (t':=tk) k1).drawnTo
   exact⟨.ref h1.objs.size,_,I1.laid (a:=h1.objs.size) (o:=.lst (ms.map sg)) (t':=tk) k2 (Nat.le_refl _) ⟨by rw[List.length_map,pm.length_eq];exact Nat.le_trans hn (by decide),vs,c,rv,at2⟩,rfl,q _ ms ⟨pm,ri⟩ (I1.hok.fresh (Nat.le_refl _))⟩)
  hg hm qd (aa ha ac (by exact he)) (he:=by exact he)
end
theorem uu{K:PySem.W.Frag}{a:Addr}{xs:List V}{k:Nat}{g:TG}{tc:TT}{te:TE}{σ:St}{H1:Hp}{Q:Hp→Prop}{D:Addr}(Pv:Nat→List V→Hp→Prop)(hn:xs.length<sizeLine)(h0:Pv 0 [] (upd H1 D (.lst [])))(hl:∀i ys H,Pv i ys H→ys.length≤i)(hq:∀i ys H,i≤xs.length→Pv i ys H→SqL K H a xs)(hs:∀i x ys H,xs[i]?=some x→Pv i ys H→g x (σ++List.replicate k none) H fun σ2 H2=>(∀j,j<σ.length→σ2[j]?=σ[j]?)∧tc σ2 H2 fun ok H3=>if ok=true then te σ2 H3 fun v H4=>H4 D=some (.lst ys)∧Pv (i+1) (ys++[v]) (upd H4 D (.lst (ys++[v]))) else Pv (i+1) ys H3)
 (hd:∀ys H,Pv xs.length ys H→Q H):
 ∃ W:Nat→Nat→List V→Hp→Prop,(∃m,W 0 m [] (upd H1 D (.lst [])))∧
   ∀ i m ys H,W i m ys H→((ce K a).stop i H∧Q H)∨((ce K a).go i H∧ys.length<sizeLine∧∃N:List V→Hp→Prop,(∀ys' H',N ys' H'→∃m',m'<m∧W (i+1) m' ys' H')∧∀x H',(ce K a).yld i H x H'→g x (σ++List.replicate k none) H' fun σ2 H2=>(∀j,j<σ.length→σ2[j]?=σ[j]?)∧tc σ2 H2 fun ok H3=>
     if ok=true then te σ2 H3 fun v H4=>H4 D=some (.lst ys)∧N (ys++[v]) (upd H4 D (.lst (ys++[v]))) else N ys H3):=by
 refine⟨fun i m ys H=>m=xs.length-i∧i≤xs.length∧Pv i ys H,⟨xs.length,by simp,Nat.zero_le _,h0⟩,?_⟩
 rintro i m ys H ⟨rfl,hi,p⟩
 have q:=hq i ys H hi p
 by_cases hlt:i<xs.length
 ·refine .inr ⟨⟨xs,xs[i],q,by simp[hlt]⟩,Nat.lt_of_le_of_lt (hl i ys H p) (Nat.lt_trans hlt hn),Pv (i+1),fun ys' H' p'=>⟨xs.length-(i+1),by lia,rfl,hlt,p'⟩,fun x H' y=>?_⟩
  obtain⟨e,y⟩:=y
  subst e
  exact hs i x ys _ (y xs q) p
 ·have e:i=xs.length:=by lia
  subst e
  exact .inl ⟨⟨xs,q,Nat.le_refl _⟩,hd ys H p⟩
section
variable{P:Program}{w:World}{K:PySem.W.Frag}{mg:Str→Option Value}{base:Heap}{x:Str}{k k1 k2:Nat}{ps:List Str}{sp sp1 sp2 sp':Sp}
theorem Fn.toX{CX:bB}(F:Fn P w K mg base ai x k ps sp):Fn P w K mg base CX x k ps sp:=by
 obtain⟨f,fd,F,h⟩:=F.ex
 refine⟨f,fd,⟨F.len,fun A outer s H args us vs Q E hr he hb hv hs=>codeAny_mono (F.run A outer s H args us vs Q E hr he hb hv hs) fun r s' hq=>?_⟩,h⟩
 match r,hq with
 | .ok (.ret _),hq=>exact hq
theorem Fn.or{CX:bB}(F1:Fn P w K mg base CX x k1 ps sp1)(F2:Fn P w K mg base CX x k2 ps sp2)(h1:k1≤k:=by decide)(h2:k2≤k:=by decide):Fn P w K mg base CX x k ps (fun vs H Q E=>sp1 vs H Q E∨sp2 vs H Q E):=by
 obtain⟨f,fd,F1,a1,a2,a3,oc,od,osl,l1⟩:=F1.ex
 obtain⟨f',fd',F2,b1,_,_,_,_,_,l2⟩:=F2.ex
 have e:=a1.symm.trans b1
 cases e
 have e:=l1.symm.trans l2
 cases e
 refine⟨f,fd,⟨fun vs H Q E h=>h.elim (F1.len vs H Q E) (F2.len vs H Q E),fun A outer s H args us vs Q E hr he hb hv hs=>?_⟩,a1,a2,a3,oc,od,osl,l1⟩
 rcases hs with hs | hs
 ·exact F1.run A outer s H args us vs Q E (hr.mono h1) he hb hv hs
 ·exact F2.run A outer s H args us vs Q E (hr.mono h2) he hb hv hs
end
section
variable{X:Cx}{e e1 e2:Expr}{te te1 te2:TE}{p pos:Pos}
end
def jK(n:Nat):It:=⟨fun i _=>i<n,fun i H x H'=>H'=H∧x=.int (((n:Int)-1)-i),fun i _=>n≤i⟩
theorem vP{P:Program}{w:World}{K:PySem.W.Frag}{tg:Expr}(it:Addr)(n:Nat):Turn P w K tg (jK n) [it] it (fun i h=>IsRangeIter h it (((n:Int)-1)+(i:Nat)*(-1)) ((n:Int)-(i:Nat)) (-1)) where
 mem:=by simp
 obj:=fun i h st b hb=>by
  have e:b=it:=by simpa using hb
  subst e
  refine⟨_,st,fun v z=>?_⟩
  have z':Data.fields _=Data.cell v:=z
  cases z'
 keep:=fun i h h' st k=>k it (by simp) _ st
 item:=by
  intro X hP hw hK hc i pins s σ H E I hf st hg
  subst hP hw hK
  obtain⟨f0,f1,f2,f3,f4,f5⟩:=hf it (by simp)
  refine(Walks.range (prog:=X.prog) (w:=X.w) (I.ok.hd hc) it ((n:Int)-1) (-1) n).item i s _ _ hg st fun v h' tk hv st' kk=>?_
  obtain⟨t,rfl⟩:=hv
  have I1:Inv X pins σ H {s with heap:=h',toks:=tk}:=I.turned (fun b o hb e=>kk b o (by simpa using hb) e) f0 f1 f3 f4 f5
  refine⟨_,rfl,fA (s:={s with heap:=h',toks:=tk}) (n:="range_iterator") st' rfl rfl (by decide) ⟨.int (((n:Int)-1)-i),H,I1,⟨t,?_⟩,⟨rfl,rfl⟩,st',fun b hb=>(hf b hb).1⟩⟩
  congr 1
  lia
 done:=by
  intro X hP hw hK hc i pins s σ H E I hf st hg
  subst hP hw hK
  obtain⟨f0,f1,f2,f3,f4,f5⟩:=hf it (by simp)
  exact wpAny_pyNext_range_end (I.ok.hd hc) st (by have:n≤i:=hg;lia) fun h' eb=>⟨rfl,I.turned (t':=s.toks) (fun b o hb e=>eb b o hb e) f0 f1 f3 f4 f5⟩
 self:=fun _ _ _ _ _ st h=>wpAny_pyIter_rangeiter st h
section
variable{X:Cx}{tg a b c:Expr}{ta:TA}{p pos:Pos}
theorem oq(n:Nat):Builtin.Range.rangeSize ((n:Int)-1) (-1) (-1)=(n:Int):=by
 unfold Builtin.Range.rangeSize
 rw[if_neg (by lia)]
 split
 ·have e:(-(-1:Int))=1:=by lia
  rw[e,Int.ediv_one];lia
 ·lia
def uI(ta:TA):TI:=fun σ H R=>ta σ H fun vs H1=>∃n:Nat,vs=[.int ((n:Int)-1),.int (-1),.int (-1)]∧n≤100000∧R (jK n) H1
theorem uK{n:Nat}(h:n≤100000):Builtin.Range.small ((n:Int)-1) (-1) (-1)=true:=by
 unfold Builtin.Range.small
 rw[oq,if_neg (by lia)]
 have f:∀z:Int, -1000≤z→z≤100000→Builtin.Range.rangeFitsLong z=true:=fun z h1 h2=>by
  simp only[Builtin.Range.rangeFitsLong,Bool.and_eq_true,decide_eq_true_eq]
  lia
 rw[f _ (by lia) (by lia),f _ (by lia) (by lia),f _ (by lia) (by lia),f _ (by lia) (by lia),Bool.or_true]
 rfl
theorem ww(hmr:X.mg "range"=none)(ha:PA X [a,b,c] ta)(hgr:Gl X "range":=by rfl)
 (hs:starEach [a,b,c] X.env=(false,eval a X.env)::starEach [b,c] X.env:=by rfl)(hs2:(backTo pos (starEach [b,c] X.env)).any (·.1)=false:=by rfl):
 PI X tg (.Call (.Name "range" p) [a,b,c] [] pos) (uI ta):=by
 intro pins s σ H R I h
 refine Call_ (dO I hgr hmr boot_range (PyProof.Rows.callWith_type1 (ak (ha pos pins s σ H _ I h) fun us s1 ⟨vs,H1,I1,r1,q1⟩=>?_) hs hs2))
 obtain⟨n,e,hn,q⟩:=q1
 subst e
 cases r1 with
 | cons r rr=>
   cases rr with
   | cons r' rr=>
     cases rr with
     | cons r'' rr=>
       cases rr
       obtain⟨t,rfl⟩:=r
       obtain⟨t',rfl⟩:=r'
       obtain⟨t'',rfl⟩:=r''
       refine call_range_3 (by lia) ?_ (Or.inl (PyProof.noPylong_small (by lia)))
       refine wpAny_pyIter_range (IsRange.new ..) (uK hn) ?_
       generalize eo:({cls:=.type "range",data:=.fields #[.int ((n:Int)-1) t,.int (-1) t',.int (-1) t'']}:Obj)=o
       have I2:Inv X pins σ H1 {s1 with heap:=s1.heap.push o,toks:=s1.toks}:=I1.kept fun b o e=>Heap.get?_push_of_some _ e
       refine⟨_,[(s1.heap.push o).objs.size],_,_,H1,rfl,I2.kept (t':=s1.toks) fun b o e=>Heap.get?_push_of_some _ e,vP _ n,?_,fun b hb=>?_,q⟩
       ·have e1:((n:Int)-1)+((0:Nat):Int)*(-1)=(n:Int)-1:=by lia
        have e2:(n:Int)-((0:Nat):Int)=Builtin.Range.rangeSize ((n:Int)-1) (-1) (-1):=by rw[oq];lia
        rw[e1,e2]
        exact Heap.get?_push_size _ (rfl:_=_)
       ·have e:b=(s1.heap.push o).objs.size:=by simpa using hb
        subst e
        exact I2.fpOk (Nat.le_refl _) (I2.hok.fresh (Nat.le_refl _))
end
theorem vO{n:Nat}{g:TG}{tb:TS}{D:Ends}{σ:St}{H:Hp}(Pv:Nat→St→Hp→Prop)(h0:Pv 0 σ H)(hs:∀(D2:Ends) i σ H,(∀σ' H',Pv (i+1) σ' H'→D2.nx σ' H')→i<n→Pv i σ H→g (.int (((n:Int)-1)-i)) σ H fun σ2 H2=>tb D2 σ2 H2)(hd:∀σ H,Pv n σ H→D.nx σ H):FW (jK n) g tb D σ H:=by
 refine⟨fun i m σ H=>m=n-i∧i≤n∧Pv i σ H,⟨n,by simp,Nat.zero_le _,h0⟩,?_⟩
 rintro i m σ H ⟨rfl,hi,p⟩
 by_cases hlt:i<n
 ·refine .inr ⟨hlt,fun σ' H'=>∃m',m'<n-i∧m'=n-(i+1)∧i+1≤n∧Pv (i+1) σ' H',fun σ' H' h=>h,fun x H' y=>?_⟩
  obtain⟨e,ex⟩:=y
  subst e ex
  exact hs _ i σ _ (fun σ' H' h=>⟨n-(i+1),by lia,rfl,hlt,h⟩) hlt p
 ·have e:i=n:=by lia
  subst e
  exact .inl ⟨Nat.le_refl _,hd σ H p⟩
end L2
namespace Ov
open PySem L2
theorem fsc_{N p:List Str}{sc:Scope}(a:sc.kind=.function:=by rfl)(b:sc.isCoroutine=false:=by rfl)(c:sc.isGenerator=false:=by rfl)(d:N.Nodup:=by decide+kernel)(e:N.take p.length=p:=by rfl)(f:∀x∈p,sc.names.lookup x=some .local∨sc.names.lookup x=some .cell:=by decide+kernel)(g:∀y∈sc.names,y.2≠.free:=by decide+kernel):FnScope N p sc:=⟨a,b,c,d,e,f,g⟩
def aS(i:Nat):Stmt:=PySem.Challenge.pw_overlaid_k38_texts_of_numbers.main.body.getD i (.Pass ⟨0,0,0,0⟩)
abbrev jx:Stmt:=aS 29
abbrev jc:Stmt:=aS 30
def Hand(H:Hp)(p:Addr):Prop:=∃a b n:Int,H p=some (.lst [.int a,.int b,.int n])
def pR:Sp:=fun vs H Q _=>∃c:Int,vs=[.int c]∧∀p H',H p=none→Hand H' p→Same H H'→Q (.ref p) H'
def eY:Sp:=fun vs H Q _=>∃(p:Addr) (many:Int),vs=[.ref p,.int many]∧Hand H p∧1≤many∧many<1000000000000000000000000000000000000000000000000000000000000∧
 ∀(r:Int) (H':Hp),0≤r→r<many→Hand H' p→Keep p H H'→Q (.int r) H'
section
variable{P:Program}{w:World}{K:PySem.W.Frag}{mg:Str→Option Value}{base:Heap}
theorem rs:FnScope ["cell"] ["cell"] (ar jx):=fsc_
theorem xg(M:Md K mg)(B:Bl mg)(F:FF K "_law_pot" jx):Fn P w K mg base ai "_law_pot" 1 ["cell"] pR:=by
 refine aV M F rs (fun _ _ _ _ _ _=>bJ fun _=>rfl) (fun vs H Q E h=>?_) (fun f cdv A outer s H vs Q E hr h=>?_)
 ·obtain⟨c,rfl,_⟩:=h;rfl
 ·obtain⟨c,rfl,k⟩:=h
  refine⟨_,(ao (aJ (bb (aa (iF rfl B.max af (ap aZ (pv 0) (ap pW af af))) (aa (ap fg (pv 0) af) (aa af ac)))))),?_⟩
  refine⟨_,rfl,_,_,rfl,rfl,⟨by decide,by decide,by decide⟩,_,_,rfl,rfl,_,_,rfl,rfl,?_⟩
  refine⟨_,rfl,_,_,rfl,rfl,(by show(0:Int)<99999999977;decide),by show 3≤sizeLine;decide,fun l hl=>k l _ hl ⟨_,_,_,ad⟩ (Same.upd hl)⟩
theorem scTake:FnScope ["pot","many","found","number"] ["pot","many"] (ar jc):=fsc_
theorem xV(M:Md K mg)(F:FF K "_law_take" jc):Fn P w K mg base ai "_law_take" 1 ["pot","many"] eY:=by
 refine aV M F scTake (fun _ _ _ _ _ _=>jA fun _ _=>rfl) (fun vs H Q E h=>?_) (fun f cdv A outer s H vs Q E hr h=>?_)
 ·obtain⟨p,many,rfl,_⟩:=h;rfl
 ·obtain⟨p,many,rfl,⟨a,b,n,hp⟩,h1,h2,k⟩:=h
  refine⟨_,(ae (br (aL km (aO aU (pv 0) af (fun _ _=>rfl)) af (aI _)) (ae (am (i:=2) scTake.nd rfl (.inl rfl) (ap fg (aO aU (pv 0) af (fun _ _=>rfl)) (pv 1)))
   (ae (eG (ap o9 (aO aU (pv 0) af (fun _ _=>rfl)) (pv 1)) (qo (pv 0) af qT))
   (ao (aJ (pv 2))))) bq)
   (ae (eG (ap bC (aO aU (pv 0) af (fun _ _=>rfl)) af) (qo (pv 0) af qT))
   (ae (am (i:=3) scTake.nd rfl (.inl rfl) (ap fg (ap bC (aO aU (pv 0) af (fun _ _=>rfl)) (ap i7 af (aO aU (pv 0) af (fun _ _=>rfl)))) af))
   (ae (am (i:=3) scTake.nd rfl (.inl rfl) (ap fg (ap i7 (pv 3) (pv 3)) af))
   (ae (am (i:=3) scTake.nd rfl (.inl rfl) (ap fg (ap i7 (pv 3) (ap bC (pv 3) af)) af))
   (ao (aJ (ap fg (ap o9 (pv 3) af) (pv 1))))))))),?_⟩
  refine⟨_,rfl,p,_,_,_,rfl,rfl,SqL.of hp,cM (j:=0) rfl,_,_,rfl,rfl,_,rfl,?_⟩
  refine bT (fun hc=>?_) (fun hc=>?_)
  ·refine⟨_,rfl,p,_,_,_,rfl,rfl,SqL.of hp,cM (j:=0) rfl,_,rfl,_,_,rfl,rfl,(by show 0<many;lia),?_⟩
   refine⟨_,rfl,p,_,_,_,rfl,rfl,SqL.of hp,cM (j:=0) rfl,_,rfl,_,_,rfl,rfl,⟨by lia,by lia⟩,?_⟩
   refine⟨_,rfl,p,_,0,0,rfl,rfl,hp,rfl,_,rfl,?_⟩
   exact k _ _ (Int.emod_nonneg _ (by lia)) (Int.emod_lt_of_pos _ (by lia)) ⟨_,_,_,ad⟩ Keep.upd
  ·refine⟨_,rfl,p,_,_,_,rfl,rfl,SqL.of hp,cM (j:=2) rfl,_,_,rfl,rfl,_,rfl,p,_,2,2,rfl,rfl,hp,rfl,?_⟩
   have k1:Keep p H (L2.upd H p (.lst ([V.int a,V.int b,V.int n].set 2 (.int (n+1))))):=Keep.upd
   have hp1:(L2.upd H p (.lst ([V.int a,V.int b,V.int n].set 2 (.int (n+1))))) p=some (.lst [.int a,.int b,.int (n+1)]):=ad
   generalize L2.upd H p (.lst ([V.int a,V.int b,V.int n].set 2 (.int (n+1))))=H1 at k1 hp1
   refine⟨_,rfl,p,_,_,_,rfl,rfl,SqL.of hp1,cM (j:=1) rfl,_,rfl,p,_,_,_,rfl,rfl,SqL.of hp1,cM (j:=2) rfl,_,_,rfl,rfl,.inl ⟨by decide,by decide⟩,_,_,rfl,rfl,_,_,rfl,rfl,(by show(0:Int)<99999999947;decide),?_⟩
   have m1:=Int.emod_nonneg (b+700001*(n+1)) (show(99999999947:Int)≠0 by decide)
   have m2:=Int.emod_lt_of_pos (b+700001*(n+1)) (show(0:Int)<99999999947 by decide)
   generalize (b+700001*(n+1)) % 99999999947=x at m1 m2
   refine⟨_,rfl,_,rfl,_,_,rfl,rfl,.inl ⟨by lia,by lia⟩,_,_,rfl,rfl,(by show(0:Int)<99999999821;decide),?_⟩
   have m3:=Int.emod_nonneg (x*x) (show(99999999821:Int)≠0 by decide)
   have m4:=Int.emod_lt_of_pos (x*x) (show(0:Int)<99999999821 by decide)
   generalize x*x % 99999999821=y at m3 m4
   refine⟨_,rfl,_,rfl,_,_,rfl,rfl,_,_,rfl,rfl,.inl ⟨by lia,by lia⟩,_,_,rfl,rfl,(by show(0:Int)<9999999967;decide),?_⟩
   refine⟨_,rfl,_,_,rfl,rfl,⟨by decide,by decide⟩,_,rfl,_,_,rfl,rfl,(by show 0<many;lia),?_⟩
   exact k _ _ (Int.emod_nonneg _ (by lia)) (Int.emod_lt_of_pos _ (by lia)) ⟨_,_,_,hp1⟩ k1
end
abbrev ll:Stmt:=aS 32
abbrev kg:Stmt:=aS 31
def az:List Nat:=(List.range 26).map (97+ ·)
theorem pG{c:Nat}(h:c∈az):97≤c∧c≤122:=by
 simp[az] at h
 lia
def Low(t:List Nat):Prop:=∀c∈t,97≤c∧c≤122
theorem Low.cp{t:List Nat}(h:Low t):∀c∈t,c<0x110000:=fun c hc=>by have:=h c hc;lia
theorem Low.take{t:List Nat}(h:Low t)(n:Nat):Low (t.take n):=fun c hc=>h c (List.mem_of_mem_take hc)
theorem Low.drop{t:List Nat}(h:Low t)(n:Nat):Low (t.drop n):=fun c hc=>h c (List.mem_of_mem_drop hc)
theorem Low.app{t u:List Nat}(h:Low t)(g:Low u):Low (t++u):=fun c hc=>(List.mem_append.mp hc).elim (h c) (g c)
theorem Low.nil:Low []:=fun c hc=>by cases hc
theorem Hand.ne{H:Hp}{p l:Addr}(h:Hand H p)(hl:H l=none):p≠l:=by
 obtain⟨a,b,n,e⟩:=h
 exact aD e hl
theorem Hand.upd{H:Hp}{p l:Addr}{o:HO}(h:Hand H p)(hl:p≠l):Hand (L2.upd H l o) p:=by
 obtain⟨a,b,n,e⟩:=h
 exact⟨a,b,n,by rw[ah hl];exact e⟩
theorem Hand.same{H H':Hp}{p:Addr}(h:Hand H p)(k:Same H H'):Hand H' p:=by
 obtain⟨a,b,n,e⟩:=h
 exact⟨a,b,n,k _ _ e⟩
theorem Hand.free{H H':Hp}{p l:Addr}(h:Hand H' p)(k:Keep p H H')(hl:H' l=none):H l=none:=by
 obtain⟨a,b,n,e⟩:=h
 exact k.free e hl
theorem cq{H:Hp}{p a:Addr}{t:List Nat}(h:Hand H p)(ha:H a=some (.lst (t.map sg))):a≠p:=by
 obtain⟨x,y,n,e⟩:=h
 refine bh ha e fun z=>?_
 have z':t.map sg=[.int x,.int y,.int n]:=HO.lst.inj z
 cases t with
 | nil=>cases z'
 | cons c t=>cases z'
theorem xN{p:Prop}[Decidable p](h:¬decide p=true):¬p:=fun z=>h (decide_eq_true z)
theorem sz{n:Nat}(h:n≤1000):n≤sizeLine:=Nat.le_of_lt (bn h)
theorem iG{n:Nat}(h:n≤5000):n≤sizeLine:=Nat.le_of_lt (rK h)
def aA(ks:List Nat):List V:=(ks.map fun(k:Nat)=>(k:Int)).map V.int
theorem jF(ks:List Nat)(i:Nat):aA (ks++[i])=aA ks++[V.int (0+(i:Int))]:=by
 simp[aA]
theorem aT(ks:List Nat):(aA ks).length=ks.length:=by simp[aA]
theorem iU{i:Nat}(p:Nat→Bool):((List.range i).filter p).length≤i:=by
 have:=List.length_filter_le p (List.range i)
 simpa using this
theorem fI{t:List Nat}{r:Int}(lt:Low t)(r0:0≤r)(r1:r<t.length):∃c,t[r.toNat]?=some c∧97≤c∧c≤122∧bc (t.map sg) r=some (sg c):=by
 obtain⟨v,hv,hm,e⟩:=kP (t.map sg) r r0 (by rw[List.length_map];exact r1)
 rw[List.getElem?_map] at hv
 cases q:t[r.toNat]? with
 | none=>rw[q] at hv;cases hv
 | some c=>
   rw[q] at hv
   have:sg c=v:=Option.some.inj hv
   subst this
   exact⟨c,rfl,(lt c (List.mem_of_getElem? q)).1,(lt c (List.mem_of_getElem? q)).2,e⟩
theorem gh{H:Hp}{l0 l1:Addr}{t u:List Nat}{Q:VK}(h0:H l0=some (.lst (t.map sg)))(h1:H l1=some (.lst (u.map sg)))(hz:t.length+u.length≤5000)(k:∀b,H b=none→Q (.ref b) (L2.upd H b (.lst ((t++u).map sg)))):jP (.ref l0) (.ref l1) H Q:=
 ⟨l0,l1,_,_,rfl,rfl,h0,h1,by rw[List.length_map,List.length_map];exact iG hz,fun b hb=>by have:=k b hb;rw[List.map_append] at this;exact this⟩
theorem fH{t:List Nat}{n:Int}(h:0≤n):bi (t.map sg) none (some n)=(t.take n.toNat).map sg:=by rw[dq,dD,gm _ _ h]
theorem jH{t:List Nat}{n:Int}(h:0≤n):bi (t.map sg) (some n) none=(t.drop n.toNat).map sg:=by rw[dq,dD,qC _ _ h]
def n5:Sp:=fun vs H Q _=>∃p:Addr,vs=[.ref p]∧Hand H p∧∀(z:List Nat) (r:Addr) (H':Hp),H r=none→H' r=some (.lst (z.map sg))→Low z→z.Nodup→1≤z.length→z.length≤26→Hand H' p→Keep p H H'→Q (.ref r) H'
def me:Sp:=fun vs H Q _=>∃(p b:Addr) (z:List Nat) (n:Int),vs=[.ref p,.ref b,.int n]∧Hand H p∧H b=some (.lst (z.map sg))∧Low z∧1≤z.length∧z.length≤900∧0≤n∧n≤1000∧
 ∀(t:List Nat) (r:Addr) (H':Hp),H r=none→H' r=some (.lst (t.map sg))→Low t→t.length=n.toNat→Hand H' p→Keep p H H'→Q (.ref r) H'
section
variable{P:Program}{w:World}{K:PySem.W.Frag}{mg:Str→Option Value}{base:Heap}
theorem scLetters:FnScope ["pot","left","many"] ["pot"] (ar kg):=fsc_
theorem vg(M:Md K mg)(B:Bl mg)(F:FF K "_law_letters" kg)(F_law_take:Fn P w K mg base ai "_law_take" 1 ["pot","many"] eY):Fn P w K mg base ai "_law_letters" 2 ["pot"] n5:=by
 refine aV M F scLetters (fun _ _ _ _ _ _=>bJ fun _=>rfl) (fun vs H Q E h=>?_) (fun f cdv A outer s H vs Q E hr h=>?_)
 ·obtain⟨p,rfl,_⟩:=h;rfl
 ·obtain⟨p,rfl,hp,k⟩:=h
  refine⟨_,(ae (am (i:=1) scLetters.nd rfl (.inr rfl) (zC rfl B.list iq))
   (ae (am (i:=2) scLetters.nd rfl (.inl rfl) (aC F_law_take hr aE (aa (pv 0) (aa af ac))))
   (ae (br (aL cu (pv 2) af (aI _)) (ao (aJ (pv 1))) bq)
   (ao (aJ (cY ["pot","left","many"] rfl (dR (by rfl) B.range (aa (pv 2) ac)) (fun _=>by exact df) (fun _=>by exact(cI PySem.F.plainAttrs_list PySem.F.slot_list_pop PySem.F.type_list_pop wN (pv 1) (aa (aC F_law_take hr aE (aa (pv 0) (aa (aR B.len (pv 1)) ac))) ac))))))))),?_⟩
  have laz:Low az:=fun c hc=>pG hc
  have naz:az.Nodup:=by decide+kernel
  refine⟨⟨az.toArray⟩,rfl,by rw[wK];exact sz (by simp[az]),fun l hl=>?_⟩
  have s1:=Same.upd (o:=.lst (az.map sg)) hl
  have hl1:(L2.upd H l (.lst (az.map sg))) l=some (.lst (az.map sg)):=ad
  have hp1:=hp.same s1
  refine⟨_,rfl,p,5,rfl,hp1,by decide,by decide,fun m H2 m0 m1 hp2 k2=>?_⟩
  have nlp:l≠p:=(hp.ne hl).symm
  have hl2:=k2 _ _ hl1 nlp
  have k02:=s1.keep.trans k2
  refine⟨_,rfl,rfl,_,rfl,?_⟩
  refine bT (fun hc=>?_) (fun hc=>?_)
  ·exact⟨_,rfl,k az l H2 hl hl2 laz naz (by simp[az]) (by simp[az]) hp2 k02⟩
  ·have hm:m≠0:=fun q=>xN hc (by rw[q])
   refine⟨_,rfl,m,rfl,by lia,by lia,fun D hD cb=>?_⟩
   have nD:D≠p:=(hp2.ne hD).symm
   have nlD:l≠D:=aD hl2 hD
   have hDn:H D=none:=by obtain⟨x,y,z,e'⟩:=hp2;exact k02.free e' hD
   refine eD (lo:=0) (n:=m.toNat) (fun i ys H3=>∃t left:List Nat,ys=t.map sg∧(t++left).Perm az∧t.length=i∧H3 l=some (.lst (left.map sg))∧Hand H3 p∧(∀b o,H b=some o→b≠p→H3 b=some o)∧H3 D=some (.lst ys)) (bn (by lia)) ?_ ?_ ?_ ?_
   ·refine⟨[],az,rfl,List.Perm.refl _,rfl,by rw[ah nlD];exact hl2,hp2.upd (hp2.ne hD),fun b o e n=>?_,ad⟩
    have h1:=k02 b o e n
    rw[ah (aD h1 hD)];exact h1
   ·rintro i ys H3 ⟨t,left,rfl,_,rfl,_⟩
    simp
   ·rintro i ys H3 hi ⟨t,left,rfl,hper,rfl,hl3,hp3,k3,hD3⟩
    have hlen:t.length+left.length=26:=by have:=hper.length_eq;simpa [az] using this
    have hl1':1≤left.length:=by lia
    refine dh ?_
    refine⟨_,rfl,.inl ⟨rfl,_,SqL.of hl3⟩,_,rfl,_,rfl,l,_,rfl,SqL.of hl3,p,_,rfl,hp3,by rw[List.length_map];lia,by rw[List.length_map];lia,fun r H4 r0 r1 hp4 k4=>?_⟩
    rw[List.length_map] at r1
    have hl4:=k4 _ _ hl3 nlp
    have hD4:=k4 _ _ hD3 nD
    have hr:r.toNat<left.length:=by lia
    have hc':left[r.toNat]?=some left[r.toNat]:=by simp[hr]
    refine⟨l,_,r,r.toNat,sg left[r.toNat],rfl,rfl,hl4,by lia,by lia,?_,by rw[List.getElem?_map,hc'];rfl,?_⟩
    ·rw[List.length_map]
     exact(lq (wv _ _ r0 r1)).1
    ·have ee:(left.map sg).eraseIdx r.toNat=(left.eraseIdx r.toNat).map sg:=by
      apply List.ext_getElem?
      intro q
      rw[List.getElem?_map,List.getElem?_eraseIdx,List.getElem?_eraseIdx]
      split <;> rw[List.getElem?_map]
     rw[ee]
     refine⟨by rw[ah nlD.symm];exact hD4,t++[left[r.toNat]],left.eraseIdx r.toNat,by simp,?_,by simp,by rw[ah nlD,ad],?_,fun b o e n=>?_,ad⟩
     ·have h1:(left[r.toNat]::left.eraseIdx r.toNat).Perm left:=by
       rw[List.eraseIdx_eq_take_drop_succ]
       have q:=List.perm_middle (a:=left[r.toNat]) (l₁:=left.take r.toNat) (l₂:=left.drop (r.toNat+1))
       rw[←List.drop_eq_getElem_cons hr,List.take_append_drop] at q
       exact q.symm
      have h2:((t++[left[r.toNat]])++left.eraseIdx r.toNat).Perm (t++left):=by
       rw[List.append_assoc]
       exact List.Perm.append_left t h1
      exact h2.trans hper
     ·exact(hp4.upd nlp.symm).upd nD.symm
     ·rw[ah (aD e hDn),ah (aD e hl)]
      exact k4 _ _ (k3 b o e n) n
   ·rintro ys H3 ⟨t,left,rfl,hper,hl3,hl4,hp3,k3,hD3⟩
    refine k t D H3 hDn hD3 (fun c hc=>pG (hper.mem_iff.mp (List.mem_append_left _ hc))) ?_ (by lia) (by lia) hp3 (fun b o e n=>k3 b o e n)
    exact(List.nodup_append.mp (hper.nodup_iff.mpr naz)).1
theorem y9:FnScope ["pot","letters","many"] ["pot","letters","many"] (ar ll):=fsc_
theorem vL(M:Md K mg)(B:Bl mg)(F:FF K "_law_signs" ll)(F_law_take:Fn P w K mg base ai "_law_take" 1 ["pot","many"] eY):Fn P w K mg base ai "_law_signs" 2 ["pot","letters","many"] me:=by
 refine aV M F y9 (fun _ _ _ _ _ _=>cT fun _ _ _=>rfl) (fun vs H Q E h=>?_) (fun f cdv A outer s H vs Q E hr h=>?_)
 ·obtain⟨p,b,z,n,rfl,_⟩:=h;rfl
 ·obtain⟨p,b,z,n,rfl,hp,hb,lz,z1,z2,n0,n1,k⟩:=h
  refine⟨_,(ao (aJ (cY ["pot","letters","many"] rfl (dR (by rfl) B.range (aa (pv 2) ac)) (fun _=>by exact df) (fun _=>by exact(aO aU (pv 1) (aC F_law_take hr aE (aa (pv 0) (aa (aR B.len (pv 1)) ac))) (fun _ _=>rfl)))))),?_⟩
  have nbp:=cq hp hb
  refine⟨_,rfl,n,rfl,by lia,by lia,fun D hD cb=>?_⟩
  have nD:D≠p:=(hp.ne hD).symm
  refine eD (lo:=0) (n:=n.toNat) (fun i ys H2=>∃t:List Nat,ys=t.map sg∧Low t∧t.length=i∧Hand H2 p∧Keep p H H2∧H2 D=some (.lst ys)) (bn (by lia)) ?_ ?_ ?_ ?_
  ·exact⟨[],rfl,Low.nil,rfl,hp.upd (hp.ne hD),(Same.upd hD).keep,ad⟩
  ·rintro i ys H2 ⟨t,rfl,_,rfl,_⟩
   simp
  ·rintro i ys H2 hi ⟨t,rfl,lt,rfl,hp2,k2,hD2⟩
   refine dh ?_
   have hb2:=k2 _ _ hb nbp
   refine⟨_,rfl,_,rfl,_,rfl,b,_,rfl,SqL.of hb2,p,_,rfl,hp2,by rw[List.length_map];lia,by rw[List.length_map];lia,fun r H3 r0 r1 hp3 k3=>?_⟩
   rw[List.length_map] at r1
   obtain⟨c,_,c1,c2,ec⟩:=fI lz r0 r1
   refine⟨b,_,r,_,rfl,rfl,SqL.of (k3 _ _ hb2 nbp),ec,k3 _ _ hD2 nD,t++[c],by simp,?_,by simp,hp3.upd nD.symm,?_,ad⟩
   ·exact lt.app fun d hd=>by rw[List.mem_singleton.mp hd];exact⟨c1,c2⟩
   ·intro b o e nb
    rw[ah (aD e hD)]
    exact k3 _ _ (k2 b o e nb) nb
  ·rintro ys H2 ⟨t,rfl,lt,hl,hp2,k2,hD2⟩
   exact k t D H2 hD hD2 lt hl hp2 k2
end
abbrev jQ:Stmt:=aS 33
def mZ:Sp:=fun vs H Q _=>∃(p b:Addr) (z:List Nat) (m:Int),vs=[.ref p,.ref b,.int m]∧Hand H p∧H b=some (.lst (z.map sg))∧Low z∧1≤z.length∧z.length≤900∧1≤m∧m≤300∧
 ∀(t:List Nat) (r:Addr) (H':Hp),H r=none→H' r=some (.lst (t.map sg))→Low t→1≤t.length→(t.length:Int)≤m→Hand H' p→Keep p H H'→Q (.ref r) H'
theorem wG(n:Nat)(t:List Nat):(List.replicate n (t.map sg)).flatten=((List.replicate n t).flatten).map sg:=by
 induction n with
 | zero=>rfl
 | succ n ih=>rw[List.replicate_succ,List.flatten_cons,ih,List.replicate_succ,List.flatten_cons,List.map_append]
theorem Low.rep{t:List Nat}(h:Low t)(n:Nat):Low (List.replicate n t).flatten:=fun c hc=>by
 obtain⟨l,hl,hc⟩:=List.mem_flatten.mp hc
 rw[(List.mem_replicate.mp hl).2] at hc
 exact h c hc
theorem jU(n:Nat)(t:List Nat):(List.replicate n t).flatten.length=n*t.length:=by
 induction n with
 | zero=>simp
 | succ n ih=>rw[List.replicate_succ,List.flatten_cons,List.length_append,ih,Nat.succ_mul,Nat.add_comm]
theorem hZ{H:Hp}{l:Addr}{t:List Nat}{n:Int}{Q:VK}(h:H l=some (.lst (t.map sg)))(n0:0≤n)(n1:n≤1000)(hz:t.length*n.toNat≤20000)(k:∀b,H b=none→Q (.ref b) (L2.upd H b (.lst ((List.replicate n.toNat t).flatten.map sg)))):qg (.ref l) (.int n) H Q:=
 ⟨l,n,_,rfl,rfl,h,by lia,by lia,by rw[List.length_map];exact Nat.le_trans hz (by decide),fun b hb=>by rw[wG];exact k b hb⟩
section
variable{P:Program}{w:World}{K:PySem.W.Frag}{mg:Str→Option Value}{base:Heap}
theorem scWord:FnScope ["pot","letters","most","size","kind","piece","amid","once"] ["pot","letters","most"] (ar jQ):=fsc_
theorem yR{a b c r:Int}(r0:0≤r)(r1:r<3):∃v:Int,(v=a∨v=b∨v=c)∧bc [V.int a,V.int b,V.int c] r=some (.int v):=by
 obtain⟨v,hv,hmem,e⟩:=kP [V.int a,V.int b,V.int c] r r0 (by simpa using r1)
 simp at hmem
 rcases hmem with rfl | rfl | rfl
 ·exact⟨a,.inl rfl,e⟩
 ·exact⟨b,.inr (.inl rfl),e⟩
 ·exact⟨c,.inr (.inr rfl),e⟩
theorem xB(M:Md K mg)(B:Bl mg)(F:FF K "_law_word" jQ)(F_law_take:Fn P w K mg base ai "_law_take" 1 ["pot","many"] eY)(F_law_signs:Fn P w K mg base ai "_law_signs" 2 ["pot","letters","many"] me):Fn P w K mg base ai "_law_word" 3 ["pot","letters","most"] mZ:=by
 refine aV M F scWord (fun _ _ _ _ _ _=>cT fun _ _ _=>rfl) (fun vs H Q E h=>?_) (fun f cdv A outer s H vs Q E hr h=>?_)
 ·obtain⟨p,b,z,m,rfl,_⟩:=h;rfl
 ·obtain⟨p,b,z,m,rfl,hp,hb,lz,z1,z2,m1,m2,k⟩:=h
  refine⟨_,(ae (am (i:=3) scWord.nd rfl (.inl rfl) (ap bC af (aC F_law_take hr aE (aa (pv 0) (aa (aO aU (bb (aa (kW rfl B.min af (pv 2)) (aa (kW rfl B.min af (pv 2)) (aa (pv 2) ac)))) (aC F_law_take hr aE (aa (pv 0) (aa af ac))) (fun _ _=>rfl)) ac)))))
   (ae (am (i:=4) scWord.nd rfl (.inl rfl) (aC F_law_take hr aE (aa (pv 0) (aa af ac))))
   (ae (am (i:=5) scWord.nd rfl (.inl rfl) (aC F_law_signs hr aE (aa (pv 0) (aa (pv 1) (aa (ap bC af (aC F_law_take hr aE (aa (pv 0) (aa (kW rfl B.min (pv 3) af) ac)))) ac)))))
   (ae (br (aL cu (pv 4) af (aI _)) (ao (aJ (bF bG (ap gR (pv 5) (pv 3)) bO (bu (pv 3))))) bq)
   (ae (br (aL cu (pv 4) af (aI _)) (ae (am (i:=6) scWord.nd rfl (.inl rfl) (aC F_law_signs hr aE (aa (pv 0) (aa (pv 1) (aa (aC F_law_take hr aE (aa (pv 0) (aa af ac))) ac)))))
   (ao (aJ (bF bG (ap cX (ap cX (pv 5) (pv 6)) (pv 5)) bO (bu (iF rfl B.max af (pv 2))))))) bq)
   (ae (br (aL cu (pv 4) af (aI _)) (ae (am (i:=7) scWord.nd rfl (.inl rfl) (ap gR (ap cX (pv 5) (bF bG (pv 5) bO (bu (aC F_law_take hr aE (aa (pv 0) (aa (ap bC (aR B.len (pv 5)) af) ac)))))) af))
   (ao (aJ (bF bG (ap gR (pv 7) (pv 3)) bO (bu (pv 3)))))) bq)
   (ae (br (aL cu (pv 4) af (aI _)) (ao (aJ (ap gR (bF bG (pv 1) bO (bu af)) (pv 3)))) bq)
   (ao (aJ (aC F_law_signs hr aE (aa (pv 0) (aa (pv 1) (aa (pv 3) ac))))))))))))),?_⟩
  have nbp:=cq hp hb
  refine⟨_,rfl,_,rfl,_,_,rfl,rfl,_,rfl,_,_,rfl,rfl,_,rfl,by show 3≤sizeLine;decide,fun l0 hl0=>?_⟩
  have s1:=Same.upd (o:=.lst [V.int (if m<5 then m else 5),V.int (if m<20 then m else 20),V.int m]) hl0
  have hp1:=hp.same s1
  refine⟨_,rfl,p,3,rfl,hp1,by decide,by decide,fun r H2 r0 r1 hp2 k2=>?_⟩
  have hl2:=k2 _ _ ad (fun q=>hp.ne hl0 q.symm)
  obtain⟨v,hv,ev⟩:=yR (a:=if m<5 then m else 5) (b:=if m<20 then m else 20) (c:=m) r0 r1
  have hv':1≤v∧v≤m:=by
   rcases hv with rfl | rfl | rfl
   ·split <;> lia
   ·split <;> lia
   ·lia
  refine⟨l0,_,r,_,rfl,rfl,SqL.of hl2,ev,p,v,rfl,hp2,hv'.1,by lia,fun n H3 n0 n1 hp3 k3=>?_⟩
  have k03:=(s1.keep.trans k2).trans k3
  refine⟨_,_,rfl,rfl,?_⟩
  have sz1:1≤1+n∧1+n≤m:=by lia
  refine⟨_,rfl,p,5,rfl,hp3,by decide,by decide,fun kind H4 i0 i1 hp4 k4=>?_⟩
  have k04:=k03.trans k4
  have hb4:=k04 _ _ hb nbp
  refine⟨_,rfl,_,rfl,_,rfl,_,rfl,_,_,rfl,rfl,p,_,rfl,hp4,by split <;> lia,by split <;> lia,fun c H5 c0 c1 hp5 k5=>?_⟩
  have c8:c<8:=by split at c1 <;> lia
  have k05:=k04.trans k5
  have hb5:=k05 _ _ hb nbp
  refine⟨_,_,rfl,rfl,p,b,z,1+c,rfl,hp5,hb5,lz,z1,z2,by lia,by lia,fun t q H6 hq0 hq6 lt tl hp6 k6=>?_⟩
  have k06:=k05.trans k6
  have hb6:=k06 _ _ hb nbp
  have tl':1≤t.length∧t.length≤8:=by lia
  have mul:∀a b:Nat,a≤40→b≤300→a*b≤20000:=fun a b h1 h2=>Nat.le_trans (Nat.mul_le_mul h1 h2) (by decide)
  have long:∀x:List Nat,1≤x.length→(1+n).toNat≤(List.replicate (1+n).toNat x).flatten.length:=fun x hx=>by
   rw[jU]
   exact Nat.le_mul_of_pos_right _ hx
  refine⟨_,rfl,rfl,_,rfl,?_⟩
  refine bT (fun hc=>?_) (fun hc=>?_)
  ·refine⟨_,rfl,_,rfl,hZ hq6 (by lia) (by lia) (mul _ _ (by lia) (by lia)) fun l hl=>?_⟩
   have s7:=Same.upd (o:=.lst ((List.replicate (1+n).toNat t).flatten.map sg)) hl
   refine⟨_,rfl,(1+n),rfl,l,_,rfl,SqL.of ad,fun l2 hl2'=>?_⟩
   rw[fH (by lia)]
   have s8:=s7.trans (Same.upd (o:=.lst (((List.replicate (1+n).toNat t).flatten.take (1+n).toNat).map sg)) hl2')
   have hll:=long t tl'.1
   exact k _ l2 _ (by obtain⟨x,y,w',e'⟩:=hp6;exact k06.free e' (s7.free hl2')) ad ((lt.rep _).take _) (by rw[List.length_take];lia) (by rw[List.length_take];lia) (hp6.same s8) (k06.trans s8.keep)
  ·refine⟨_,rfl,rfl,_,rfl,?_⟩
   refine bT (fun hc2=>?_) (fun hc2=>?_)
   ·refine⟨_,rfl,_,rfl,_,rfl,p,4,rfl,hp6,by decide,by decide,fun d H7 d0 d1 hp7 k7=>?_⟩
    have hb7:=k7 _ _ hb6 (cq hp6 hb6)
    have hq7:=k7 _ _ hq6 (cq hp6 hq6)
    refine⟨p,b,z,d,rfl,hp7,hb7,lz,z1,z2,d0,by lia,fun v' y H8 hy0 hy8 lv vl hp8 k8=>?_⟩
    have hq8:=k8 _ _ hq7 (cq hp7 hq7)
    refine⟨_,rfl,_,rfl,gh hq8 hy8 (by lia) fun l hl=>?_⟩
    have s9:=Same.upd (o:=.lst ((t++v').map sg)) hl
    refine⟨_,rfl,gh ad (s9 _ _ hq8) (by rw[List.length_append];lia) fun l2 hl2'=>?_⟩
    have s10:=s9.trans (Same.upd (o:=.lst ((t++v'++t).map sg)) hl2')
    have hx10:=ad (H:=L2.upd H8 l (.lst ((t++v').map sg))) (a:=l2) (o:=.lst ((t++v'++t).map sg))
    generalize L2.upd (L2.upd H8 l (.lst ((t++v').map sg))) l2 (.lst ((t++v'++t).map sg))=H10 at*
    refine⟨_,rfl,_,_,rfl,rfl,_,rfl,l2,_,rfl,SqL.of hx10,fun l3 hl3=>?_⟩
    have em:(if m>1 then m else 1)=m:=by split <;> lia
    rw[em,fH (by lia)]
    have s11:=s10.trans (Same.upd (o:=.lst (((t++v'++t).take m.toNat).map sg)) hl3)
    have k08:=(k06.trans k7).trans k8
    exact k _ l3 _ (by obtain⟨x,y,w',e'⟩:=hp8;exact k08.free e' (s10.free hl3)) ad (((lt.app lv).app lt).take _) (by rw[List.length_take,List.length_append];lia) (by rw[List.length_take];lia) (hp8.same s11) (k08.trans s11.keep)
   ·refine⟨_,rfl,rfl,_,rfl,?_⟩
    refine bT (fun hc3=>?_) (fun hc3=>?_)
    ·refine⟨_,rfl,_,rfl,_,rfl,_,rfl,q,_,rfl,SqL.of hq6,_,_,rfl,rfl,p,_,rfl,hp6,by rw[List.length_map];lia,by rw[List.length_map];lia,fun d H7 d0 d1 hp7 k7=>?_⟩
     have hq7:=k7 _ _ hq6 (cq hp6 hq6)
     refine⟨d,rfl,q,_,rfl,SqL.of hq7,fun l hl=>?_⟩
     rw[fH d0]
     have s8:=Same.upd (o:=.lst ((t.take d.toNat).map sg)) hl
     refine gh (s8 _ _ hq7) ad (by rw[List.length_take];lia) fun l2 hl2'=>?_
     have s9:=s8.trans (Same.upd (o:=.lst ((t++t.take d.toNat).map sg)) hl2')
     have hx9:=ad (H:=L2.upd H7 l (.lst ((t.take d.toNat).map sg))) (a:=l2) (o:=.lst ((t++t.take d.toNat).map sg))
     generalize L2.upd (L2.upd H7 l (.lst ((t.take d.toNat).map sg))) l2 (.lst ((t++t.take d.toNat).map sg))=H9 at*
     have ol:(t++t.take d.toNat).length≤16∧1≤(t++t.take d.toNat).length:=by rw[List.length_append,List.length_take];lia
     dsimp only[tC]
     refine hZ (n:=2) hx9 (by decide) (by decide) (mul _ _ (by lia) (by decide)) fun l3 hl3=>?_
     have s10:=s9.trans (Same.upd (o:=.lst ((List.replicate (2:Int).toNat (t++t.take d.toNat)).flatten.map sg)) hl3)
     have hx10:=ad (H:=H9) (a:=l3) (o:=.lst ((List.replicate (2:Int).toNat (t++t.take d.toNat)).flatten.map sg))
     have o2:(List.replicate (2:Int).toNat (t++t.take d.toNat)).flatten.length=2*(t++t.take d.toNat).length:=jU 2 _
     have lo2:Low (List.replicate (2:Int).toNat (t++t.take d.toNat)).flatten:=(lt.app (lt.take _)).rep _
     generalize (List.replicate (2:Int).toNat (t++t.take d.toNat)).flatten=once at*
     generalize L2.upd H9 l3 (.lst (once.map sg))=H10 at*
     refine⟨_,rfl,_,rfl,hZ hx10 (by lia) (by lia) (mul _ _ (by lia) (by lia)) fun l4 hl4=>?_⟩
     have s11:=s10.trans (Same.upd (o:=.lst ((List.replicate (1+n).toNat once).flatten.map sg)) hl4)
     have hx11:=ad (H:=H10) (a:=l4) (o:=.lst ((List.replicate (1+n).toNat once).flatten.map sg))
     generalize L2.upd H10 l4 (.lst ((List.replicate (1+n).toNat once).flatten.map sg))=H11 at*
     refine⟨_,rfl,(1+n),rfl,l4,_,rfl,SqL.of hx11,fun l5 hl5=>?_⟩
     rw[fH (by lia)]
     have s12:=s11.trans (Same.upd (o:=.lst (((List.replicate (1+n).toNat once).flatten.take (1+n).toNat).map sg)) hl5)
     have hll:=long once (by lia)
     have k07:=k06.trans k7
     exact k _ l5 _ (by obtain⟨x,y,w',e'⟩:=hp7;exact k07.free e' (s11.free hl5)) ad ((lo2.rep _).take _) (by rw[List.length_take];lia) (by rw[List.length_take];lia) (hp7.same s12) (k07.trans s12.keep)
    ·refine⟨_,rfl,rfl,_,rfl,?_⟩
     refine bT (fun hc4=>?_) (fun hc4=>?_)
     ·refine⟨_,rfl,1,rfl,b,_,rfl,SqL.of hb6,fun l hl=>?_⟩
      rw[fH (by decide)]
      have s7:=Same.upd (o:=.lst ((z.take (1:Int).toNat).map sg)) hl
      have zl:(z.take (1:Int).toNat).length=1:=by rw[List.length_take,show(1:Int).toNat=1 from rfl];lia
      refine⟨_,rfl,hZ ad (by lia) (by lia) (mul _ _ (by lia) (by lia)) fun l2 hl2'=>?_⟩
      have s8:=s7.trans (Same.upd (o:=.lst ((List.replicate (1+n).toNat (z.take (1:Int).toNat)).flatten.map sg)) hl2')
      have hrl:=jU (1+n).toNat (z.take (1:Int).toNat)
      rw[zl,Nat.mul_one] at hrl
      exact k _ l2 _ (by obtain⟨x,y,w',e'⟩:=hp6;exact k06.free e' (s7.free hl2')) ad ((lz.take _).rep _) (by rw[hrl];lia) (by rw[hrl];lia) (hp6.same s8) (k06.trans s8.keep)
     ·refine⟨_,rfl,_,rfl,_,rfl,p,b,z,(1+n),rfl,hp6,hb6,lz,z1,z2,by lia,by lia,fun t' y H7 hy0 hy7 lt' tl7 hp7 k7=>?_⟩
      exact k t' y H7 (by obtain⟨x,w1,w',e'⟩:=hp6;exact k06.free e' hy0) hy7 lt' (by lia) (by lia) hp7 (k06.trans k7)
end
abbrev jo:Stmt:=aS 34
def bv(u:List Nat):List Nat:=((List.range u.length).map (·+1)).filter fun d=>decide (u.drop d=u.take (u.length-d))
theorem zt{u:List Nat}{d:Nat}(hd:d≤u.length):u.drop d=u.take (u.length-d)↔∀q,q<u.length-d→u[d+q]?=u[q]?:=by
 constructor
 ·intro h q hq
  have:=congrArg (·[q]?) h
  have this:(u.drop d)[q]?=(u.take (u.length-d))[q]?:=this
  rw[List.getElem?_drop,List.getElem?_take_of_lt hq] at this
  exact this
 ·intro h
  apply List.ext_getElem?
  intro q
  by_cases hq:q<u.length-d
  ·rw[List.getElem?_drop,List.getElem?_take_of_lt hq];exact h q hq
  ·rw[List.getElem?_eq_none (by rw[List.length_drop];lia),List.getElem?_eq_none (by rw[List.length_take];lia)]
theorem qc(u:List Nat)(i:Nat):((List.range (i+1)).map (·+1)).filter (fun d=>decide (u.drop d=u.take (u.length-d)))=((List.range i).map (·+1)).filter (fun d=>decide (u.drop d=u.take (u.length-d)))++(if u.drop (i+1)=u.take (u.length-(i+1)) then [i+1] else []):=by
 rw[List.range_succ,List.map_append,List.filter_append]
 congr 1
 by_cases h:u.drop (i+1)=u.take (u.length-(i+1)) <;> simp[h]
theorem pF(u:List Nat):(bv u).length≤u.length:=by
 unfold bv
 have:=List.length_filter_le (fun d=>decide (u.drop d=u.take (u.length-d))) ((List.range u.length).map (·+1))
 simpa using this
def iI:Sp:=fun vs H Q _=>∃(a:Addr) (u:List Nat),vs=[.ref a]∧H a=some (.lst (u.map sg))∧Low u∧1≤u.length∧u.length≤900∧
 ∀(r:Addr) (H':Hp),H r=none→H' r=some (.lst (aA (bv u)))→Same H H'→Q (.ref r) H'
theorem dv(ks:List Nat)(i:Nat):aA (ks++[i])=aA ks++[V.int (i:Int)]:=by simp[aA]
theorem sg_inj{a b:Nat}:(sg a=sg b)↔a=b:=by
 constructor
 ·intro h
  have:aw a=aw b:=V.str.inj h
  simpa [aw] using this
 ·intro h;rw[h]
section
variable{P:Program}{w:World}{K:PySem.W.Frag}{mg:Str→Option Value}{base:Heap}
theorem scShiftsL:FnScope ["word","found","far"] ["word"] (ar jo):=fsc_
theorem yG(M:Md K mg)(B:Bl mg)(F:FF K "_law_shifts" jo):Fn P w K mg base ai "_law_shifts" 1 ["word"] iI:=by
 refine aV M F scShiftsL (fun _ _ _ _ _ _=>bJ fun _=>rfl) (fun vs H Q E h=>?_) (fun f cdv A outer s H vs Q E hr h=>?_)
 ·obtain⟨a,u,rfl,_⟩:=h;rfl
 ·obtain⟨a,u,rfl,ha,lu,u1,ul,k⟩:=h
  refine⟨_,(ae (am (i:=1) scShiftsL.nd rfl (.inl rfl) (bb ac))
   (ae (cm PassesOwn.never rfl (jk (by rfl) B.range (aa af (aa (ap bC (aR B.len (pv 0)) af) ac))) (ba (i:=2) scShiftsL.nd rfl (.inr rfl))
   (ao (br (aL (oN (by exact hr)) (cY ["word","found","far"] rfl (jk (by rfl) B.range (aa (pv 2) (aa (aR B.len (pv 0)) ac))) (fun _=>by exact(eP (aL pV (aO aU (pv 0) (pv 3) (fun _ _=>rfl)) (aO aU (pv 0) (ap aZ (pv 3) (pv 2)) (fun _ _=>rfl)) (aI _)))) (fun _=>by exact(pv 3))) (bb ac) (aI _)) (ao (bf (cI PySem.F.plainAttrs_list PySem.F.slot_list_append PySem.F.type_list_append dJ (pv 1) (aa (pv 2) ac)))) bq)))
   (ao (aJ (pv 1))))),?_⟩
  refine⟨Nat.zero_le _,fun r hrn=>?_⟩
  have s0:=Same.upd (o:=.lst []) hrn
  refine⟨_,rfl,a,_,rfl,SqL.of (s0 _ _ ha),_,_,rfl,rfl,1,_,rfl,⟨by decide,by decide,by rw[List.length_map];lia,by rw[List.length_map];lia⟩,?_⟩
  rw[List.length_map,show((u.length:Int)+1-1).toNat=u.length by lia]
  refine gB (lo:=1) (n:=u.length) (fun i σ H2=>∃v2,σ=[some (.ref a),some (.ref r),v2]∧Same H H2∧H2 r=some (.lst (aA (((List.range i).map (·+1)).filter fun d=>decide (u.drop d=u.take (u.length-d)))))) ?_ ?_ ?_
  ·exact⟨none,rfl,s0,ad⟩
  ·rintro i σ H2 hi ⟨v2,rfl,s2,hr2⟩
   have ha2:=s2 _ _ ha
   refine⟨_,rfl,_,rfl,a,_,rfl,SqL.of ha2,1+(i:Int),_,rfl,⟨by lia,by lia,by rw[List.length_map];lia,by rw[List.length_map];lia⟩,fun D hD cb=>?_⟩
   rw[List.length_map,show((u.length:Int)-(1+(i:Int))).toNat=u.length-(i+1) by lia]
   refine eD (lo:=1+(i:Int)) (n:=u.length-(i+1)) (fun j ys H3=>∃zs:List Int,ys=zs.map V.int∧zs.length≤j∧(zs=[]↔∀q,q<j→u[i+1+q]?=u[q]?)∧Same H2 H3∧H3 D=some (.lst ys)) (bn (by lia)) ?_ ?_ ?_ ?_
   ·exact⟨[],rfl,Nat.le_refl _,by simp,Same.upd hD,ad⟩
   ·rintro j ys H3 ⟨zs,rfl,h,_⟩
    rw[List.length_map];exact h
   ·rintro j ys H3 hj ⟨zs,rfl,zl,zn,s3,hD3⟩
    have ha3:=s3 _ _ ha2
    obtain⟨c,hc,_,_,ec⟩:=fI (t:=u) (r:=1+(i:Int)+(j:Int)) lu (by lia) (by lia)
    obtain⟨d,hd,_,_,ed⟩:=fI (t:=u) (r:=1+(i:Int)+(j:Int)-(1+(i:Int))) lu (by lia) (by lia)
    rw[show(1+(i:Int)+(j:Int)).toNat=i+1+j by lia] at hc
    rw[show(1+(i:Int)+(j:Int)-(1+(i:Int))).toNat=j by lia] at hd
    refine⟨_,rfl,_,rfl,a,_,_,_,rfl,rfl,SqL.of ha3,ec,_,rfl,_,rfl,_,rfl,_,_,rfl,rfl,a,_,_,_,rfl,rfl,SqL.of ha3,ed,rfl,_,rfl,?_⟩
    by_cases hcd:c=d
    ·rw[decide_eq_true (sg_inj.mpr hcd)]
     refine aX ⟨zs,rfl,by lia,?_,s3,hD3⟩
     rw[zn]
     constructor
     ·intro h q hq
      by_cases hqj:q=j
      ·subst hqj;rw[hc,hd,hcd]
      ·exact h q (by lia)
     ·intro h q hq;exact h q (by lia)
    ·rw[decide_eq_false (fun q=>hcd (sg_inj.mp q))]
     refine aY ⟨_,rfl,hD3,zs++[1+(i:Int)+(j:Int)],by simp,by simp;lia,?_,?_,ad⟩
     ·constructor
      ·intro h;simp at h
      ·intro h
       have:=h j (by lia)
       rw[hc,hd] at this
       exact absurd (Option.some.inj this) hcd
     ·intro b o e
      rw[ah (aD e hD)]
      exact s3 b o e
   ·rintro ys H3 ⟨zs,rfl,zl,zn,s3,hD3⟩
    refine⟨Nat.zero_le _,fun l hl=>?_⟩
    have s4:=s3.trans (Same.upd (o:=.lst []) hl)
    have hr4:=s4 _ _ hr2
    refine⟨D,l,zs,[],rfl,rfl,SqL.of ((Same.upd hl) _ _ hD3),SqL.of ad,_,rfl,?_⟩
    have hiff:zs=[]↔u.drop (i+1)=u.take (u.length-(i+1)):=by rw[zn,zt (by lia)]
    by_cases hz:zs=[]
    ·rw[decide_eq_true hz]
     refine aY ⟨_,rfl,.inl ⟨rfl,_,SqL.of hr4⟩,_,rfl,r,_,_,rfl,rfl,hr4,?_,?_⟩
     ·rw[aT]
      have:=List.length_filter_le (fun d=>decide (u.drop d=u.take (u.length-d))) ((List.range i).map (·+1))
      simp at this
      exact bn (by lia)
     ·refine⟨_,rfl,?_,?_⟩
      ·intro b o e
       rw[ah (aD e hrn)]
       exact s4 _ _ (s2 b o e)
      ·rw[ad,qc,if_pos (hiff.mp hz),dv]
       have e:V.int (1+(i:Int))=V.int (((i+1:Nat):Int)):=by congr 1;lia
       rw[e]
    ·rw[decide_eq_false hz]
     refine aX ⟨_,rfl,s2.trans s4,?_⟩
     rw[hr4,qc,if_neg (fun q=>hz (hiff.mpr q)),List.append_nil]
  ·rintro σ H2 ⟨v2,rfl,s2,hr2⟩
   exact⟨_,rfl,k r H2 hrn hr2 s2⟩
end
abbrev jW:Stmt:=aS 12
abbrev kc:Stmt:=aS 13
def mB:Sp:=fun vs H Q _=>∃c:Nat,vs=[sg c]∧97≤c∧c≤122∧Q (.bl true) H
def ia:Sp:=fun vs H Q _=>∃(a:Addr) (t:List Nat),vs=[.ref a]∧H a=some (.lst (t.map sg))∧Low t∧Q .non H
theorem rp{c:Nat}(h:97≤c):(!decide ((aw c).cps.toList<(Str.ofString "a").cps.toList))=true:=by
 have e:(Str.ofString "a").cps.toList=[97]:=by decide+kernel
 rw[e]
 have:¬([c] < [97]):=fun q=>by
  cases q with
  | rel r=>lia
  | cons r=>cases r
 simp[this]
theorem x6{c:Nat}(h:c≤122):(!decide ((Str.ofString "z").cps.toList<(aw c).cps.toList))=true:=by
 have e:(Str.ofString "z").cps.toList=[122]:=by decide+kernel
 rw[e]
 have:¬([122] < [c]):=fun q=>by
  cases q with
  | rel r=>lia
  | cons r=>cases r
 simp[this]
section
variable{P:Program}{w:World}{K:PySem.W.Frag}{mg:Str→Option Value}{base:Heap}
theorem xy:FnScope ["sign"] ["sign"] (ar jW):=fsc_
theorem yT(M:Md K mg)(B:Bl mg)(F:FF K "is_sign" jW):Fn P w K mg base ai "is_sign" 1 ["sign"] mB:=by
 refine aV M F xy (fun _ _ _ _ _ _=>bJ fun _=>rfl) (fun vs H Q E h=>?_) (fun f cdv A outer s H vs Q E hr h=>?_)
 ·obtain⟨c,rfl,_⟩:=h;rfl
 ·obtain⟨c,rfl,c1,c2,k⟩:=h
  refine⟨_,(ao (aJ (kI (pA B.isinst B.str xG (pv 0)) (kI (fY cu (si B.len (pv 0)) af (aI _)) (oh (zo oy oy iq (pv 0) iq)))))),?_⟩
  refine⟨_,rfl,_,true,TyOf.str _,rfl,_,rfl,aY ?_⟩
  refine⟨_,rfl,_,rfl,sz (by show 1≤1000;decide),rfl,true,rfl,aY ?_⟩
  refine⟨_,rfl,_,_,rfl,rfl,_,rfl,?_⟩
  rw[rp c1]
  refine aY ⟨_,_,rfl,rfl,?_⟩
  rw[x6 c2]
  exact k
theorem scCheck:FnScope ["text","sign"] ["text"] (ar kc):=fsc_
theorem zj(M:Md K mg)(B:Bl mg)(F:FF K "check_signs" kc)(Fis_sign:Fn P w K mg base ai "is_sign" 1 ["sign"] mB):Fn P w K mg base ai "check_signs" 2 ["text"] ia:=by
 refine aV M F scCheck (fun _ _ _ _ _ _=>bJ fun _=>rfl) (fun vs H Q E h=>?_) (fun f cdv A outer s H vs Q E hr h=>?_)
 ·obtain⟨a,t,rfl,_⟩:=h;rfl
 ·obtain⟨a,t,rfl,ha,lt,k⟩:=h
  refine⟨_,(ao (cm PassesOwn.never rfl (ck (pv 0)) (ba (i:=1) scCheck.nd rfl (.inl rfl))
   (ao (br (iE (pN (aC Fis_sign hr aE (aa (pv 1) ac)))) (ao li) bq)))),?_⟩
  refine⟨_,rfl,a,rfl,⟨_,SqL.of ha⟩,gZ (K:=K) (a:=a) (xs:=t.map sg) (fun i σ H2=>H2=H∧∃v,σ=[some (.ref a),v]) ⟨rfl,none,rfl⟩ (fun i σ H2 _ h2=>by rw[h2.1];exact SqL.of ha) ?_ ?_⟩
  ·rintro i x σ H2 hx ⟨rfl,v,rfl⟩
   rw[List.getElem?_map] at hx
   cases e:t[i]? with
   | none=>rw[e] at hx;cases hx
   | some c=>
     rw[e] at hx
     have:sg c=x:=Option.some.inj hx
     subst this
     have hc:=lt c (List.mem_of_getElem? e)
     exact⟨_,rfl,c,rfl,hc.1,hc.2,true,rfl,aX ⟨rfl,_,rfl⟩⟩
  ·rintro σ H2 ⟨rfl,_⟩
   exact k
end
def cr(t:List Nat):List Nat:=(List.range t.length).filter fun k=>decide (t.take k=t.drop (t.length-k))
def l7:Sp:=fun vs H Q _=>∃(a:Addr) (t:List Nat),vs=[.ref a]∧H a=some (.lst (t.map sg))∧Low t∧t.length≤1000∧
 ∀(r:Addr) (H':Hp),H r=none→H' r=some (.lst (aA (cr t)))→Same H H'→Q (.ref r) H'
theorem yW{t:List Nat}{k:Nat}(h:k∈cr t):k<t.length:=by
 simp[cr] at h;exact h.1
theorem xm(t:List Nat):(cr t).length≤t.length:=iU _
theorem n8{t:List Nat}{i:Nat}:((List.range (i+1)).filter fun k=>decide (t.take k=t.drop (t.length-k)))=((List.range i).filter fun k=>decide (t.take k=t.drop (t.length-k)))++(if t.take i=t.drop (t.length-i) then [i] else []):=by
 rw[List.range_succ,List.filter_append]
 congr 1
 by_cases h:t.take i=t.drop (t.length-i) <;> simp[h]
abbrev jT:Stmt:=aS 17
section
variable{P:Program}{w:World}{K:PySem.W.Frag}{mg:Str→Option Value}{base:Heap}
theorem scBorders:FnScope ["text","length"] ["text"] (ar jT):=fsc_
theorem tQ(M:Md K mg)(B:Bl mg)(F:FF K "borders" jT)(Fcheck_signs:Fn P w K mg base ai "check_signs" 2 ["text"] ia):Fn P w K mg base ai "borders" 3 ["text"] l7:=by
 refine aV M F scBorders (fun _ _ _ _ _ _=>bJ fun _=>rfl) (fun vs H Q E h=>?_) (fun f cdv A outer s H vs Q E hr h=>?_)
 ·obtain⟨a,t,rfl,_⟩:=h;rfl
 ·obtain⟨a,t,rfl,ha,lt,hl,k⟩:=h
  refine⟨_,(ae (bf (aC Fcheck_signs hr aE (aa (pv 0) ac)))
   (ae (am (i:=1) scBorders.nd rfl (.inr rfl) (aR B.len (pv 0)))
   (ao (aJ (cY ["text","length"] rfl (dR (by rfl) B.range (aa (pv 1) ac)) (fun _=>by exact(eP (aL (nF (by exact hr)) (bF bG (pv 0) bO (bu (pv 2))) (bF bG (pv 0) (bu (ap aZ (pv 1) (pv 2))) bO) (aI _)))) (fun _=>by exact(pv 2))))))),?_⟩
  refine⟨_,rfl,a,t,rfl,ha,lt,?_⟩
  refine⟨_,rfl,a,_,rfl,SqL.of ha,?_⟩
  refine⟨_,rfl,_,rfl,by rw[List.length_map];lia,by rw[List.length_map];lia,fun D hD b=>?_⟩
  rw[List.length_map,Int.toNat_natCast]
  refine eD (lo:=0) (n:=t.length) (fun i ys H2=>ys=aA ((List.range i).filter fun k=>decide (t.take k=t.drop (t.length-k)))∧Same H H2∧H2 D=some (.lst ys)) (bn hl) ?_ ?_ ?_ ?_
  ·exact⟨rfl,Same.upd hD,ad⟩
  ·rintro i ys H2 ⟨rfl,_⟩
   rw[aT];exact iU _
  ·rintro i ys H2 hi ⟨rfl,s2,hD2⟩
   refine⟨_,rfl,_,rfl,_,rfl,a,_,rfl,SqL.of (s2 _ _ ha),fun p1 hp1=>?_⟩
   have s3:=s2.trans (Same.upd (o:=.lst (bi (t.map sg) none (some (0+(i:Int))))) hp1)
   refine⟨_,rfl,_,rfl,_,rfl,_,_,rfl,rfl,_,rfl,a,_,rfl,SqL.of (s3 _ _ ha),fun p2 hp2=>?_⟩
   have n12:p1≠p2:=aD ad hp2
   refine⟨p1,p2,t.take i,t.drop (t.length-i),rfl,rfl,SqL.of ?_,SqL.of ?_,(lt.take _).cp,(lt.drop _).cp,_,rfl,?_⟩
   ·rw[ah n12,ad,dq,dD,gm _ _ (by lia),show(0+(i:Int)).toNat=i by lia]
   ·rw[ad,dq,dD,qC _ _ (by lia),show((t.length:Int)-(0+(i:Int))).toNat=t.length-i by lia]
   ·have s4:=s3.trans (Same.upd (o:=.lst (bi (t.map sg) (some ((t.length:Int)-(0+(i:Int)))) none)) hp2)
    have hD4:=(Same.upd (H:=L2.upd H2 p1 _) (o:=.lst (bi (t.map sg) (some ((t.length:Int)-(0+(i:Int)))) none)) hp2) _ _ ((Same.upd (o:=.lst (bi (t.map sg) none (some (0+(i:Int))))) hp1) _ _ hD2)
    refine bT (fun hc=>?_) (fun hc=>?_)
    ·have hc':t.take i=t.drop (t.length-i):=by simpa using hc
     refine⟨_,rfl,hD4,?_,?_,ad⟩
     ·rw[n8,if_pos hc',jF]
     ·intro b o e
      rw[ah (aD e hD)]
      exact s4 b o e
    ·have hc':¬t.take i=t.drop (t.length-i):=by simpa using hc
     refine⟨?_,s4,hD4⟩
     rw[n8,if_neg hc',List.append_nil]
  ·rintro ys H2 ⟨rfl,s2,hD2⟩
   exact k D H2 hD hD2 s2
end
abbrev jG:Stmt:=aS 18
def lh(t:List Nat):List Nat:=(cr t).reverse.map (t.length - ·)
def oU:Sp:=fun vs H Q _=>∃(a:Addr) (t:List Nat),vs=[.ref a]∧H a=some (.lst (t.map sg))∧Low t∧t.length≤1000∧
 ∀(r:Addr) (H':Hp),H r=none→H' r=some (.lst (aA (lh t)))→Same H H'→Q (.ref r) H'
theorem rZ{α:Type}(xs:List α)(i:Nat)(x:α)(h:xs[xs.length-1-i]?=some x)(hi:i<xs.length):xs.reverse.take (i+1)=xs.reverse.take i++[x]:=by
 rw[List.take_add_one,List.getElem?_reverse hi,h]
 rfl
section
variable{P:Program}{w:World}{K:PySem.W.Frag}{mg:Str→Option Value}{base:Heap}
theorem xO:FnScope ["text"] ["text"] (ar jG):=fsc_
theorem rC(M:Md K mg)(B:Bl mg)(F:FF K "periods" jG)(Fborders:Fn P w K mg base ai "borders" 3 ["text"] l7):Fn P w K mg base ai "periods" 4 ["text"] oU:=by
 refine aV M F xO (fun _ _ _ _ _ _=>bJ fun _=>rfl) (fun vs H Q E h=>?_) (fun f cdv A outer s H vs Q E hr h=>?_)
 ·obtain⟨a,t,rfl,_⟩:=h;rfl
 ·obtain⟨a,t,rfl,ha,lt,hl,k⟩:=h
  refine⟨_,(ao (aJ (cY ["text"] rfl (vq B.rev (aC Fborders hr aE (aa (pv 0) ac))) (fun _=>by exact df) (fun _=>by exact(ap aZ (aR B.len (pv 0)) (pv 1)))))),?_⟩
  refine⟨_,rfl,a,t,rfl,ha,lt,hl,fun r H1 hr0 hr1 s1=>?_⟩
  refine⟨r,_,rfl,SqL.of hr1,fun D hD b=>?_⟩
  have el:=xm t
  refine tz (K:=K) (a:=r) (xs:=aA (cr t)) (fun i ys H2=>ys=aA (((cr t).reverse.take i).map (t.length - ·))∧Same H1 H2∧H2 D=some (.lst ys)) (by rw[aT];exact bn (by lia)) ?_ ?_ ?_ ?_ ?_
  ·exact⟨by simp[aA],Same.upd hD,ad⟩
  ·rintro i ys H2 ⟨rfl,_⟩
   rw[aT,List.length_map,List.length_take];lia
  ·rintro i ys H2 _ ⟨rfl,s2,_⟩;exact SqL.of (s2 _ _ hr1)
  ·rintro i x ys H2 hx hi ⟨rfl,s2,hD2⟩
   refine dh ?_
   rw[aT] at hx hi
   obtain⟨k,hk,rfl⟩:∃k,(cr t)[(cr t).length-1-i]?=some k∧x=V.int (k:Int):=by
    unfold aA at hx
    rw[List.map_map,List.getElem?_map] at hx
    cases q:(cr t)[(cr t).length-1-i]? with
    | none=>rw[q] at hx;cases hx
    | some k=>
      rw[q] at hx
      exact⟨k,rfl,(Option.some.inj hx).symm⟩
   have hk':=yW (List.mem_of_getElem? hk)
   refine⟨_,rfl,a,_,rfl,SqL.of (s2 _ _ (s1 _ _ ha)),_,rfl,_,_,rfl,rfl,hD2,?_,?_,ad⟩
   ·rw[rZ _ _ _ hk hi,List.map_append,List.length_map]
    show aA _++[V.int ((t.length:Int)-(k:Int))]=aA (_++[t.length-k])
    rw[jF,Int.zero_add,Int.ofNat_sub (Nat.le_of_lt hk')]
   ·intro b o e
    rw[ah (aD e hD)]
    exact s2 b o e
  ·rintro ys H2 ⟨rfl,s2,hD2⟩
   refine k D H2 (s1.free hD) ?_ (s1.trans s2)
   rw[hD2,aT,List.take_of_length_le (by simp)]
   rfl
end
def bM(t u:List Nat):List Nat:=(List.range (t.length+1-u.length)).filter fun p=>decide ((t.drop p).take u.length=u)
def zM(t u:List Nat)(p j:Nat):List Nat:=(List.range j).filter fun q=>!decide (t[p+q]?=u[q]?)
theorem m6(t u:List Nat)(i:Nat):((List.range (i+1)).filter fun p=>decide ((t.drop p).take u.length=u))=((List.range i).filter fun p=>decide ((t.drop p).take u.length=u))++(if(t.drop i).take u.length=u then [i] else []):=by
 rw[List.range_succ,List.filter_append]
 congr 1
 by_cases h:(t.drop i).take u.length=u <;> simp[h]
def lT:Sp:=fun vs H Q _=>∃(a b:Addr) (t u:List Nat),vs=[.ref a,.ref b]∧H a=some (.lst (t.map sg))∧H b=some (.lst (u.map sg))∧Low t∧Low u∧t.length≤900∧u.length≤900∧1≤u.length∧
 ∀(r:Addr) (H':Hp),H r=none→H' r=some (.lst (aA (bM t u)))→Same H H'→Q (.ref r) H'
abbrev lm:Stmt:=aS 14
abbrev lD:Stmt:=aS 19
def gq:Sp:=fun vs H Q _=>∃(a:Addr) (t:List Nat),vs=[.ref a]∧H a=some (.lst (t.map sg))∧Low t∧1≤t.length∧Q .non H
section
variable{P:Program}{w:World}{K:PySem.W.Frag}{mg:Str→Option Value}{base:Heap}
theorem sw:FnScope ["word"] ["word"] (ar lm):=fsc_
theorem wR(M:Md K mg)(B:Bl mg)(F:FF K "check_word" lm)(Fcheck_signs:Fn P w K mg base ai "check_signs" 2 ["text"] ia):Fn P w K mg base ai "check_word" 3 ["word"] gq:=by
 refine aV M F sw (fun _ _ _ _ _ _=>bJ fun _=>rfl) (fun vs H Q E h=>?_) (fun f cdv A outer s H vs Q E hr h=>?_)
 ·obtain⟨a,t,rfl,_⟩:=h;rfl
 ·obtain⟨a,t,rfl,ha,lt,t1,k⟩:=h
  refine⟨_,(ae (br (aL cu (aR B.len (pv 0)) af (aI _)) (ao li) bq)
   (ao (bf (aC Fcheck_signs hr aE (aa (pv 0) ac))))),?_⟩
  refine⟨_,rfl,a,_,rfl,SqL.of ha,rfl,_,rfl,?_⟩
  rw[decide_eq_false (fun q=>by have:=V.int.inj q;rw[List.length_map] at this;lia)]
  exact aX ⟨_,rfl,a,t,rfl,ha,lt,k⟩
theorem scLiesAt:FnScope ["text","word","many"] ["text","word"] (ar lD):=fsc_
theorem uj(M:Md K mg)(B:Bl mg)(F:FF K "lies_at" lD)(Fcheck_signs:Fn P w K mg base ai "check_signs" 2 ["text"] ia)(Fcheck_word:Fn P w K mg base ai "check_word" 3 ["word"] gq):Fn P w K mg base ai "lies_at" 4 ["text","word"] lT:=by
 refine aV M F scLiesAt (fun _ _ _ _ _ _=>jA fun _ _=>rfl) (fun vs H Q E h=>?_) (fun f cdv A outer s H vs Q E hr h=>?_)
 ·obtain⟨a,b,t,u,rfl,_⟩:=h;rfl
 ·obtain⟨a,b,t,u,rfl,ha,hb,lt,lu,tl,ul,u1,k⟩:=h
  refine⟨_,(ae (bf (aC Fcheck_word hr aE (aa (pv 1) ac)))
   (ae (bf (aC Fcheck_signs hr aE (aa (pv 0) ac)))
   (ae (am (i:=2) scLiesAt.nd rfl (.inr rfl) (aR B.len (pv 1)))
   (ao (aJ (cY ["text","word","many"] rfl (dR (by rfl) B.range (aa (ap bC (ap aZ (aR B.len (pv 0)) (pv 2)) af) ac)) (fun _=>by exact(eP (aL (nF (by exact hr)) (bF bG (pv 0) (bu (pv 3)) (bu (ap bC (pv 3) (pv 2)))) (pv 1) (aI _)))) (fun _=>by exact(pv 3)))))))),?_⟩
  refine⟨_,rfl,b,u,rfl,hb,lu,u1,?_⟩
  refine⟨_,rfl,a,t,rfl,ha,lt,?_⟩
  refine⟨_,rfl,b,_,rfl,SqL.of hb,?_⟩
  refine⟨_,rfl,a,_,rfl,SqL.of ha,_,rfl,_,_,rfl,rfl,_,_,rfl,rfl,_,rfl,by rw[List.length_map,List.length_map];lia,by rw[List.length_map,List.length_map];lia,fun D hD cb=>?_⟩
  rw[List.length_map,List.length_map,show((t.length:Int)-(u.length:Int)+1).toNat=t.length+1-u.length by lia]
  refine eD (lo:=0) (n:=t.length+1-u.length) (fun i ys H2=>ys=aA ((List.range i).filter fun p=>decide ((t.drop p).take u.length=u))∧Same H H2∧H2 D=some (.lst ys)) (bn (by lia)) ?_ ?_ ?_ ?_
  ·exact⟨rfl,Same.upd hD,ad⟩
  ·rintro i ys H2 ⟨rfl,_⟩
   rw[aT];exact iU _
  ·rintro i ys H2 hi ⟨rfl,s2,hD2⟩
   refine⟨_,rfl,_,rfl,_,rfl,_,rfl,_,rfl,_,_,rfl,rfl,_,rfl,a,_,rfl,SqL.of (s2 _ _ ha),fun p1 hp1=>?_⟩
   have s3:=s2.trans (Same.upd (o:=.lst (bi (t.map sg) (some (0+(i:Int))) (some (0+(i:Int)+(u.length:Int))))) hp1)
   refine⟨_,rfl,p1,b,(t.drop i).take u.length,u,rfl,rfl,SqL.of ?_,SqL.of (s3 _ _ hb),((lt.drop _).take _).cp,lu.cp,_,rfl,?_⟩
   ·rw[ad,dq,dD,qB _ _ _ (by lia) (by lia),show(0+(i:Int)).toNat=i by lia,show(0+(i:Int)+(u.length:Int)).toNat-i=u.length by lia]
   ·have hD3:=(Same.upd (o:=.lst (bi (t.map sg) (some (0+(i:Int))) (some (0+(i:Int)+(u.length:Int))))) hp1) _ _ hD2
    refine bT (fun hc=>?_) (fun hc=>?_)
    ·have hc':(t.drop i).take u.length=u:=by simpa using hc
     refine⟨_,rfl,hD3,?_,?_,ad⟩
     ·rw[m6,if_pos hc',jF]
     ·intro b o e
      rw[ah (aD e hD)]
      exact s3 b o e
    ·have hc':¬(t.drop i).take u.length=u:=by simpa using hc
     refine⟨?_,s3,hD3⟩
     rw[m6,if_neg hc',List.append_nil]
  ·rintro ys H2 ⟨rfl,s2,hD2⟩
   exact k D H2 hD hD2 s2
end
def fb(m:Nat):Nat→List Nat→Nat
 | reach,[]=>reach
 | reach,p::r=>if p>reach then reach else fb m (p+m) r
theorem vI(t u:List Nat):(bM t u).Pairwise (·< ·):=by
 unfold bM
 exact List.Pairwise.filter _ List.pairwise_lt_range
theorem hU{ks:List Nat}{i:Nat}{x:V}(h:(aA ks)[i]?=some x):∃k,ks[i]?=some k∧x=V.int (k:Int):=by
 unfold aA at h
 rw[List.map_map,List.getElem?_map] at h
 cases q:ks[i]? with
 | none=>rw[q] at h;cases h
 | some k=>rw[q] at h;exact⟨k,rfl,(Option.some.inj h).symm⟩
abbrev iV:Stmt:=aS 21
theorem zJ(n:Nat):(List.range n).reverse.map (n - ·)=(List.range n).map (·+1):=by
 apply List.ext_getElem
 ·simp
 ·intro i h1 h2
  simp at h1 h2 ⊢
  lia
theorem yM(t:List Nat):lh t=bv t:=by
 unfold lh cr bv
 rw[←List.filter_reverse,←zJ,List.filter_map]
 congr 1
 apply List.filter_congr
 intro k hk
 have hk':k<t.length:=by simpa using hk
 show decide _=decide _
 have e:t.length-(t.length-k)=k:=by lia
 rw[e]
 exact decide_eq_decide.mpr ⟨fun h=>h.symm,fun h=>h.symm⟩
section
variable{P:Program}{w:World}{K:PySem.W.Frag}{mg:Str→Option Value}{base:Heap}
theorem zI:FnScope ["word"] ["word"] (ar iV):=fsc_
theorem t7(M:Md K mg)(B:Bl mg)(F:FF K "shifts" iV)(Fcheck_word:Fn P w K mg base ai "check_word" 3 ["word"] gq)(Fperiods:Fn P w K mg base ai "periods" 4 ["text"] oU):Fn P w K mg base ai "shifts" 5 ["word"] iI:=by
 refine aV M F zI (fun _ _ _ _ _ _=>bJ fun _=>rfl) (fun vs H Q E h=>?_) (fun f cdv A outer s H vs Q E hr h=>?_)
 ·obtain⟨a,t,rfl,_⟩:=h;rfl
 ·obtain⟨a,t,rfl,ha,lt,t1,tl,k⟩:=h
  refine⟨_,(ae (bf (aC Fcheck_word hr aE (aa (pv 0) ac)))
   (ao (aJ (aC Fperiods hr aE (aa (pv 0) ac))))),?_⟩
  refine⟨_,rfl,a,t,rfl,ha,lt,t1,?_⟩
  refine⟨_,rfl,a,t,rfl,ha,lt,by lia,fun r H1 hr0 hr1 s1=>k r H1 hr0 ?_ s1⟩
  rw[hr1,yM]
end
abbrev gD:Stmt:=aS 15
def jn:Sp:=fun vs H Q _=>∃a lo hi:Int,vs=[.int a,.int lo,.int hi]∧lo≤a∧a≤hi∧Q .non H
section
variable{P:Program}{w:World}{K:PySem.W.Frag}{mg:Str→Option Value}{base:Heap}
theorem om:FnScope ["number","least","most"] ["number","least","most"] (ar gD):=fsc_
theorem rq(M:Md K mg)(B:Bl mg)(F:FF K "check_within" gD):Fn P w K mg base ai "check_within" 1 ["number","least","most"] jn:=by
 refine aV M F om (fun _ _ _ _ _ _=>cT fun _ _ _=>rfl) (fun vs H Q E h=>?_) (fun f cdv A outer s H vs Q E hr h=>?_)
 ·obtain⟨a,lo,hi,rfl,_⟩:=h;rfl
 ·obtain⟨a,lo,hi,rfl,h1,h2,k⟩:=h
  refine⟨_,(ao (br (iE (k9 dP dP (pv 1) (pv 0) (pv 2))) (ao li) bq)),?_⟩
  refine⟨_,rfl,_,rfl,_,_,rfl,rfl,_,rfl,?_⟩
  rw[decide_eq_true h1]
  refine aY ⟨_,rfl,_,_,rfl,rfl,_,rfl,?_⟩
  rw[decide_eq_true h2]
  exact aX k
end
def Oc(w t:List Nat)(p:Nat):Prop:=∃a b,t=a++(w++b)∧a.length=p
def au(w:List Nat)(d:Nat):List Nat:=w.drop (w.length-d)
def cB(w:List Nat)(d:Nat):Prop:=1≤d∧d≤w.length∧w.drop d=w.take (w.length-d)
def Sg(w:List Nat)(d:Nat):Prop:=cB w d∧∀j,0<j→j<d→¬Oc w (w.take d++w) j
theorem Oc.le{w t:List Nat}{p:Nat}(h:Oc w t p):p+w.length≤t.length:=by
 obtain⟨a,b,rfl,rfl⟩:=h
 simp only[List.length_append];lia
theorem pY{w t:List Nat}{p:Nat}:Oc w t p↔p+w.length≤t.length∧(t.drop p).take w.length=w:=by
 constructor
 ·intro h
  refine⟨h.le,?_⟩
  obtain⟨a,b,rfl,rfl⟩:=h
  rw[List.drop_left,List.take_left]
 ·rintro⟨h1,h2⟩
  refine⟨t.take p,(t.drop p).drop w.length,?_,by rw[List.length_take];lia⟩
  have:=List.take_append_drop w.length (t.drop p)
  rw[h2] at this
  rw[this,List.take_append_drop]
theorem nt{w a t:List Nat}{p:Nat}:Oc w (a++t) (a.length+p)↔Oc w t p:=by
 constructor
 ·rintro⟨x,b,e,l⟩
  have hx:a <+:x:=by
   have:a <+:x++(w++b):=by rw[←e];exact List.prefix_append _ _
   exact List.prefix_of_prefix_length_le this (List.prefix_append _ _) (by lia)
  obtain⟨y,rfl⟩:=hx
  rw[List.append_assoc] at e
  refine⟨y,b,List.append_cancel_left e,?_⟩
  rw[List.length_append] at l;lia
 ·rintro⟨x,b,rfl,rfl⟩
  exact⟨a++x,b,by rw[List.append_assoc],by rw[List.length_append]⟩
theorem Oc.more{w t:List Nat}{p:Nat}(h:Oc w t p)(z:List Nat):Oc w (t++z) p:=by
 obtain⟨a,b,rfl,rfl⟩:=h
 exact⟨a,b++z,by simp only[List.append_assoc],rfl⟩
theorem Oc.cut{w t z:List Nat}{p:Nat}(h:Oc w (t++z) p)(hl:p+w.length≤t.length):Oc w t p:=by
 rw[pY] at h ⊢
 refine⟨hl,?_⟩
 have e:=h.2
 rw[List.drop_append_of_le_length (by lia),List.take_append_of_le_length (by rw[List.length_drop];lia)] at e
 exact e
theorem dC{w:List Nat}{d:Nat}(h:cB w d):w.take d++w=w++au w d:=by
 obtain⟨_,_,h⟩:=h
 have e1:w=w.take d++w.take (w.length-d):=by rw[←h,List.take_append_drop]
 have e2:w.take (w.length-d)++au w d=w:=List.take_append_drop _ _
 calc w.take d++w=w.take d++(w.take (w.length-d)++au w d):=by rw[e2]
  _=(w.take d++w.take (w.length-d))++au w d:=by rw[List.append_assoc]
  _=w++au w d:=by rw[←e1]
theorem bX{w:List Nat}{d:Nat}(h:d≤w.length):(au w d).length=d:=by unfold au;rw[List.length_drop];lia
def tx(w:List Nat):List Nat→List Nat
 | []=>w
 | d::ds=>w.take d++tx w ds
def bR(p:Nat):List Nat→List Nat
 | []=>[p]
 | d::ds=>p::bR (p+d) ds
theorem lA{w:List Nat}:∀{ds:List Nat},(∀d∈ds,d≤w.length)→(tx w ds).length=w.length+ds.sum
 | [],_=>by simp[tx]
 | d::ds,h=>by
   rw[tx,List.length_append,lA fun x hx=>h x (List.mem_cons_of_mem _ hx),List.length_take,List.sum_cons]
   have:=h d List.mem_cons_self
   lia
theorem kU{w:List Nat}:∀{ds:List Nat},(∀d∈ds,cB w d)→∃z,tx w ds=w++z
 | [],_=>⟨[],by simp[tx]⟩
 | d::ds,h=>by
   obtain⟨z,hz⟩:=kU fun x hx=>h x (List.mem_cons_of_mem d hx)
   refine⟨au w d++z,?_⟩
   rw[tx,hz,←List.append_assoc,dC (h d List.mem_cons_self),List.append_assoc]
theorem vK{w:List Nat}{d:Nat}{ds:List Nat}(h:∀x∈d::ds,cB w x):∃z,tx w (d::ds)=w++(au w d++z):=by
 obtain⟨z,hz⟩:=kU fun x hx=>h x (List.mem_cons_of_mem d hx)
 exact⟨z,by rw[tx,hz,←List.append_assoc,dC (h d List.mem_cons_self),List.append_assoc]⟩
theorem jJ{w:List Nat}{d:Nat}(h:cB w d):∀ds:List Nat,tx w (ds++[d])=tx w ds++au w d
 | []=>by show w.take d++w=w++au w d;exact dC h
 | x::ds=>by show w.take x++tx w (ds++[d])=(w.take x++tx w ds)++au w d;rw[jJ h ds,List.append_assoc]
theorem l8:∀{ds:List Nat} {p x:Nat},x∈bR p ds→p≤x
 | [],p,x,h=>by rw[List.mem_singleton.mp h];exact Nat.le_refl _
 | d::ds,p,x,h=>by
   rcases List.mem_cons.mp h with e | e
   ·lia
   ·have:=l8 e;lia
theorem p8:∀{ds:List Nat} {p:Nat},(∀d∈ds,1≤d)→(bR p ds).Pairwise (·< ·)
 | [],p,_=>by simp[bR]
 | d::ds,p,h=>by
   rw[bR,List.pairwise_cons]
   refine⟨fun x hx=>?_,p8 fun x hx=>h x (List.mem_cons_of_mem _ hx)⟩
   have:=l8 hx
   have:=h d List.mem_cons_self
   lia
theorem kj:∀{ds:List Nat} {p x:Nat},x∈bR p ds↔p≤x∧x-p∈bR 0 ds
 | [],p,x=>by simp only[bR,List.mem_singleton];lia
 | d::ds,p,x=>by
   simp only[bR,List.mem_cons]
   rw[kj (p:=p+d) (x:=x),kj (p:=0+d) (x:=x-p)]
   constructor
   ·rintro(h | ⟨h1,h2⟩)
    ·exact⟨by lia,.inl (by lia)⟩
    ·exact⟨by lia,.inr ⟨by lia,by rw[show x-p-(0+d)=x-(p+d) by lia];exact h2⟩⟩
   ·rintro⟨h1,h | ⟨h2,h3⟩⟩
    ·exact .inl (by lia)
    ·exact .inr ⟨by lia,by rw[show x-(p+d)=x-p-(0+d) by lia];exact h3⟩
theorem pZ{w:List Nat}:∀{ds:List Nat},(∀d∈ds,Sg w d)→∀p,Oc w (tx w ds) p↔p∈bR 0 ds
 | [],_,p=>by
   simp only[tx,bR,List.mem_singleton]
   constructor
   ·intro h;have:=h.le;lia
   ·rintro rfl;exact⟨[],[],by simp,rfl⟩
 | d::ds,h,p=>by
   have hd:=h d List.mem_cons_self
   obtain⟨⟨d1,d2,d3⟩,d4⟩:=hd
   have ih:=pZ fun x hx=>h x (List.mem_cons_of_mem d hx)
   have hl:(w.take d).length=d:=by rw[List.length_take];lia
   obtain⟨z,hz⟩:=kU (w:=w) (ds:=ds) fun x hx=>(h x (List.mem_cons_of_mem d hx)).1
   rw[tx,bR,List.mem_cons,kj (p:=0+d)]
   by_cases hp:d≤p
   ·have:Oc w (w.take d++tx w ds) p↔Oc w (tx w ds) (p-d):=by
     have:=nt (w:=w) (a:=w.take d) (t:=tx w ds) (p:=p-d)
     rw[hl,show d+(p-d)=p by lia] at this
     exact this
    rw[this,ih,Nat.zero_add]
    constructor
    ·intro q;exact .inr ⟨hp,q⟩
    ·rintro(q | q)
     ·lia
     ·exact q.2
   ·constructor
    ·intro q
     by_cases p0:p=0
     ·exact .inl p0
     ·exfalso
      rw[hz,←List.append_assoc] at q
      exact d4 p (by lia) (by lia) (q.cut (by rw[List.length_append,hl];lia))
    ·rintro(q | q)
     ·subst q
      rw[hz,←List.append_assoc,dC ⟨d1,d2,d3⟩]
      exact⟨[],au w d++z,by simp,rfl⟩
     ·lia
def Cv(w t:List Nat):Prop:=Oc w t 0∧∀p,Oc w t p→p+w.length<t.length→∃q,p<q∧q≤p+w.length∧Oc w t q
theorem fU{w:List Nat}{d e:Nat}(hd:Sg w d)(he:Sg w e)(h:au w d <+:au w e):d=e:=by
 have l1:=bX hd.1.2.1
 have l2:=bX he.1.2.1
 have l3:=h.length_le
 by_cases z:d=e
 ·exact z
 ·exfalso
  obtain⟨x,hx⟩:=h
  refine he.2 d (by have:=hd.1.1;lia) (by lia) ?_
  rw[dC he.1,←hx,←List.append_assoc,←dC hd.1]
  refine Oc.more ⟨w.take d,[],by simp,?_⟩ x
  have:=hd.1.2.1
  rw[List.length_take];lia
def cl(S:List Nat)(L:Nat):Nat→List Nat
 | 0=>List.replicate L 0++[1]
 | k+1=>cl S L k++[(S.map fun d=>(cl S L k).getD ((cl S L k).length-d) 0).sum]
theorem dB(S:List Nat)(L:Nat):∀k,(cl S L k).length=L+1+k
 | 0=>by simp[cl]
 | k+1=>by rw[cl,List.length_append,dB S L k];rfl
def cn(S:List Nat)(L n:Nat):Nat:=(cl S L n).getD n 0
theorem i6{S:List Nat}{L k n:Nat}(h:n<L+1+k):∀j,(cl S L (k+j)).getD n 0=(cl S L k).getD n 0
 | 0=>rfl
 | j+1=>by
   rw[←Nat.add_assoc,cl,List.getD_eq_getElem?_getD,List.getElem?_append_left (by rw[dB];lia),←List.getD_eq_getElem?_getD]
   exact i6 h j
theorem de{S:List Nat}{L k n:Nat}(h:n<L+1+k):(cl S L k).getD n 0=cn S L n:=by
 unfold cn
 rcases Nat.le_total k n with z | z
 ·have:=i6 (S:=S) h (n-k)
  rw[show k+(n-k)=n by lia] at this
  exact this.symm
 ·have:=i6 (S:=S) (L:=L) (k:=n) (n:=n) (by lia) (k-n)
  rw[show n+(k-n)=k by lia] at this
  exact this
theorem d9{S:List Nat}{L n:Nat}(h:n<L):cn S L n=0:=by
 rw[←de (k:=0) (by lia),cl,List.getD_eq_getElem?_getD,List.getElem?_append_left (by rw[List.length_replicate];lia),List.getElem?_replicate,if_pos h]
 rfl
theorem gW{S:List Nat}{L:Nat}:cn S L L=1:=by
 rw[←de (k:=0) (by lia),cl]
 simp[List.getD_eq_getElem?_getD]
theorem fD{l:List Nat}{g h:Nat→Nat}(e:∀c∈l,g c=h c):(l.map g).sum=(l.map h).sum:=by rw[List.map_congr_left e]
theorem gY{S:List Nat}{L n:Nat}(hS:∀d∈S,1≤d)(h:L<n):cn S L n=(S.map fun d=>cn S L (n-d)).sum:=by
 obtain⟨k,rfl⟩:∃k,n=L+1+k:=⟨n-L-1,by lia⟩
 rw[←de (k:=k+1) (by lia),cl,List.getD_eq_getElem?_getD,List.getElem?_append_right (by rw[dB];lia),dB,Nat.sub_self]
 show(S.map fun d=>(cl S L k).getD (L+1+k-d) 0).sum=_
 exact fD fun d hd=>de (by have:=hS d hd;lia)
theorem x8{S T:List Nat}{L:Nat}(hS:∀d∈S,1≤d)(p:S.Perm T):∀n,cn S L n=cn T L n:=by
 intro n
 induction n using Nat.strongRecOn with
 | ind n ih=>
   have hT:∀d∈T,1≤d:=fun d hd=>hS d (p.mem_iff.mpr hd)
   rcases Nat.lt_trichotomy n L with z | z | z
   ·rw[d9 z,d9 z]
   ·subst z;rw[gW,gW]
   ·rw[gY hS z,gY hT z,fD (l:=S) (g:=fun d=>cn S L (n-d)) (h:=fun d=>cn T L (n-d)) fun d hd=>ih (n-d) (by have:=hS d hd;lia)]
    exact(p.map _).sum_nat
theorem pk:∀(m:Nat) (S:List Nat),S.Nodup→(∀d∈S,1≤d)→(S.map fun d=>if d≤m then 2 ^ (m-d) else 0).sum+1≤2 ^ m
 | 0,S,_,h1=>by
   have:(S.map fun d=>if d≤0 then 2 ^ (0-d) else 0).sum=(S.map fun _=>0).sum:=fD fun d hd=>if_neg (by have:=h1 d hd;lia)
   rw[this]
   have:∀l:List Nat,(l.map fun _=>0).sum=0:=fun l=>by induction l <;> simp_all
   rw[this];simp
 | m+1,S,hn,h1=>by
   have key:∀l:List Nat,l.Nodup→(∀d∈l,1≤d)→(l.map fun d=>if d≤m+1 then 2 ^ (m+1-d) else 0).sum≤(if 1∈l then 2 ^ m else 0)+(((l.filter (·≠1)).map (·- 1)).map fun d=>if d≤m then 2 ^ (m-d) else 0).sum:=by
    intro l
    induction l with
    | nil=>intro _ _;simp
    | cons x r ih=>
      intro hn h1
      have hn':=(List.nodup_cons.mp hn)
      have ih':=ih hn'.2 fun d hd=>h1 d (List.mem_cons_of_mem _ hd)
      have x1:=h1 x List.mem_cons_self
      by_cases e:x=1
      ·subst e
       rw[if_neg hn'.1] at ih'
       rw[if_pos List.mem_cons_self,List.map_cons,List.sum_cons,if_pos (by lia),List.filter_cons_of_neg (by simp),show m+1-1=m by lia]
       lia
      ·have e1:(if 1∈x::r then 2 ^ m else 0)=(if 1∈r then 2 ^ m else 0):=by
        by_cases z:1∈r
        ·rw[if_pos z,if_pos (List.mem_cons_of_mem _ z)]
        ·rw[if_neg z,if_neg (fun q=>(List.mem_cons.mp q).elim (fun q=>e q.symm) z)]
       rw[e1,List.filter_cons_of_pos (by simpa using e),List.map_cons,List.sum_cons,List.map_cons,List.map_cons,List.sum_cons]
       have e2:(if x≤m+1 then 2 ^ (m+1-x) else 0)=(if x-1≤m then 2 ^ (m-(x-1)) else 0):=by
        by_cases z:x≤m+1
        ·rw[if_pos z,if_pos (by lia),show m+1-x=m-(x-1) by lia]
        ·rw[if_neg z,if_neg (by lia)]
       rw[e2];lia
   have k:=key S hn h1
   have ih:=pk m ((S.filter (·≠1)).map (·- 1)) ?_ ?_
   ·have:(if 1∈S then 2 ^ m else 0)≤2 ^ m:=by split <;> lia
    rw[Nat.pow_succ];lia
   ·have hf:(S.filter (·≠1)).Nodup:=hn.filter _
    rw[List.Nodup,List.pairwise_map]
    refine List.Pairwise.imp_of_mem ?_ hf
    intro a b ha hb hne z
    have:=h1 a (List.mem_filter.mp ha).1
    have:=h1 b (List.mem_filter.mp hb).1
    lia
   ·intro d hd
    obtain⟨a,ha,rfl⟩:=List.mem_map.mp hd
    have h2:=h1 a (List.mem_filter.mp ha).1
    have h3:a≠1:=by simpa using(List.mem_filter.mp ha).2
    lia
theorem sr{S:List Nat}{L:Nat}(hL:1≤L)(hS:∀d∈S,1≤d)(hn:S.Nodup):∀m,cn S L (L+m)≤2 ^ m:=by
 intro m
 induction m using Nat.strongRecOn with | ind m ih=>
  by_cases z:m=0
  ·subst z;rw[Nat.add_zero,gW];decide
  ·rw[gY hS (by lia)]
   have:(S.map fun d=>cn S L (L+m-d)).sum≤(S.map fun d=>if d≤m then 2 ^ (m-d) else 0).sum:=by
    have gen:∀l:List Nat,(∀d∈l,1≤d)→(l.map fun d=>cn S L (L+m-d)).sum≤(l.map fun d=>if d≤m then 2 ^ (m-d) else 0).sum:=by
     intro l
     induction l with
     | nil=>intro _;simp
     | cons x r ih2=>
       intro h1
       have x1:=h1 x List.mem_cons_self
       have:=ih2 fun d hd=>h1 d (List.mem_cons_of_mem _ hd)
       rw[List.map_cons,List.sum_cons,List.map_cons,List.sum_cons]
       have:cn S L (L+m-x)≤if x≤m then 2 ^ (m-x) else 0:=by
        by_cases q:x≤m
        ·rw[if_pos q,show L+m-x=L+(m-x) by lia];exact ih (m-x) (by lia)
        ·rw[if_neg q,d9 (by lia)];exact Nat.le_refl _
       lia
    exact gen S hS
   have:=pk m S hn hS
   lia
def pre(S:List Nat)(d:Nat):List Nat:=S.takeWhile (·≠d)
theorem yk{S:List Nat}{d:Nat}(h:d∈S):∃post,S=pre S d++d::post:=by
 unfold pre
 induction S with
 | nil=>cases h
 | cons x r ih=>
   by_cases e:x=d
   ·subst e;exact⟨r,by rw[List.takeWhile_cons_of_neg (by simp)];rfl⟩
   ·obtain⟨post,hp⟩:=ih ((List.mem_cons.mp h).resolve_left fun q=>e q.symm)
    refine⟨post,?_⟩
    rw[List.takeWhile_cons_of_pos (by simpa using e),List.cons_append,←hp]
theorem wD{S p q:List Nat}{d:Nat}(hn:S.Nodup)(e:S=p++d::q):pre S d=p:=by
 unfold pre
 subst e
 have hp:=(List.nodup_append.mp hn).2.2
 rw[List.takeWhile_append_of_pos fun x hx=>by
  have:=hp x hx d List.mem_cons_self
  simpa using this,List.takeWhile_cons_of_neg (by simp),List.append_nil]
def rk(S:List Nat)(L:Nat):List Nat→Nat
 | []=>0
 | d::ds=>((pre S d).map fun s=>cn S L (L+(d+ds.sum)-s)).sum+rk S L ds
section
variable{S:List Nat}{L:Nat}
end
theorem yu(c x y:List Int):aH (c++x) (c++y)=aH x y:=by
 induction c with
 | nil=>rfl
 | cons a c ih=>simp[aH,ih]
theorem nY(x y:List Nat):aB (x++y)=aB x++aB y:=by simp[aB]
theorem sv{x y:List Nat}(h:aB x <+:aB y):x <+:y:=by
 rw[List.prefix_iff_eq_take] at h ⊢
 unfold aB at h
 rw[List.length_map,←List.map_take] at h
 have inj:∀{a b:List Nat},a.map (fun c:Nat=>(c:Int))=b.map (fun c:Nat=>(c:Int))→a=b:=by
  intro a
  induction a with
  | nil=>intro b h;cases b with | nil=>rfl | cons _ _=>cases h
  | cons x a ih=>
    intro b h
    cases b with
    | nil=>cases h
    | cons y b=>
      rw[List.map_cons,List.map_cons] at h
      have h':=List.cons.inj h
      rw[ih h'.2,Int.ofNat.inj h'.1]
 exact inj h
section
variable{w S:List Nat}
def nM(w S:List Nat):Prop:=S.Pairwise fun a b=>aH (aB (au w b)) (aB (au w a))=false
end
theorem lies_oc{t u:List Nat}{p:Nat}:p∈bM t u↔Oc u t p:=by
 rw[pY]
 unfold bM
 rw[List.mem_filter]
 simp only[List.mem_range,decide_eq_true_eq]
 constructor
 ·rintro⟨h1,h2⟩;exact⟨by lia,h2⟩
 ·rintro⟨h1,h2⟩;exact⟨by lia,h2⟩
theorem qZ:∀{a b:List Nat},a.Pairwise (·< ·)→b.Pairwise (·< ·)→(∀x,x∈a↔x∈b)→a=b
 | [],[],_,_,_=>rfl
 | [],y::b,_,_,h=>by have:=(h y).mpr List.mem_cons_self;cases this
 | x::a,[],_,_,h=>by have:=(h x).mp List.mem_cons_self;cases this
 | x::a,y::b,ha,hb,h=>by
   have ha':=List.pairwise_cons.mp ha
   have hb':=List.pairwise_cons.mp hb
   have e:x=y:=by
    rcases List.mem_cons.mp ((h x).mp List.mem_cons_self) with q | q
    ·exact q
    ·rcases List.mem_cons.mp ((h y).mpr List.mem_cons_self) with r | r
     ·exact r.symm
     ·have:=ha'.1 y r;have:=hb'.1 x q;lia
   subst e
   congr 1
   refine qZ ha'.2 hb'.2 fun z=>?_
   have hz:=h z
   rw[List.mem_cons,List.mem_cons] at hz
   constructor
   ·intro q
    rcases hz.mp (.inr q) with r | r
    ·subst r;exact absurd (ha'.1 z q) (Nat.lt_irrefl _)
    ·exact r
   ·intro q
    rcases hz.mpr (.inr q) with r | r
    ·subst r;exact absurd (hb'.1 z q) (Nat.lt_irrefl _)
    ·exact r
theorem vG{u ds:List Nat}(h:∀d∈ds,Sg u d):bM (tx u ds) u=bR 0 ds:=
 qZ (vI _ _) (p8 fun d hd=>(h d hd).1.1) fun x=>by rw[lies_oc,pZ h]
theorem mem_shifts{u:List Nat}{d:Nat}:d∈bv u↔cB u d:=by
 unfold bv cB
 rw[List.mem_filter,List.mem_map,decide_eq_true_eq]
 constructor
 ·rintro⟨⟨q,hq,rfl⟩,h⟩
  rw[List.mem_range] at hq
  exact⟨by lia,by lia,h⟩
 ·rintro⟨h1,h2,h3⟩
  exact⟨⟨d-1,by rw[List.mem_range];lia,by lia⟩,h3⟩
theorem m9{u:List Nat}{d:Nat}(h:cB u d):bM (u.take d++u) u=[0,d]↔Sg u d:=by
 have dl:(u.take d).length=d:=by rw[List.length_take];have:=h.2.1;lia
 constructor
 ·intro e
  refine⟨h,fun j j1 j2 hj=>?_⟩
  have:=lies_oc.mpr hj
  rw[e] at this
  simp at this;lia
 ·intro hs
  have:=vG (u:=u) (ds:=[d]) fun x hx=>by rw[List.mem_singleton.mp hx];exact hs
  rw[show tx u [d]=u.take d++u from rfl] at this
  rw[this];simp[bR]
def d8(u:List Nat):List Nat:=(bv u).filter fun d=>decide (bM (u.take d++u) u=[0,d])
theorem mem_singles{u:List Nat}{d:Nat}:d∈d8 u↔Sg u d:=by
 unfold d8
 rw[List.mem_filter,mem_shifts,decide_eq_true_eq]
 constructor
 ·rintro⟨h1,h2⟩;exact(m9 h1).mp h2
 ·intro h;exact⟨h.1,(m9 h.1).mpr h⟩
theorem ka(u:List Nat):(d8 u).Nodup:=by
 unfold d8 bv
 refine List.Pairwise.filter _ (List.Pairwise.filter _ ?_)
 rw[List.pairwise_map]
 exact List.Pairwise.imp (fun h=>by lia) List.nodup_range
def Laid(t u:List Nat):Prop:=∃fs,(∀f∈fs,cB u f)∧t=tx u fs
theorem Laid.self(u:List Nat):Laid u u:=⟨[],by simp,rfl⟩
theorem Laid.more{t u:List Nat}(h:Laid t u){s:Nat}(hs:s∈bv u):Laid (t++u.drop (u.length-s)) u:=by
 obtain⟨fs,h1,rfl⟩:=h
 refine⟨fs++[s],fun f hf=>?_,(jJ (mem_shifts.mp hs) fs).symm⟩
 rcases List.mem_append.mp hf with q | q
 ·exact h1 f q
 ·rw[List.mem_singleton.mp q];exact mem_shifts.mp hs
theorem nJ{u:List Nat}(u1:1≤u.length):∀{fs:List Nat},(∀f∈fs,cB u f)→Cv u (tx u fs)
 | [],_=>⟨⟨[],[],by simp[tx],rfl⟩,fun p hp hl=>by rw[tx] at hl;lia⟩
 | d::fs,h=>by
   obtain⟨d1,d2,d3⟩:=h d List.mem_cons_self
   obtain⟨c1,c2⟩:=nJ u1 fun f hf=>h f (List.mem_cons_of_mem d hf)
   have dl:(u.take d).length=d:=by rw[List.length_take];lia
   have tr:∀p,Oc u (u.take d++tx u fs) (d+p)↔Oc u (tx u fs) p:=fun p=>by
    have:=nt (w:=u) (a:=u.take d) (t:=tx u fs) (p:=p)
    rw[dl] at this
    exact this
   obtain⟨z,hz⟩:=vK h
   refine⟨⟨[],au u d++z,by rw[hz];simp,rfl⟩,fun p hp hl=>?_⟩
   rw[tx] at hp hl ⊢
   by_cases q:d≤p
   ·rw[List.length_append,dl] at hl
    obtain⟨r,r1,r2,r3⟩:=c2 (p-d) ((tr _).mp (by rw[show d+(p-d)=p by lia];exact hp)) (by lia)
    exact⟨d+r,by lia,by lia,(tr r).mpr r3⟩
   ·exact⟨d,by lia,by lia,(tr 0).mpr c1⟩
theorem Laid.cv{t u:List Nat}(u1:1≤u.length)(h:Laid t u):Cv u t:=by
 obtain⟨fs,h1,rfl⟩:=h
 exact nJ u1 h1
structure Stp(u S:List Nat):Prop where
 perm:S.Perm (d8 u)
 key:nM u S
theorem Stp.mem{u S:List Nat}(h:Stp u S){d:Nat}:d∈S↔Sg u d:=h.perm.mem_iff.trans mem_singles
theorem Stp.nodup{u S:List Nat}(h:Stp u S):S.Nodup:=h.perm.nodup_iff.mpr (ka u)
theorem Stp.one{u S:List Nat}(h:Stp u S):∀d∈S,1≤d:=fun d hd=>(h.mem.mp hd).1.1
theorem Stp.len{u S:List Nat}(h:Stp u S):S.length≤u.length:=by
 rw[h.perm.length_eq]
 refine Nat.le_trans (List.length_filter_le _ _) ?_
 refine Nat.le_trans (List.length_filter_le _ _) ?_
 simp
def aG(u:List Nat)(n:Nat):Nat:=cn (d8 u) u.length n
theorem Stp.cn{u S:List Nat}(h:Stp u S)(n:Nat):cn S u.length n=aG u n:=x8 h.one h.perm n
theorem my{u:List Nat}(u1:1≤u.length){n:Nat}(hn:n≤200):aG u n≤2 ^ 199:=by
 by_cases z:n<u.length
 ·unfold aG;rw[d9 z];exact Nat.zero_le _
 ·have:=sr u1 (fun d hd=>(mem_singles.mp hd).1.1) (ka u) (n-u.length)
  rw[show u.length+(n-u.length)=n by lia] at this
  exact Nat.le_trans this (Nat.pow_le_pow_right (by decide) (by lia))
abbrev kr:Stmt:=aS 35
theorem pi{α:Type}{l:List α}{j:Nat}{x:α}(h:l[j]?=some x):l.take (j+1)=l.take j++[x]:=by
 rw[List.take_add_one,h];rfl
theorem eI{k:Nat}{v:V}{j:Int}{σ:St}{H:Hp}{R:St→Hp→Prop}(e:v=.int j)(h:cC k (.int j) σ H R):cC k v σ H R:=by rw[e];exact h
def nE:Sp:=fun vs H Q _=>∃(p b:Addr) (u:List Nat) (most:Int),vs=[.ref p,.ref b,.int most]∧Hand H p∧H b=some (.lst (u.map sg))∧Low u∧1≤u.length∧u.length≤900∧0≤most∧most≤900∧
 ∀(t:List Nat) (r:Addr) (H':Hp),H r=none→H' r=some (.lst (t.map sg))→Low t→Laid t u→(t.length:Int)≤max most u.length→Hand H' p→Keep p H H'→Q (.ref r) H'
theorem rR{te:TE}{i:Nat}{aq:TS}{D:Ends}{σ:St}{H:Hp}(h:te σ H fun x H1=>aq D (σ.set i (some x)) H1):dY (eC te (cC i)) aq D σ H:=h
theorem uY{te:TE}{i:Nat}{D:Ends}{σ:St}{H:Hp}(h:te σ H fun x H1=>D.nx (σ.set i (some x)) H1):eC te (cC i) D σ H:=h
theorem oi{l:List Nat}{f:Nat→Bool}{i o:Nat}(h:l[i]?=some o):(l.take (i+1)).filter f=(l.take i).filter f++(if f o=true then [o] else []):=by
 rw[pi h,List.filter_append]
 congr 1
 by_cases hf:f o=true <;> simp[hf]
theorem mv{K:PySem.W.Frag}{st:Addr}{S:List Nat}{left:Nat}{σ:St}{H2:Hp}{Q:VK}{n i3 i5:Nat}(hn:σ.length=n)(h3:σ[i3]?=some (some (.ref st)))(h5:σ[i5]?=some (some (.int (left:Int))))(hst:H2 st=some (.lst (aA S)))(hS:S.length≤900)(k:∀D H3,H2 D=none→H3 D=some (.lst (aA (S.filter fun s=>decide (s≤left))))→Same H2 H3→Q (.ref D) H3):
 gJ (qk K (cP i3)) (fun _=>kH (eB (cZ fun i j=>.bl (decide (i≤j))) (cP n) (cP i5))) (fun _=>cP n) σ H2 Q:=by
 refine⟨_,h3,st,rfl,⟨_,SqL.of hst⟩,fun D hD cb=>?_⟩
 have i5l:i5<σ.length:=(List.getElem?_eq_some_iff.mp h5).1
 refine im (K:=K) (a:=st) (xs:=aA S) (fun i ys H3=>ys=aA ((S.take i).filter fun s=>decide (s≤left))∧Same H2 H3∧H3 D=some (.lst ys)) (by rw[aT];exact bn (by lia)) ?_ ?_ ?_ ?_ ?_
 ·exact⟨rfl,Same.upd hD,ad⟩
 ·rintro i ys H3 ⟨rfl,_⟩
  rw[aT]
  exact Nat.le_trans (List.length_filter_le _ _) (by rw[List.length_take];lia)
 ·rintro i ys H3 _ ⟨_,s5,_⟩;exact SqL.of (s5 _ _ hst)
 ·rintro i x ys H3 hx ⟨rfl,s5,hD3⟩
  obtain⟨o,ho,rfl⟩:=hU hx
  have e8:(σ++[some (V.int (o:Int))])[n]?=some (some (.int (o:Int))):=by rw[←hn,List.getElem?_append_right (Nat.le_refl _)];simp
  have e5:(σ++[some (V.int (o:Int))])[i5]?=some (some (.int (left:Int))):=by rw[List.getElem?_append_left i5l];exact h5
  refine⟨_,e8,_,e5,_,_,rfl,rfl,_,rfl,?_⟩
  have stp:=oi (f:=fun s=>decide (s≤left)) ho
  by_cases h1:o≤left
  ·rw[decide_eq_true (show((o:Int)≤(left:Int)) by lia)]
   refine aY ⟨_,e8,hD3,?_,fun e o' z=>by rw[ah (aD z hD)];exact s5 _ _ z,ad⟩
   rw[stp,if_pos (by simp[h1]),dv]
  ·rw[decide_eq_false (show¬((o:Int)≤(left:Int)) by lia)]
   refine aX ⟨?_,s5,hD3⟩
   rw[stp,if_neg (by simp[h1]),List.append_nil]
 ·rintro ys H3 ⟨rfl,s5,hD3⟩
  rw[aT,List.take_length] at hD3
  exact k D H3 hD hD3 s5
section
variable{P:Program}{w:World}{K:PySem.W.Frag}{mg:Str→Option Value}{base:Heap}
theorem scLaid:FnScope ["pot","word","most","near","text","left","some","far"] ["pot","word","most"] (ar kr):=fsc_
theorem u6(M:Md K mg)(B:Bl mg)(F:FF K "_law_laid" kr)(F_law_take:Fn P w K mg base ai "_law_take" 1 ["pot","many"] eY)(F_law_shifts:Fn P w K mg base ai "_law_shifts" 1 ["word"] iI):Fn P w K mg base ai "_law_laid" 2 ["pot","word","most"] nE:=by
 refine aV M F scLaid (fun _ _ _ _ _ _=>cT fun _ _ _=>rfl) (fun vs H Q E h=>?_) (fun f cdv A outer s H vs Q E hr h=>?_)
 ·obtain⟨p,b,u,most,rfl,_⟩:=h;rfl
 ·obtain⟨p,b,u,most,rfl,hp,hb,lu,u1,ul,m0,m1,k⟩:=h
  refine⟨_,(ae (am (i:=3) scLaid.nd rfl (.inl rfl) (aC F_law_shifts hr aE (aa (pv 1) ac)))
   (ae (am (i:=4) scLaid.nd rfl (.inl rfl) (ik B.list (pv 1)))
   (ae (am (i:=5) scLaid.nd rfl (.inr rfl) (aC F_law_take hr aE (aa (pv 0) (aa (iF rfl B.max af (ap bC (ap aZ (pv 2) (aR B.len (pv 1))) af)) ac))))
   (ae (iK (i:=6) ["pot","word","most","near","text","left","some",""] rfl scLaid.nd rfl (.inl rfl) (ck (pv 3)) (fun _=>by exact(eP (aL dP (pv 8) (pv 5) (aI _)))) (fun _=>by exact(pv 8)))
   (ae (dL PassesOwn.never (aL (tm (by exact hr)) (pv 6) (bb ac) (aI _)) (ae (am (i:=7) scLaid.nd rfl (.inl rfl) (aO aU (pv 6) (aC F_law_take hr aE (aa (pv 0) (aa (aR B.len (pv 6)) ac))) (fun _ _=>rfl)))
   (ae (am (i:=4) scLaid.nd rfl (.inl rfl) (ap cX (pv 4) (bF bG (pv 1) (bu (ap aZ (aR B.len (pv 1)) (pv 7))) bO)))
   (ae (am (i:=5) scLaid.nd rfl (.inr rfl) (ap aZ (pv 5) (pv 7)))
   (ao (iK (i:=6) ["pot","word","most","near","text","left","some",""] rfl scLaid.nd rfl (.inl rfl) (ck (pv 3)) (fun _=>by exact(eP (aL dP (pv 8) (pv 5) (aI _)))) (fun _=>by exact(pv 8))))))))
   (ao (aJ (pv 4)))))))),?_⟩
  have nbp:=cq hp hb
  refine⟨_,rfl,b,u,rfl,hb,lu,u1,ul,fun st H1 hst0 hst1 s1=>?_⟩
  have nst:st≠p:=(hp.ne hst0).symm
  refine⟨_,rfl,b,_,rfl,SqL.of (s1 _ _ hb),fun tq htq=>?_⟩
  have s2:=Same.upd (o:=.lst (u.map sg)) htq
  have htq2:=ad (H:=H1) (a:=tq) (o:=.lst (u.map sg))
  have hp1:=hp.same s1
  have ntq:tq≠p:=(hp1.ne htq).symm
  have tqn:H tq=none:=s1.free htq
  generalize L2.upd H1 tq (.lst (u.map sg))=H2 at s2 htq2 ⊢
  have s12:=s1.trans s2
  have hp2:=hp.same s12
  refine⟨_,rfl,_,rfl,_,rfl,b,_,rfl,SqL.of (s12 _ _ hb),_,_,rfl,rfl,_,_,rfl,rfl,_,_,rfl,rfl,?_⟩
  rw[List.length_map]
  refine⟨p,_,rfl,hp2,by lia,by lia,fun lf H3 l0 l1 hp3 k3=>?_⟩
  have k03:Keep p H H3:=fun c o h n=>k3 _ _ (s12 _ _ h) n
  obtain⟨left,rfl⟩:∃n:Nat,lf=(n:Int):=⟨lf.toNat,by lia⟩
  have hst3:=k3 _ _ (s2 _ _ hst1) nst
  have htq3:=k3 _ _ htq2 ntq
  have sl:=pF u
  refine rR (mv (K:=K) rfl rfl rfl hst3 (by lia) fun sm H4 hsm0 hsm4 s4=>?_)
  have hp4:=hp3.same s4
  refine⟨fun m σ H5=>∃(t:List Nat) (left:Nat) (tq sm:Addr) (v7:Option V),m=left∧σ=[some (.ref p),some (.ref b),some (.int most),some (.ref st),some (.ref tq),some (.int (left:Int)),some (.ref sm),v7]∧H tq=none∧H5 tq=some (.lst (t.map sg))∧tq≠p∧sm≠p∧H5 sm=some (.lst (aA ((bv u).filter fun s=>decide (s≤left))))∧H5 st=some (.lst (aA (bv u)))∧Low t∧Laid t u∧((t.length+left:Nat):Int)≤max most u.length∧Hand H5 p∧Keep p H H5,⟨left,u,left,tq,sm,none,rfl,rfl,tqn,s4 _ _ htq3,ntq,(hp3.ne hsm0).symm,hsm4,s4 _ _ hst3,lu,Laid.self u,by lia,hp4,fun c o h n=>s4 _ _ (k03 _ _ h n)⟩,?_⟩
  rintro m σ H5 ⟨t,left,tq,sm,v7,rfl,rfl,tqn,htq5,ntq,nsm,hsm5,hst5,lt,La,tl,hp5,k05⟩
  refine⟨_,rfl,Nat.zero_le _,fun e0 he0=>?_⟩
  have s6:=Same.upd (o:=.lst []) he0
  have he6:=ad (H:=H5) (a:=e0) (o:=.lst [])
  generalize L2.upd H5 e0 (.lst [])=H6 at s6 he6 ⊢
  refine⟨sm,e0,_,[],rfl,rfl,SqL.of (s6 _ _ hsm5),SqL.of he6,_,rfl,?_⟩
  cases hf:(bv u).filter fun s=>decide (s≤m) with
  | nil=>
    refine aX ⟨_,rfl,k t tq H6 tqn (s6 _ _ htq5) lt La (by lia) (hp5.same s6) fun c o h n=>s6 _ _ (k05 _ _ h n)⟩
  | cons f0 fr=>
    rw[hf] at hsm5
    refine aY ⟨fun σ' H'=>∃m',m'<m∧∃(t:List Nat) (left:Nat) (tq sm:Addr) (v7:Option V),m'=left∧σ'=[some (.ref p),some (.ref b),some (.int most),some (.ref st),some (.ref tq),some (.int (left:Int)),some (.ref sm),v7]∧H tq=none∧H' tq=some (.lst (t.map sg))∧tq≠p∧sm≠p∧H' sm=some (.lst (aA ((bv u).filter fun s=>decide (s≤left))))∧H' st=some (.lst (aA (bv u)))∧Low t∧Laid t u∧((t.length+left:Nat):Int)≤max most u.length∧Hand H' p∧Keep p H H',fun _ _ h=>h,?_⟩
    have hsm6:=s6 _ _ hsm5
    have flen:(f0::fr).length≤900:=by rw[←hf];exact Nat.le_trans (List.length_filter_le _ _) (by lia)
    refine⟨_,rfl,_,rfl,_,rfl,sm,_,rfl,SqL.of hsm6,p,_,rfl,hp5.same s6,by rw[aT,List.length_cons];lia,by rw[aT];lia,fun r H7 r0 r1 hp7 k7=>?_⟩
    rw[aT] at r1
    have k57:Keep p H5 H7:=fun c o h n=>k7 _ _ (s6 _ _ h) n
    have hrl:r.toNat<(f0::fr).length:=by lia
    have hge:(f0::fr)[r.toNat]?=some (f0::fr)[r.toNat]:=by simp[hrl]
    generalize (f0::fr)[r.toNat]=s at hge
    have hsf:s∈(bv u).filter fun s=>decide (s≤m):=by rw[hf];exact List.mem_of_getElem? hge
    have hss:=(List.mem_filter.mp hsf).1
    have hsm':s≤m:=of_decide_eq_true (List.mem_filter.mp hsf).2
    obtain⟨sb1,sb2,_⟩:=mem_shifts.mp hss
    have hat:bc (aA (f0::fr)) r=some (.int (s:Int)):=by
     obtain⟨v,hv,_,e⟩:=kP (aA (f0::fr)) r r0 (by rw[aT];exact r1)
     obtain⟨q,hq,rfl⟩:=hU hv
     rw[hge] at hq
     rw[e,Option.some.inj hq]
    refine⟨sm,_,_,_,rfl,rfl,SqL.of (k57 _ _ hsm5 nsm),hat,?_⟩
    have hb7:=k57 _ _ (k05 _ _ hb nbp) nbp
    have htq7:=k57 _ _ htq5 ntq
    have hst7:=k57 _ _ hst5 nst
    refine⟨_,rfl,_,rfl,_,rfl,b,_,rfl,SqL.of hb7,_,rfl,_,_,rfl,rfl,_,rfl,b,_,rfl,SqL.of hb7,fun q1 hq1=>?_⟩
    have e1:bi (u.map sg) (some (((u.map sg).length:Nat)-(s:Int))) none=(u.drop (u.length-s)).map sg:=by
     rw[List.length_map,show((u.length:Int)-(s:Int))=((u.length-s:Nat):Int) by lia,jH (by lia)];rfl
    rw[e1]
    have s8:=Same.upd (o:=.lst ((u.drop (u.length-s)).map sg)) hq1
    have hq8:=ad (H:=H7) (a:=q1) (o:=.lst ((u.drop (u.length-s)).map sg))
    generalize L2.upd H7 q1 (.lst ((u.drop (u.length-s)).map sg))=H8 at s8 hq8 ⊢
    have dl:(u.drop (u.length-s)).length=s:=by rw[List.length_drop];lia
    refine gh (s8 _ _ htq7) hq8 (by rw[dl];lia) fun q2 hq2=>?_
    have s9:=Same.upd (o:=.lst ((t++u.drop (u.length-s)).map sg)) hq2
    have hq9:=ad (H:=H8) (a:=q2) (o:=.lst ((t++u.drop (u.length-s)).map sg))
    have hp8:=hp7.same s8
    have nq2:q2≠p:=(hp8.ne hq2).symm
    have q2n:H q2=none:=hp8.free (fun c o h n=>s8 _ _ (k57 _ _ (k05 _ _ h n) n)) hq2
    generalize L2.upd H8 q2 (.lst ((t++u.drop (u.length-s)).map sg))=H9 at s9 hq9 ⊢
    have s79:=s8.trans s9
    have k59:Keep p H5 H9:=fun c o h n=>s79 _ _ (k57 _ _ h n)
    refine⟨_,rfl,_,rfl,_,_,rfl,rfl,?_⟩
    refine eI (j:=((m-s:Nat):Int)) (congrArg V.int (by lia)) ?_
    refine uY (mv (K:=K) rfl rfl rfl (s79 _ _ hst7) (by lia) fun sm2 H10 hsm20 hsm210 s10=>?_)
    have hp9:=hp7.same s79
    exact⟨m-s,by lia,t++u.drop (u.length-s),m-s,q2,sm2,_,rfl,rfl,q2n,s10 _ _ hq9,nq2,(hp9.ne hsm20).symm,hsm210,s10 _ _ (s79 _ _ hst7),lt.app (lu.drop _),La.more hss,by rw[List.length_append,dl];lia,hp9.same s10,fun c o h n=>s10 _ _ (k59 _ _ (k05 _ _ h n) n)⟩
end
open PySem.Spec PyProof.Rows
structure FFC(K:PySem.W.Frag)(x:Str)(st:Stmt)(cc:Addr):Prop where
 ex:∃(f:Addr) (oc:Value) (od an:Option Addr) (osl:Array (Option Value)) (kV doc pm ct:Value),PySem.W.nsIn K mainGlobals x=some (some (.ref f))∧
  K.lookup f=some ⟨oc,od,.func (PySem.W.fnOf x x (bW st) (bz st) (ar st) .none kV doc pm an (.ref cc) ct),osl⟩∧PySem.W.codeIn K (.ref cc) x=true∧PySem.W.keepIn K (.ref f)=true
theorem ffc_mk{K:PySem.W.Frag}{x:Str}{st:Stmt}{f cc:Addr}{oc:Value}{od an:Option Addr}{osl:Array (Option Value)}{kV doc pm ct:Value}(a:PySem.W.nsIn K mainGlobals x=some (some (.ref f)))(l:K.lookup f=some ⟨oc,od,.func (PySem.W.fnOf x x (bW st) (bz st) (ar st) .none kV doc pm an (.ref cc) ct),osl⟩)(c:PySem.W.codeIn K (.ref cc) x=true)(k:PySem.W.keepIn K (.ref f)=true):FFC K x st cc:=⟨f,oc,od,an,osl,kV,doc,pm,ct,a,l,c,k⟩
theorem uF{P:Program}{w:World}{K:PySem.W.Frag}{mg:Str→Option Value}{base:Heap}{x:Str}{st:Stmt}{N ps:List Str}{k:Nat}{sp:Sp}{cc:Addr}(M:Md K mg)(F:FFC K x st cc)(S:FnScope N ps (ar st))(hbind:∀(kV doc pm:Value) (an:Option Addr) (cdv ct:Value) (us:List Value),us.length=ps.length→bindArgs (PySem.W.fnOf x x (bW st) (bz st) (ar st) .none kV doc pm an cdv ct) ⟨us,[]⟩=pure (ps.zip us))(len:∀vs H Q E,sp vs H Q E→vs.length=ps.length)(hbody:∀(f:Addr) (A:Around) (outer:List Env) (s:Shared) (H:Hp) (vs:List V) (Q:VK) (E:XK),Room k (A.deeper (envOfC x (ar st) s.heap.objs.size f (.ref cc)))→sp vs H Q E→∃t,PSs (bE ai P w K mg base N x (ar st) f (.ref cc) A outer s H E).nox (bz st) t∧t {nx:=fun _ H'=>Q .non H',rt:=Q} (start N vs) H):Fn P w K mg base ai x (k+1) ps sp:=by
 obtain⟨f,oc,od,an,osl,kV,doc,pm,ct,a,l,c,kk⟩:=F.ex
 have F1:=iD (st:=st) l c kk
 refine⟨f,_,jO l c S len (fun A outer s H vs Q E hr h=>?_),M.ns _ _ a,kk,F1.binds hbind,oc,od,osl,l⟩
 obtain⟨t,h1,q⟩:=hbody f A outer s H vs Q E hr h
 exact⟨t,h1.nox,q⟩
abbrev eT:Stmt:=aS 24
def uZ:Pos:=⟨56,29,56,65⟩
abbrev sI:Str:=(envOfC "single_steps" (ar eT) 0 0 .none).qual++"<lambda>"
abbrev nu:Scope:={kind:=.function,names:=[(PySem.Str.ofString "step",.local),(PySem.Str.ofString "word",.free),(PySem.Str.ofString "len",.globalImplicit)],isGenerator:=false,isCoroutine:=false,more:=[]}
theorem rF:LamSc "word" "step" nu:=⟨rfl,rfl,rfl,by decide+kernel,by decide+kernel,by decide+kernel,by decide+kernel⟩
abbrev xt(K:PySem.W.Frag):TE:=lH (js K) (cP 0) (lC (eB (cZ fun i j=>.int (i-j)) (nw K (cP 0)) (cP 1))) i9
abbrev TB(H:Hp)(pt:Addr):Prop:=Tab H pt uZ sI
theorem TB.ne{H:Hp}{pt a:Addr}{xs:List V}(h:TB H pt)(ha:H a=some (.lst xs)):a≠pt:=fun z=>by
 rw[z] at ha
 rcases h with t | ⟨c,t,_⟩ <;> (rw[ha] at t;cases t)
def iZ(pt:Addr):Sp:=fun vs H Q _=>∃(a:Addr) (u:List Nat),vs=[.ref a]∧H a=some (.lst (u.map sg))∧Low u∧1≤u.length∧u.length≤400∧TB H pt∧
 ∀(r:Addr) (S:List Nat) (H':Hp),H r=none→H' r=some (.lst (aA S))→Stp u S→Keep pt H H'→TB H' pt→Q (.ref r) H'
theorem uL{S0:List Nat}{ms:List Int}(h:ms.Perm (S0.map fun(k:Nat)=>(k:Int))):∃S:List Nat,S.Perm S0∧ms=S.map fun(k:Nat)=>(k:Int):=by
 refine⟨ms.map Int.toNat,?_,?_⟩
 ·have:=h.map Int.toNat
  rw[List.map_map] at this
  have e:S0.map (Int.toNat ∘ fun(k:Nat)=>(k:Int))=S0:=by
   conv=>rhs;rw[←List.map_id S0]
   exact List.map_congr_left fun x _=>by simp
  rw[e] at this
  exact this
 ·rw[List.map_map]
  conv=>lhs;rw[←List.map_id ms]
  refine List.map_congr_left fun x hx=>?_
  obtain⟨k,_,rfl⟩:=List.mem_map.mp (h.mem_iff.mp hx)
  simp
theorem wq{a b:List Nat}(h:(a.map fun(k:Nat)=>(k:Int))=b.map fun(k:Nat)=>(k:Int)):a=b:=by
 have:=congrArg (List.map Int.toNat) h
 rw[List.map_map,List.map_map] at this
 have e:∀l:List Nat,l.map (Int.toNat ∘ fun(k:Nat)=>(k:Int))=l:=fun l=>by
  conv=>rhs;rw[←List.map_id l]
  exact List.map_congr_left fun x _=>by simp
 rw[e,e] at this
 exact this
section
variable{P:Program}{w:World}{K:PySem.W.Frag}{mg:Str→Option Value}{base:Heap}
theorem scSingle:FnScope ["word","steps"] ["word"] (ar eT):=fsc_
theorem xQ{cc pt:Addr}(M:Md K mg)(B:Bl mg)(nsorted:mg "sorted"=none)(C:PySem.W.CodeHd base cc pt)(hB:cH mg base)(F:FFC K "single_steps" eT cc)(Fshifts:Fn P w K mg base ai "shifts" 5 ["word"] iI)(Flies_at:Fn P w K mg base ai "lies_at" 4 ["text","word"] lT):Fn P w K mg base ai "single_steps" 6 ["word"] (iZ pt):=by
 refine uF M F scSingle (fun _ _ _ _ _ _=>bJ fun _=>rfl) (fun vs H Q E h=>?_) (fun f A outer s H vs Q E hr h=>?_)
 ·obtain⟨a,u,rfl,_⟩:=h;rfl
 ·obtain⟨a,u,rfl,ha,lu,u1,ul,T,k⟩:=h
  have hcl:∀cw,(bE ai P w K mg base ["word","steps"] "single_steps" (ar eT) f (.ref cc) A outer s H E).nox.env.cells.lookup ("word":Str)=some cw→closureFor nu (bE ai P w K mg base ["word","steps"] "single_steps" (ar eT) f (.ref cc) A outer s H E).nox.env=pure [(("word":Str),cw)]:=by
   intro cw e
   have e':some (s.heap.objs.size+1)=some cw:=e
   cases e'
   rfl
  refine⟨_,(ae (iK (i:=1) ["word","steps"] rfl scSingle.nd rfl (.inl rfl) (ck (aC Fshifts hr aE (aa (pv 0) ac))) (fun _=>by exact(eP (aL (oN (by exact hr)) (aC Flies_at hr aE (aa (ap cX (bF bG (pv 0) bO (bu (pv 2))) (pv 0)) (aa (pv 0) ac))) (bb (aa af (aa (pv 2) ac))) (aI _)))) (fun _=>by exact(pv 2)))
   (ao (aJ (rN (iw:=0) (tb:=xt K) rfl nsorted hr rfl C hB rF (by decide) rfl rfl hcl rfl (fun _ _ _ _ _ _=>rfl) (pv 1) (fun _ _ _ _ _ _ _=>(bF bG (pv 0) (bu (ap aZ (aR B.len (pv 0)) (pv 1))) bO)))))),?_⟩
  have nap:=T.ne ha
  refine⟨_,rfl,a,u,rfl,ha,lu,u1,by lia,fun st H1 hst0 hst1 s1=>?_⟩
  refine⟨st,rfl,⟨_,SqL.of hst1⟩,fun D hD cb=>?_⟩
  have sl:=pF u
  refine im (K:=K) (a:=st) (xs:=aA (bv u)) (fun i ys H2=>ys=aA (((bv u).take i).filter fun d=>decide (bM (u.take d++u) u=[0,d]))∧Same H1 H2∧H2 D=some (.lst ys)) (by rw[aT];exact bn (by lia)) ?_ ?_ ?_ ?_ ?_
  ·exact⟨rfl,Same.upd hD,ad⟩
  ·rintro i ys H2 ⟨rfl,_⟩
   rw[aT]
   exact Nat.le_trans (List.length_filter_le _ _) (by rw[List.length_take];lia)
  ·rintro i ys H2 _ ⟨_,s2,_⟩;exact SqL.of (s2 _ _ hst1)
  ·rintro i x ys H2 hx ⟨rfl,s2,hD2⟩
   obtain⟨d,hd,rfl⟩:=hU hx
   obtain⟨d1,d2,d3⟩:=mem_shifts.mp (List.mem_of_getElem? hd)
   have ha2:=s2 _ _ (s1 _ _ ha)
   refine⟨_,rfl,_,rfl,_,rfl,a,_,rfl,SqL.of ha2,fun q1 hq1=>?_⟩
   have e1:bi (u.map sg) none (some (d:Int))=(u.take d).map sg:=by
    rw[dq,dD,gm _ _ (by lia),show((d:Nat):Int).toNat=d by lia]
   rw[e1]
   have s3:=Same.upd (o:=.lst ((u.take d).map sg)) hq1
   have hq3:=ad (H:=H2) (a:=q1) (o:=.lst ((u.take d).map sg))
   generalize L2.upd H2 q1 (.lst ((u.take d).map sg))=H3 at s3 hq3 ⊢
   refine⟨_,rfl,gh hq3 (s3 _ _ ha2) (by rw[List.length_take];lia) fun q2 hq2=>?_⟩
   have s4:=Same.upd (o:=.lst ((u.take d++u).map sg)) hq2
   have hq4:=ad (H:=H3) (a:=q2) (o:=.lst ((u.take d++u).map sg))
   generalize L2.upd H3 q2 (.lst ((u.take d++u).map sg))=H4 at s4 hq4 ⊢
   have s24:=s3.trans s4
   refine⟨_,rfl,q2,a,u.take d++u,u,rfl,hq4,s24 _ _ ha2,(lu.take _).app lu,lu,by rw[List.length_append,List.length_take];lia,by lia,u1,fun r5 H5 hr50 hr51 s5=>?_⟩
   refine⟨_,rfl,(by show 2≤sizeLine;decide),fun e0 he0=>?_⟩
   have s6:=Same.upd (o:=.lst [V.int 0,V.int (d:Int)]) he0
   have he6:=ad (H:=H5) (a:=e0) (o:=.lst [V.int 0,V.int (d:Int)])
   generalize L2.upd H5 e0 (.lst [V.int 0,V.int (d:Int)])=H6 at s6 he6 ⊢
   have s26:=s24.trans (s5.trans s6)
   refine⟨r5,e0,(bM (u.take d++u) u).map (fun(k:Nat)=>(k:Int)),[0,(d:Int)],rfl,rfl,SqL.of (s6 _ _ hr51),SqL.of he6,_,rfl,?_⟩
   have stp:=oi (f:=fun d=>decide (bM (u.take d++u) u=[0,d])) hd
   have hD6:=s26 _ _ hD2
   by_cases h1:bM (u.take d++u) u=[0,d]
   ·have h1':((bM (u.take d++u) u).map (fun(k:Nat)=>(k:Int))=[0,(d:Int)]):=by rw[h1];rfl
    rw[if_neg (by decide),decide_eq_true h1']
    refine aY ⟨_,rfl,hD6,?_,fun e o' z=>by rw[ah (aD z hD)];exact s26 _ _ (s2 _ _ z),ad⟩
    rw[stp,if_pos (by simpa using h1),dv]
   ·have h1':¬((bM (u.take d++u) u).map (fun(k:Nat)=>(k:Int))=[0,(d:Int)]):=fun z=>h1 (wq z)
    rw[if_neg (by decide),decide_eq_false h1']
    refine aX ⟨?_,s2.trans s26,hD6⟩
    rw[stp,if_neg (by simpa using h1),List.append_nil]
  ·rintro ys H2 ⟨rfl,s2,hD2⟩
   rw[aT,List.take_length] at hD2
   have nD:H D=none:=s1.free hD
   have T2:TB H2 pt:=Tab.same (Tab.same T s1) s2
   refine⟨_,rfl,D,(d8 u).map fun(k:Nat)=>(k:Int),.ref a,fun n=>au u n.toNat,rfl,?_,?_,rfl,T2,fun n hn H3 k3=>?_,fun r ms H3 pm pw k3 tb hr0 hr1=>?_⟩
   ·exact hD2
   ·rw[List.length_map];exact Nat.le_trans (List.length_filter_le _ _) (by lia)
   ·obtain⟨d,hd,rfl⟩:=List.mem_map.mp hn
    have hdl:=(mem_singles.mp hd).1.2.1
    have ha2:=s2 _ _ (s1 _ _ ha)
    have ha3:=k3 _ _ ha2 nap
    refine⟨_,rfl,_,rfl,a,_,rfl,SqL.of ha3,_,rfl,_,_,rfl,rfl,_,rfl,a,_,rfl,SqL.of ha3,fun q1 hq1=>?_⟩
    have e1:bi (u.map sg) (some (((u.map sg).length:Nat)-(d:Int))) none=(au u d).map sg:=by
     rw[List.length_map,show((u.length:Int)-(d:Int))=((u.length-d:Nat):Int) by lia,jH (by lia)];rfl
    rw[e1]
    exact⟨q1,rfl,ad,Same.upd hq1⟩
   ·obtain⟨S,pS,rfl⟩:=uL pm
    refine k r S H3 ((s1.trans s2).free hr0) hr1 ⟨pS,?_⟩ (fun c o h n=>k3 _ _ (s2 _ _ (s1 _ _ h)) n) (.inr tb)
    unfold nM
    rw[List.pairwise_map] at pw
    exact pw
end
end Ov
namespace Ov
open PySem L2
abbrev kF:Stmt:=aS 25
def jV:Sp:=fun vs H Q _=>∃(a b:Addr) (u S:List Nat) (n:Nat),vs=[.ref a,.ref b,.int (n:Int)]∧H a=some (.lst (u.map sg))∧H b=some (.lst (aA S))∧1≤u.length∧u.length≤400∧S.length≤400∧n≤300∧(∀d∈S,1≤d∧d≤u.length)∧
 ∀(r:Addr) (k:Nat) (H':Hp),H r=none→H' r=some (.lst (aA (cl S u.length k)))→n<u.length+1+k→Same H H'→Q (.ref r) H'
theorem gp{l:List Nat}{j:Nat}(h:j<l.length):bc (aA l) (j:Int)=some (.int ((l.getD j 0:Nat):Int)):=by
 refine cM ?_
 unfold aA
 rw[List.map_map,List.getElem?_map,List.getD_eq_getElem?_getD]
 simp[h]
theorem oI(l:List Nat):(l.map fun(k:Nat)=>(k:Int)).sum=((l.sum:Nat):Int):=by
 induction l with
 | nil=>rfl
 | cons x r ih=>rw[List.map_cons,List.sum_cons,ih,List.sum_cons];lia
theorem qU{l:List Nat}{f:Nat→Nat}{i o:Nat}(h:l[i]?=some o):(l.take (i+1)).map f=(l.take i).map f++[f o]:=by
 rw[pi h,List.map_append];rfl
section
variable{P:Program}{w:World}{K:PySem.W.Frag}{mg:Str→Option Value}{base:Heap}
theorem scCounts:FnScope ["word","steps","length","counts"] ["word","steps","length"] (ar kF):=fsc_
theorem wp(M:Md K mg)(B:Bl mg)(F:FF K "counts_by_length" kF):Fn P w K mg base ai "counts_by_length" 1 ["word","steps","length"] jV:=by
 refine aV M F scCounts (fun _ _ _ _ _ _=>cT fun _ _ _=>rfl) (fun vs H Q E h=>?_) (fun f cdv A outer s H vs Q E hr h=>?_)
 ·obtain⟨a,b,u,S,n,rfl,_⟩:=h;rfl
 ·obtain⟨a,b,u,S,n,rfl,ha,hb,u1,ul,sl,nl,hS,k⟩:=h
  refine⟨_,(ae (am (i:=3) scCounts.nd rfl (.inr rfl) (ap cX (cY ["word","steps","length","counts"] rfl (ck (pv 0)) (fun _=>by exact df) (fun _=>by exact af)) (bb (aa af ac))))
   (ae (dL PassesOwn.never (aL dP (aR B.len (pv 3)) (pv 2) (aI _)) (ao (bf (cI PySem.F.plainAttrs_list PySem.F.slot_list_append PySem.F.type_list_append dJ (pv 3) (aa (qK rfl B.sum (cY ["word","steps","length","counts"] rfl (ck (pv 1)) (fun _=>by exact df) (fun _=>by exact(aO aU (pv 3) (ap aZ (aR B.len (pv 3)) (pv 4)) (fun _ _=>rfl))))) ac)))))
   (ao (aJ (pv 3))))),?_⟩
  refine⟨_,rfl,a,rfl,⟨_,SqL.of ha⟩,fun D hD cb=>?_⟩
  refine im (K:=K) (a:=a) (xs:=u.map sg) (fun i ys H2=>ys=aA (List.replicate i 0)∧Same H H2∧H2 D=some (.lst ys)) (by rw[List.length_map];exact bn (by lia)) ?_ ?_ ?_ ?_ ?_
  ·exact⟨rfl,Same.upd hD,ad⟩
  ·rintro i ys H2 ⟨rfl,_⟩
   rw[aT,List.length_replicate];exact Nat.le_refl _
  ·rintro i ys H2 _ ⟨_,s2,_⟩;exact SqL.of (s2 _ _ ha)
  ·rintro i x ys H2 hx ⟨rfl,s2,hD2⟩
   refine dh ⟨hD2,?_,fun e o' z=>by rw[ah (aD z hD)];exact s2 _ _ z,ad⟩
   rw[List.replicate_succ',dv];rfl
  ·rintro ys H2 ⟨rfl,s2,hD2⟩
   rw[List.length_map] at hD2
   refine⟨(by show 1≤sizeLine;decide),fun e0 he0=>?_⟩
   have s3:=Same.upd (o:=.lst [V.int 1]) he0
   have he3:=ad (H:=H2) (a:=e0) (o:=.lst [V.int 1])
   generalize L2.upd H2 e0 (.lst [V.int 1])=H3 at s3 he3 ⊢
   refine⟨D,e0,_,_,rfl,rfl,s3 _ _ hD2,he3,by rw[aT,List.length_replicate];exact Nat.le_of_lt (bn (by show u.length+1≤1000;lia)),fun c hc=>?_⟩
   have e4:aA (List.replicate u.length 0)++[V.int 1]=aA (cl S u.length 0):=by rw[cl,dv];rfl
   rw[e4]
   have s4:=Same.upd (o:=.lst (aA (cl S u.length 0))) hc
   have hc4:=ad (H:=H3) (a:=c) (o:=.lst (aA (cl S u.length 0)))
   have cn:H c=none:=(s2.trans s3).free hc
   generalize L2.upd H3 c (.lst (aA (cl S u.length 0)))=H4 at s4 hc4 ⊢
   have s04:=s2.trans (s3.trans s4)
   refine⟨fun m σ H5=>∃k:Nat,m+k=n+1∧σ=[some (.ref a),some (.ref b),some (.int (n:Int)),some (.ref c)]∧H5 c=some (.lst (aA (cl S u.length k)))∧Same H H5,⟨n+1,0,rfl,rfl,hc4,s04⟩,?_⟩
   rintro m σ H5 ⟨k0,mk,rfl,hc5,s5⟩
   refine⟨_,rfl,c,_,rfl,SqL.of hc5,_,rfl,_,_,rfl,rfl,_,rfl,?_⟩
   rw[aT,dB]
   refine bT (fun hcd=>?_) (fun hcd=>?_)
   ·have hcd':u.length+1+k0≤n:=by have:=of_decide_eq_true hcd;lia
    have cll:=dB S u.length k0
    refine⟨fun σ' H'=>∃m',m'<m∧∃k:Nat,m'+k=n+1∧σ'=[some (.ref a),some (.ref b),some (.int (n:Int)),some (.ref c)]∧H' c=some (.lst (aA (cl S u.length k)))∧Same H H',fun _ _ h=>h,?_⟩
    have hb5:=s5 _ _ hb
    refine⟨_,rfl,.inl ⟨rfl,_,SqL.of hc5⟩,_,rfl,b,rfl,⟨_,SqL.of hb5⟩,fun G hG cb2=>?_⟩
    refine im (K:=K) (a:=b) (xs:=aA S) (fun i ys H6=>ys=aA ((S.take i).map fun d=>(cl S u.length k0).getD ((cl S u.length k0).length-d) 0)∧Same H5 H6∧H6 G=some (.lst ys)) (by rw[aT];exact bn (by lia)) ?_ ?_ ?_ ?_ ?_
    ·exact⟨rfl,Same.upd hG,ad⟩
    ·rintro i ys H6 ⟨rfl,_⟩
     rw[aT,List.length_map,List.length_take];lia
    ·rintro i ys H6 _ ⟨_,s6,_⟩;exact SqL.of (s6 _ _ hb5)
    ·rintro i x ys H6 hx ⟨rfl,s6,hG6⟩
     obtain⟨d,hd,rfl⟩:=hU hx
     obtain⟨d1,d2⟩:=hS d (List.mem_of_getElem? hd)
     have hc6:=s6 _ _ hc5
     have hat:bc (aA (cl S u.length k0)) (((aA (cl S u.length k0)).length:Int)-(d:Int))=some (.int (((cl S u.length k0).getD ((cl S u.length k0).length-d) 0:Nat):Int)):=by
      rw[aT,show(((cl S u.length k0).length:Int)-(d:Int))=(((cl S u.length k0).length-d:Nat):Int) by lia]
      exact gp (by lia)
     refine dh ⟨_,rfl,_,rfl,c,_,rfl,SqL.of hc6,_,rfl,_,_,rfl,rfl,c,_,_,_,rfl,rfl,SqL.of hc6,hat,hG6,?_,fun e o' z=>by rw[ah (aD z hG)];exact s6 _ _ z,ad⟩
     rw[qU hd,dv]
    ·rintro ys H6 ⟨rfl,s6,hG6⟩
     rw[aT,List.take_length] at hG6
     refine⟨G,_,rfl,hG6,c,_,_,rfl,rfl,s6 _ _ hc5,by rw[aT,cll];exact bn (by lia),m-1,by lia,k0+1,by lia,rfl,?_,?_⟩
     ·rw[ad,oI,cl,dv]
     ·intro e o' z
      rw[ah (aD z cn)]
      exact s6 _ _ (s5 _ _ z)
   ·have hcd':¬(((u.length+1+k0:Nat):Int)≤(n:Int)):=fun z=>hcd (decide_eq_true z)
    exact⟨_,rfl,k c k0 H5 cn hc5 (by lia) s5⟩
end
theorem Stp.le{u S:List Nat}(h:Stp u S):∀d∈S,1≤d∧d≤u.length:=fun d hd=>⟨(h.mem.mp hd).1.1,(h.mem.mp hd).1.2.1⟩
theorem qh{u S:List Nat}(h:Stp u S){k n:Nat}(hn:n<u.length+1+k):bc (aA (cl S u.length k)) (n:Int)=some (.int ((aG u n:Nat):Int)):=by
 rw[gp (by rw[dB];exact hn),de hn,h.cn]
abbrev j9:Stmt:=aS 26
def kR:Sp:=fun vs H Q _=>∃(b c:Addr) (S C:List Nat) (aq num:Nat),vs=[.ref b,.ref c,.int (aq:Int),.int (num:Int)]∧H b=some (.lst (aA S))∧H c=some (.lst (aA C))∧(∀d∈S,d≤aq∧aq-d<C.length)∧num<(S.map fun d=>C.getD (aq-d) 0).sum∧
 ∀(r:Addr) (p q:List Nat) (d left:Nat) (H':Hp),H r=none→S=p++d::q→num=(p.map fun d=>C.getD (aq-d) 0).sum+left→left<C.getD (aq-d) 0→H' r=some (.tup [.int (d:Int),.int (left:Int)])→Same H H'→Q (.ref r) H'
theorem x4{S:List Nat}{g:Nat→Nat}{i d:Nat}(h:S[i]?=some d):((S.take (i+1)).map g).sum=((S.take i).map g).sum+g d:=by
 rw[qU h,List.sum_append,List.sum_cons];simp
section
variable{P:Program}{w:World}{K:PySem.W.Frag}{mg:Str→Option Value}{base:Heap}
theorem scNext:FnScope ["steps","counts","rest","number","at","left"] ["steps","counts","rest","number"] (ar j9):=fsc_
theorem tS(M:Md K mg)(B:Bl mg)(F:FF K "next_step" j9):Fn P w K mg base ai "next_step" 1 ["steps","counts","rest","number"] kR:=by
 refine aV M F scNext (fun _ _ _ _ _ _=>q9 fun _ _ _ _=>rfl) (fun vs H Q E h=>?_) (fun f cdv A outer s H vs Q E hr h=>?_)
 ·obtain⟨b,c,S,C,aq,num,rfl,_⟩:=h;rfl
 ·obtain⟨b,c,S,C,aq,num,rfl,hb,hc,hS,hlt,k⟩:=h
  refine⟨_,(ae (am (i:=4) scNext.nd rfl (.inl rfl) af)
   (ae (am (i:=5) scNext.nd rfl (.inl rfl) (pv 3))
   (ae (dL PassesOwn.never (aL yV (pv 5) (aO aU (pv 1) (ap aZ (pv 2) (aO aU (pv 0) (pv 4) (fun _ _=>rfl))) (fun _ _=>rfl)) (aI _)) (ae (oQ (i:=5) scNext.nd rfl (.inl rfl) (aO aU (pv 1) (ap aZ (pv 2) (aO aU (pv 0) (pv 4) (fun _ _=>rfl))) (fun _ _=>rfl)) rY)
   (ao (oQ (i:=4) scNext.nd rfl (.inl rfl) af tN))))
   (ao (aJ (cQ (aa (aO aU (pv 0) (pv 4) (fun _ _=>rfl)) (aa (pv 5) ac)))))))),?_⟩
  have S0:0<S.length:=by
   cases S with
   | nil=>simp at hlt
   | cons _ _=>simp
  refine⟨_,rfl,fun m σ H5=>∃(i left:Nat),m+i=S.length∧i<S.length∧σ=[some (.ref b),some (.ref c),some (.int (aq:Int)),some (.int (num:Int)),some (.int (i:Int)),some (.int (left:Int))]∧num=((S.take i).map fun d=>C.getD (aq-d) 0).sum+left∧H5=H,⟨S.length,0,num,rfl,S0,rfl,by simp,rfl⟩,?_⟩
  rintro m σ H5 ⟨i,left,mi,iS,rfl,hn,rfl⟩
  obtain⟨d,hd⟩:∃d,S[i]?=some d:=⟨S[i],by simp[iS]⟩
  obtain⟨d1,d2⟩:=hS d (List.mem_of_getElem? hd)
  have hat1:bc (aA S) (i:Int)=some (.int (d:Int)):=by
   rw[gp iS,List.getD_eq_getElem?_getD,hd];rfl
  have hat2:bc (aA C) ((aq:Int)-(d:Int))=some (.int ((C.getD (aq-d) 0:Nat):Int)):=by
   rw[show((aq:Int)-(d:Int))=((aq-d:Nat):Int) by lia];exact gp d2
  have ts:=x4 (g:=fun d=>C.getD (aq-d) 0) hd
  refine⟨_,rfl,_,rfl,_,rfl,_,rfl,_,rfl,b,_,_,_,rfl,rfl,SqL.of hb,hat1,_,_,rfl,rfl,c,_,_,_,rfl,rfl,SqL.of hc,hat2,_,_,rfl,rfl,_,rfl,?_⟩
  refine bT (fun hcd=>?_) (fun hcd=>?_)
  ·have hge:C.getD (aq-d) 0≤left:=by have:=of_decide_eq_true hcd;lia
   have hi:i+1<S.length:=by
    by_cases z:i+1<S.length
    ·exact z
    ·exfalso
     rw[List.take_of_length_le (by lia)] at ts
     lia
   refine⟨fun σ' H'=>∃m',m'<m∧∃(i left:Nat),m'+i=S.length∧i<S.length∧σ'=[some (.ref b),some (.ref c),some (.int (aq:Int)),some (.int (num:Int)),some (.int (i:Int)),some (.int (left:Int))]∧num=((S.take i).map fun d=>C.getD (aq-d) 0).sum+left∧H'=H5,fun _ _ h=>h,?_⟩
   refine⟨_,rfl,_,rfl,_,rfl,_,rfl,_,rfl,b,_,_,_,rfl,rfl,SqL.of hb,hat1,_,_,rfl,rfl,c,_,_,_,rfl,rfl,SqL.of hc,hat2,_,_,rfl,rfl,?_⟩
   refine⟨_,rfl,_,_,rfl,rfl,?_⟩
   have e1:((left:Int)-((C.getD (aq-d) 0:Nat):Int))=((left-C.getD (aq-d) 0:Nat):Int):=by lia
   exact⟨m-1,by lia,i+1,left-C.getD (aq-d) 0,by lia,hi,by rw[←e1];rfl,by lia,rfl⟩
  ·have hlt2:left<C.getD (aq-d) 0:=by
    have:¬((left:Int)≥((C.getD (aq-d) 0:Nat):Int)):=fun z=>hcd (decide_eq_true z)
    lia
   refine⟨_,rfl,_,rfl,b,_,_,_,rfl,rfl,SqL.of hb,hat1,_,rfl,(by show 2≤sizeLine;decide),fun r hr0=>?_⟩
   have sp:=List.take_append_drop i S
   have dr:S.drop i=d::S.drop (i+1):=by
    rw[List.drop_eq_getElem_cons iS]
    congr 1
    have:=List.getElem?_eq_getElem iS
    rw[this] at hd
    exact Option.some.inj hd
   exact k r (S.take i) (S.drop (i+1)) d left _ hr0 (by rw[←dr,sp]) hn hlt2 ad (Same.upd hr0)
end
abbrev ic:Stmt:=aS 27
def oF(pt:Addr):Sp:=fun vs H Q _=>∃(b:Addr) (u:List Nat) (n x:Nat),vs=[.ref b,.int (n:Int),.int (x:Int)]∧H b=some (.lst (u.map sg))∧Low u∧1≤u.length∧u.length≤400∧1≤n∧n≤200∧x<aG u n∧TB H pt∧
 ∀(r:Addr) (S ds:List Nat) (H':Hp),H r=none→Stp u S→(∀d∈ds,d∈S)→u.length+ds.sum=n→rk S u.length ds=x→H' r=some (.lst ((tx u ds).map sg))→Keep pt H H'→TB H' pt→Q (.ref r) H'
section
variable{P:Program}{w:World}{K:PySem.W.Frag}{mg:Str→Option Value}{base:Heap}
theorem scTextAt:FnScope ["word","length","number","steps","counts","text","left","rest","step"] ["word","length","number"] (ar ic):=fsc_
theorem xp{pt:Addr}(M:Md K mg)(B:Bl mg){uM:Value}(gMOST_LENGTH:mg "MOST_LENGTH"=some uM)(rMOST_LENGTH:RelV (.int 200) uM)(F:FF K "text_at" ic)(Fcheck_word:Fn P w K mg base ai "check_word" 3 ["word"] gq)(Fcheck_within:Fn P w K mg base ai "check_within" 1 ["number","least","most"] jn)(Fsingle_steps:Fn P w K mg base ai "single_steps" 6 ["word"] (iZ pt))(Fcounts_by_length:Fn P w K mg base ai "counts_by_length" 1 ["word","steps","length"] jV)(Fnext_step:Fn P w K mg base ai "next_step" 1 ["steps","counts","rest","number"] kR):Fn P w K mg base ai "text_at" 7 ["word","length","number"] (oF pt):=by
 refine aV M F scTextAt (fun _ _ _ _ _ _=>cT fun _ _ _=>rfl) (fun vs H Q E h=>?_) (fun f cdv A outer s H vs Q E hr h=>?_)
 ·obtain⟨b,u,n,x,rfl,_⟩:=h;rfl
 ·obtain⟨b,u,n,x,rfl,hb,lu,u1,ul,n1,n2,hx,T,k⟩:=h
  refine⟨_,(ae (bf (aC Fcheck_word hr aE (aa (pv 0) ac)))
   (ae (bf (aC Fcheck_within hr aE (aa (pv 1) (aa af (aa (iX (v:=.int 200) (by rfl) gMOST_LENGTH rMOST_LENGTH) ac)))))
   (ae (am (i:=3) scTextAt.nd rfl (.inl rfl) (aC Fsingle_steps hr aE (aa (pv 0) ac)))
   (ae (am (i:=4) scTextAt.nd rfl (.inl rfl) (aC Fcounts_by_length hr aE (aa (pv 0) (aa (pv 3) (aa (pv 1) ac)))))
   (ae (bf (aC Fcheck_within hr aE (aa (pv 2) (aa af (aa (ap aZ (aO aU (pv 4) (pv 1) (fun _ _=>rfl)) af) ac)))))
   (ae (am (i:=5) scTextAt.nd rfl (.inl rfl) (ik B.list (pv 0)))
   (ae (am (i:=6) scTextAt.nd rfl (.inl rfl) (pv 2))
   (ae (dL PassesOwn.never (aL iO (aR B.len (pv 5)) (pv 1) (aI _)) (ae (am (i:=7) scTextAt.nd rfl (.inl rfl) (ap bC (ap aZ (pv 1) (aR B.len (pv 5))) (aR B.len (pv 0))))
   (ae (eG (aC Fnext_step hr aE (aa (pv 3) (aa (pv 4) (aa (pv 7) (aa (pv 6) ac))))) (fi rfl (cf (ba (i:=8) scTextAt.nd rfl (.inl rfl)) (cf (ba (i:=6) scTextAt.nd rfl (.inl rfl)) fq))))
   (ao (bf (cI PySem.F.plainAttrs_list PySem.F.slot_list_extend PySem.F.type_list_extend qw (pv 5) (aa (bF bG (pv 0) (bu (ap aZ (aR B.len (pv 0)) (pv 8))) bO) ac)))))))
   (ao (aJ (pv 5))))))))))),?_⟩
  have nbp:=T.ne hb
  refine⟨_,rfl,b,u,rfl,hb,lu,u1,?_⟩
  refine⟨_,rfl,_,_,_,rfl,by lia,by lia,?_⟩
  refine⟨_,rfl,b,u,rfl,hb,lu,u1,ul,T,fun r S H1 hr0 hr1 st k1 T1=>?_⟩
  refine⟨_,rfl,_,rfl,_,rfl,b,r,u,S,n,rfl,k1 _ _ hb nbp,hr1,u1,ul,by have:=st.len;lia,by lia,st.le,fun c kk H2 hc0 hc2 hn s2=>?_⟩
  refine⟨_,rfl,_,rfl,_,rfl,c,_,_,_,rfl,rfl,SqL.of hc2,qh st hn,_,_,rfl,rfl,_,_,_,rfl,by lia,by lia,?_⟩
  have k2:Keep pt H H2:=fun e o h n=>s2 _ _ (k1 _ _ h n)
  have hb2:=k2 _ _ hb nbp
  have T2:=T1.same s2
  refine⟨_,rfl,b,_,rfl,SqL.of hb2,fun tq htq=>?_⟩
  have s3:=Same.upd (o:=.lst (u.map sg)) htq
  have htq3:=ad (H:=H2) (a:=tq) (o:=.lst (u.map sg))
  generalize L2.upd H2 tq (.lst (u.map sg))=H3 at s3 htq3 ⊢
  have tqn:H tq=none:=by
   cases e:H tq with
   | none=>rfl
   | some o=>
     exfalso
     by_cases z:tq=pt
     ·subst z
      rcases T2 with t | ⟨_,t,_⟩ <;> (rw[htq] at t;cases t)
     ·have:=k2 _ _ e z
      rw[htq] at this;cases this
  have hle:u.length≤n:=by
   by_cases z:n<u.length
   ·unfold aG at hx
    rw[d9 z] at hx;lia
   ·lia
  have Sg':∀d∈S,Sg u d:=fun d hd=>st.mem.mp hd
  refine⟨_,rfl,fun m σ H5=>∃(ds:List Nat) (left:Nat) (v7 v8:Option V),m+(u.length+ds.sum)=n∧σ=[some (.ref b),some (.int (n:Int)),some (.int (x:Int)),some (.ref r),some (.ref c),some (.ref tq),some (.int (left:Int)),v7,v8]∧H5 tq=some (.lst ((tx u ds).map sg))∧(∀d∈ds,d∈S)∧left<aG u (n-ds.sum)∧(∀es,(∀d∈es,d∈S)→u.length+ds.sum+es.sum=n→rk S u.length (ds++es)+left=rk S u.length es+x)∧Same H2 H5,⟨n-u.length,[],x,none,none,by simp;lia,rfl,htq3,by simp,by simpa using hx,fun es _ _=>rfl,s3⟩,?_⟩
  rintro m σ H5 ⟨ds,left,v7,v8,mn,rfl,htq5,hds,hlt,hrk,s5⟩
  have txl:(tx u ds).length=u.length+ds.sum:=lA fun d hd=>(Sg' d (hds d hd)).1.2.1
  refine⟨_,rfl,tq,_,rfl,SqL.of htq5,_,rfl,_,_,rfl,rfl,_,rfl,?_⟩
  rw[List.length_map,txl]
  refine bT (fun hcd=>?_) (fun hcd=>?_)
  ·have hcd':u.length+ds.sum<n:=by have:=of_decide_eq_true hcd;lia
   refine⟨fun σ' H'=>∃m',m'<m∧∃(ds:List Nat) (left:Nat) (v7 v8:Option V),m'+(u.length+ds.sum)=n∧σ'=[some (.ref b),some (.int (n:Int)),some (.int (x:Int)),some (.ref r),some (.ref c),some (.ref tq),some (.int (left:Int)),v7,v8]∧H' tq=some (.lst ((tx u ds).map sg))∧(∀d∈ds,d∈S)∧left<aG u (n-ds.sum)∧(∀es,(∀d∈es,d∈S)→u.length+ds.sum+es.sum=n→rk S u.length (ds++es)+left=rk S u.length es+x)∧Same H2 H',fun _ _ h=>h,?_⟩
   have hb5:=s5 _ _ hb2
   refine⟨_,rfl,_,rfl,tq,_,rfl,SqL.of htq5,_,_,rfl,rfl,_,rfl,b,_,rfl,SqL.of hb5,_,_,rfl,rfl,?_⟩
   refine eI (j:=((n-ds.sum:Nat):Int)) (congrArg V.int (by rw[List.length_map,List.length_map,txl];lia)) ?_
   have hsum:aG u (n-ds.sum)=(S.map fun d=>(cl S u.length kk).getD (n-ds.sum-d) 0).sum:=by
    rw[←st.cn,gY st.one (by lia)]
    exact fD fun d hd=>(de (by lia)).symm
   refine⟨_,rfl,_,rfl,_,rfl,_,rfl,r,c,S,cl S u.length kk,n-ds.sum,left,rfl,s5 _ _ (s2 _ _ hr1),s5 _ _ hc2,fun d hd=>⟨by have:=(st.le d hd).2;lia,by rw[dB];lia⟩,by rw[←hsum];exact hlt,fun r2 p q d left' H6 hr20 eS en lt' h6 s6=>?_⟩
   have dS:d∈S:=by rw[eS];simp
   have dl:=(st.le d dS)
   refine⟨r2,_,rfl,SqT.of h6,rfl,_,_,rfl,_,_,rfl,rfl,?_⟩
   have hb6:=s6 _ _ hb5
   have htq6:=s6 _ _ htq5
   refine⟨_,rfl,.inl ⟨rfl,_,SqL.of htq6⟩,_,rfl,_,rfl,b,_,rfl,SqL.of hb6,_,rfl,_,_,rfl,rfl,_,rfl,b,_,rfl,SqL.of hb6,fun q1 hq1=>?_⟩
   have e1:bi (u.map sg) (some (((u.map sg).length:Nat)-(d:Int))) none=(au u d).map sg:=by
    rw[List.length_map,show((u.length:Int)-(d:Int))=((u.length-d:Nat):Int) by lia,jH (by lia)];rfl
   rw[e1]
   have s7:=Same.upd (o:=.lst ((au u d).map sg)) hq1
   have hq7:=ad (H:=H6) (a:=q1) (o:=.lst ((au u d).map sg))
   generalize L2.upd H6 q1 (.lst ((au u d).map sg))=H7 at s7 hq7 ⊢
   have kl:=bX dl.2
   have pd:pre S d=p:=wD st.nodup eS
   have hd1:=dl.1
   have hdn:d≤m:=by
    by_cases z:d≤m
    ·exact z
    ·rw[de (by lia),d9 (by lia)] at lt';lia
   refine⟨tq,q1,_,_,rfl,rfl,s7 _ _ htq6,hq7,by rw[List.length_map,List.length_map,txl,kl];exact Nat.le_of_lt (bn (by lia)),m-d,by lia,ds++[d],left',_,_,by rw[List.sum_append];simp;lia,rfl,?_,?_,?_,?_,?_⟩
   ·rw[ad,jJ (Sg' d dS).1,List.map_append]
   ·intro y hy
    rcases List.mem_append.mp hy with hy | hy
    ·exact hds y hy
    ·rw[List.mem_singleton.mp hy];exact dS
   ·rw[List.sum_append,←st.cn,←de (k:=kk) (by simp;lia)]
    simp only[List.sum_cons,List.sum_nil,Nat.add_zero,←Nat.sub_sub]
    exact lt'
   ·intro es hes hs
    rw[List.sum_append] at hs
    simp only[List.sum_cons,List.sum_nil,Nat.add_zero] at hs
    have h1:=hrk (d::es) (fun y hy=>(List.mem_cons.mp hy).elim (fun z=>z▸dS) (hes y)) (by rw[List.sum_cons];lia)
    rw[rk,pd,show u.length+(d+es.sum)=n-ds.sum by lia] at h1
    have h2:(p.map fun s=>cn S u.length (n-ds.sum-s)).sum=(p.map fun d=>(cl S u.length kk).getD (n-ds.sum-d) 0).sum:=fD fun y _=>(de (by lia)).symm
    rw[h2] at h1
    rw[List.append_assoc,List.singleton_append]
    lia
   ·intro e o z
    rw[ah (aD z htq)]
    exact s7 _ _ (s6 _ _ (s5 _ _ z))
  ·have hcd':¬(((u.length+ds.sum:Nat):Int)<(n:Int)):=fun z=>hcd (decide_eq_true z)
   have hnd:u.length+ds.sum=n:=by lia
   have hl0:left=0:=by
    rw[show n-ds.sum=u.length by lia] at hlt
    unfold aG at hlt
    rw[gW] at hlt;lia
   have hr:=hrk [] (by simp) (by simpa using hnd)
   rw[List.append_nil,hl0] at hr
   exact⟨_,rfl,k tq S ds H5 tqn st hds hnd (by simpa [rk] using hr) htq5 (fun e o h n=>s5 _ _ (k2 _ _ h n)) (T2.same s5)⟩
end
def nB(cN:Addr):Sp:=fun vs H _ E=>∃a lo hi:Int,vs=[.int a,.int lo,.int hi]∧¬(lo≤a∧a≤hi)∧lo.natAbs.log2<1900∧hi.natAbs.log2<1900∧E (.ref cN) none H
def xW(cN:Addr):Sp:=fun vs H Q E=>jn vs H Q E∨nB cN vs H Q E
def qQ(pt cN:Addr):Sp:=fun vs H _ E=>∃(b:Addr) (u:List Nat) (n:Nat) (m:Int),vs=[.ref b,.int (n:Int),.int m]∧H b=some (.lst (u.map sg))∧Low u∧1≤u.length∧u.length≤400∧1≤n∧n≤200∧TB H pt∧¬(0≤m∧m<(aG u n:Nat))∧∀H',Keep pt H H'→TB H' pt→E (.ref cN) none H'
section
variable{P:Program}{w:World}{K:PySem.W.Frag}{mg:Str→Option Value}{base:Heap}{cNoNumber:Addr}
theorem zg{pt:Addr}(M:Md K mg)(B:Bl mg){uM:Value}(gMOST_LENGTH:mg "MOST_LENGTH"=some uM)(rMOST_LENGTH:RelV (.int 200) uM)(F:FF K "text_at" ic)(Fcheck_word:Fn P w K mg base ai "check_word" 3 ["word"] gq)(Fcheck_within:Fn P w K mg base (bw P w) "check_within" 1 ["number","least","most"] (xW cNoNumber))(Fsingle_steps:Fn P w K mg base ai "single_steps" 6 ["word"] (iZ pt))(Fcounts_by_length:Fn P w K mg base ai "counts_by_length" 1 ["word","steps","length"] jV)(Fnext_step:Fn P w K mg base ai "next_step" 1 ["steps","counts","rest","number"] kR):Fn P w K mg base (bw P w) "text_at" 7 ["word","length","number"] (qQ pt cNoNumber):=by
 refine pj M F scTextAt (fun _ _ _ _ _ _=>cT fun _ _ _=>rfl) (fun vs H Q E h=>?_) (fun f cdv A outer s H vs Q E hr h=>?_)
 ·obtain⟨b,u,n,m,rfl,_⟩:=h;rfl
 ·refine⟨_,(ae (bf (aC Fcheck_word hr aE (aa (pv 0) ac)))
   (ae (bf (aC Fcheck_within hr lV (aa (pv 1) (aa af (aa (iX (v:=.int 200) (by rfl) gMOST_LENGTH rMOST_LENGTH) ac)))))
   (ae (am (i:=3) scTextAt.nd rfl (.inl rfl) (aC Fsingle_steps hr aE (aa (pv 0) ac)))
   (ae (am (i:=4) scTextAt.nd rfl (.inl rfl) (aC Fcounts_by_length hr aE (aa (pv 0) (aa (pv 3) (aa (pv 1) ac)))))
   (ae (bf (aC Fcheck_within hr lV (aa (pv 2) (aa af (aa (ap aZ (aO aU (pv 4) (pv 1) (fun _ _=>rfl)) af) ac)))))
   (ae (am (i:=5) scTextAt.nd rfl (.inl rfl) (ik B.list (pv 0)))
   (ae (am (i:=6) scTextAt.nd rfl (.inl rfl) (pv 2))
   (ae (dL PassesOwn.leaving (aL iO (aR B.len (pv 5)) (pv 1) (aI _)) (ae (am (i:=7) scTextAt.nd rfl (.inl rfl) (ap bC (ap aZ (pv 1) (aR B.len (pv 5))) (aR B.len (pv 0))))
   (ae (eG (aC Fnext_step hr aE (aa (pv 3) (aa (pv 4) (aa (pv 7) (aa (pv 6) ac))))) (fi rfl (cf (ba (i:=8) scTextAt.nd rfl (.inl rfl)) (cf (ba (i:=6) scTextAt.nd rfl (.inl rfl)) fq))))
   (ao (bf (cI PySem.F.plainAttrs_list PySem.F.slot_list_extend PySem.F.type_list_extend qw (pv 5) (aa (bF bG (pv 0) (bu (ap aZ (aR B.len (pv 0)) (pv 8))) bO) ac)))))))
   (ao (aJ (pv 5))))))))))),?_⟩
  obtain⟨b,u,n,m,rfl,hb,lu,u1,ul,n1,n2,T,hn,k⟩:=h
  have nbp:=T.ne hb
  refine⟨_,rfl,b,u,rfl,hb,lu,u1,?_⟩
  refine⟨_,rfl,.inl ⟨_,_,_,rfl,by lia,by lia,?_⟩⟩
  refine⟨_,rfl,b,u,rfl,hb,lu,u1,ul,T,fun r S H1 hr0 hr1 st k1 T1=>?_⟩
  refine⟨_,rfl,_,rfl,_,rfl,b,r,u,S,n,rfl,k1 _ _ hb nbp,hr1,u1,ul,by have:=st.len;lia,by lia,st.le,fun c kk H2 hc0 hc2 hn2 s2=>?_⟩
  have cb:=my u1 (n:=n) (by lia)
  refine⟨_,rfl,_,rfl,_,rfl,c,_,_,_,rfl,rfl,SqL.of hc2,qh st hn2,_,_,rfl,rfl,.inr ⟨_,_,_,rfl,?_,by decide,?_,k H2 (fun e o h n=>s2 _ _ (k1 _ _ h n)) (T1.same s2)⟩⟩
  ·lia
  ·generalize aG u n=q at cb ⊢
   have e:((q:Int)-1).natAbs<2 ^ 200:=by
    have:(2:Nat) ^ 199<2 ^ 200:=by decide
    have h1:(1:Nat)<2 ^ 200:=by decide
    lia
   by_cases h0:((q:Int)-1).natAbs=0
   ·rw[h0];decide
   ·have:=(Nat.log2_lt h0).mpr e;lia
theorem tu(M:Md K mg)(B:Bl mg)(F:FF K "check_within" gD)(ONoNumber:Exc K mg "NoNumber" cNoNumber):Fn P w K mg base (bw P w) "check_within" 1 ["number","least","most"] (nB cNoNumber):=by
 refine pj M F om (fun _ _ _ _ _ _=>cT fun _ _ _=>rfl) (fun vs H Q E h=>?_) (fun f cdv A outer s H vs Q E hr h=>?_)
 ·obtain⟨a,lo,hi,rfl,_⟩:=h;rfl
 ·obtain⟨a,lo,hi,rfl,hn,l1,l2,k⟩:=h
  refine⟨_,(ao (br (iE (k9 dP dP (pv 1) (pv 0) (pv 2))) (ao (vy ONoNumber (xU (hW (pX (by decide+kernel)) (hW (qL (pv 1)) (hW (pX (by decide+kernel)) (hW (qL (pv 2)) rM)))) (by decide)))) bq)),?_⟩
  refine⟨_,rfl,_,rfl,_,_,rfl,rfl,_,rfl,?_⟩
  by_cases c1:lo≤a
  ·rw[decide_eq_true c1]
   refine aY ⟨_,rfl,_,_,rfl,rfl,_,rfl,?_⟩
   rw[decide_eq_false fun q=>hn ⟨c1,q⟩]
   exact aY ⟨_,rfl,lo,rfl,l1,_,rfl,hi,rfl,l2,fun z=>⟨rfl,k⟩⟩
  ·rw[decide_eq_false c1]
   exact aX ⟨_,rfl,aY ⟨_,rfl,lo,rfl,l1,_,rfl,hi,rfl,l2,fun z=>⟨rfl,k⟩⟩⟩
end
def dU(w p:List Nat):Nat→Nat
 | 0=>0
 | j+1=>if w.take (j+1) <:+p then j+1 else dU w p j
def mx(w p:List Nat):Nat:=dU w p w.length
theorem hO(w p:List Nat):∀n,dU w p n≤n∧w.take (dU w p n) <:+p∧∀i,i≤n→w.take i <:+p→i≤dU w p n
 | 0=>⟨Nat.le_refl _,by simp[dU],fun i hi _=>by simpa [dU] using hi⟩
 | n+1=>by
   obtain⟨h1,h2,h3⟩:=hO w p n
   unfold dU
   by_cases h:w.take (n+1) <:+p
   ·rw[if_pos h]
    exact⟨Nat.le_refl _,h,fun i hi _=>hi⟩
   ·rw[if_neg h]
    refine⟨by lia,h2,fun i hi hs=>?_⟩
    by_cases e:i=n+1
    ·subst e;exact absurd hs h
    ·exact h3 i (by lia) hs
theorem cW(w p:List Nat):mx w p≤w.length:=(hO w p _).1
theorem d7(w p:List Nat):w.take (mx w p) <:+p:=(hO w p _).2.1
theorem eV{w p:List Nat}{i:Nat}(hi:i≤w.length)(h:w.take i <:+p):i≤mx w p:=(hO w p _).2.2 i hi h
theorem fT{w p:List Nat}{j:Nat}(hj:j≤w.length)(h:w.take j <:+p)(hm:∀i,i≤w.length→w.take i <:+p→i≤j):mx w p=j:=
 Nat.le_antisymm (hm _ (cW w p) (d7 w p)) (eV hj h)
theorem mx_full{w p:List Nat}:mx w p=w.length↔w <:+p:=by
 constructor
 ·intro h
  have:=d7 w p
  rwa[h,List.take_length] at this
 ·intro h
  exact Nat.le_antisymm (cW w p) (eV (Nat.le_refl _) (by rw[List.take_length];exact h))
theorem bj{w:List Nat}{i:Nat}(h:i≤w.length):(w.take i).length=i:=by rw[List.length_take];lia
theorem nQ{a b p:List Nat}(h1:a <:+p)(h2:b <:+p)(hl:a.length≤b.length):a <:+b:=List.suffix_of_suffix_length_le h1 h2 hl
theorem iz{u p:List Nat}{c:Nat}:u <:+p++[c]↔u=[]∨∃v,u=v++[c]∧v <:+p:=by
 rw[List.suffix_concat_iff]
theorem mP(w p:List Nat)(c:Nat):mx w (p++[c])=mx w (w.take (mx w p)++[c]):=by
 have key:∀i,i≤w.length→(w.take i <:+p++[c]↔w.take i <:+w.take (mx w p)++[c]):=by
  intro i hi
  rw[iz,iz]
  constructor
  ·rintro(h | ⟨v,h1,h2⟩)
   ·exact .inl h
   ·refine .inr ⟨v,h1,?_⟩
    have hl:(w.take i).length=v.length+1:=by rw[h1];simp
    rw[bj hi] at hl
    have hv:v=w.take (i-1):=by
     have:=congrArg (List.take (i-1)) h1
     rw[List.take_take,Nat.min_eq_left (by lia)] at this
     rw[this,List.take_left' (by lia)]
    rw[hv] at h2 ⊢
    have:=eV (w:=w) (p:=p) (i:=i-1) (by lia) h2
    refine nQ h2 (d7 w p) ?_
    rw[bj (by lia),bj (cW w p)]
    exact this
  ·rintro(h | ⟨v,h1,h2⟩)
   ·exact .inl h
   ·exact .inr ⟨v,h1,h2.trans (d7 w p)⟩
 refine(fT (cW w _) ((key _ (cW w _)).mpr (d7 w _)) fun i hi h=>?_)
 exact eV hi ((key i hi).mp h)
def nx(w:List Nat)(st:Nat×Nat)(c:Nat):Option (Nat×Nat):=
 let s:=mx w (w.take st.1++[c])
 let b:=if s=w.length then 0 else st.2+1
 if b>s then none else some (s,b)
def fw(w A:List Nat):Nat→Nat×Nat→Nat
 | 0,st=>if st=(w.length,0) then 1 else 0
 | k+1,st=>(A.map fun c=>match nx w st c with | none=>0 | some st'=>fw w A k st').sum
theorem fW(w A:List Nat)(st:Nat×Nat):fw w A 0 st=if st=(w.length,0) then 1 else 0:=rfl
theorem jD(w A:List Nat)(k:Nat)(st:Nat×Nat):fw w A (k+1) st=(A.map fun c=>match nx w st c with | none=>0 | some st'=>fw w A k st').sum:=rfl
theorem bL{l:List Nat}{g:Nat→Nat}(h:∀c∈l,g c=0):(l.map g).sum=0:=by
 induction l with
 | nil=>rfl
 | cons x r ih=>rw[List.map_cons,List.sum_cons,h x List.mem_cons_self,ih fun c hc=>h c (List.mem_cons_of_mem _ hc)]
theorem cx{l:List Nat}{g h:Nat→Nat}(e:∀c∈l,g c=h c):(l.map g).sum=(l.map h).sum:=by rw[List.map_congr_left e]
theorem fG{l:List Nat}{a:Nat}{g:Nat→Nat}(hn:l.Nodup)(ha:a∈l)(h:∀c∈l,c≠a→g c=0):(l.map g).sum=g a:=by
 induction l with
 | nil=>cases ha
 | cons x r ih=>
   rw[List.map_cons,List.sum_cons];have hn':=List.nodup_cons.mp hn
   rcases List.mem_cons.mp ha with e | e
   ·subst e
    rw[bL fun c hc=>h c (List.mem_cons_of_mem _ hc) fun z=>hn'.1 (z▸hc),Nat.add_zero]
   ·rw[h x List.mem_cons_self fun z=>hn'.1 (z▸e),ih hn'.2 e fun c hc=>h c (List.mem_cons_of_mem _ hc),Nat.zero_add]
theorem qf{l:List Nat}{g h:Nat→Nat}:(l.map fun c=>g c+h c).sum=(l.map g).sum+(l.map h).sum:=by
 induction l with
 | nil=>rfl
 | cons x r ih=>rw[List.map_cons,List.sum_cons,List.map_cons,List.sum_cons,List.map_cons,List.sum_cons,ih];lia
theorem pq{A S:List Nat}{g:Nat→Nat→Nat}:(A.map fun c=>(S.map fun d=>g c d).sum).sum=(S.map fun d=>(A.map fun c=>g c d).sum).sum:=by
 induction A with
 | nil=>symm;exact bL fun _ _=>rfl
 | cons x r ih=>rw[List.map_cons,List.sum_cons,ih,←qf];exact cx fun d _=>by rw[List.map_cons,List.sum_cons]
def dE(w:List Nat)(d:Nat):Prop:=1≤d∧d≤w.length∧w.drop d=w.take (w.length-d)∧∀j,0<j→j<d→¬w <:+w++(w.drop (w.length-d)).take j
theorem fj{w:List Nat}{d:Nat}(hd:d≤w.length)(h:w.drop d=w.take (w.length-d)):w.take d++w=w++w.drop (w.length-d):=by
 have e1:w=w.take d++w.take (w.length-d):=by rw[←h,List.take_append_drop]
 have e2:w.take (w.length-d)++w.drop (w.length-d)=w:=List.take_append_drop _ _
 calc w.take d++w=w.take d++(w.take (w.length-d)++w.drop (w.length-d)):=by rw[e2]
  _=(w.take d++w.take (w.length-d))++w.drop (w.length-d):=by rw[List.append_assoc]
  _=w++w.drop (w.length-d):=by rw[←e1]
theorem ij{w:List Nat}{d:Nat}(hd:d≤w.length):(w.drop (w.length-d)).length=d:=by rw[List.length_drop];lia
def Al(w x:List Nat):Prop:=x.length≤mx w (w++x)∧∀j,1≤j→j≤x.length→¬w <:+w++x.take j
theorem qY{w y:List Nat}(hy:y.length≤w.length)(h:w <:+w++y):w.drop y.length=w.take (w.length-y.length)∧y=w.drop (w.length-y.length):=by
 obtain⟨v,hv⟩:=h
 have hl:v.length=y.length:=by have:=congrArg List.length hv;simp at this;lia
 have ev:v=w.take y.length:=by
  have:=congrArg (List.take y.length) hv
  rw[←hl,List.take_left,hl,List.take_append_of_le_length hy] at this
  exact this
 have e:w.take y.length++w=w++y:=by rw[←ev];exact hv
 constructor
 ·have:=congrArg (fun l=>(l.drop y.length).take (w.length-y.length)) e
  rw[List.drop_left' (bj hy),List.drop_append_of_le_length hy,List.take_left' (by rw[List.length_drop])] at this
  exact this.symm
 ·have:=congrArg (List.drop w.length) e
  rw[List.drop_left] at this
  rw[List.drop_append,List.drop_eq_nil_of_le (by rw[bj hy];exact hy),List.nil_append,bj hy] at this
  exact this.symm
section
variable{w A S:List Nat}
theorem jm(w1:1≤w.length)(hA:A.Nodup)(hwA:∀c∈w,c∈A)(hSn:S.Nodup)(hS:∀d,d∈S↔dE w d):∀(m:Nat) (x:List Nat),Al w x→fw w A m (mx w (w++x),x.length)=(if x=[]∧m=0 then 1 else 0)+(S.map fun d=>if x.length<d∧x <+:w.drop (w.length-d)∧d-x.length≤m then fw w A (m-(d-x.length)) (w.length,0) else 0).sum
 | 0,x,hx=>by
   have z:(S.map fun d=>if x.length<d∧x <+:w.drop (w.length-d)∧d-x.length≤0 then fw w A (0-(d-x.length)) (w.length,0) else 0).sum=0:=bL fun d _=>by rw[if_neg (by lia)]
   rw[z,Nat.add_zero,fW]
   by_cases e:x=[]
   ·subst e
    rw[if_pos (by simp;exact mx_full.mpr (by simp)),if_pos ⟨rfl,rfl⟩]
   ·have:x.length≠0:=fun z=>e (List.length_eq_zero_iff.mp z)
    rw[if_neg (fun z=>this (Prod.mk.inj z).2),if_neg (fun z=>e z.1)]
 | m+1,x,hx=>by
   rw[if_neg (by lia),Nat.zero_add,jD]
   have one:∀c,(match nx w (mx w (w++x),x.length) c with | none=>0 | some st'=>fw w A m st')=(S.map fun d=>if x.length<d∧(x++[c]) <+:w.drop (w.length-d)∧d-x.length≤m+1 then fw w A (m+1-(d-x.length)) (w.length,0) else 0).sum:=by
    intro c
    have es:mx w (w.take (mx w (w++x))++[c])=mx w (w++(x++[c])):=by rw[←mP,List.append_assoc]
    have yl:(x++[c]).length=x.length+1:=by simp
    have hx1:x.length+1≤w.length:=by
     have h1:=hx.1
     have h2:=cW w (w++x)
     by_cases e:x=[]
     ·subst e;simpa using w1
     ·have:x.length≠0:=fun z=>e (List.length_eq_zero_iff.mp z)
      have h3:=hx.2 x.length (by lia) (Nat.le_refl _)
      rw[List.take_length] at h3
      have:mx w (w++x)≠w.length:=fun z=>h3 (mx_full.mp z)
      lia
    have nof:∀j,1≤j→j≤x.length→¬w <:+w++(x++[c]).take j:=fun j h1 h2=>by
     rw[List.take_append_of_le_length h2];exact hx.2 j h1 h2
    show(match (if(if mx w (w.take (mx w (w++x))++[c])=w.length then 0 else x.length+1)>mx w (w.take (mx w (w++x))++[c]) then none else some (mx w (w.take (mx w (w++x))++[c]),if mx w (w.take (mx w (w++x))++[c])=w.length then 0 else x.length+1)) with | none=>0 | some st'=>fw w A m st')=_
    rw[es]
    by_cases hf:mx w (w++(x++[c]))=w.length
    ·
     rw[if_pos hf,if_neg (by lia)]
     show fw w A m (mx w (w++(x++[c])),0)=_
     rw[hf]
     have hfull:=mx_full.mp hf
     obtain⟨q1,q2⟩:=qY (by lia) hfull
     rw[yl] at q1 q2
     have hd:x.length+1∈S:=(hS _).mpr ⟨by lia,hx1,q1,fun j j1 j2=>by rw[←q2];exact nof j j1 (by lia)⟩
     rw[fG hSn hd fun d hdS hne=>?_]
     ·rw[if_pos ⟨by lia,by rw[←q2];exact List.prefix_refl _,by lia⟩,show m+1-(x.length+1-x.length)=m by lia]
     ·rw[if_neg]
      rintro⟨h1,h2,_⟩
      obtain⟨_,d2,_,d4⟩:=(hS d).mp hdS
      have hp:=h2.length_le
      rw[ij d2,yl] at hp
      refine d4 (x.length+1) (by lia) (by lia) ?_
      have:(w.drop (w.length-d)).take (x.length+1)=x++[c]:=by rw[←yl];exact(List.prefix_iff_eq_take.mp h2).symm
      rw[this];exact hfull
    ·rw[if_neg hf]
     have hnf:¬w <:+w++(x++[c]):=fun z=>hf (mx_full.mpr z)
     have longer:∀d,d∈S→x.length<d→(x++[c]) <+:w.drop (w.length-d)→x.length+1<d∧x.length+1≤mx w (w++(x++[c])):=by
      intro d hdS h1 h2
      obtain⟨d1,d2,d3,d4⟩:=(hS d).mp hdS
      have hp:=h2.length_le
      rw[ij d2,yl] at hp
      have hne:d≠x.length+1:=fun z=>by
       apply hnf
       have:x++[c]=w.drop (w.length-d):=h2.eq_of_length (by rw[ij d2,yl];exact z.symm)
       rw[this,←fj d2 d3]
       exact List.suffix_append _ _
      refine⟨by lia,?_⟩
      have hi:w.length+(x.length+1)-d≤w.length:=by lia
      have:w.take (w.length+(x.length+1)-d) <:+w++(x++[c]):=by
       have e:w++(x++[c])=w.take d++w.take (w.length+(x.length+1)-d):=by
        have e1:=congrArg (List.take (w.length+(x.length+1))) (fj d2 d3)
        rw[List.take_append,List.take_append,bj d2,List.take_of_length_le (by rw[bj d2];lia),List.take_of_length_le (show w.length≤w.length+(x.length+1) by lia),show w.length+(x.length+1)-w.length=x.length+1 by lia] at e1
        rw[e1]
        congr 1
        rw[←yl];exact List.prefix_iff_eq_take.mp h2
       rw[e]
       exact List.suffix_append _ _
      have:=eV hi this
      lia
     by_cases hdead:x.length+1>mx w (w++(x++[c]))
     ·rw[if_pos hdead]
      symm
      refine bL fun d hdS=>if_neg ?_
      rintro⟨h1,h2,_⟩
      have:=(longer d hdS h1 h2).2
      lia
     ·rw[if_neg hdead]
      show fw w A m (mx w (w++(x++[c])),x.length+1)=_
      have hy:Al w (x++[c]):=⟨by rw[yl];lia,fun j j1 j2=>by
       by_cases e:j=x.length+1
       ·rw[List.take_of_length_le (by rw[yl];lia)];exact hnf
       ·exact nof j j1 (by rw[yl] at j2;lia)⟩
      have ih:=jm w1 hA hwA hSn hS m (x++[c]) hy
      rw[yl] at ih
      rw[ih,if_neg (by simp),Nat.zero_add]
      refine cx fun d hdS=>?_
      by_cases hc:x.length<d∧(x++[c]) <+:w.drop (w.length-d)
      ·have hl:=(longer d hdS hc.1 hc.2).1
       by_cases hm:d-x.length≤m+1
       ·rw[if_pos ⟨hl,hc.2,by lia⟩,if_pos ⟨hc.1,hc.2,hm⟩,show m-(d-(x.length+1))=m+1-(d-x.length) by lia]
       ·rw[if_neg (by lia),if_neg (by lia)]
      ·rw[if_neg (fun z=>hc ⟨by lia,z.2.1⟩),if_neg (fun z=>hc ⟨z.1,z.2.1⟩)]
   rw[cx fun c _=>one c,pq]
   refine cx fun d hdS=>?_
   obtain⟨d1,d2,d3,d4⟩:=(hS d).mp hdS
   by_cases hc:x.length<d∧x <+:w.drop (w.length-d)∧d-x.length≤m+1
   ·rw[if_pos hc]
    have hlt:x.length<(w.drop (w.length-d)).length:=by rw[ij d2];exact hc.1
    have hmem:(w.drop (w.length-d))[x.length]∈A:=hwA _ (List.mem_of_mem_drop (List.getElem_mem hlt))
    have hpre:∀c,(x++[c]) <+:w.drop (w.length-d)↔c=(w.drop (w.length-d))[x.length]:=fun c=>by
     have ex:=List.prefix_iff_eq_take.mp hc.2.1
     constructor
     ·intro h
      have:=List.prefix_iff_eq_take.mp h
      rw[show(x++[c]).length=x.length+1 by simp,List.take_succ_eq_append_getElem hlt] at this
      have:=(List.append_inj this (by rw[List.length_take];lia)).2
      simpa using this
     ·rintro rfl
      rw[List.prefix_iff_eq_take,show(x++[(w.drop (w.length-d))[x.length]]).length=x.length+1 by simp,List.take_succ_eq_append_getElem hlt,←ex]
    rw[fG hA hmem fun c _ hne=>if_neg fun z=>hne ((hpre c).mp z.2.1)]
    rw[if_pos ⟨hc.1,(hpre _).mpr rfl,hc.2.2⟩]
   ·rw[if_neg hc]
    exact bL fun c _=>if_neg fun z=>hc ⟨z.1,(List.prefix_append _ _).trans z.2.1,z.2.2⟩
theorem rf(w1:1≤w.length)(hA:A.Nodup)(hwA:∀c∈w,c∈A)(hSn:S.Nodup)(hS:∀d,d∈S↔dE w d)(m:Nat):fw w A m (w.length,0)=(if m=0 then 1 else 0)+(S.map fun d=>if d≤m then fw w A (m-d) (w.length,0) else 0).sum:=by
 have hf:mx w (w++[])=w.length:=mx_full.mpr (by simp)
 have h:=jm w1 hA hwA hSn hS m [] ⟨by simp,fun j h1 h2=>by simp at h2;lia⟩
 rw[hf] at h
 have e:([]:List Nat).length=0:=rfl
 rw[e] at h
 rw[h]
 congr 1
 ·by_cases z:m=0 <;> simp[z]
 ·refine cx fun d hdS=>?_
  have d1:=((hS d).mp hdS).1
  by_cases z:d≤m
  ·rw[if_pos ⟨by lia,by simp,by lia⟩,if_pos z];rfl
  ·rw[if_neg (by lia),if_neg z]
theorem gj(w1:1≤w.length)(hA:A.Nodup)(hwA:∀c∈w,c∈A):∀(n i:Nat),i<w.length→fw w A n (i,i)=if w.length-i≤n then fw w A (n-(w.length-i)) (w.length,0) else 0
 | 0,i,hi=>by
   rw[fW,if_neg (by simp;lia),if_neg (by lia)]
 | n+1,i,hi=>by
   rw[jD]
   have hmem:w[i]∈A:=hwA _ (List.getElem_mem hi)
   have et:w.take i++[w[i]]=w.take (i+1):=(List.take_succ_eq_append_getElem hi).symm
   rw[fG hA hmem fun c _ hne=>?_]
   ·have em:mx w (w.take i++[w[i]])=i+1:=by
     rw[et]
     refine fT (by lia) (List.suffix_refl _) fun j hj h=>?_
     have:=h.length_le
     rw[bj hj,bj (by lia)] at this
     exact this
    show(match (if(if mx w (w.take i++[w[i]])=w.length then 0 else i+1)>mx w (w.take i++[w[i]]) then none else some (mx w (w.take i++[w[i]]),if mx w (w.take i++[w[i]])=w.length then 0 else i+1)) with | none=>0 | some st'=>fw w A n st')=_
    rw[em]
    by_cases e:i+1=w.length
    ·rw[if_pos e,if_neg (by lia)]
     show fw w A n (i+1,0)=_
     rw[if_pos (by lia),e,show n+1-(w.length-i)=n by lia]
    ·rw[if_neg e,if_neg (by lia)]
     show fw w A n (i+1,i+1)=_
     rw[gj w1 hA hwA n (i+1) (by lia)]
     by_cases z:w.length-(i+1)≤n
     ·rw[if_pos z,if_pos (by lia),show n-(w.length-(i+1))=n+1-(w.length-i) by lia]
     ·rw[if_neg z,if_neg (by lia)]
   ·have hm:mx w (w.take i++[c])≤i:=by
     have h1:=(d7 w (w.take i++[c]))
     have h2:=h1.length_le
     rw[bj (cW w _)] at h2
     have h3:(w.take i++[c]).length=i+1:=by rw[List.length_append,bj (by lia)];rfl
     rw[h3] at h2
     by_cases z:mx w (w.take i++[c])=i+1
     ·exfalso
      rw[z] at h1
      have e:w.take (i+1)=w.take i++[c]:=h1.eq_of_length (by rw[bj (by lia),h3])
      rw[←et] at e
      exact hne (by simpa using(List.append_cancel_left e).symm)
     ·lia
    show(match (if(if mx w (w.take i++[c])=w.length then 0 else i+1)>mx w (w.take i++[c]) then none else some (mx w (w.take i++[c]),if mx w (w.take i++[c])=w.length then 0 else i+1)) with | none=>0 | some st'=>fw w A n st')=_
    rw[if_neg (show¬mx w (w.take i++[c])=w.length by lia),if_pos (by lia)]
theorem lF(w1:1≤w.length)(hA:A.Nodup)(hwA:∀c∈w,c∈A)(hSn:S.Nodup)(hS:∀d,d∈S↔dE w d):∀(k n:Nat),n<w.length+1+k→(cl S w.length k).getD n 0=fw w A n (0,0)
 | 0,n,hn=>by
   rw[gj w1 hA hwA n 0 (by lia),cl,Nat.sub_zero]
   by_cases e:n=w.length
   ·subst e
    rw[if_pos (Nat.le_refl _),Nat.sub_self,rf w1 hA hwA hSn hS 0,if_pos rfl,bL fun d hdS=>if_neg (by have:=((hS d).mp hdS).1;lia)]
    simp[List.getD_eq_getElem?_getD]
   ·rw[if_neg (by lia),List.getD_eq_getElem?_getD,List.getElem?_append_left (by rw[List.length_replicate];lia),List.getElem?_replicate,if_pos (by lia)]
    rfl
 | k+1,n,hn=>by
   have hl:=dB S w.length k
   by_cases e:n<w.length+1+k
   ·rw[cl,List.getD_eq_getElem?_getD,List.getElem?_append_left (by lia),←List.getD_eq_getElem?_getD]
    exact lF w1 hA hwA hSn hS k n e
   ·have en:n=w.length+1+k:=by lia
    rw[cl,List.getD_eq_getElem?_getD,List.getElem?_append_right (by lia),hl,show n-(w.length+1+k)=0 by lia]
    show(S.map fun d=>(cl S w.length k).getD (w.length+1+k-d) 0).sum=_
    rw[gj w1 hA hwA n 0 (by lia),Nat.sub_zero,if_pos (by lia),rf w1 hA hwA hSn hS,if_neg (by lia),Nat.zero_add]
    refine cx fun d hdS=>?_
    have d1:=((hS d).mp hdS).1
    have d2:=((hS d).mp hdS).2.1
    rw[lF w1 hA hwA hSn hS k _ (by lia),gj w1 hA hwA _ 0 (by lia),Nat.sub_zero]
    by_cases z:d≤n-w.length
    ·rw[if_pos (by lia),if_pos z,show w.length+1+k-d-w.length=n-w.length-d by lia]
    ·rw[if_neg (by lia),if_neg z]
end
def bZ(w:List Nat)(s:Nat):Nat→Nat
 | 0=>0
 | m+1=>if w.take (m+1)=(w.drop (s-(m+1))).take (m+1) then m+1 else bZ w s m
def fl(w:List Nat)(s:Nat):Nat:=bZ w s (s-1)
theorem oX{w:List Nat}{j s:Nat}(hj:j≤s)(hs:s≤w.length):w.take j <:+w.take s↔w.take j=(w.drop (s-j)).take j:=by
 have e:(w.drop (s-j)).take j=(w.take s).drop (s-j):=by
  rw[List.drop_take]
  congr 1
  lia
 rw[e]
 constructor
 ·intro h
  have:=List.suffix_iff_eq_drop.mp h
  rw[List.length_take,List.length_take,Nat.min_eq_left hs,Nat.min_eq_left (by lia)] at this
  exact this
 ·intro h
  rw[h];exact List.drop_suffix _ _
theorem kO{w:List Nat}{s:Nat}(hs:s≤w.length):∀m,m≤s→bZ w s m≤m∧w.take (bZ w s m) <:+w.take s∧∀j,j≤m→w.take j <:+w.take s→j≤bZ w s m
 | 0,_=>⟨Nat.le_refl _,by simp[bZ],fun j hj _=>by simpa [bZ] using hj⟩
 | m+1,hm=>by
   obtain⟨h1,h2,h3⟩:=kO hs m (by lia)
   unfold bZ
   by_cases h:w.take (m+1)=(w.drop (s-(m+1))).take (m+1)
   ·rw[if_pos h]
    exact⟨Nat.le_refl _,(oX hm hs).mpr h,fun j hj _=>hj⟩
   ·rw[if_neg h]
    refine⟨by lia,h2,fun j hj q=>?_⟩
    by_cases e:j=m+1
    ·subst e;exact absurd ((oX hm hs).mp q) h
    ·exact h3 j (by lia) q
def eu(w:List Nat)(s c z:Nat):Prop:=z≤s∧w.take z <:+w.take s∧∀j,j+1≤w.length→w.take (j+1) <:+w.take s++[c]→j≤z
theorem kq{w:List Nat}{s c j:Nat}(hj:j+1≤w.length)(h:w.take (j+1) <:+w.take s++[c]):w.take j <:+w.take s∧w[j]?=some c:=by
 have e:w.take (j+1)=w.take j++[w[j]]:=List.take_succ_eq_append_getElem (by lia)
 rw[e] at h
 rcases(iz).mp h with q | ⟨v,q1,q2⟩
 ·rw[←e] at q
  have:=congrArg List.length q
  rw[List.length_take,List.length_nil] at this
  lia
 ·have:=List.append_inj q1 (by
   have:=congrArg List.length q1
   simp at this;simp;lia)
  refine⟨this.1▸q2,?_⟩
  rw[List.getElem?_eq_getElem (by lia)]
  have:=this.2
  simp at this
  rw[this]
theorem va{w:List Nat}{s c:Nat}(hs:s≤w.length):eu w s c s:=⟨Nat.le_refl _,List.suffix_refl _,fun j hj h=>by
 have:=(kq hj h).1.length_le
 rw[List.length_take,List.length_take] at this
 lia⟩
theorem tL{w:List Nat}{s c z:Nat}(hs:s≤w.length)(h:eu w s c z)(z0:0<z)(hz:z=w.length∨w[z]?≠some c):eu w s c (fl w z):=by
 obtain⟨h1,h2,h3⟩:=h
 obtain⟨f1,f2,f3⟩:=kO (w:=w) (s:=z) (by lia) (z-1) (by lia)
 refine⟨by unfold fl;lia,f2.trans h2,fun j hj q=>?_⟩
 obtain⟨q1,q2⟩:=kq hj q
 have hjz:=h3 j hj q
 have hne:j≠z:=fun e=>by
  subst e
  rcases hz with e | e
  ·lia
  ·exact e q2
 refine f3 j (by lia) (nQ q1 h2 ?_)
 rw[List.length_take,List.length_take];lia
theorem yJ{w:List Nat}{z:Nat}(hz:z≤w.length)(z0:0<z):fl w z<z:=by
 have:=(kO (w:=w) (s:=z) hz (z-1) (by lia)).1
 unfold fl;lia
theorem wb{w:List Nat}{s c z:Nat}(hs:s≤w.length)(h:eu w s c z)(hz:w[z]?=some c):mx w (w.take s++[c])=z+1:=by
 obtain⟨h1,h2,h3⟩:=h
 have hl:z<w.length:=(List.getElem?_eq_some_iff.mp hz).1
 refine fT (by lia) ?_ fun i hi q=>?_
 ·have e:w.take (z+1)=w.take z++[c]:=by rw[List.take_add_one,hz];rfl
  rw[e,iz]
  exact .inr ⟨_,rfl,h2⟩
 ·cases i with
  | zero=>lia
  | succ j=>have:=h3 j hi q;lia
theorem uE{w:List Nat}{s c:Nat}(h:eu w s c 0)(hz:w[0]?≠some c):mx w (w.take s++[c])=0:=by
 refine fT (Nat.zero_le _) (by simp) fun i hi q=>?_
 cases i with
 | zero=>exact Nat.le_refl _
 | succ j=>
   have hj:=h.2.2 j hi q
   have:=(kq hi q).2
   rw[show j=0 by lia] at this
   exact absurd this hz
abbrev lB:Stmt:=aS 37
def pz:Sp:=fun vs H Q _=>∃(b:Addr) (u:List Nat),vs=[.ref b]∧H b=some (.lst (u.map sg))∧Low u∧1≤u.length∧u.length≤400∧
 ∀(r:Addr) (H':Hp),H r=none→H' r=some (.lst (aA ((List.range (u.length+1)).map (fl u))))→Same H H'→Q (.ref r) H'
section
variable{P:Program}{w:World}{K:PySem.W.Frag}{mg:Str→Option Value}{base:Heap}
theorem scFails:FnScope ["word","found","size","most"] ["word"] (ar lB):=fsc_
theorem wY(M:Md K mg)(B:Bl mg)(F:FF K "_law_fails" lB):Fn P w K mg base ai "_law_fails" 1 ["word"] pz:=by
 refine aV M F scFails (fun _ _ _ _ _ _=>bJ fun _=>rfl) (fun vs H Q E h=>?_) (fun f cdv A outer s H vs Q E hr h=>?_)
 ·obtain⟨b,u,rfl,_⟩:=h;rfl
 ·obtain⟨b,u,rfl,hb,lu,u1,ul,k⟩:=h
  refine⟨_,(ae (am (i:=1) scFails.nd rfl (.inl rfl) (bb (aa af (aa af ac))))
   (ae (cm PassesOwn.never rfl (jk (by rfl) B.range (aa af (aa (ap bC (aR B.len (pv 0)) af) ac))) (ba (i:=2) scFails.nd rfl (.inl rfl))
   (ae (am (i:=3) scFails.nd rfl (.inl rfl) (ap aZ (pv 2) af))
   (ae (dL PassesOwn.never (aL (ph (by exact hr)) (bF bG (pv 0) bO (bu (pv 3))) (bF bG (pv 0) (bu (ap aZ (pv 2) (pv 3))) (bu (pv 2))) (aI _)) (ao (am (i:=3) scFails.nd rfl (.inl rfl) (ap aZ (pv 3) af))))
   (ao (bf (cI PySem.F.plainAttrs_list PySem.F.slot_list_append PySem.F.type_list_append dJ (pv 1) (aa (pv 3) ac)))))))
   (ao (aJ (pv 1))))),?_⟩
  refine⟨(by show 2≤sizeLine;decide),fun r hr0=>?_⟩
  have s1:=Same.upd (o:=.lst [V.int 0,V.int 0]) hr0
  have hr1:=ad (H:=H) (a:=r) (o:=.lst [V.int 0,V.int 0])
  generalize L2.upd H r (.lst [V.int 0,V.int 0])=H1 at s1 hr1 ⊢
  refine⟨_,rfl,b,_,rfl,SqL.of (s1 _ _ hb),_,_,rfl,rfl,2,_,rfl,⟨by decide,by decide,by rw[List.length_map];lia,by rw[List.length_map];lia⟩,?_⟩
  rw[List.length_map,show((u.length:Int)+1-2).toNat=u.length-1 by lia]
  refine gB (lo:=2) (n:=u.length-1) (fun i σ H2=>∃v2 v3,σ=[some (.ref b),some (.ref r),v2,v3]∧Same H H2∧H2 r=some (.lst (aA ((List.range (i+2)).map (fl u))))) ?_ ?_ ?_
  ·exact⟨none,none,rfl,s1,hr1⟩
  ·rintro i σ H2 hi ⟨v2,v3,rfl,s2,hr2⟩
   have hb2:=s2 _ _ hb
   refine⟨_,rfl,_,_,rfl,rfl,?_⟩
   refine eI (j:=((i+1:Nat):Int)) (congrArg V.int (by lia)) ?_
   refine⟨fun m σ H5=>σ=[some (.ref b),some (.ref r),some (.int (2+(i:Int))),some (.int (m:Int))]∧m≤i+1∧bZ u (i+2) m=fl u (i+2)∧Same H2 H5,⟨i+1,rfl,Nat.le_refl _,rfl,fun _ _ h=>h⟩,?_⟩
   rintro m σ H5 ⟨rfl,mi,hm,s5⟩
   have hb5:=s5 _ _ hb2
   refine⟨_,rfl,_,rfl,_,rfl,b,_,rfl,SqL.of hb5,fun p1 hp1=>?_⟩
   have e1:bi (u.map sg) none (some (m:Int))=(u.take m).map sg:=by rw[dq,dD,gm _ _ (by lia),Int.toNat_natCast]
   rw[e1]
   have s6:=Same.upd (o:=.lst ((u.take m).map sg)) hp1
   have hp6:=ad (H:=H5) (a:=p1) (o:=.lst ((u.take m).map sg))
   generalize L2.upd H5 p1 (.lst ((u.take m).map sg))=H6 at s6 hp6 ⊢
   refine⟨_,rfl,_,rfl,_,rfl,_,_,rfl,rfl,_,rfl,_,rfl,_,rfl,b,_,rfl,SqL.of (s6 _ _ hb5),fun p2 hp2=>?_⟩
   have e2:bi (u.map sg) (some (2+(i:Int)-(m:Int))) (some (2+(i:Int)))=((u.drop (i+2-m)).take m).map sg:=by
    rw[dq,dD,qB _ _ _ (by lia) (by lia),show(2+(i:Int)-(m:Int)).toNat=i+2-m by lia,show(2+(i:Int)).toNat-(i+2-m)=m by lia]
   rw[e2]
   have s7:=Same.upd (o:=.lst (((u.drop (i+2-m)).take m).map sg)) hp2
   have hp7:=ad (H:=H6) (a:=p2) (o:=.lst (((u.drop (i+2-m)).take m).map sg))
   generalize L2.upd H6 p2 (.lst (((u.drop (i+2-m)).take m).map sg))=H7 at s7 hp7 ⊢
   have s27:=s5.trans (s6.trans s7)
   refine⟨p1,p2,u.take m,(u.drop (i+2-m)).take m,rfl,rfl,SqL.of (s7 _ _ hp6),SqL.of hp7,(lu.take _).cp,((lu.drop _).take _).cp,_,rfl,?_⟩
   rw[if_pos rfl]
   by_cases hq:u.take m=(u.drop (i+2-m)).take m
   ·rw[decide_eq_true hq]
    have hf:fl u (i+2)=m:=by
     rw[←hm]
     cases m with
     | zero=>rfl
     | succ m=>unfold bZ;rw[if_pos hq]
    refine aX ⟨_,rfl,.inl ⟨rfl,_,SqL.of (s27 _ _ hr2)⟩,_,rfl,r,_,_,rfl,rfl,s27 _ _ hr2,by rw[aT,List.length_map,List.length_range];exact bn (by lia),_,_,rfl,?_,?_⟩
    ·intro e o z
     rw[ah (aD z hr0)]
     exact s27 _ _ (s2 _ _ z)
    ·have e:(List.range (i+1+2)).map (fl u)=(List.range (i+2)).map (fl u)++[m]:=by
      rw[show i+1+2=(i+2)+1 by lia,List.range_succ (n:=i+2),List.map_append,List.map_singleton,hf]
     rw[ad,e,dv]
   ·rw[decide_eq_false hq]
    have m1:1≤m:=by
     cases m with
     | zero=>exact absurd (by simp) hq
     | succ m=>lia
    refine aY ⟨fun σ' H'=>∃m',m'<m∧σ'=[some (.ref b),some (.ref r),some (.int (2+(i:Int))),some (.int (m':Int))]∧m'≤i+1∧bZ u (i+2) m'=fl u (i+2)∧Same H2 H',fun _ _ h=>h,?_⟩
    refine⟨_,rfl,_,_,rfl,rfl,?_⟩
    refine eI (j:=((m-1:Nat):Int)) (congrArg V.int (by lia)) ?_
    refine⟨m-1,by lia,rfl,by lia,?_,s27⟩
    rw[←hm]
    obtain⟨m',rfl⟩:∃m',m=m'+1:=⟨m-1,by lia⟩
    conv=>rhs;unfold bZ
    rw[if_neg hq]
    rfl
  ·rintro σ H2 ⟨v2,v3,rfl,s2,hr2⟩
   rw[show u.length-1+2=u.length+1 by lia] at hr2
   exact⟨_,rfl,k r H2 hr0 hr2 s2⟩
end
abbrev jM:Stmt:=aS 38
def tV:Option (Nat×Nat)→V→Hp→Prop
 | none,v,_=>v=.non
 | some (s,b),v,H=>∃r:Addr,v=.ref r∧H r=some (.tup [.int (s:Int),.int (b:Int)])
def mT:Sp:=fun vs H Q _=>∃(b g t:Addr) (u:List Nat) (s n c:Nat),vs=[.ref b,.ref g,.ref t,sg c]∧H b=some (.lst (u.map sg))∧Low u∧97≤c∧c≤122∧1≤u.length∧u.length≤400∧s≤u.length∧H g=some (.lst (aA ((List.range (u.length+1)).map (fl u))))∧H t=some (.tup [.int (s:Int),.int (n:Int)])∧
 ∀(v:V) (H':Hp),tV (nx u (s,n) c) v H'→(∀r,v=.ref r→H r=none)→Same H H'→Q v H'
theorem wI{c:TT}{σ:St}{H:Hp}{Q:Bool→Hp→Prop}(b:Bool)(h:∀R:Bool→Hp→Prop,R b H→c σ H R)(q:Q b H):c σ H Q:=h Q q
theorem fR{c:TT}{t u aq:TS}{D:Ends}{σ:St}{H:Hp}(T:St→Hp→Prop)(hr:∀σ' H',T σ' H'→aq D σ' H')(h:∀R:St→Hp→Prop,(∀σ' H',T σ' H'→R σ' H')→c σ H fun b H1=>if b=true then t {D with nx:=R} σ H1 else u {D with nx:=R} σ H1):dY (jg c t u) aq D σ H:=h (aq D) hr
section
variable{P:Program}{w:World}{K:PySem.W.Frag}{mg:Str→Option Value}{base:Heap}
theorem scNextL:FnScope ["word","fails","state","sign","size","bare"] ["word","fails","state","sign"] (ar jM):=fsc_
theorem yA(M:Md K mg)(B:Bl mg)(F:FF K "_law_next" jM):Fn P w K mg base ai "_law_next" 1 ["word","fails","state","sign"] mT:=by
 refine aV M F scNextL (fun _ _ _ _ _ _=>q9 fun _ _ _ _=>rfl) (fun vs H Q E h=>?_) (fun f cdv A outer s H vs Q E hr h=>?_)
 ·obtain⟨b,g,t,u,s,n,c,rfl,_⟩:=h;rfl
 ·obtain⟨b,g,t,u,s0,n,c,rfl,hb,lu,c1,c2,u1,ul,sl,hg,ht,k⟩:=h
  refine⟨_,(ae (eG (pv 2) (fi rfl (cf (ba (i:=4) scNextL.nd rfl (.inl rfl)) (cf (ba (i:=5) scNextL.nd rfl (.inl rfl)) fq))))
   (ae (dL PassesOwn.never (PW.pt (ox (aL km (pv 4) af (aI _)) (nZ (PW.pt (kJ (aL cu (pv 4) (aR B.len (pv 0)) (aI _)) (pK (aL pV (aO aU (pv 0) (pv 4) (fun _ _=>rfl)) (pv 3) (aI _)))))))) (ao (am (i:=4) scNextL.nd rfl (.inl rfl) (aO aU (pv 1) (pv 4) (fun _ _=>rfl)))))
   (ae (am (i:=4) scNextL.nd rfl (.inl rfl) (ap bC (pv 4) (lU B.int (fY cu (aO aU (pv 0) (pv 4) (fun _ _=>rfl)) (pv 3) (aI _)))))
   (ae (am (i:=5) scNextL.nd rfl (.inl rfl) (ap bC (pv 5) af))
   (ae (br (aL cu (pv 4) (aR B.len (pv 0)) (aI _)) (ao (am (i:=5) scNextL.nd rfl (.inl rfl) af)) bq)
   (ae (br (aL km (pv 5) (pv 4) (aI _)) (ao (aJ eU)) bq)
   (ao (aJ (cQ (aa (pv 4) (aa (pv 5) ac))))))))))),?_⟩
  refine⟨_,rfl,t,_,rfl,SqT.of ht,rfl,_,_,rfl,_,_,rfl,rfl,?_⟩
  refine⟨fun z σ H5=>σ=[some (.ref b),some (.ref g),some (.ref t),some (sg c),some (.int (z:Int)),some (.int (n:Int))]∧eu u s0 c z∧H5=H,⟨s0,rfl,va sl,rfl⟩,?_⟩
  rintro z σ H5 ⟨rfl,hK,rfl⟩
  have zl:z≤u.length:=Nat.le_trans hK.1 sl
  refine wI (decide (0<z∧(z=u.length∨u[z]?≠some c))) (fun R hR=>?_) ?_
  ·refine⟨_,rfl,_,_,rfl,rfl,_,rfl,?_⟩
   by_cases z0:0<z
   ·rw[decide_eq_true (show(0:Int)<(z:Int) by lia)]
    refine aY ⟨_,rfl,_,rfl,b,_,rfl,SqL.of hb,rfl,_,rfl,?_⟩
    rw[List.length_map]
    by_cases zL:z=u.length
    ·rw[decide_eq_true (show V.int (z:Int)=V.int (u.length:Int) by rw[zL])]
     rw[decide_eq_true ⟨z0,.inl zL⟩] at hR
     exact aY hR
    ·rw[decide_eq_false (fun q=>zL (by have:=V.int.inj q;lia))]
     obtain⟨d,hd,_,_,ed⟩:=fI (t:=u) (r:=(z:Int)) lu (by lia) (by lia)
     rw[Int.toNat_natCast] at hd
     refine aX ⟨_,rfl,_,rfl,b,_,_,_,rfl,rfl,SqL.of hb,ed,_,rfl,rfl,_,rfl,?_⟩
     by_cases dc:d=c
     ·rw[decide_eq_true (sg_inj.mpr dc)]
      rw[decide_eq_false (fun q=>q.2.elim zL fun q=>q (by rw[hd,dc]))] at hR
      exact hR
     ·rw[decide_eq_false (fun q=>dc (sg_inj.mp q))]
      rw[decide_eq_true ⟨z0,.inr (by rw[hd];exact fun q=>dc (Option.some.inj q))⟩] at hR
      exact hR
   ·rw[decide_eq_false (show¬(0:Int)<(z:Int) by lia)]
    rw[decide_eq_false (fun q=>z0 q.1)] at hR
    exact aX hR
  ·refine bT (fun hc=>?_) (fun hc=>?_)
   ·have hc':=of_decide_eq_true hc
    have fz:=yJ zl hc'.1
    have hat:bc (aA ((List.range (u.length+1)).map (fl u))) (z:Int)=some (.int ((fl u z:Nat):Int)):=by
     rw[gp (by rw[List.length_map,List.length_range];lia),List.getD_eq_getElem?_getD,List.getElem?_map,List.getElem?_range (by lia)];rfl
    refine⟨fun σ' H'=>∃m',m'<z∧σ'=[some (.ref b),some (.ref g),some (.ref t),some (sg c),some (.int (m':Int)),some (.int (n:Int))]∧eu u s0 c m'∧H'=H5,fun _ _ h=>h,?_⟩
    exact⟨_,rfl,_,rfl,g,_,_,_,rfl,rfl,SqL.of hg,hat,fl u z,fz,rfl,tL sl hK hc'.1 hc'.2,rfl⟩
   ·have hc':¬(0<z∧(z=u.length∨u[z]?≠some c)):=fun q=>hc (decide_eq_true q)
    have zL:z<u.length:=by
     by_cases z0:0<z
     ·have:¬z=u.length:=fun q=>hc' ⟨z0,.inl q⟩
      lia
     ·lia
    obtain⟨d,hd,_,_,ed⟩:=fI (t:=u) (r:=(z:Int)) lu (by lia) (by lia)
    rw[Int.toNat_natCast] at hd
    have hm:mx u (u.take s0++[c])=z+(if d=c then 1 else 0):=by
     by_cases dc:d=c
     ·rw[if_pos dc];exact wb sl hK (by rw[hd,dc])
     ·rw[if_neg dc]
      have z0:z=0:=by
       by_cases z0:0<z
       ·exact absurd ⟨z0,.inr (by rw[hd];exact fun q=>dc (Option.some.inj q))⟩ hc'
       ·lia
      subst z0
      exact uE hK (by rw[hd];exact fun q=>dc (Option.some.inj q))
    refine⟨_,rfl,_,rfl,_,rfl,b,_,_,_,rfl,rfl,SqL.of hb,ed,_,rfl,rfl,_,rfl,_,_,rfl,rfl,?_⟩
    refine eI (j:=((mx u (u.take s0++[c]):Nat):Int)) (congrArg V.int (by
     rw[hm]
     by_cases dc:d=c
     ·rw[decide_eq_true (sg_inj.mpr dc),if_pos dc];simp
     ·rw[decide_eq_false (fun q=>dc (sg_inj.mp q)),if_neg dc];simp)) ?_
    refine⟨_,rfl,_,_,rfl,rfl,?_⟩
    refine eI (j:=((n+1:Nat):Int)) (congrArg V.int (by lia)) ?_
    unfold cC
    dsimp only
    have nxe:nx u (s0,n) c=if(if mx u (u.take s0++[c])=u.length then 0 else n+1)>mx u (u.take s0++[c]) then none else some (mx u (u.take s0++[c]),if mx u (u.take s0++[c])=u.length then 0 else n+1):=rfl
    generalize hmx:mx u (u.take s0++[c])=q at nxe ⊢
    refine fR (fun σ' H'=>σ'=[some (.ref b),some (.ref g),some (.ref t),some (sg c),some (.int (q:Int)),some (.int ((if q=u.length then 0 else n+1:Nat):Int))]∧H'=H5) ?_ fun R hR=>?_
    ·rintro σ' H' ⟨rfl,rfl⟩
     generalize (if q=u.length then 0 else n+1:Nat)=e at nxe ⊢
     refine⟨_,rfl,_,rfl,_,_,rfl,rfl,_,rfl,?_⟩
     refine bT (fun hd'=>?_) (fun hd'=>?_)
     ·have:q<e:=by have:=of_decide_eq_true hd';lia
      rw[if_pos this] at nxe
      exact k _ _ (by rw[nxe];rfl) (fun r z=>nomatch z) (fun _ _ h=>h)
     ·have:¬q<e:=fun z=>hd' (decide_eq_true (by lia))
      rw[if_neg this] at nxe
      refine⟨_,rfl,_,rfl,(by show 2≤sizeLine;decide),fun r hr0=>?_⟩
      exact k _ _ (by rw[nxe];exact⟨r,rfl,ad⟩) (fun r' z=>by cases z;exact hr0) (Same.upd hr0)
    ·refine⟨_,rfl,_,rfl,b,_,rfl,SqL.of hb,rfl,_,rfl,?_⟩
     rw[List.length_map]
     by_cases hq:q=u.length
     ·rw[decide_eq_true (show V.int (q:Int)=V.int (u.length:Int) by rw[hq])]
      refine aY (hR _ _ ⟨?_,rfl⟩)
      rw[if_pos hq];rfl
     ·rw[decide_eq_false (fun z=>hq (by have:=V.int.inj z;lia))]
      refine aX (hR _ _ ⟨?_,rfl⟩)
      rw[if_neg hq];rfl
end
theorem oC{w x:List Nat}{j:Nat}(hj:j≤x.length):Oc w (w++x) j↔w <:+w++x.take j:=by
 have e:w++x=(w++x.take j)++x.drop j:=by rw[List.append_assoc,List.take_append_drop]
 constructor
 ·intro h
  rw[e] at h
  have h':=h.cut (by rw[List.length_append,List.length_take];lia)
  obtain⟨a,b,q,l⟩:=h'
  have:b=[]:=by
   apply List.length_eq_zero_iff.mp
   have:=congrArg List.length q
   simp only[List.length_append,List.length_take] at this
   lia
  subst this
  exact⟨a,by rw[q];simp⟩
 ·rintro⟨a,q⟩
  rw[e,←q]
  refine Oc.more ⟨a,[],by simp,?_⟩ _
  have:=congrArg List.length q
  simp only[List.length_append,List.length_take] at this
  lia
theorem single_iff{w:List Nat}{d:Nat}:dE w d↔Sg w d:=by
 constructor
 ·rintro⟨h1,h2,h3,h4⟩
  refine⟨⟨h1,h2,h3⟩,fun j j1 j2 q=>?_⟩
  rw[dC ⟨h1,h2,h3⟩,oC (by rw[bX h2];lia)] at q
  exact h4 j j1 j2 q
 ·rintro⟨⟨h1,h2,h3⟩,h4⟩
  refine⟨h1,h2,h3,fun j j1 j2 q=>h4 j j1 j2 ?_⟩
  rw[dC ⟨h1,h2,h3⟩,oC (by rw[bX h2];lia)]
  exact q
theorem ng{w A:List Nat}(w1:1≤w.length)(hA:A.Nodup)(hwA:∀c∈w,c∈A)(n:Nat):aG w n=fw w A n (0,0):=
 lF w1 hA hwA (ka w) (fun d=>mem_singles.trans single_iff.symm) n n (by lia)
def aP(st:Nat×Nat):List aj:=[.inl (st.1:Int),.inl (st.2:Int)]
theorem lE{a b:Nat×Nat}(h:aP a=aP b):a=b:=by
 unfold aP at h
 obtain⟨a1,a2⟩:=a
 obtain⟨b1,b2⟩:=b
 simp only[List.cons.injEq,Sum.inl.injEq,and_true] at h
 obtain⟨h1,h2⟩:=h
 have e1:a1=b1:=by lia
 have e2:a2=b2:=by lia
 rw[e1,e2]
def aK(u A:List Nat)(st:Nat×Nat):List (Nat×(Nat×Nat)):=A.filterMap fun c=>(nx u st c).map fun t=>(c,t)
theorem tX(u:List Nat)(st:Nat×Nat):aK u [] st=[]:=rfl
theorem zz(u B:List Nat)(c:Nat)(st:Nat×Nat):aK u (B++[c]) st=aK u B st++(match nx u st c with | none=>[] | some t=>[(c,t)]):=by
 unfold aK
 rw[List.filterMap_append]
 cases h:nx u st c <;> simp[h]
theorem gd(u A:List Nat)(st:Nat×Nat):(aK u A st).length≤A.length:=List.length_filterMap_le _ _
theorem fN{u A:List Nat}{st t:Nat×Nat}{c:Nat}(h:(c,t)∈aK u A st):c∈A∧nx u st c=some t:=by
 unfold aK at h
 obtain⟨d,hd,e⟩:=List.mem_filterMap.mp h
 cases q:nx u st d with
 | none=>rw[q] at e;cases e
 | some z=>
   rw[q] at e
   have:=Option.some.inj e
   cases this
   exact⟨hd,q⟩
theorem jh(u A:List Nat)(k:Nat)(st:Nat×Nat):fw u A (k+1) st=((aK u A st).map fun o=>fw u A k o.2).sum:=by
 rw[jD]
 suffices h:∀B:List Nat,(B.map fun c=>match nx u st c with | none=>0 | some st'=>fw u A k st').sum=((aK u B st).map fun o=>fw u A k o.2).sum from h A
 intro B
 induction B with
 | nil=>rfl
 | cons c B ih=>
   rw[List.map_cons,List.sum_cons,ih]
   unfold aK
   rw[List.filterMap_cons]
   cases h:nx u st c <;> simp[h]
theorem yX{u:List Nat}{st t:Nat×Nat}{c:Nat}(h:nx u st c=some t):t.1≤u.length∧t.2≤t.1:=by
 have e:nx u st c=if(if mx u (u.take st.1++[c])=u.length then 0 else st.2+1)>mx u (u.take st.1++[c]) then none else some (mx u (u.take st.1++[c]),if mx u (u.take st.1++[c])=u.length then 0 else st.2+1):=rfl
 have m:=cW u (u.take st.1++[c])
 rw[e] at h
 generalize (if mx u (u.take st.1++[c])=u.length then 0 else st.2+1)=b at h
 by_cases z:b>mx u (u.take st.1++[c])
 ·rw[if_pos z] at h;cases h
 ·rw[if_neg z] at h
  have:=Option.some.inj h
  subst this
  exact⟨m,Nat.not_lt.mp z⟩
structure Fnd(u A:List Nat)(ks ps:List (Nat×Nat)):Prop where
 nd:ks.Nodup
 bk:∀st∈ks,st.1≤u.length∧st.2≤st.1
 bp:∀st∈ps,st.1≤u.length∧st.2≤st.1
 cl:∀st∈ks,∀c∈A,∀t,nx u st c=some t→t∈ks∨t∈ps
 z:(0,0)∈ks∨(0,0)∈ps
 ln:ps.length≤26*ks.length+1
theorem qX{n:Nat}{l:List Nat}(h:l.Nodup)(b:∀x∈l,x<n):l.length≤n:=by
 have p:l.Perm ((List.range n).filter fun x=>decide (x∈l)):=(List.perm_ext_iff_of_nodup h (List.nodup_range.filter _)).mpr fun x=>by
  rw[List.mem_filter,List.mem_range,decide_eq_true_eq]
  exact⟨fun m=>⟨b x m,m⟩,fun m=>m.2⟩
 have:=p.length_eq
 have q:=List.length_filter_le (fun x=>decide (x∈l)) (List.range n)
 rw[List.length_range] at q
 lia
theorem jb{L:Nat}{ks:List (Nat×Nat)}(h:ks.Nodup)(b:∀st∈ks,st.1≤L∧st.2≤st.1):ks.length≤(L+1)*(L+1):=by
 have:=qX (n:=(L+1)*(L+1)) (l:=ks.map fun st=>st.1*(L+1)+st.2) ?_ ?_
 ·rwa[List.length_map] at this
 ·refine List.pairwise_map.mpr (h.imp_of_mem fun{x y} hx hy ne e=>ne ?_)
  have bx:=b x hx
  have bY:=b y hy
  have e1:x.1=y.1:=by
   have:(x.1*(L+1)+x.2) / (L+1)=(y.1*(L+1)+y.2) / (L+1):=by rw[e]
   rw[Nat.add_comm,Nat.add_mul_div_right _ _ (by lia),Nat.div_eq_of_lt (by lia),Nat.add_comm (y.1*(L+1)),Nat.add_mul_div_right _ _ (by lia),Nat.div_eq_of_lt (by lia)] at this
   lia
  have e2:x.2=y.2:=by rw[e1] at e;lia
  exact Prod.ext e1 e2
 ·intro v hv
  obtain⟨st,hs,rfl⟩:=List.mem_map.mp hv
  have bs:=b st hs
  have:st.1*(L+1)≤L*(L+1):=Nat.mul_le_mul_right _ bs.1
  have e:(L+1)*(L+1)=L*(L+1)+(L+1):=by rw[Nat.add_mul,Nat.one_mul]
  lia
theorem Fnd.start(u A:List Nat):Fnd u A [] [(0,0)]:=⟨.nil,fun _ h=>(nomatch h),fun st h=>by obtain rfl:=List.mem_singleton.mp h;exact⟨Nat.zero_le _,Nat.le_refl _⟩,fun _ h=>(nomatch h),.inr (by simp),by simp⟩
theorem Fnd.old{u A:List Nat}{ks ps:List (Nat×Nat)}{st:Nat×Nat}(F:Fnd u A ks (ps++[st]))(h:st∈ks):Fnd u A ks ps:=by
 refine⟨F.nd,F.bk,fun t m=>F.bp t (by simp[m]),fun a ha c hc t e=>?_,?_,by have:=F.ln;simp at this;lia⟩
 ·rcases F.cl a ha c hc t e with q | q
  ·exact .inl q
  ·rcases(List.mem_append (s:=ps)).mp q with q | q
   ·exact .inr q
   ·exact .inl (List.mem_singleton.mp q▸h)
 ·rcases F.z with q | q
  ·exact .inl q
  ·rcases(List.mem_append (s:=ps)).mp q with q | q
   ·exact .inr q
   ·exact .inl (List.mem_singleton.mp q▸h)
theorem Fnd.new{u A:List Nat}{ks ps:List (Nat×Nat)}{st:Nat×Nat}(F:Fnd u A ks (ps++[st]))(h:st∉ks)(hA:A.length≤26):Fnd u A (ks++[st]) (ps++(aK u A st).map (·.2)):=by
 have bs:=F.bp st (by simp)
 have up:∀t,t∈ks∨t∈ps++[st]→t∈ks++[st]∨t∈ps++(aK u A st).map (·.2):=fun t q=>by
  rcases q with q | q
  ·exact .inl (by simp[q])
  ·rcases(List.mem_append (s:=ps)).mp q with q | q
   ·exact .inr (by simp[q])
   ·exact .inl (by simp[List.mem_singleton.mp q])
 refine⟨List.nodup_append.mpr ⟨F.nd,by simp,fun a ha b hb e=>h (by rw[←List.mem_singleton.mp hb,←e];exact ha)⟩,fun t m=>?_,fun t m=>?_,fun a ha c hc t e=>?_,up _ F.z,?_⟩
 ·rcases List.mem_append.mp m with m | m
  ·exact F.bk t m
  ·rw[List.mem_singleton.mp m];exact bs
 ·rcases List.mem_append.mp m with m | m
  ·exact F.bp t (by simp[m])
  ·obtain⟨⟨c,z⟩,hz,rfl⟩:=List.mem_map.mp m
   exact yX (fN hz).2
 ·rcases(List.mem_append (s:=ks)).mp ha with ha | ha
  ·exact up t (F.cl a ha c hc t e)
  ·rw[List.mem_singleton.mp ha] at e
   refine .inr (List.mem_append.mpr (.inr (List.mem_map.mpr ⟨(c,t),?_,rfl⟩)))
   unfold aK
   exact List.mem_filterMap.mpr ⟨c,hc,by rw[e];rfl⟩
 ·have:=F.ln
  have:=gd u A st
  simp only[List.length_append,List.length_map,List.length_singleton] at*
  lia
abbrev cy(H:Hp)(a:Addr)(st:Nat×Nat):Prop:=H a=some (.tup [.int (st.1:Int),.int (st.2:Int)])
theorem vk(st:Nat×Nat):(aP st).map kV=[.int (st.1:Int),.int (st.2:Int)]:=rfl
def TK(H H':Hp):Prop:=∀a xs,H a=some (.tup xs)→H' a=some (.tup xs)
theorem TK.trans{H H1 H2:Hp}(a:TK H H1)(b:TK H1 H2):TK H H2:=fun x xs h=>b x xs (a x xs h)
theorem Same.tk{H H':Hp}(s:Same H H'):TK H H':=fun a xs h=>s a _ h
theorem TK.upd{H:Hp}{p:Addr}{o o':HO}(e:H p=some o')(n:∀xs,o'≠ .tup xs):TK H (L2.upd H p o):=fun a xs h=>by
 rw[ah fun z=>by subst z;rw[e] at h;exact n xs (Option.some.inj h)]
 exact h
def OneP(H:Hp)(p:Addr)(o:Nat×(Nat×Nat)):Prop:=∃t,H p=some (.tup [sg o.1,.ref t])∧cy H t o.2
def RowP(H:Hp)(l:Addr)(os:List (Nat×(Nat×Nat))):Prop:=∃ps:List Addr,H l=some (.lst (ps.map V.ref))∧Paired (OneP H) ps os
theorem OneP.keep{H H':Hp}{p:Addr}{o:Nat×(Nat×Nat)}(h:OneP H p o)(k:TK H H'):OneP H' p o:=let ⟨t,h1,h2⟩:=h;⟨t,k _ _ h1,k _ _ h2⟩
theorem RowP.keep{H H':Hp}{l:Addr}{os:List (Nat×(Nat×Nat))}(h:RowP H l os)(k:TK H H')(e:∀xs,H l=some (.lst xs)→H' l=some (.lst xs)):RowP H' l os:=let ⟨ps,h1,h2⟩:=h;⟨ps,e _ h1,Paired.mapP h2 fun _ _ x=>x.keep k⟩
theorem Paired.snoc{α β:Type}{F:α→β→Prop}:∀{l₁:List α} {l₂:List β} {x:α} {y:β},Paired F l₁ l₂→F x y→Paired F (l₁++[x]) (l₂++[y])
 | _,_,_,_,.nil,h=>.cons h .nil
 | _,_,_,_,.cons r t,h=>.cons r (Paired.snoc t h)
def aM(es:List ((Nat×Nat)×Addr)):List (List aj×V):=es.map fun e=>(aP e.1,V.ref e.2)
theorem fF{α:Type}{f:α→V}{g:α→Nat×Nat}{es:List α}{st:Nat×Nat}:bo (es.map fun e=>(aP (g e),f e)) (aP st)=(es.find? fun e=>decide (g e=st)).map f:=by
 unfold bo
 rw[List.find?_map,Option.map_map]
 congr 1
 apply congrArg (fun q=>List.find? q es)
 funext e
 simp only[Function.comp]
 apply decide_eq_decide.mpr
 exact⟨lE,fun q=>by rw[q]⟩
theorem iM{α:Type}{g:α→Nat×Nat}{es:List α}(nd:(es.map g).Nodup){e:α}(h:e∈es):(es.find? fun x=>decide (g x=g e))=some e:=by
 induction es with
 | nil=>cases h
 | cons x r ih=>
   rw[List.find?_cons]
   rw[List.map_cons,List.nodup_cons] at nd
   rcases List.mem_cons.mp h with rfl | h
   ·rw[decide_eq_true rfl]
   ·have:g x≠g e:=fun q=>nd.1 (List.mem_map.mpr ⟨e,h,q.symm⟩)
    rw[decide_eq_false this]
    exact ih nd.2 h
theorem qe{α:Type}{g:α→Nat×Nat}{es:List α}{st:Nat×Nat}(h:st∉es.map g):(es.find? fun x=>decide (g x=st))=none:=
 List.find?_eq_none.mpr fun x hx q=>h (List.mem_map.mpr ⟨x,hx,of_decide_eq_true q⟩)
theorem qV{α:Type}{f:α→V}{g:α→Nat×Nat}{es:List α}{st:Nat×Nat}{v:V}(h:st∉es.map g):bP (es.map fun e=>(aP (g e),f e)) (aP st) v=es.map (fun e=>(aP (g e),f e))++[(aP st,v)]:=by
 unfold bP
 rw[if_neg]
 intro q
 obtain⟨x,hx,e⟩:=List.any_eq_true.mp q
 obtain⟨y,hy,rfl⟩:=List.mem_map.mp hx;exact h (List.mem_map.mpr ⟨y,hy,lE (of_decide_eq_true e)⟩)
abbrev kD:Stmt:=aS 39
structure Stps(u A:List Nat)(H:Hp)(es:List ((Nat×Nat)×Addr)):Prop where
 nd:(es.map (·.1)).Nodup
 bk:∀st∈es.map (·.1),st.1≤u.length∧st.2≤st.1
 cl:∀st∈es.map (·.1),∀c∈A,∀t,nx u st c=some t→t∈es.map (·.1)
 z:(0,0)∈es.map (·.1)
 row:∀e∈es,RowP H e.2 (aK u A e.1)
def pc:Sp:=fun vs H Q _=>∃(b:Addr) (u:List Nat),vs=[.ref b]∧H b=some (.lst (u.map sg))∧Low u∧1≤u.length∧u.length≤400∧
 ∀(f:Addr) (A:List Nat) (es:List ((Nat×Nat)×Addr)) (H':Hp),A.Pairwise (·< ·)→(∀c,c∈A↔c∈u)→H f=none→H' f=some (.dT (aM es))→Stps u A H' es→Same H H'→Q (.ref f) H'
structure Iv(u A:List Nat)(H0:Hp)(f pl:Addr)(es:List ((Nat×Nat)×Addr))(ps:List (Nat×Nat))(H:Hp):Prop where
 same:Same H0 H
 hf:H f=some (.dT (aM es))
 hp:∃ts:List Addr,H pl=some (.lst (ts.map V.ref))∧Paired (cy H) ts ps
 rows:∀e∈es,e.2≠pl∧H0 e.2=none∧RowP H e.2 (aK u A e.1)
structure Jv(u A:List Nat)(H0:Hp)(f pl l:Addr)(es:List ((Nat×Nat)×Addr))(st:Nat×Nat)(os:List (Nat×(Nat×Nat)))(ps:List (Nat×Nat))(H:Hp):Prop where
 same:Same H0 H
 hf:H f=some (.dT (aM (es++[(st,l)])))
 hp:∃ts:List Addr,H pl=some (.lst (ts.map V.ref))∧Paired (cy H) ts ps
 rows:∀e∈es,e.2≠l∧e.2≠pl∧H0 e.2=none∧RowP H e.2 (aK u A e.1)
 row:RowP H l os
section
variable{u A:List Nat}{H0 H H':Hp}{f pl l:Addr}{es:List ((Nat×Nat)×Addr)}{st:Nat×Nat}{os:List (Nat×(Nat×Nat))}{ps:List (Nat×Nat)}
theorem Jv.keep(J:Jv u A H0 f pl l es st os ps H)(s:Same H H'):Jv u A H0 f pl l es st os ps H':=by
 obtain⟨ts,h1,h2⟩:=J.hp
 exact⟨J.same.trans s,s _ _ J.hf,⟨ts,s _ _ h1,Paired.mapP h2 fun _ _ x=>s _ _ x⟩,fun e he=>⟨(J.rows e he).1,(J.rows e he).2.1,(J.rows e he).2.2.1,(J.rows e he).2.2.2.keep (Same.tk s) fun xs x=>s _ _ x⟩,J.row.keep (Same.tk s) fun xs x=>s _ _ x⟩
theorem Jv.app(J:Jv u A H0 f pl l es st os ps H)(lp:l≠pl)(l0:H0 l=none)(p0:H0 pl=none){p r:Addr}{c:Nat}{t:Nat×Nat}(hp:H p=some (.tup [sg c,.ref r]))(hr:cy H r t){xs ys:List V}(hl:H l=some (.lst xs))(hq:H pl=some (.lst ys)):Jv u A H0 f pl l es st (os++[(c,t)]) (ps++[t]) (L2.upd (L2.upd H l (.lst (xs++[.ref p]))) pl (.lst (ys++[.ref r]))):=by
 obtain⟨ts,h1,h2⟩:=J.hp
 obtain⟨qs,g1,g2⟩:=J.row
 have nx1:∀zs:List V,(HO.lst zs)≠ .tup zs:=fun zs z=>nomatch z
 have k1:TK H (L2.upd H l (.lst (xs++[.ref p]))):=TK.upd hl fun zs z=>nomatch z
 have hq1:(L2.upd H l (.lst (xs++[.ref p]))) pl=some (.lst ys):=by rw[ah lp.symm];exact hq
 have k2:=k1.trans (TK.upd (o:=.lst (ys++[.ref r])) hq1 fun zs z=>nomatch z)
 rw[hq] at h1
 have e1:ys=ts.map V.ref:=by cases h1;rfl
 rw[hl] at g1
 have e2:xs=qs.map V.ref:=by cases g1;rfl
 refine⟨fun a o e=>?_,?_,⟨ts++[r],?_,?_⟩,fun e he=>⟨(J.rows e he).1,(J.rows e he).2.1,(J.rows e he).2.2.1,?_⟩,⟨qs++[p],?_,?_⟩⟩
 ·rw[ah (aD e p0),ah (aD e l0)];exact J.same _ _ e
 ·rw[ah (bh J.hf hq fun z=>nomatch z),ah (bh J.hf hl fun z=>nomatch z)];exact J.hf
 ·rw[ad,e1,List.map_append];rfl
 ·exact Paired.snoc (Paired.mapP h2 fun _ _ x=>k2 _ _ x) (k2 _ _ hr)
 ·refine(J.rows e he).2.2.2.keep k2 fun zs x=>?_
  rw[ah (J.rows e he).2.1,ah (J.rows e he).1];exact x
 ·rw[ah lp,ad,e2,List.map_append];rfl
 ·exact Paired.snoc (Paired.mapP g2 fun _ _ x=>x.keep k2) ⟨r,k2 _ _ hp,k2 _ _ hr⟩
theorem qG{α β:Type}{F:α→β→Prop}:∀{l₂:List β} {l₁:List α} {y:β},Paired F l₁ (l₂++[y])→∃l x,l₁=l++[x]∧Paired F l l₂∧F x y
 | [],_,y,.cons h .nil=>⟨[],_,rfl,.nil,h⟩
 | z::l₂,_,y,.cons h t=>by
   obtain⟨l,x,e,p,q⟩:=qG t
   exact⟨_::l,x,by rw[e];rfl,.cons h p,q⟩
def ix(st:Nat×Nat):PyData:=.tuple [.int (st.1:Int),.int (st.2:Int)]
theorem oA{K:PySem.W.Frag}:∀{ts:List Addr} {ps:List (Nat×Nat)},Paired (cy H) ts ps→DatVs K H (ps.map ix) (ts.map V.ref)
 | _,_,.nil=>by rw[List.map_nil,List.map_nil,DatVs]
 | _,_,.cons (a:=a) (b:=st) h t=>by
   rw[List.map_cons,List.map_cons,DatVs]
   refine⟨_,_,rfl,?_,oA t⟩
   rw[ix,DatV]
   refine⟨a,_,rfl,SqT.of h,?_⟩
   rw[DatVs]
   refine⟨_,_,rfl,by rw[DatV],?_⟩
   rw[DatVs]
   exact⟨_,_,rfl,by rw[DatV],by rw[DatVs]⟩
theorem ut(ps:List (Nat×Nat)):(!PyData.eqv (.list (ps.map ix)) (.list []))=decide (ps≠ []):=by
 cases ps with
 | nil=>rfl
 | cons x r=>rw[decide_eq_true (List.cons_ne_nil _ _)];rfl
end
theorem jf{u A:List Nat}(hA:A.Nodup)(h:∀c∈A,c∈u)(lu:Low u):A.length≤26:=by
 have:=qX (n:=26) (l:=A.map fun c=>c-97) ?_ ?_
 ·rwa[List.length_map] at this
 ·refine List.pairwise_map.mpr (hA.imp_of_mem fun{x y} hx hy ne e=>ne ?_)
  have b1:=lu x (h x hx)
  have b2:=lu y (h y hy)
  lia
 ·intro v hv
  obtain⟨c,hc,rfl⟩:=List.mem_map.mp hv
  have:=lu c (h c hc)
  lia
section
variable{P:Program}{w:World}{K:PySem.W.Frag}{mg:Str→Option Value}{base:Heap}
theorem scSteps:FnScope ["word","fails","some","found","pile","state","sign","behind"] ["word"] (ar kD):=fsc_
theorem sT(M:Md K mg)(B:Bl mg)(nsorted:mg "sorted"=none)(nset:mg "set"=none)(F:FF K "_law_steps" kD)(F_law_fails:Fn P w K mg base ai "_law_fails" 1 ["word"] pz)(F_law_next:Fn P w K mg base ai "_law_next" 1 ["word","fails","state","sign"] mT):Fn P w K mg base ai "_law_steps" 2 ["word"] pc:=by
 refine aV M F scSteps (fun _ _ _ _ _ _=>bJ fun _=>rfl) (fun vs H Q E h=>?_) (fun f cdv A outer s H vs Q E hr h=>?_)
 ·obtain⟨b,u,rfl,_⟩:=h;rfl
 ·obtain⟨b,u,rfl,hb,lu,u1,ul,k⟩:=h
  refine⟨_,(ae (am (i:=1) scSteps.nd rfl (.inl rfl) (aC F_law_fails hr aE (aa (pv 0) ac)))
   (ae (am (i:=2) scSteps.nd rfl (.inl rfl) (vt rfl nsorted (uO rfl nset (pv 0))))
   (ae (am (i:=3) scSteps.nd rfl (.inl rfl) rd)
   (ae (am (i:=4) scSteps.nd rfl (.inl rfl) (bb (aa (cQ (aa af (aa af ac))) ac)))
   (ae (dL PassesOwn.never (aL (gL (by exact hr)) (pv 4) (bb ac) (aI _)) (ae (am (i:=5) scSteps.nd rfl (.inl rfl) (vm PySem.F.plainAttrs_list PySem.F.slot_list_pop PySem.F.type_list_pop sJ (pv 4)))
   (ao (br (aL (sN (by exact hr)) (pv 5) (pv 3) (by with_unfolding_all rfl)) (ae (qa (by exact dw hr) (pv 3) (pv 5) (bb ac) rfl)
   (ao (cm PassesOwn.never rfl (ck (pv 2)) (ba (i:=6) scSteps.nd rfl (.inl rfl))
   (ae (am (i:=7) scSteps.nd rfl (.inl rfl) (aC F_law_next hr aE (aa (pv 0) (aa (pv 1) (aa (pv 5) (aa (pv 6) ac))))))
   (ao (br (aL zA (pv 7) eU (aI _)) (ae (bf (cI PySem.F.plainAttrs_list PySem.F.slot_list_append PySem.F.type_list_append dJ (fe (by exact dw hr) (pv 3) (pv 5) (fun _ _=>rfl)) (aa (cQ (aa (pv 6) (aa (pv 7) ac))) ac)))
   (ao (bf (cI PySem.F.plainAttrs_list PySem.F.slot_list_append PySem.F.type_list_append dJ (pv 4) (aa (pv 7) ac))))) bq)))))) bq))))
   (ao (aJ (pv 3)))))))),?_⟩
  refine⟨_,rfl,b,u,rfl,hb,lu,u1,ul,fun g H1 g0 hg s1=>?_⟩
  have dn:=vd u
  refine⟨_,rfl,b,u,rfl,s1 _ _ hb,by lia,fun a ha=>⟨a,dW u,rfl,ad,fun z=>?_,by lia,fun so Al pm so0=>?_⟩⟩
  ·have:u.length=0:=by
    cases u with
    | nil=>rfl
    | cons c r=>have:=(dn.2.1 c).mpr (by simp);rw[z] at this;cases this
   lia
  have And:=pm.1.nodup_iff.mpr dn.1
  have Au:∀c,c∈Al↔c∈u:=fun c=>pm.1.mem_iff.trans (dn.2.1 c)
  have Ari:Al.Pairwise (·< ·):=(pm.2.and And).imp fun h=>Nat.lt_of_le_of_ne h.1 h.2
  have Al26:=jf And (fun c hc=>(Au c).mp hc) lu
  generalize iB _ a (dW u)=oS at so0 ⊢
  have s2:=s1.trans ((Same.upd (o:=oS) ha).trans (Same.upd (o:=.lst (Al.map sg)) so0))
  have hso:=ad (H:=L2.upd H1 a oS) (a:=so) (o:=.lst (Al.map sg))
  have hg2:(L2.upd (L2.upd H1 a oS) so (.lst (Al.map sg))) g=_:=(Same.upd (o:=.lst (Al.map sg)) so0) _ _ ((Same.upd (o:=oS) ha) _ _ hg)
  generalize L2.upd (L2.upd H1 a oS) so (.lst (Al.map sg))=H2 at s2 hso hg2 ⊢
  have hb2:=s2 _ _ hb
  intro fd hfd
  refine⟨(by show 2≤sizeLine;decide),fun t0 ht0=>⟨(by show 1≤sizeLine;decide),fun pl hpl=>?_⟩⟩
  have fd0:H2 fd=none:=hfd
  have t00:H2 t0=none:=(Same.upd (o:=.dT []) hfd).free ht0
  have pl0:H2 pl=none:=(Same.upd (o:=.dT []) hfd).free ((Same.upd (o:=.tup [.int 0,.int 0]) ht0).free hpl)
  have I0:Iv u Al H2 fd pl [] [(0,0)] (L2.upd (L2.upd (L2.upd H2 fd (.dT [])) t0 (.tup [.int 0,.int 0])) pl (.lst [.ref t0])):=by
   have hf3:=ad (H:=H2) (a:=fd) (o:=.dT [])
   have ht3:=ad (H:=L2.upd H2 fd (.dT [])) (a:=t0) (o:=.tup [.int 0,.int 0])
   refine⟨(Same.upd hfd).trans ((Same.upd ht0).trans (Same.upd hpl)),(Same.upd hpl) _ _ ((Same.upd ht0) _ _ hf3),⟨[t0],ad,.cons ((Same.upd hpl) _ _ ht3) .nil⟩,fun e he=>(nomatch he)⟩
  generalize L2.upd (L2.upd (L2.upd H2 fd (.dT [])) t0 (.tup [.int 0,.int 0])) pl (.lst [.ref t0])=H3 at I0 ⊢
  have NN:(u.length+1)*(u.length+1)≤160801:=Nat.le_trans (Nat.mul_le_mul (by lia) (by lia)) (show 401*401≤160801 by decide)
  generalize eN:(u.length+1)*(u.length+1)=N at NN
  refine⟨fun m σ H5=>∃es ps v5 v6 v7,σ=[some (.ref b),some (.ref g),some (.ref so),some (.ref fd),some (.ref pl),v5,v6,v7]∧Iv u Al H2 fd pl es ps H5∧Fnd u Al (es.map (·.1)) ps∧m=27*(N-es.length)+ps.length,⟨_,[],[(0,0)],none,none,none,rfl,I0,Fnd.start u Al,rfl⟩,?_⟩
  rintro m σ H5 ⟨es,ps,v5,v6,v7,rfl,I,Fd,rfl⟩
  have esN:es.length≤N:=by have:=jb Fd.nd Fd.bk;rw[List.length_map,eN] at this;exact this
  obtain⟨ts,hpl5,hts⟩:=I.hp
  refine⟨_,rfl,Nat.zero_le _,fun q hq=>?_⟩
  have s6:=Same.upd (o:=.lst []) hq
  have hq6:=ad (H:=H5) (a:=q) (o:=.lst [])
  have I6:Iv u Al H2 fd pl es ps (L2.upd H5 q (.lst [])):=⟨I.same.trans s6,s6 _ _ I.hf,⟨ts,s6 _ _ hpl5,Paired.mapP hts fun _ _ x=>s6 _ _ x⟩,fun e he=>⟨(I.rows e he).1,(I.rows e he).2.1,(I.rows e he).2.2.keep (Same.tk s6) fun xs x=>s6 _ _ x⟩⟩
  generalize L2.upd H5 q (.lst [])=H6 at s6 hq6 I6 ⊢
  obtain⟨ts,hpl6,hts⟩:=I6.hp
  refine⟨.list (ps.map ix),.list [],?_,?_,Nat.le_trans (Nat.min_le_right _ _) (by decide),_,rfl,?_⟩
  ·rw[DatV];exact⟨pl,_,rfl,SqL.of hpl6,oA hts⟩
  ·rw[DatV];exact⟨q,[],rfl,SqL.of hq6,by rw[DatVs]⟩
  rw[if_pos rfl,ut]
  refine bT (fun hne=>?_) (fun hne=>?_)
  ·have ne:=of_decide_eq_true hne
   obtain⟨ps,st,rfl⟩:∃ps' st,ps=ps'++[st]:=⟨ps.dropLast,ps.getLast ne,(List.dropLast_concat_getLast ne).symm⟩
   obtain⟨ts,tt,rfl,hts,htt⟩:=qG hts
   refine⟨fun σ' H'=>∃m',m'<27*(N-es.length)+(ps++[st]).length∧∃es ps v5 v6 v7,σ'=[some (.ref b),some (.ref g),some (.ref so),some (.ref fd),some (.ref pl),v5,v6,v7]∧Iv u Al H2 fd pl es ps H'∧Fnd u Al (es.map (·.1)) ps∧m'=27*(N-es.length)+ps.length,fun _ _ h=>h,?_⟩
   refine⟨_,rfl,.inl ⟨rfl,_,SqL.of hpl6⟩,pl,_,.ref tt,rfl,rfl,hpl6,by rw[List.map_append,List.length_append,List.getElem?_append_right (by simp)];simp,?_⟩
   have e7:((ts++[tt]).map V.ref).dropLast=ts.map V.ref:=by rw[List.map_append];exact List.dropLast_concat
   rw[e7]
   have tk7:TK H6 (L2.upd H6 pl (.lst (ts.map V.ref))):=TK.upd hpl6 fun xs z=>nomatch z
   have I7:Iv u Al H2 fd pl es ps (L2.upd H6 pl (.lst (ts.map V.ref))):=by
    refine⟨fun a o e=>?_,?_,⟨ts,ad,Paired.mapP hts fun _ _ x=>tk7 _ _ x⟩,fun e he=>⟨(I6.rows e he).1,(I6.rows e he).2.1,(I6.rows e he).2.2.keep tk7 fun xs x=>?_⟩⟩
    ·rw[ah (aD e pl0)];exact I6.same _ _ e
    ·rw[ah (bh I6.hf hpl6 fun z=>nomatch z)];exact I6.hf
    ·rw[ah (I6.rows e he).1];exact x
   have htt7:=tk7 _ _ htt
   generalize L2.upd H6 pl (.lst (ts.map V.ref))=H7 at tk7 I7 htt7 ⊢
   have bst:=Fd.bp st (by simp)
   refine⟨_,rfl,_,rfl,fd,_,rfl,DGet.t (k:=aP st) I7.hf htt7,_,rfl,?_⟩
   have vr:bo (aM es) (aP st)=(es.find? fun e=>decide (e.1=st)).map fun e=>V.ref e.2:=fF (es:=es) (f:=fun e:(Nat×Nat)×Addr=>V.ref e.2) (g:=fun e:(Nat×Nat)×Addr=>e.1)
   by_cases old:st∈es.map (·.1)
   ·obtain⟨e,he,ee⟩:=List.mem_map.mp old
    have fr:=iM (g:=fun e:(Nat×Nat)×Addr=>e.1) Fd.nd he
    rw[ee] at fr
    rw[vr,fr]
    refine aX ⟨_,?_,es,ps,_,_,_,rfl,I7,Fd.old old,rfl⟩
    rw[List.length_append];show _<_+(_+1);lia
   ·rw[vr,qe old]
    refine aY ⟨Nat.zero_le _,fun l hl=>?_⟩
    have s8:=Same.upd (o:=.lst []) hl
    have pn:bP (aM es) (aP st) (.ref l)=aM (es++[(st,l)]):=by
     unfold aM
     rw[qV (es:=es) (f:=fun e:(Nat×Nat)×Addr=>V.ref e.2) (g:=fun e:(Nat×Nat)×Addr=>e.1) old,List.map_append];rfl
    refine⟨_,rfl,_,rfl,fd,_,rfl,DPut.t (k:=aP st) (s8 _ _ I7.hf) (s8 _ _ htt7) (by unfold aM;rw[List.length_map,sizeLine_eq];lia),?_⟩
    rw[pn]
    have hf8:=s8 _ _ I7.hf
    have hl8:=ad (H:=H7) (a:=l) (o:=.lst [])
    have l0:H2 l=none:=I7.same.free hl
    obtain⟨ts,hpl7,hts7⟩:=I7.hp
    have lpl:l≠pl:=(aD hpl7 hl).symm
    have tk9:TK H7 (L2.upd (L2.upd H7 l (.lst [])) fd (.dT (aM (es++[(st,l)])))):=(Same.tk s8).trans (TK.upd hf8 fun xs z=>nomatch z)
    have J9:Jv u Al H2 fd pl l es st (aK u (Al.take 0) st) (ps++(aK u (Al.take 0) st).map (·.2)) (L2.upd (L2.upd H7 l (.lst [])) fd (.dT (aM (es++[(st,l)])))):=by
     refine⟨fun a o e=>?_,ad,⟨ts,?_,?_⟩,fun e he=>⟨?_,(I7.rows e he).1,(I7.rows e he).2.1,(I7.rows e he).2.2.keep tk9 fun xs x=>?_⟩,⟨[],?_,.nil⟩⟩
     ·rw[ah (aD e fd0)];exact s8 _ _ (I7.same _ _ e)
     ·rw[ah (bh hpl7 I7.hf fun z=>nomatch z)];exact s8 _ _ hpl7
     ·rw[List.take_zero,tX,List.map_nil,List.append_nil];exact Paired.mapP hts7 fun _ _ x=>tk9 _ _ x
     ·obtain⟨qs,g1,_⟩:=(I7.rows e he).2.2
      exact aD g1 hl
     ·rw[ah (bh x I7.hf fun z=>nomatch z)];exact s8 _ _ x
     ·rw[ah (bh hl8 hf8 fun z=>nomatch z)];exact hl8
    have htt9:=tk9 _ _ htt7
    generalize L2.upd (L2.upd H7 l (.lst [])) fd (.dT (aM (es++[(st,l)])))=H9 at tk9 J9 htt9 ⊢
    refine⟨_,rfl,so,rfl,⟨_,SqL.of (J9.same _ _ hso)⟩,gZ (xs:=Al.map sg) (fun j σ H10=>∃v6 v7,σ=[some (.ref b),some (.ref g),some (.ref so),some (.ref fd),some (.ref pl),some (.ref tt),v6,v7]∧cy H10 tt st∧Jv u Al H2 fd pl l es st (aK u (Al.take j) st) (ps++(aK u (Al.take j) st).map (·.2)) H10) ?_ ?_ ?_ ?_⟩
    ·exact⟨_,_,rfl,htt9,J9⟩
    ·rintro j σ H10 _ ⟨_,_,_,_,J⟩
     exact SqL.of (J.same _ _ hso)
    ·rintro j x σ H10 hx ⟨v6,v7,rfl,ht,J⟩
     obtain⟨jl,ej⟩:=List.getElem?_eq_some_iff.mp hx
     rw[List.length_map] at jl
     rw[List.getElem_map] at ej
     subst ej
     have cA:=lu _ ((Au _).mp (List.getElem_mem jl))
     refine⟨_,rfl,_,rfl,_,rfl,_,rfl,b,g,tt,u,st.1,st.2,Al[j],rfl,J.same _ _ hb2,lu,cA.1,cA.2,u1,ul,bst.1,J.same _ _ hg2,ht,fun v H11 nv fr s11=>?_⟩
     have J11:=J.keep s11
     have ht11:=s11 _ _ ht
     have ot:aK u (Al.take (j+1)) st=aK u (Al.take j) st++(match nx u st Al[j] with | none=>[] | some t=>[(Al[j],t)]):=by
      rw[List.take_succ_eq_append_getElem jl,zz] <;> (cases nx u st Al[j] <;> rfl)
     cases hn:nx u st Al[j] with
     | none=>
       have hn':nx u (st.1,st.2) Al[j]=none:=hn
       rw[hn'] at nv
       rw[hn] at ot
       obtain rfl:v=.non:=nv
       refine⟨_,rfl,rfl,_,rfl,aX ⟨_,_,rfl,ht11,?_⟩⟩
       rw[ot,List.append_nil]
       exact J11
     | some t=>
       have hn':nx u (st.1,st.2) Al[j]=some (t.1,t.2):=hn
       rw[hn'] at nv
       rw[hn] at ot
       obtain⟨r,rfl,hr11⟩:=nv
       obtain⟨qs,hl11,hqs⟩:=J11.row
       have vv:bo (aM (es++[(st,l)])) (aP st)=some (V.ref l):=by
        have:=fF (es:=es++[(st,l)]) (f:=fun e:(Nat×Nat)×Addr=>V.ref e.2) (g:=fun e:(Nat×Nat)×Addr=>e.1) (st:=st)
        unfold aM
        rw[this,List.find?_append,qe old]
        simp
       have gl:(qs.map V.ref).length≤26:=by
        rw[List.length_map,hqs.length]
        exact Nat.le_trans (gd _ _ _) (by rw[List.length_take];lia)
       refine⟨_,rfl,rfl,_,rfl,aY ⟨_,rfl,_,rfl,fd,.ref l,rfl,(by rw[←vv];exact DGet.t (k:=aP st) J11.hf ht11),.inl ⟨rfl,_,SqL.of hl11⟩,_,rfl,_,rfl,(by show 2≤sizeLine;decide),fun p hp=>?_⟩⟩
       have s12:=Same.upd (o:=.tup [sg Al[j],.ref r]) hp
       have hp12:=ad (H:=H11) (a:=p) (o:=.tup [sg Al[j],.ref r])
       have J12:=J11.keep s12
       have hr12:=s12 _ _ hr11
       have hl12:=s12 _ _ hl11
       have ht12:=s12 _ _ ht11
       generalize L2.upd H11 p (.tup [sg Al[j],.ref r])=H12 at s12 hp12 J12 hr12 hl12 ht12 ⊢
       obtain⟨ts2,hpl12,hts12⟩:=J12.hp
       have pl26:(ts2.map V.ref).length≤26*N+27:=by
        rw[List.length_map,hts12.length,List.length_append,List.length_map]
        have:=Fd.ln
        have:=gd u (Al.take j) st
        rw[List.length_take] at this
        simp only[List.length_append,List.length_map,List.length_singleton] at*
        lia
       refine⟨l,_,_,rfl,rfl,hl12,by rw[sizeLine_eq];lia,?_⟩
       have hpl13:(L2.upd H12 l (.lst (qs.map V.ref++[.ref p]))) pl=some (.lst (ts2.map V.ref)):=by rw[ah lpl.symm];exact hpl12
       refine⟨_,rfl,.inl ⟨rfl,_,SqL.of hpl13⟩,_,rfl,pl,_,_,rfl,rfl,hpl13,by rw[sizeLine_eq];lia,?_⟩
       have J14:=J12.app lpl l0 pl0 hp12 hr12 hl12 hpl12
       refine⟨_,_,rfl,?_,?_⟩
       ·show(L2.upd (L2.upd H12 l _) pl _) tt=some _
        rw[ah (bh ht12 hpl12 fun z=>nomatch z),ah (bh ht12 hl12 fun z=>nomatch z)];exact ht12
       ·rw[ot,List.map_append,←List.append_assoc];exact J14
    ·rintro σ H10 ⟨v6,v7,rfl,ht,J⟩
     rw[List.length_map,List.take_length] at J
     have Fn:=Fd.new old Al26
     have len1:(es++[(st,l)]).length≤N:=by
      have:=jb Fn.nd Fn.bk
      rw[eN] at this
      simpa using this
     refine⟨_,?_,es++[(st,l)],ps++(aK u Al st).map (·.2),_,_,_,rfl,⟨J.same,J.hf,J.hp,fun e he=>?_⟩,by rw[List.map_append];exact Fn,rfl⟩
     ·have:=gd u Al st
      simp only[List.length_append,List.length_map,List.length_singleton] at*
      lia
     ·rcases(List.mem_append (s:=es)).mp he with he | he
      ·exact(J.rows e he).2
      ·rw[List.mem_singleton.mp he];exact⟨lpl,l0,J.row⟩
  ·have pn:ps=[]:=Classical.byContradiction fun z=>hne (decide_eq_true z)
   subst pn
   have cl:∀st∈es.map (·.1),∀c∈Al,∀t,nx u st c=some t→t∈es.map (·.1):=fun st hs c hc t e=>(Fd.cl st hs c hc t e).resolve_right fun z=>nomatch z
   exact⟨_,rfl,k fd Al es H6 Ari Au (s2.free fd0) I6.hf ⟨Fd.nd,Fd.bk,cl,Fd.z.resolve_right (fun z=>(nomatch z)),fun e he=>(I6.rows e he).2.2⟩ (s2.trans I6.same)⟩
end
abbrev je:Stmt:=aS 40
def bD(u A:List Nat)(es:List ((Nat×Nat)×Addr))(k:Nat):List (List aj×V):=es.map fun e=>(aP e.1,.int ((fw u A k e.1:Nat):Int))
theorem lI{u A:List Nat}{es:List ((Nat×Nat)×Addr)}{k:Nat}{st:Nat×Nat}(nd:(es.map (·.1)).Nodup)(h:st∈es.map (·.1)):bo (bD u A es k) (aP st)=some (.int ((fw u A k st:Nat):Int)):=by
 obtain⟨e,he,rfl⟩:=List.mem_map.mp h
 have:=fF (es:=es) (f:=fun e:(Nat×Nat)×Addr=>V.int ((fw u A k e.1:Nat):Int)) (g:=fun e:(Nat×Nat)×Addr=>e.1) (st:=e.1)
 unfold bD
 rw[this,iM (g:=fun e:(Nat×Nat)×Addr=>e.1) nd he]
 rfl
theorem DGet.f{H:Hp}{a b:Addr}{o:Obj}{kvs:List (List aj×V)}{k:List aj}(e:H a=some (.frz o (.dT kvs)))(eb:H b=some (.tup (k.map kV))):DGet H a (.ref b) (bo kvs k):=.inr ⟨kvs,k,b,.inr ⟨o,e⟩,rfl,eb,rfl⟩
def nA:Sp:=fun vs H Q _=>∃(b:Addr) (u:List Nat) (m:Nat),vs=[.ref b,.int (m:Int)]∧H b=some (.lst (u.map sg))∧Low u∧1≤u.length∧u.length≤200∧m≤400∧
 ∀(r f l:Addr) (o:Obj) (A:List Nat) (es:List ((Nat×Nat)×Addr)) (ds:List Addr) (H':Hp),H r=none→H' r=some (.tup [.ref f,.ref l])→H' f=some (.frz o (.dT (aM es)))→A.Pairwise (·< ·)→(∀c,c∈A↔c∈u)→Stps u A H' es→H' l=some (.lst (ds.map V.ref))→ds.length=m+1→(∀(j:Nat) (d:Addr),ds[j]?=some d→H' d=some (.dT (bD u A es j)))→Same H H'→Q (.ref r) H'
theorem zH{te:TE}{σ:St}{H:Hp}{Q:VK}(v:V)(h:∀R:VK,R v H→te σ H R)(q:Q v H):te σ H Q:=h Q q
theorem y7{u A:List Nat}{st:Nat×Nat}:((fw u A 0 st:Nat):Int)=if st.2=0∧st.1=u.length then 1 else 0:=by
 rw[fW]
 by_cases h:st=(u.length,0)
 ·rw[if_pos h,if_pos ⟨by rw[h],by rw[h]⟩];rfl
 ·rw[if_neg h,if_neg fun z=>h (Prod.ext z.2 z.1)];rfl
section
variable{P:Program}{w:World}{K:PySem.W.Frag}{mg:Str→Option Value}{base:Heap}
theorem scCts:FnScope ["word","most","steps","row","found","more","later","state"] ["word","most"] (ar je):=fsc_
theorem xJ(M:Md K mg)(B:Bl mg)(ndict:mg "dict"=none)(F:FF K "_law_counts" je)(F_law_steps:Fn P w K mg base ai "_law_steps" 2 ["word"] pc):Fn P w K mg base ai "_law_counts" 3 ["word","most"] nA:=by
 refine aV M F scCts (fun _ _ _ _ _ _=>jA fun _ _=>rfl) (fun vs H Q E h=>?_) (fun f cdv A outer s H vs Q E hr h=>?_)
 ·obtain⟨b,u,m,rfl,_⟩:=h;rfl
 ·obtain⟨b,u,m,rfl,hb,lu,u1,ul,ml,k⟩:=h
  refine⟨_,(ae (am (i:=2) scCts.nd rfl (.inl rfl) (aC F_law_steps hr aE (aa (pv 0) ac)))
   (ae (am (i:=3) scCts.nd rfl (.inr rfl) (wX hr rfl ndict (cY ["word","most","steps","row","found","more","later",""] rfl (ou (pv 2)) (fun _=>by exact df) (fun _=>by exact(cQ (aa (pv 8) (aa (lU B.int (kI (fY cu (aO fM (pv 8) af (fun _ _=>rfl)) af (aI _)) (oh (fY cu (aO fM (pv 8) af (fun _ _=>rfl)) (aR B.len (pv 0)) (aI _))))) ac)))))))
   (ae (am (i:=4) scCts.nd rfl (.inl rfl) (bb (aa (pv 3) ac)))
   (ae (cm PassesOwn.never rfl (dR (by rfl) B.range (aa (pv 1) ac)) (ba (i:=5) scCts.nd rfl (.inl rfl))
   (ae (am (i:=6) scCts.nd rfl (.inl rfl) rd)
   (ae (cm PassesOwn.never rfl (ou (pv 2)) (ba (i:=7) scCts.nd rfl (.inl rfl))
   (ao (qa (by exact dw hr) (pv 6) (pv 7) (qK rfl B.sum (ur ["sign","behind"] ["word","most","steps","row","found","more","later","state"] rfl (ck (fe (by exact dw hr) (pv 2) (pv 7) (fun _ _=>rfl))) (fun _=>by exact(fi rfl (cf (ba (i:=8) (show((["word","most","steps","row","found","more","later","state"]:List Str)++(["sign","behind"]:List Str)).Nodup by decide+kernel) rfl (.inl rfl)) (cf (ba (i:=9) (show((["word","most","steps","row","found","more","later","state"]:List Str)++(["sign","behind"]:List Str)).Nodup by decide+kernel) rfl (.inl rfl)) fq)))) (fun _=>by exact df) (fun _=>by exact(fe (by exact dw hr) (pv 3) (pv 9) (fun _ _=>rfl))))) rfl)))
   (ae (am (i:=3) scCts.nd rfl (.inr rfl) (pv 6))
   (ao (bf (cI PySem.F.plainAttrs_list PySem.F.slot_list_append PySem.F.type_list_append dJ (pv 4) (aa (pv 3) ac))))))))
   (ao (aJ (cQ (aa (pv 2) (aa (pv 4) ac))))))))),?_⟩
  refine⟨_,rfl,b,u,rfl,hb,lu,u1,by lia,fun f Al es H1 Ari Au f0 hf St s1=>?_⟩
  have And:Al.Nodup:=Ari.imp fun h=>Nat.ne_of_lt h
  have esN:es.length≤40401:=by
   have:=jb St.nd St.bk
   rw[List.length_map] at this
   exact Nat.le_trans this (Nat.le_trans (Nat.mul_le_mul (Nat.succ_le_succ ul) (Nat.succ_le_succ ul)) (by decide))
  have kvl:(aM es).length=es.length:=by unfold aM;rw[List.length_map]
  have kv_at:∀(i:Nat) (k:List aj) (v:V),(aM es)[i]?=some (k,v)→∃e:(Nat×Nat)×Addr,es[i]?=some e∧k=aP e.1∧v=V.ref e.2:=fun i k v h=>by
   unfold aM at h
   rw[List.getElem?_map] at h
   cases q:es[i]? with
   | none=>rw[q] at h;cases h
   | some e=>rw[q] at h;cases h;exact⟨e,rfl,rfl,rfl⟩
  refine⟨_,rfl,f,aM es,rfl,.inl ⟨hf,fun o D hD cb=>?_⟩⟩
  have s2:Same H (L2.upd H1 f (.frz o (.dT (aM es)))):=fun a x e=>by rw[ah (aD e f0)];exact s1 _ _ e
  have tk2:TK H1 (L2.upd H1 f (.frz o (.dT (aM es)))):=TK.upd hf fun xs z=>nomatch z
  have hf2:=ad (H:=H1) (a:=f) (o:=.frz o (.dT (aM es)))
  have rows2:∀e∈es,RowP (L2.upd H1 f (.frz o (.dT (aM es)))) e.2 (aK u Al e.1):=fun e he=>(St.row e he).keep tk2 fun xs x=>by rw[ah (bh x hf fun z=>nomatch z)];exact x
  generalize L2.upd H1 f (.frz o (.dT (aM es)))=H2 at s2 tk2 hf2 rows2 hD ⊢
  have hb2:=s2 _ _ hb
  refine sZ (a:=f) (o:=o) (kvs:=aM es) (fun i ys H3=>∃ps:List Addr,ys=ps.map V.ref∧ps.length=i∧(∀(j:Nat) (p:Addr) (e:(Nat×Nat)×Addr),ps[j]?=some p→es[j]?=some e→ku H3 p (aP e.1,.int ((fw u Al 0 e.1:Nat):Int)))∧Same H2 H3∧H3 D=some (.lst ys)) (by rw[kvl,sizeLine_eq];lia) ?_ ?_ ?_ ?_ ?_
  ·exact⟨[],rfl,rfl,fun j p e h=>(nomatch h),Same.upd hD,ad⟩
  ·rintro i ys H3 ⟨ps,rfl,rfl,_⟩
   rw[List.length_map];exact Nat.le_refl _
  ·rintro i ys H3 _ ⟨ps,_,_,_,s3,_⟩
   exact s3 _ _ hf2
  ·rintro i kk v t ys H3 hx ht ⟨ps,rfl,rfl,pr,s3,hD3⟩
   obtain⟨e,he,rfl,rfl⟩:=kv_at _ _ _ hx
   rw[vk] at ht
   have hb3:=s3 _ _ hb2
   refine dh ⟨_,rfl,?_⟩
   refine zH (te:=oG _) (.int ((fw u Al 0 e.1:Nat):Int)) (fun R hR=>?_) ?_
   ·rw[y7] at hR
    refine⟨_,rfl,t,_,_,_,rfl,rfl,SqT.of ht,rfl,rfl,_,rfl,?_⟩
    by_cases z2:e.1.2=0
    ·rw[decide_eq_true (show V.int (e.1.2:Int)=V.int 0 by rw[z2];rfl)]
     refine aY ⟨_,rfl,t,_,_,_,rfl,rfl,SqT.of ht,rfl,_,rfl,b,_,rfl,SqL.of hb3,rfl,_,rfl,?_⟩
     rw[List.length_map]
     by_cases z1:e.1.1=u.length
     ·rw[decide_eq_true (show V.int (e.1.1:Int)=V.int (u.length:Int) by rw[z1])]
      rw[if_pos ⟨z2,z1⟩] at hR
      exact hR
     ·rw[decide_eq_false (fun q=>z1 (by have:=V.int.inj q;lia))]
      rw[if_neg fun z=>z1 z.2] at hR
      exact hR
    ·rw[decide_eq_false (fun q=>z2 (by have:=V.int.inj q;lia))]
     rw[if_neg fun z=>z2 z.1] at hR
     exact aX ⟨_,rfl,hR⟩
   refine⟨(by show 2≤sizeLine;decide),fun p hp=>?_⟩
   have s4:=Same.upd (o:=.tup [.ref t,.int ((fw u Al 0 e.1:Nat):Int)]) hp
   have hp4:=ad (H:=H3) (a:=p) (o:=.tup [.ref t,.int ((fw u Al 0 e.1:Nat):Int)])
   have hD4:=s4 _ _ hD3
   have ht4:=s4 _ _ ht
   generalize L2.upd H3 p (.tup [.ref t,.int ((fw u Al 0 e.1:Nat):Int)])=H4 at s4 hp4 hD4 ht4 ⊢
   have k4:TK H4 (L2.upd H4 D (.lst (ps.map V.ref++[.ref p]))):=TK.upd hD4 fun xs z=>nomatch z
   refine⟨hD4,ps++[p],by rw[List.map_append];rfl,by simp,fun j q e' hq he'=>?_,fun a o' x=>?_,ad⟩
   ·by_cases jl:j<ps.length
    ·rw[List.getElem?_append_left jl] at hq
     obtain⟨tb,g1,g2⟩:=pr j q e' hq he'
     exact⟨tb,k4 _ _ (s4 _ _ g1),k4 _ _ (s4 _ _ g2)⟩
    ·have jlt:=(List.getElem?_eq_some_iff.mp hq).1
     have ej:j=ps.length:=by simp at jlt;lia
     subst ej
     rw[he] at he'
     obtain rfl:=Option.some.inj he'
     have:p=q:=by simpa using hq
     subst this
     exact⟨t,k4 _ _ hp4,k4 _ _ ht4⟩
   ·rw[ah (aD x hD)];exact s4 _ _ (s3 _ _ x)
  ·rintro ys H3 ⟨ps,rfl,psl,pr,s3,hD3⟩
   rw[kvl] at psl
   refine⟨D,ps,bD u Al es 0,rfl,hD3,by unfold bD;rw[psl,List.length_map],fun i p kv hp hkv=>?_,?_,by unfold bD;rw[List.length_map];lia,fun d hd=>?_⟩
   ·unfold bD at hkv
    rw[List.getElem?_map] at hkv
    cases q:es[i]? with
    | none=>rw[q] at hkv;cases hkv
    | some e=>rw[q] at hkv;cases hkv;exact pr i p e hp q
   ·unfold bD
    rw[List.map_map]
    have:(es.map (·.1)).map aP=es.map ((fun x=>x.1) ∘ fun e:(Nat×Nat)×Addr=>(aP e.1,V.int ((fw u Al 0 e.1:Nat):Int))):=by rw[List.map_map];rfl
    rw[←this]
    exact List.pairwise_map.mpr (St.nd.imp fun ne q=>ne (lE q))
   have s4:=Same.upd (o:=.dT (bD u Al es 0)) hd
   have hd4:=ad (H:=H3) (a:=d) (o:=.dT (bD u Al es 0))
   have s24:=s3.trans s4
   generalize L2.upd H3 d (.dT (bD u Al es 0))=H4 at s4 hd4 s24 ⊢
   refine⟨_,rfl,(by show 1≤sizeLine;decide),fun l hl=>?_⟩
   have s5:=Same.upd (o:=.lst [.ref d]) hl
   have hl5:=ad (H:=H4) (a:=l) (o:=.lst [.ref d])
   have l0:H2 l=none:=s24.free hl
   have s25:=s24.trans s5
   have hd5:=s5 _ _ hd4
   generalize L2.upd H4 l (.lst [.ref d])=H5 at s5 hl5 s25 hd5 ⊢
   refine⟨_,rfl,_,rfl,by lia,by lia,?_⟩
   rw[Int.toNat_natCast]
   refine gB (lo:=0) (n:=m) (fun k σ H6=>∃(ds:List Addr) (d:Addr) (v5 v6 v7:Option V),σ=[some (.ref b),some (.int (m:Int)),some (.ref f),some (.ref d),some (.ref l),v5,v6,v7]∧Same H2 H6∧H6 l=some (.lst (ds.map V.ref))∧ds.length=k+1∧ds[k]?=some d∧∀(j:Nat) (d':Addr),ds[j]?=some d'→H6 d'=some (.dT (bD u Al es j))) ?_ ?_ ?_
   ·refine⟨[d],d,none,none,none,rfl,s25,hl5,rfl,rfl,fun j d' h=>?_⟩
    match j,h with
    | 0,h=>cases h;exact hd5
   ·rintro k σ H6 hk ⟨ds,d,v5,v6,v7,rfl,s6,hl6,dsl,hdk,hds⟩
    intro ld hld
    have s7:=Same.upd (o:=.dT []) hld
    have hld7:=ad (H:=H6) (a:=ld) (o:=.dT [])
    generalize L2.upd H6 ld (.dT [])=H7 at s7 hld7 ⊢
    have hf7:=s7 _ _ (s6 _ _ hf2)
    refine⟨_,rfl,f,aM es,rfl,.inr ⟨o,hf7,?_⟩⟩
    refine vH (a:=f) (o:=o) (kvs:=aM es) (fun i σ H8=>∃v7,σ=[some (.ref b),some (.int (m:Int)),some (.ref f),some (.ref d),some (.ref l),some (.int (0+(k:Int))),some (.ref ld),v7]∧Same H6 H8∧H8 ld=some (.dT (bD u Al (es.take i) (k+1)))) ?_ ?_ ?_ ?_
    ·exact⟨_,rfl,s7,hld7⟩
    ·rintro i σ H8 _ ⟨_,_,s8,_⟩
     exact s8 _ _ (s6 _ _ hf2)
    ·rintro i kk v t σ H8 hx ht ⟨v7',rfl,s8,hld8⟩
     obtain⟨e,he,rfl,rfl⟩:=kv_at _ _ _ hx
     have hf8:=s8 _ _ (s6 _ _ hf2)
     have em:=List.mem_of_getElem? he
     have vv:bo (aM es) (aP e.1)=some (V.ref e.2):=by
      have:=fF (es:=es) (f:=fun e:(Nat×Nat)×Addr=>V.ref e.2) (g:=fun e:(Nat×Nat)×Addr=>e.1) (st:=e.1)
      unfold aM
      rw[this,iM (g:=fun e:(Nat×Nat)×Addr=>e.1) St.nd em];rfl
     obtain⟨qs,hq2,hqs⟩:=rows2 e em
     have hq8:=s8 _ _ (s6 _ _ hq2)
     have hd8:=s8 _ _ (hds k d hdk)
     refine⟨_,rfl,_,rfl,f,.ref e.2,rfl,(by rw[←vv];exact DGet.f (k:=aP e.1) hf8 ht),e.2,rfl,⟨_,SqL.of hq8⟩,fun D2 hD2 cb=>?_⟩
     have ql:qs.length=(aK u Al e.1).length:=hqs.length
     refine uu (K:=K) (k:=2) (a:=e.2) (xs:=qs.map V.ref) (fun i ys H9=>ys=aA (((aK u Al e.1).take i).map fun o=>fw u Al k o.2)∧Same H8 H9∧H9 D2=some (.lst ys)) ?_ ?_ ?_ ?_ ?_ ?_
     ·rw[List.length_map,ql,sizeLine_eq]
      have:=gd u Al e.1
      have:=jf And (fun c hc=>(Au c).mp hc) lu
      lia
     ·exact⟨rfl,Same.upd hD2,ad⟩
     ·rintro i ys H9 ⟨rfl,_⟩
      rw[aT,List.length_map,List.length_take];lia
     ·rintro i ys H9 _ ⟨_,s9,_⟩
      exact SqL.of (s9 _ _ hq8)
     ·rintro i2 x ys H9 hx9 ⟨rfl,s9,hD9⟩
      rw[List.getElem?_map] at hx9
      cases q:qs[i2]? with
      | none=>rw[q] at hx9;cases hx9
      | some p=>
        rw[q] at hx9
        obtain rfl:=Option.some.inj hx9
        obtain⟨oo,ho,tb,g1,g2⟩:=fQ hqs q
        have G1:=s9 _ _ (s8 _ _ (s6 _ _ g1))
        have G2:=s9 _ _ (s8 _ _ (s6 _ _ g2))
        have tin:oo.2∈es.map (·.1):=by
         have:=fN (List.mem_of_getElem? ho)
         exact St.cl e.1 (List.mem_map.mpr ⟨e,em,rfl⟩) oo.1 this.1 oo.2 this.2
        refine⟨p,_,rfl,SqT.of G1,rfl,_,_,rfl,_,_,rfl,rfl,?_,?_⟩
        ·intro j hj
         match j,hj with
         | 0,_=>rfl
         | 1,_=>rfl
         | 2,_=>rfl
         | 3,_=>rfl
         | 4,_=>rfl
         | 5,_=>rfl
         | 6,_=>rfl
         | 7,_=>rfl
        ·refine dh ⟨_,rfl,_,rfl,d,.int ((fw u Al k oo.2:Nat):Int),rfl,(by rw[←lI (k:=k) St.nd tin];exact DGet.t (k:=aP oo.2) (s9 _ _ hd8) G2),hD9,?_,fun a o' x=>by rw[ah (aD x hD2)];exact s9 _ _ x,ad⟩
         rw[List.take_add_one,ho,Option.toList_some,List.map_append,List.map_cons,List.map_nil,dv]
     ·rintro ys H9 ⟨rfl,s9,hD9⟩
      rw[List.length_map,ql,List.take_length] at hD9
      refine⟨D2,_,rfl,hD9,?_⟩
      rw[oI,←jh]
      have hld9:=s9 _ _ hld8
      have ni:e.1∉(es.take i).map (·.1):=fun z=>by
       obtain⟨e',he',q⟩:=List.mem_map.mp z
       obtain⟨j,hj⟩:=List.mem_iff_getElem?.mp he'
       rw[List.getElem?_take] at hj
       split at hj
       ·rename_i jl
        have hj':=hj
        have nd:=List.pairwise_map.mp St.nd
        obtain⟨a1,a2⟩:=List.getElem?_eq_some_iff.mp hj
        obtain⟨b1,b2⟩:=List.getElem?_eq_some_iff.mp he
        have:=List.pairwise_iff_getElem.mp nd j i a1 b1 jl
        rw[a2,b2] at this
        exact this q
       ·cases hj
      refine⟨_,rfl,_,rfl,ld,_,rfl,DPut.t (k:=aP e.1) hld9 (s9 _ _ ht) (by unfold bD;rw[List.length_map,List.length_take,sizeLine_eq];lia),?_⟩
      refine⟨_,rfl,fun a o' x=>by rw[ah (aD x hld)];exact s9 _ _ (s8 _ _ x),?_⟩
      rw[ad]
      unfold bD
      rw[qV (es:=es.take i) (f:=fun e:(Nat×Nat)×Addr=>V.int ((fw u Al (k+1) e.1:Nat):Int)) (g:=fun e:(Nat×Nat)×Addr=>e.1) ni,List.take_add_one,he,Option.toList_some,List.map_append]
      rfl
    ·rintro σ H8 ⟨v7',rfl,s8,hld8⟩
     rw[kvl,List.take_length] at hld8
     have hl8:=s8 _ _ hl6
     refine⟨_,rfl,_,rfl,.inl ⟨rfl,_,SqL.of hl8⟩,_,rfl,l,_,_,rfl,rfl,hl8,by rw[List.length_map,dsl,sizeLine_eq];lia,?_⟩
     refine⟨ds++[ld],ld,_,_,_,rfl,fun a o' x=>by rw[ah (aD x l0)];exact s8 _ _ (s6 _ _ x),by rw[ad,List.map_append];rfl,by simp[dsl],by rw[List.getElem?_append_right (by lia),dsl];simp,fun j d' hj=>?_⟩
     by_cases jl:j<ds.length
     ·rw[List.getElem?_append_left jl] at hj
      have:=s8 _ _ (hds j d' hj)
      rw[ah (bh this hl8 fun z=>nomatch z)]
      exact this
     ·have jlt:=(List.getElem?_eq_some_iff.mp hj).1
      have ej:j=k+1:=by simp at jlt;lia
      subst ej
      have:ld=d':=by rw[List.getElem?_append_right (by lia),dsl] at hj;simpa using hj
      subst this
      rw[ah (bh hld8 hl8 fun z=>nomatch z)]
      exact hld8
   ·rintro σ H6 ⟨ds,d,v5,v6,v7,rfl,s6,hl6,dsl,hdk,hds⟩
    refine⟨_,rfl,_,rfl,(by show 2≤sizeLine;decide),fun r hr0=>?_⟩
    have s7:=Same.upd (o:=.tup [.ref f,.ref l]) hr0
    have s27:=s6.trans s7
    exact k r f l o Al es ds _ ((s2.trans s6).free hr0) ad (s27 _ _ hf2) Ari Au ⟨St.nd,St.bk,St.cl,St.z,fun e he=>(rows2 e he).keep (Same.tk s27) fun xs x=>s27 _ _ x⟩ (s7 _ _ hl6) dsl (fun j d h=>s7 _ _ (hds j d h)) ((s2.trans s6).trans s7)
end
def bt(u A:List Nat)(st:Nat×Nat)(c m:Nat):Nat:=((aK u A st).map fun o=>if o.1<c then fw u A m o.2 else 0).sum
def an(u A:List Nat):List Nat→Nat×Nat→Option Nat
 | [],st=>if st=(u.length,0) then some 0 else none
 | c::t,st=>if c∈A then match nx u st c with | none=>none | some st'=>(an u A t st').map fun k=>bt u A st c t.length+k else none
theorem lM(u A:List Nat)(st:Nat×Nat)(c m:Nat):bt u A st c m=(A.map fun d=>if d<c then(match nx u st d with | none=>0 | some st'=>fw u A m st') else 0).sum:=by
 unfold bt aK
 suffices h:∀B:List Nat,((B.filterMap fun c=>(nx u st c).map fun t=>(c,t)).map fun o=>if o.1<c then fw u A m o.2 else 0).sum=(B.map fun d=>if d<c then(match nx u st d with | none=>0 | some st'=>fw u A m st') else 0).sum from h A
 intro B
 induction B with
 | nil=>rfl
 | cons d B ih=>
   rw[List.map_cons,List.sum_cons,←ih,List.filterMap_cons]
   cases h:nx u st d <;> simp[h]
section
variable{w A S:List Nat}
theorem wP(w1:1≤w.length):Al w []:=⟨by simp,fun j h1 h2=>by simp at h2;lia⟩
theorem zB(w1:1≤w.length){x:List Nat}(hx:Al w x):x.length+1≤w.length:=by
 have h1:=hx.1
 have h2:=cW w (w++x)
 by_cases e:x=[]
 ·subst e;simpa using w1
 ·have:x.length≠0:=fun z=>e (List.length_eq_zero_iff.mp z)
  have h3:=hx.2 x.length (by lia) (Nat.le_refl _)
  rw[List.take_length] at h3
  have:mx w (w++x)≠w.length:=fun z=>h3 (mx_full.mp z)
  lia
theorem qm(w1:1≤w.length)(hS:∀d,d∈S↔dE w d){x:List Nat}(hx:Al w x)(c:Nat):(nx w (mx w (w++x),x.length) c=some (w.length,0)∧x.length+1∈S∧x++[c]=au w (x.length+1))∨(nx w (mx w (w++x),x.length) c=some (mx w (w++(x++[c])),(x++[c]).length)∧Al w (x++[c]))∨(nx w (mx w (w++x),x.length) c=none∧∀d∈S,¬(x++[c]) <+:au w d):=by
 have es:mx w (w.take (mx w (w++x))++[c])=mx w (w++(x++[c])):=by rw[←mP,List.append_assoc]
 have yl:(x++[c]).length=x.length+1:=by simp
 have hx1:=zB w1 hx
 have nof:∀j,1≤j→j≤x.length→¬w <:+w++(x++[c]).take j:=fun j h1 h2=>by
  rw[List.take_append_of_le_length h2];exact hx.2 j h1 h2
 have e:nx w (mx w (w++x),x.length) c=if(if mx w (w++(x++[c]))=w.length then 0 else x.length+1)>mx w (w++(x++[c])) then none else some (mx w (w++(x++[c])),if mx w (w++(x++[c]))=w.length then 0 else x.length+1):=by
  rw[←es];rfl
 rw[e]
 by_cases hf:mx w (w++(x++[c]))=w.length
 ·left
  have hfull:=mx_full.mp hf
  obtain⟨q1,q2⟩:=qY (by lia) hfull
  rw[yl] at q1 q2
  refine⟨by rw[if_pos hf,if_neg (by lia),hf],(hS _).mpr ⟨by lia,hx1,q1,fun j j1 j2=>by rw[←q2];exact nof j j1 (by lia)⟩,q2⟩
 ·right
  have hnf:¬w <:+w++(x++[c]):=fun z=>hf (mx_full.mpr z)
  rw[if_neg hf]
  by_cases hdead:x.length+1>mx w (w++(x++[c]))
  ·right
   refine⟨if_pos hdead,fun d hdS h2=>?_⟩
   obtain⟨d1,d2,d3,d4⟩:=(hS d).mp hdS
   have hp:=h2.length_le
   rw[bX d2,yl] at hp
   have hne:d≠x.length+1:=fun z=>hnf (by
    have:x++[c]=w.drop (w.length-d):=h2.eq_of_length (by rw[bX d2,yl];exact z.symm)
    rw[this,←fj d2 d3]
    exact List.suffix_append _ _)
   have:w.take (w.length+(x.length+1)-d) <:+w++(x++[c]):=by
    have e:w++(x++[c])=w.take d++w.take (w.length+(x.length+1)-d):=by
     have e1:=congrArg (List.take (w.length+(x.length+1))) (fj d2 d3)
     rw[List.take_append,List.take_append,bj d2,List.take_of_length_le (by rw[bj d2];lia),List.take_of_length_le (show w.length≤w.length+(x.length+1) by lia),show w.length+(x.length+1)-w.length=x.length+1 by lia] at e1
     rw[e1]
     congr 1
     rw[←yl];exact List.prefix_iff_eq_take.mp h2
    rw[e]
    exact List.suffix_append _ _
   have:=eV (show w.length+(x.length+1)-d≤w.length by lia) this
   lia
  ·left
   refine⟨by rw[if_neg hdead,yl],by rw[yl];lia,fun j j1 j2=>?_⟩
   by_cases e:j=x.length+1
   ·rw[List.take_of_length_le (by rw[yl];lia)];exact hnf
   ·exact nof j j1 (by rw[yl] at j2;lia)
theorem vA(w1:1≤w.length)(hA:A.Nodup)(hwA:∀c∈w,c∈A)(hSn:S.Nodup)(hS:∀d,d∈S↔dE w d){x:List Nat}(hx:Al w x)(c m:Nat):(match nx w (mx w (w++x),x.length) c with | none=>0 | some st'=>fw w A m st')=(S.map fun e=>if(x++[c]) <+:au w e∧e≤x.length+(m+1) then fw w A (x.length+(m+1)-e) (w.length,0) else 0).sum:=by
 have len:∀e∈S,(x++[c]) <+:au w e→x.length+1≤e:=fun e he h=>by
  have:=h.length_le
  rw[bX ((hS e).mp he).2.1] at this
  simpa using this
 rcases qm w1 hS hx c with⟨h,hd,hk⟩ | ⟨h,hy⟩ | ⟨h,hn⟩
 ·rw[h]
  show fw w A m (w.length,0)=_
  rw[fG hSn hd fun e he hne=>if_neg fun z=>hne ?_]
  ·rw[if_pos ⟨by rw[hk];exact List.prefix_refl _,by lia⟩,show x.length+(m+1)-(x.length+1)=m by lia]
  ·have z1:=z.1
   rw[hk] at z1
   exact(fU (single_iff.mp ((hS _).mp hd)) (single_iff.mp ((hS e).mp he)) z1).symm
 ·rw[h]
  show fw w A m (mx w (w++(x++[c])),(x++[c]).length)=_
  rw[jm w1 hA hwA hSn hS m (x++[c]) hy,if_neg (by simp),Nat.zero_add]
  refine cx fun e he=>?_
  have yl:(x++[c]).length=x.length+1:=by simp
  rw[yl]
  by_cases hp:(x++[c]) <+:au w e
  ·have l1:=len e he hp
   have l2:e≠x.length+1:=fun z=>by
    have e2:=(hS e).mp he
    have hk:x++[c]=au w e:=hp.eq_of_length (by rw[bX e2.2.1,yl,z])
    have:=hy.2 (x.length+1) (by lia) (by lia)
    rw[List.take_of_length_le (by lia),hk] at this
    apply this
    have q:=fj e2.2.1 e2.2.2.1
    show w <:+w++w.drop (w.length-e)
    rw[←q]
    exact List.suffix_append _ _
   by_cases hm:e≤x.length+(m+1)
   ·rw[if_pos ⟨by lia,hp,by lia⟩,if_pos ⟨hp,hm⟩,show m-(e-(x.length+1))=x.length+(m+1)-e by lia]
   ·rw[if_neg fun z=>hm (by lia),if_neg fun z=>hm z.2]
  ·rw[if_neg fun z=>hp z.2.1,if_neg fun z=>hp z.1]
 ·rw[h]
  symm
  exact bL fun e he=>if_neg fun z=>hn e he z.1
theorem rE{p:Prop}[Decidable p]{l:List Nat}{g:Nat→Nat}:(if p then(l.map g).sum else 0)=(l.map fun e=>if p then g e else 0).sum:=by
 by_cases h:p
 ·rw[if_pos h];exact cx fun e _=>(if_pos h).symm
 ·rw[if_neg h];exact(bL fun e _=>if_neg h).symm
def cK(w x:List Nat)(d e:Nat):Prop:=x <+:au w e∧aH (aB (au w e)) (aB (au w d))=true
instance {w x:List Nat} {d e:Nat}:Decidable (cK w x d e):=by unfold cK;infer_instance
theorem rS{x l:List Nat}(h:x <+:l)(hl:x.length<l.length):(x++[l[x.length]]) <+:l:=by
 have ex:=List.prefix_iff_eq_take.mp h
 rw[List.prefix_iff_eq_take,show(x++[l[x.length]]).length=x.length+1 by simp,List.take_succ_eq_append_getElem hl,←ex]
theorem wz{x l:List Nat}{c:Nat}(h:(x++[c]) <+:l)(hl:x.length<l.length):l[x.length]=c:=by
 obtain⟨r,rfl⟩:=h
 simp
theorem xX(w1:1≤w.length)(hA:A.Nodup)(hwA:∀c∈w,c∈A)(hSn:S.Nodup)(hS:∀d,d∈S↔dE w d){x y:List Nat}(hx:Al w x){c d m:Nat}(hd:d∈S)(hk:x++(c::y)=au w d):bt w A (mx w (w++x),x.length) c m+(S.map fun e=>if cK w (x++[c]) d e∧e≤x.length+(m+1) then fw w A (x.length+(m+1)-e) (w.length,0) else 0).sum=(S.map fun e=>if cK w x d e∧e≤x.length+(m+1) then fw w A (x.length+(m+1)-e) (w.length,0) else 0).sum:=by
 rw[lM,cx fun c' _=>by rw[vA w1 hA hwA hSn hS hx c' m,rE],pq,←qf]
 refine cx fun e he=>?_
 generalize x.length+(m+1)=M
 generalize fw w A (M-e) (w.length,0)=G
 have e2:=(hS e).mp he
 have d2:=(hS d).mp hd
 by_cases hm:e≤M
 ·by_cases hp:x <+:au w e
  ·have lt:x.length<(au w e).length:=by
    refine Nat.lt_of_le_of_ne hp.length_le fun z=>?_
    have ex:=hp.eq_of_length z
    have:=fU (single_iff.mp e2) (single_iff.mp d2) (by rw[←ex,←hk];exact List.prefix_append _ _)
    subst this
    have:=congrArg List.length hk
    rw[←ex] at this
    simp at this
   obtain⟨r,er⟩:∃r,au w e=x++((au w e)[x.length]::r):=by
    obtain⟨r,hr⟩:=rS hp lt
    exact⟨r,hr.symm.trans (by rw[List.append_assoc];rfl)⟩
   have inA:(au w e)[x.length]∈A:=hwA _ (List.mem_of_mem_drop (List.getElem_mem lt))
   generalize hc'':(au w e)[x.length]=c2 at er inA
   have only:∀c',(x++[c']) <+:au w e↔c'=c2:=fun c'=>⟨fun h=>by rw[←hc'',wz h lt],fun h=>by rw[h,er];exact⟨r,by simp⟩⟩
   have lt1:aH (aB (au w e)) (aB (au w d))=if c2=c then aH (aB r) (aB y) else decide (c2<c):=by
    rw[er,←hk,nY,nY,yu]
    show(if(c2:Int)=(c:Int) then aH (aB r) (aB y) else decide ((c2:Int)<(c:Int)))=_
    by_cases h:c2=c
    ·rw[if_pos h,if_pos (by rw[h])]
    ·rw[if_neg h,if_neg (by lia)]
     exact decide_eq_decide.mpr (by lia)
   by_cases h1:c2<c
   ·rw[fG hA inA fun c' _ hne=>by
    by_cases q:c'<c
    ·rw[if_pos q,if_neg fun z=>hne ((only c').mp z.1)]
    ·rw[if_neg q],if_pos h1,if_pos ⟨(only c2).mpr rfl,hm⟩,if_neg fun z=>by have:=(only c).mp z.1.1;lia,Nat.add_zero,if_pos ⟨⟨hp,by rw[lt1,if_neg (by lia),decide_eq_true h1]⟩,hm⟩]
   ·have z0:(A.map fun c'=>if c'<c then(if(x++[c']) <+:au w e∧e≤M then G else 0) else 0).sum=0:=bL fun c' _=>by
     by_cases q:c'<c
     ·rw[if_pos q,if_neg fun z=>by have:=(only c').mp z.1;lia]
     ·rw[if_neg q]
    rw[z0,Nat.zero_add]
    by_cases h2:c2=c
    ·have:cK w (x++[c]) d e↔cK w x d e:=⟨fun z=>⟨hp,z.2⟩,fun z=>⟨(only c).mpr h2.symm,z.2⟩⟩
     by_cases q:cK w x d e
     ·rw[if_pos ⟨this.mpr q,hm⟩,if_pos ⟨q,hm⟩]
     ·rw[if_neg fun z=>q (this.mp z.1),if_neg fun z=>q z.1]
    ·rw[if_neg fun z=>h2 ((only c).mp z.1.1).symm,if_neg fun z=>by
     have:=z.1.2
     rw[lt1,if_neg h2,decide_eq_false h1] at this
     cases this]
  ·have z0:(A.map fun c'=>if c'<c then(if(x++[c']) <+:au w e∧e≤M then G else 0) else 0).sum=0:=bL fun c' _=>by
    by_cases q:c'<c
    ·rw[if_pos q,if_neg fun z=>hp ((List.prefix_append _ _).trans z.1)]
    ·rw[if_neg q]
   rw[z0,if_neg fun z=>hp ((List.prefix_append _ _).trans z.1.1),if_neg fun z=>hp z.1.1]
 ·have z0:(A.map fun c'=>if c'<c then(if(x++[c']) <+:au w e∧e≤M then G else 0) else 0).sum=0:=bL fun c' _=>by
   by_cases q:c'<c
   ·rw[if_pos q,if_neg fun z=>hm z.2]
   ·rw[if_neg q]
  rw[z0,if_neg fun z=>hm z.2,if_neg fun z=>hm z.2]
theorem mD(w1:1≤w.length)(hA:A.Nodup)(hwA:∀c∈w,c∈A)(hSn:S.Nodup)(hS:∀d,d∈S↔dE w d){d:Nat}(hd:d∈S)(z:List Nat):∀(y x:List Nat),y≠ []→Al w x→x++y=au w d→an w A (y++z) (mx w (w++x),x.length)=(an w A z (w.length,0)).map fun k=>(S.map fun e=>if cK w x d e∧e≤x.length+(y++z).length then fw w A (x.length+(y++z).length-e) (w.length,0) else 0).sum+k
 | [],_,h,_,_=>absurd rfl h
 | c::y,x,_,hx,hk=>by
   have d2:=(hS d).mp hd
   have cA:c∈A:=hwA c (List.mem_of_mem_drop (show c∈au w d by rw[←hk];simp))
   have la:=xX w1 hA hwA hSn hS hx (m:=(y++z).length) hd hk
   have kx:x++[c]++y=au w d:=by rw[←hk];simp
   show(if c∈A then match nx w (mx w (w++x),x.length) c with | none=>none | some st'=>(an w A (y++z) st').map fun k=>bt w A (mx w (w++x),x.length) c (y++z).length+k else none)=_
   rw[if_pos cA]
   have el:x.length+(c::y++z).length=x.length+((y++z).length+1):=by simp
   rw[el,←la]
   rcases qm w1 hS hx c with⟨h,hd',hk'⟩ | ⟨h,hy⟩ | ⟨h,hn⟩
   ·have ed:x.length+1=d:=fU (single_iff.mp ((hS _).mp hd')) (single_iff.mp d2) (by rw[←hk',←kx];exact List.prefix_append _ _)
    have ey:y=[]:=by
     have:=congrArg List.length kx
     rw[bX d2.2.1,←ed] at this
     simp at this
     exact this
    subst ey
    have z0:(S.map fun e=>if cK w (x++[c]) d e∧e≤x.length+(([]++z:List Nat).length+1) then fw w A (x.length+(([]++z:List Nat).length+1)-e) (w.length,0) else 0).sum=0:=bL fun e he=>if_neg fun q=>by
     have q1:=q.1.1
     rw[List.append_nil] at kx
     rw[kx] at q1
     have:=fU (single_iff.mp d2) (single_iff.mp ((hS e).mp he)) q1
     subst this
     have:=q.1.2
     rw[gz] at this
     cases this
    rw[z0,h];rfl
   ·have ny:y≠ []:=fun ey=>by
     subst ey
     rw[List.append_nil] at kx
     have:=hy.2 (x.length+1) (by lia) (by simp)
     rw[List.take_of_length_le (by simp),kx] at this
     apply this
     show w <:+w++w.drop (w.length-d)
     rw[←fj d2.2.1 d2.2.2.1]
     exact List.suffix_append _ _
    rw[h]
    show(an w A (y++z) (mx w (w++(x++[c])),(x++[c]).length)).map _=_
    rw[mD w1 hA hwA hSn hS hd z y (x++[c]) ny hy kx,Option.map_map]
    congr 1
    funext k
    have e3:(x++[c]).length+(y++z).length=x.length+((y++z).length+1):=by simp;lia
    rw[e3]
    simp only[Function.comp]
    lia
   ·exact absurd (by rw[←kx];exact List.prefix_append _ _) (hn d hd)
theorem oj{i:Nat}(hi:i<w.length)(c:Nat):nx w (i,i) c=if w[i]=c then some (i+1,if i+1=w.length then 0 else i+1) else none:=by
 have e:nx w (i,i) c=if(if mx w (w.take i++[c])=w.length then 0 else i+1)>mx w (w.take i++[c]) then none else some (mx w (w.take i++[c]),if mx w (w.take i++[c])=w.length then 0 else i+1):=rfl
 rw[e]
 have up:∀j,j≤w.length→w.take j <:+w.take i++[c]→j≤i+1:=fun j hj h=>by
  have:=h.length_le
  rw[bj hj,List.length_append,bj (by lia)] at this
  simpa using this
 by_cases h:w[i]=c
 ·have et:w.take i++[c]=w.take (i+1):=by rw[List.take_succ_eq_append_getElem hi,h]
  have em:mx w (w.take i++[c])=i+1:=fT (by lia) (by rw[et];exact List.suffix_refl _) up
  rw[em,if_pos h]
  by_cases q:i+1=w.length
  ·rw[if_pos q,if_neg (by lia)]
  ·rw[if_neg q,if_neg (by lia)]
 ·have hm:mx w (w.take i++[c])≤i:=by
   have h1:=cW w (w.take i++[c])
   have h2:=d7 w (w.take i++[c])
   have h3:=up _ h1 h2
   refine Nat.le_of_lt_succ (Nat.lt_of_le_of_ne h3 fun z=>h ?_)
   rw[z] at h2
   have:=h2.eq_of_length (by rw[bj (by lia),List.length_append,bj (by lia)];rfl)
   rw[List.take_succ_eq_append_getElem hi] at this
   have:=(List.append_inj this rfl).2
   simpa using this
  have ne:mx w (w.take i++[c])≠w.length:=by lia
  rw[if_neg h,if_neg ne,if_pos (by lia)]
theorem md(hwA:∀c∈w,c∈A)(z:List Nat):∀(n i:Nat),i+n=w.length→1≤n→an w A (w.drop i++z) (i,i)=an w A z (w.length,0)
 | 0,i,_,h=>by lia
 | n+1,i,hn,_=>by
   have hi:i<w.length:=by lia
   rw[List.drop_eq_getElem_cons hi]
   show(if w[i]∈A then match nx w (i,i) w[i] with | none=>none | some st'=>(an w A (w.drop (i+1)++z) st').map fun k=>bt w A (i,i) w[i] (w.drop (i+1)++z).length+k else none)=_
   have l0:bt w A (i,i) w[i] (w.drop (i+1)++z).length=0:=by
    rw[lM]
    refine bL fun d _=>?_
    by_cases q:d<w[i]
    ·rw[if_pos q,oj hi d,if_neg (by lia)]
    ·rw[if_neg q]
   rw[if_pos (hwA _ (List.getElem_mem hi)),oj hi,if_pos rfl,l0]
   have id0:(fun k:Nat=>0+k)=id:=by funext k;simp
   rw[id0]
   by_cases q:i+1=w.length
   ·rw[if_pos q]
    show(an w A (w.drop (i+1)++z) (i+1,0)).map id=_
    rw[q,List.drop_length,List.nil_append,Option.map_id];rfl
   ·rw[if_neg q]
    show(an w A (w.drop (i+1)++z) (i+1,i+1)).map id=_
    rw[md hwA z n (i+1) (by lia) (by lia),Option.map_id];rfl
theorem uV(w1:1≤w.length)(hA:A.Nodup)(hwA:∀c∈w,c∈A)(st:Stp w S)(m:Nat):fw w A m (w.length,0)=cn S w.length (w.length+m):=by
 rw[st.cn,ng w1 hA hwA,gj w1 hA hwA _ 0 w1,if_pos (by lia),show w.length+m-(w.length-0)=m by lia]
theorem pC:∀{ds:List Nat},(∀d∈ds,cB w d)→tx w ds=w++(ds.map (au w)).flatten
 | [],_=>by simp[tx]
 | d::ds,h=>by
   show w.take d++tx w ds=_
   rw[pC fun x hx=>h x (List.mem_cons_of_mem _ hx),←List.append_assoc,dC (h d List.mem_cons_self),List.append_assoc]
   rfl
theorem mO:∀{ds:List Nat},(∀d∈ds,d≤w.length)→((ds.map (au w)).flatten).length=ds.sum
 | [],_=>rfl
 | d::ds,h=>by rw[List.map_cons,List.flatten_cons,List.length_append,bX (h d List.mem_cons_self),mO fun x hx=>h x (List.mem_cons_of_mem _ hx),List.sum_cons]
theorem vn(w1:1≤w.length)(st:Stp w S){d:Nat}(hd:d∈S)(g:Nat→Nat):(S.map fun e=>if aH (aB (au w e)) (aB (au w d))=true then g e else 0).sum=((pre S d).map g).sum:=by
 obtain⟨post,e⟩:=yk hd
 have key:=st.key
 have nd:=st.nodup
 rw[e] at key nd
 have k1:=List.pairwise_append.mp key
 have n1:=List.nodup_append.mp nd
 conv=>lhs;rw[e]
 rw[List.map_append,List.sum_append,List.map_cons,List.sum_cons,if_neg (by rw[gz];exact Bool.false_ne_true),Nat.zero_add]
 have z:(post.map fun e=>if aH (aB (au w e)) (aB (au w d))=true then g e else 0).sum=0:=bL fun x hx=>if_neg (by rw[(List.pairwise_cons.mp k1.2.1).1 x hx];exact Bool.false_ne_true)
 rw[z,Nat.add_zero]
 refine cx fun x hx=>if_pos ?_
 have f1:=k1.2.2 x hx d List.mem_cons_self
 have ne:x≠d:=fun q=>n1.2.2 x hx d List.mem_cons_self q
 have xS:x∈S:=by rw[e];exact List.mem_append.mpr (.inl hx)
 rcases iY (aB (au w x)) (aB (au w d)) with q | q | q
 ·exact q
 ·refine absurd (fU (st.mem.mp xS) (st.mem.mp hd) (sv (by rw[q];exact List.prefix_refl _))) ne
 ·rw[f1] at q;cases q
theorem pD(w1:1≤w.length)(hA:A.Nodup)(hwA:∀c∈w,c∈A)(st:Stp w S):∀ds:List Nat,(∀d∈ds,d∈S)→an w A ((ds.map (au w)).flatten) (w.length,0)=some (rk S w.length ds)
 | [],_=>if_pos rfl
 | d::ds,h=>by
   have hS:∀d,d∈S↔dE w d:=fun d=>st.mem.trans single_iff.symm
   have hd:=h d List.mem_cons_self
   have sd:=(st.mem.mp hd).1
   have hf:mx w (w++[])=w.length:=mx_full.mpr (by simp)
   have ny:au w d≠ []:=fun q=>by have:=congrArg List.length q;rw[bX sd.2.1] at this;have s1:=sd.1;have s2:d=0:=this;lia
   have:=mD w1 hA hwA st.nodup hS hd ((ds.map (au w)).flatten) (au w d) [] ny (wP w1) rfl
   rw[hf] at this
   have le:∀x∈ds,x≤w.length:=fun x hx=>(st.mem.mp (h x (List.mem_cons_of_mem _ hx))).1.2.1
   rw[List.map_cons,List.flatten_cons]
   refine this.trans ?_
   rw[pD w1 hA hwA st ds fun x hx=>h x (List.mem_cons_of_mem _ hx)]
   show some _=some _
   congr 1
   show _+rk S w.length ds=((pre S d).map fun s=>cn S w.length (w.length+(d+ds.sum)-s)).sum+rk S w.length ds
   congr 1
   rw[←vn w1 st hd]
   refine cx fun e he=>?_
   rw[List.length_append,bX sd.2.1,mO le]
   show(if cK w [] d e∧e≤0+(d+ds.sum) then fw w A (0+(d+ds.sum)-e) (w.length,0) else 0)=_
   rw[Nat.zero_add]
   by_cases q:aH (aB (au w e)) (aB (au w d))=true
   ·rw[if_pos q]
    by_cases r:e≤d+ds.sum
    ·rw[if_pos ⟨⟨List.nil_prefix,q⟩,r⟩,uV w1 hA hwA st,show w.length+(d+ds.sum-e)=w.length+(d+ds.sum)-e by lia]
    ·rw[if_neg fun z=>r z.2,d9 (by lia)]
   ·rw[if_neg fun z=>q z.1.2,if_neg q]
theorem vR(w1:1≤w.length)(hA:A.Nodup)(hwA:∀c∈w,c∈A)(st:Stp w S){ds:List Nat}(h:∀d∈ds,d∈S):an w A (tx w ds) (0,0)=some (rk S w.length ds):=by
 rw[pC fun d hd=>(st.mem.mp (h d hd)).1,←pD w1 hA hwA st ds h]
 have:=md (A:=A) hwA ((ds.map (au w)).flatten) w.length 0 (by lia) w1
 rw[List.drop_zero] at this
 exact this
end
theorem jY{α:Type}(f:α→Nat)(p:α→Prop)[DecidablePred p]{x:α}:∀{l:List α},x∈l→¬p x→(l.map fun o=>if p o then f o else 0).sum+f x≤(l.map f).sum
 | [],h,_=>(nomatch h)
 | y::l,h,hp=>by
   have low:∀l:List α,(l.map fun o=>if p o then f o else 0).sum≤(l.map f).sum:=fun l=>by
    induction l with
    | nil=>exact Nat.le_refl _
    | cons z l ih=>
      rw[List.map_cons,List.map_cons,List.sum_cons,List.sum_cons]
      by_cases q:p z
      ·rw[if_pos q];lia
      ·rw[if_neg q];lia
   rw[List.map_cons,List.map_cons,List.sum_cons,List.sum_cons]
   rcases List.mem_cons.mp h with e | h
   ·subst e
    have:=low l
    rw[if_neg hp];lia
   ·have:=jY f p h hp
    by_cases q:p y
    ·rw[if_pos q];lia
    ·rw[if_neg q];lia
theorem gc{u A t:List Nat}{st:Nat×Nat}{c n:Nat}(h:an u A (c::t) st=some n):∃st' k,c∈A∧nx u st c=some st'∧an u A t st'=some k∧n=bt u A st c t.length+k:=by
 have e:an u A (c::t) st=if c∈A then match nx u st c with | none=>none | some st'=>(an u A t st').map fun k=>bt u A st c t.length+k else none:=rfl
 rw[e] at h
 by_cases cA:c∈A
 ·rw[if_pos cA] at h
  generalize nx u st c=z at h
  cases z with
  | none=>cases h
  | some st'=>
    replace h:(an u A t st').map (fun k=>bt u A st c t.length+k)=some n:=h
    obtain⟨k,h1,h2⟩:=Option.map_eq_some_iff.mp h
    exact⟨st',k,cA,rfl,h1,h2.symm⟩
 ·rw[if_neg cA] at h;cases h
theorem u8{u A t:List Nat}{st st':Nat×Nat}{c k:Nat}(cA:c∈A)(h1:nx u st c=some st')(h2:an u A t st'=some k):an u A (c::t) st=some (bt u A st c t.length+k):=by
 have e:an u A (c::t) st=if c∈A then match nx u st c with | none=>none | some st'=>(an u A t st').map fun k=>bt u A st c t.length+k else none:=rfl
 rw[e,if_pos cA,h1]
 show(an u A t st').map _=_
 rw[h2];rfl
theorem lN{α:Type}{f:α→Nat}:∀{l:List α},(∀o∈l,f o=0)→(l.map f).sum=0
 | [],_=>rfl
 | x::l,h=>by rw[List.map_cons,List.sum_cons,h x List.mem_cons_self,lN fun o ho=>h o (List.mem_cons_of_mem _ ho)]
theorem mz{α:Type}{f g:α→Nat}{l:List α}(h:∀o∈l,f o=g o):(l.map f).sum=(l.map g).sum:=by rw[List.map_congr_left h]
theorem lw{u A:List Nat}{st st':Nat×Nat}{c:Nat}(cA:c∈A)(h:nx u st c=some st'):(c,st')∈aK u A st:=List.mem_filterMap.mpr ⟨c,cA,by rw[h];rfl⟩
theorem ii{u A:List Nat}:∀{t:List Nat} {st:Nat×Nat} {n:Nat},an u A t st=some n→n<fw u A t.length st
 | [],st,n,h=>by
   have e:an u A [] st=if st=(u.length,0) then some 0 else none:=rfl
   rw[e] at h
   show n<fw u A 0 st
   rw[fW]
   by_cases q:st=(u.length,0)
   ·rw[if_pos q] at h ⊢
    have:=Option.some.inj h
    lia
   ·rw[if_neg q] at h;cases h
 | c::t,st,n,h=>by
   obtain⟨st',k,cA,h1,h2,rfl⟩:=gc h
   have:=ii h2
   have s:=jY (fun o:Nat×(Nat×Nat)=>fw u A t.length o.2) (fun o=>o.1<c) (lw cA h1) (Nat.lt_irrefl c)
   show _<fw u A (t.length+1) st
   rw[jh]
   unfold bt
   simp only at s
   lia
theorem mH{u:List Nat}{st:Nat×Nat}:∀{A:List Nat},A.Pairwise (·< ·)→(aK u A st).Pairwise fun a b=>a.1<b.1
 | [],_=>.nil
 | c::A,h=>by
   rw[List.pairwise_cons] at h
   have ih:=mH (u:=u) (st:=st) h.2
   unfold aK at ih ⊢
   rw[List.filterMap_cons]
   cases q:nx u st c with
   | none=>exact ih
   | some t=>exact List.pairwise_cons.mpr ⟨fun o ho=>h.1 _ (fN (st:=st) (u:=u) (A:=A) (c:=o.1) (t:=o.2) ho).1,ih⟩
theorem qz{u A:List Nat}(hA:A.Pairwise (·< ·)){st st':Nat×Nat}{c m:Nat}{p q:List (Nat×(Nat×Nat))}(e:aK u A st=p++(c,st')::q):bt u A st c m=(p.map fun o=>fw u A m o.2).sum:=by
 have r:=mH (u:=u) (st:=st) hA
 rw[e] at r
 have r1:=List.pairwise_append.mp r
 have zq:(q.map fun o=>if o.1<c then fw u A m o.2 else 0).sum=0:=lN fun o ho=>if_neg (by have:=(List.pairwise_cons.mp r1.2.1).1 o ho;simp only at this;lia)
 have zp:(p.map fun o=>if o.1<c then fw u A m o.2 else 0).sum=(p.map fun o=>fw u A m o.2).sum:=mz fun o ho=>if_pos (r1.2.2 o ho (c,st') List.mem_cons_self)
 unfold bt
 rw[e,List.map_append,List.sum_append,List.map_cons,List.sum_cons,zp,zq,if_neg (Nat.lt_irrefl c)]
 lia
theorem sC{u A t:List Nat}(hA:A.Pairwise (·< ·)){st:Nat×Nat}{c n:Nat}(h:an u A (c::t) st=some n):∃st' k p q,aK u A st=p++(c,st')::q∧n=(p.map fun o=>fw u A t.length o.2).sum+k∧an u A t st'=some k∧k<fw u A t.length st'∧c∈A∧nx u st c=some st':=by
 obtain⟨st',k,cA,h1,h2,rfl⟩:=gc h
 obtain⟨p,q,e⟩:=List.append_of_mem (lw cA h1)
 exact⟨st',k,p,q,e,by rw[qz hA e],h2,ii h2,cA,h1⟩
theorem qu{α:Type}{f:α→Nat}:∀{l:List α} {y:Nat},y<(l.map f).sum→∃p o q,l=p++o::q∧(p.map f).sum≤y∧y<(p.map f).sum+f o
 | [],y,h=>by simp at h
 | x::l,y,h=>by
   by_cases z:y<f x
   ·exact⟨[],x,l,rfl,Nat.zero_le _,by simpa using z⟩
   ·rw[List.map_cons,List.sum_cons] at h
    obtain⟨p,o,q,e,h1,h2⟩:=qu (f:=f) (l:=l) (y:=y-f x) (by lia)
    exact⟨x::p,o,q,by rw[e];rfl,by rw[List.map_cons,List.sum_cons];lia,by rw[List.map_cons,List.sum_cons];lia⟩
theorem nG{u A:List Nat}(hA:A.Pairwise (·< ·)):∀(m:Nat) (st:Nat×Nat) (y:Nat),y<fw u A m st→∃t:List Nat,t.length=m∧an u A t st=some y
 | 0,st,y,h=>by
   rw[fW] at h
   by_cases q:st=(u.length,0)
   ·rw[if_pos q] at h
    refine⟨[],rfl,?_⟩
    show(if st=(u.length,0) then some 0 else none)=some y
    rw[if_pos q,show y=0 by lia]
   ·rw[if_neg q] at h;lia
 | m+1,st,y,h=>by
   rw[jh] at h
   obtain⟨p,o,q,e,h1,h2⟩:=qu h
   obtain⟨c,st'⟩:=o
   have mo:=fN (u:=u) (A:=A) (st:=st) (c:=c) (t:=st') (by rw[e];simp)
   obtain⟨t,tl,ht⟩:=nG (u:=u) hA m st' (y-(p.map fun o=>fw u A m o.2).sum) (by simp only at h2;lia)
   refine⟨c::t,by simp[tl],?_⟩
   rw[u8 mo.1 mo.2 ht,tl,qz hA e]
   congr 1
   lia
theorem mV{u A:List Nat}:∀{t t':List Nat} {st:Nat×Nat} {n:Nat},t.length=t'.length→an u A t st=some n→an u A t' st=some n→t=t'
 | [],[],_,_,_,_,_=>rfl
 | c::t,c'::t',st,n,hl,h,h'=>by
   have hl':t.length=t'.length:=by simpa using hl
   obtain⟨s1,k1,a1,b1,d1,e1⟩:=gc h
   obtain⟨s2,k2,a2,b2,d2,e2⟩:=gc h'
   have l1:=ii d1
   have l2:=ii d2
   have far:∀{c c':Nat} {s:Nat×Nat} {m:Nat},c<c'→c∈A→nx u st c=some s→bt u A st c m+fw u A m s≤bt u A st c' m:=fun{c c' s m} hc ca hn=>by
    have s:=jY (fun o:Nat×(Nat×Nat)=>if o.1<c' then fw u A m o.2 else 0) (fun o=>o.1<c) (lw ca hn) (Nat.lt_irrefl c)
    have e:((aK u A st).map fun o=>if o.1<c then(if o.1<c' then fw u A m o.2 else 0) else 0).sum=bt u A st c m:=mz fun o _=>by
     by_cases q:o.1<c
     ·rw[if_pos q,if_pos q,if_pos (by lia)]
     ·rw[if_neg q,if_neg q]
    simp only at s
    rw[e,if_pos hc] at s
    exact s
   rcases Nat.lt_trichotomy c c' with q | q | q
   ·have:=far (m:=t.length) q a1 b1
    rw[←hl'] at e2
    lia
   ·subst q
    rw[b1] at b2
    obtain rfl:=Option.some.inj b2
    rw[←hl'] at e2
    have ek:k1=k2:=by lia
    subst ek
    rw[mV hl' d1 d2]
   ·have:=far (m:=t'.length) q a2 b2
    rw[hl'] at e1
    lia
structure Exs(K:PySem.W.Frag)(mg:Str→Option Value)(cCoverError cNoWord cNoSign cNoText cNoCover cNoChain cNoForm cNoNumber cNoneYet cTooMany:Addr):Prop where
 bCoverError:mg "CoverError"=some (.ref cCoverError)
 bNoWord:mg "NoWord"=some (.ref cNoWord)
 bNoSign:mg "NoSign"=some (.ref cNoSign)
 bNoText:mg "NoText"=some (.ref cNoText)
 bNoCover:mg "NoCover"=some (.ref cNoCover)
 bNoChain:mg "NoChain"=some (.ref cNoChain)
 bNoForm:mg "NoForm"=some (.ref cNoForm)
 bNoNumber:mg "NoNumber"=some (.ref cNoNumber)
 bNoneYet:mg "NoneYet"=some (.ref cNoneYet)
 bTooMany:mg "TooMany"=some (.ref cTooMany)
 nValueError:mg "ValueError"=none
 facts:excFacts K cCoverError [cNoWord,cNoSign,cNoText,cNoCover,cNoChain,cNoForm,cNoNumber,cNoneYet,cTooMany]=true
 nd:[cNoWord,cNoSign,cNoText,cNoCover,cNoChain,cNoForm,cNoNumber,cNoneYet,cTooMany].Nodup
theorem exs_mk{K:PySem.W.Frag}{mg:Str→Option Value}{c0 c1 c2 c3 c4 c5 c6 c7 c8 c9:Addr}(M:Md K mg)(a0:PySem.W.nsIn K mainGlobals "CoverError"=some (some (.ref c0)))(a1:PySem.W.nsIn K mainGlobals "NoWord"=some (some (.ref c1)))(a2:PySem.W.nsIn K mainGlobals "NoSign"=some (some (.ref c2)))(a3:PySem.W.nsIn K mainGlobals "NoText"=some (some (.ref c3)))(a4:PySem.W.nsIn K mainGlobals "NoCover"=some (some (.ref c4)))(a5:PySem.W.nsIn K mainGlobals "NoChain"=some (some (.ref c5)))(a6:PySem.W.nsIn K mainGlobals "NoForm"=some (some (.ref c6)))(a7:PySem.W.nsIn K mainGlobals "NoNumber"=some (some (.ref c7)))(a8:PySem.W.nsIn K mainGlobals "NoneYet"=some (some (.ref c8)))(a9:PySem.W.nsIn K mainGlobals "TooMany"=some (some (.ref c9)))(av:PySem.W.nsIn K mainGlobals "ValueError"=some none)(f:excFacts K c0 [c1,c2,c3,c4,c5,c6,c7,c8,c9]=true)(nd:[c1,c2,c3,c4,c5,c6,c7,c8,c9].Nodup):Exs K mg c0 c1 c2 c3 c4 c5 c6 c7 c8 c9:=
 ⟨M.ns _ _ a0,M.ns _ _ a1,M.ns _ _ a2,M.ns _ _ a3,M.ns _ _ a4,M.ns _ _ a5,M.ns _ _ a6,M.ns _ _ a7,M.ns _ _ a8,M.ns _ _ a9,M.ns _ _ av,f,nd⟩
abbrev jw:Stmt:=aS 41
abbrev kY:Stmt:=aS 42
def eR(at_:Nat):List Bool:=(List.range 10).map fun k=>(k == at_) || (k == 9)
def qW(D:Addr):Sp:=fun vs H Q _=>∃(e:Addr),vs=[.ref e]∧H e=some (.ext (bS e (.ref D)))∧∀(r:Addr) (H':Hp),H r=none→H' r=some (.lst ((eR 5).map V.bl))→Same H H'→Q (.ref r) H'
def nC:Sp:=fun vs H Q _=>∃j:Nat,j<9∧vs=[.int (j:Int)]∧∀(r:Addr) (H':Hp),H r=none→H' r=some (.lst ((eR j).map V.bl))→Same H H'→Q (.ref r) H'
theorem bQ{te:TE}{i:Nat}{aq:TS}{D:Ends}{σ:St}{H:Hp}(h:te σ H fun x H1=>aq D (σ.set i (some x)) H1):dY (eC te (cC i)) aq D σ H:=h
section
variable{P:Program}{w:World}{K:PySem.W.Frag}{mg:Str→Option Value}{base:Heap}{cCoverError cNoWord cNoSign cNoText cNoCover cNoChain cNoForm cNoNumber cNoneYet cTooMany:Addr}
theorem scFlags:FnScope ["e","found"] ["e"] (ar jw):=fsc_
theorem vV(M:Md K mg)(B:Bl mg)(F:FF K "_law_flags" jw)(S:Exs K mg cCoverError cNoWord cNoSign cNoText cNoCover cNoChain cNoForm cNoNumber cNoneYet cTooMany):FnH P w K mg base "_law_flags" 1 ["e"] (qW cNoNumber):=by
 obtain⟨bCoverError,bNoWord,bNoSign,bNoText,bNoCover,bNoChain,bNoForm,bNoNumber,bNoneYet,bTooMany,nValueError,facts,nd⟩:=S
 refine zG M F scFlags (fun _ _ _ _ _ _=>bJ fun _=>rfl) (fun vs H Q E h=>?_) (fun f cdv A outer s H vs Q hr h=>?_)
 ·obtain⟨e,rfl,_⟩:=h;rfl
 ·obtain⟨e,rfl,hH,k⟩:=h
  have hF:=excFacts.of facts cNoNumber (by simp)
  have efl:[cNoNumber == cNoWord,cNoNumber == cNoSign,cNoNumber == cNoText,cNoNumber == cNoChain,cNoNumber == cNoCover,cNoNumber == cNoNumber,cNoNumber == cTooMany,cNoNumber == cNoForm,cNoNumber == cNoneYet,true]=eR 5:=by
   have ne:∀x y:Addr,x≠y→(x == y)=false:=fun x y q=>beq_eq_false_iff_ne.mpr q
   simp only[List.nodup_cons,List.mem_cons,List.not_mem_nil,or_false,not_or] at nd
   obtain⟨⟨_,_,_,_,_,a6,_⟩,⟨_,_,_,_,b5,_⟩,⟨_,_,_,c4,_⟩,⟨_,_,d3,_⟩,⟨_,e2,_⟩,⟨f1,_⟩,⟨g1,g2⟩,_⟩:=nd
   rw[ne _ _ (Ne.symm a6),ne _ _ (Ne.symm b5),ne _ _ (Ne.symm c4),ne _ _ (Ne.symm e2),ne _ _ (Ne.symm d3),beq_self_eq_true,ne _ _ g2,ne _ _ (Ne.symm f1),ne _ _ g1];rfl
  refine⟨_,(ae (am (i:=1) scFlags.nd rfl (.inl rfl) (bb (aa (dA B.isinst bNoWord (pv 0)) (aa (dA B.isinst bNoSign (pv 0)) (aa (dA B.isinst bNoText (pv 0)) (aa (dA B.isinst bNoChain (pv 0)) ac))))))
   (ae (am (i:=1) scFlags.nd rfl (.inl rfl) (ap cX (pv 1) (bb (aa (dA B.isinst bNoCover (pv 0)) (aa (dA B.isinst bNoNumber (pv 0)) (aa (dA B.isinst bTooMany (pv 0)) ac))))))
   (ao (aJ (ap cX (pv 1) (bb (aa (dA B.isinst bNoForm (pv 0)) (aa (dA B.isinst bNoneYet (pv 0)) (aa (rQ B.isinst nValueError t8 (pv 0)) ac))))))))),?_⟩
  refine bQ ?_
  refine⟨_,rfl,e,cNoNumber,_,rfl,hH,hF.kit,hF.one cNoWord (by simp),_,rfl,e,cNoNumber,_,rfl,hH,hF.kit,hF.one cNoSign (by simp),_,rfl,e,cNoNumber,_,rfl,hH,hF.kit,hF.one cNoText (by simp),_,rfl,e,cNoNumber,_,rfl,hH,hF.kit,hF.one cNoChain (by simp),by show 4≤sizeLine;decide,fun l hl=>?_⟩
  have s1:=Same.upd (o:=.lst [V.bl (cNoNumber == cNoWord),.bl (cNoNumber == cNoSign),.bl (cNoNumber == cNoText),.bl (cNoNumber == cNoChain)]) hl
  have hl1:=ad (H:=H) (a:=l) (o:=.lst [V.bl (cNoNumber == cNoWord),.bl (cNoNumber == cNoSign),.bl (cNoNumber == cNoText),.bl (cNoNumber == cNoChain)])
  generalize L2.upd H l (.lst [V.bl (cNoNumber == cNoWord),.bl (cNoNumber == cNoSign),.bl (cNoNumber == cNoText),.bl (cNoNumber == cNoChain)])=H2 at s1 hl1 ⊢
  have hH2:=s1 _ _ hH
  refine bQ ?_
  refine⟨_,rfl,_,rfl,e,cNoNumber,_,rfl,hH2,hF.kit,hF.one cNoCover (by simp),_,rfl,e,cNoNumber,_,rfl,hH2,hF.kit,hF.one cNoNumber (by simp),_,rfl,e,cNoNumber,_,rfl,hH2,hF.kit,hF.one cTooMany (by simp),by show 3≤sizeLine;decide,fun l2 hl2=>?_⟩
  have s2:=Same.upd (o:=.lst [V.bl (cNoNumber == cNoCover),.bl (cNoNumber == cNoNumber),.bl (cNoNumber == cTooMany)]) hl2
  have hl22:=ad (H:=H2) (a:=l2) (o:=.lst [V.bl (cNoNumber == cNoCover),.bl (cNoNumber == cNoNumber),.bl (cNoNumber == cTooMany)])
  generalize L2.upd H2 l2 (.lst [V.bl (cNoNumber == cNoCover),.bl (cNoNumber == cNoNumber),.bl (cNoNumber == cTooMany)])=H3 at s2 hl22 ⊢
  refine⟨l,l2,_,_,rfl,rfl,s2 _ _ hl1,hl22,by show 7≤sizeLine;decide,fun l3 hl3=>?_⟩
  have s3:=Same.upd (o:=.lst ([V.bl (cNoNumber == cNoWord),.bl (cNoNumber == cNoSign),.bl (cNoNumber == cNoText),.bl (cNoNumber == cNoChain)]++[V.bl (cNoNumber == cNoCover),.bl (cNoNumber == cNoNumber),.bl (cNoNumber == cTooMany)])) hl3
  have hl33:=ad (H:=H3) (a:=l3) (o:=.lst ([V.bl (cNoNumber == cNoWord),.bl (cNoNumber == cNoSign),.bl (cNoNumber == cNoText),.bl (cNoNumber == cNoChain)]++[V.bl (cNoNumber == cNoCover),.bl (cNoNumber == cNoNumber),.bl (cNoNumber == cTooMany)]))
  generalize L2.upd H3 l3 (.lst ([V.bl (cNoNumber == cNoWord),.bl (cNoNumber == cNoSign),.bl (cNoNumber == cNoText),.bl (cNoNumber == cNoChain)]++[V.bl (cNoNumber == cNoCover),.bl (cNoNumber == cNoNumber),.bl (cNoNumber == cTooMany)]))=H4 at s3 hl33 ⊢
  have hH4:=s3 _ _ (s2 _ _ hH2)
  refine⟨_,rfl,_,rfl,e,cNoNumber,_,rfl,hH4,hF.kit,hF.one cNoForm (by simp),_,rfl,e,cNoNumber,_,rfl,hH4,hF.kit,hF.one cNoneYet (by simp),_,rfl,e,cNoNumber,_,rfl,hH4,hF.kit,hF.val,by show 3≤sizeLine;decide,fun l4 hl4=>?_⟩
  have s4:=Same.upd (o:=.lst [V.bl (cNoNumber == cNoForm),.bl (cNoNumber == cNoneYet),.bl true]) hl4
  have hl44:=ad (H:=H4) (a:=l4) (o:=.lst [V.bl (cNoNumber == cNoForm),.bl (cNoNumber == cNoneYet),.bl true])
  generalize L2.upd H4 l4 (.lst [V.bl (cNoNumber == cNoForm),.bl (cNoNumber == cNoneYet),.bl true])=H5 at s4 hl44 ⊢
  refine⟨l3,l4,_,_,rfl,rfl,s4 _ _ hl33,hl44,by show 10≤sizeLine;decide,fun l5 hl5=>?_⟩
  have s14:=((s1.trans s2).trans s3).trans s4
  refine k l5 _ (s14.free hl5) ?_ (s14.trans (Same.upd hl5))
  rw[ad,←efl]
  rfl
theorem sR:FnScope ["at"] ["at"] (ar kY):=fsc_
theorem tD(M:Md K mg)(B:Bl mg)(F:FF K "_law_due_flags" kY):Fn P w K mg base ai "_law_due_flags" 1 ["at"] nC:=by
 refine aV M F sR (fun _ _ _ _ _ _=>bJ fun _=>rfl) (fun vs H Q E h=>?_) (fun f cdv A outer s H vs Q E hr h=>?_)
 ·obtain⟨j,_,rfl,_⟩:=h;rfl
 ·obtain⟨j,hj,rfl,k⟩:=h
  refine⟨_,(ao (aJ (cY ["at"] rfl (dR (by rfl) B.range (aa af ac)) (fun _=>by exact df) (fun _=>by exact(fY w5 (pv 1) (cQ (aa (pv 0) (aa af ac))) (by with_unfolding_all rfl)))))),?_⟩
  refine⟨10,rfl,by decide,by decide,fun D hD cb=>?_⟩
  refine eD (lo:=0) (n:=10) (fun i ys H2=>ys=((List.range i).map fun k=>(k == j) || (k == 9)).map V.bl∧Same H H2∧H2 D=some (.lst ys)) (by decide) ?_ ?_ ?_ ?_
  ·exact⟨rfl,Same.upd hD,ad⟩
  ·rintro i ys H2 ⟨rfl,_⟩;simp
  ·rintro i ys H2 hi ⟨rfl,s2,hD2⟩
   refine dh ?_
   refine⟨_,rfl,_,rfl,by show 2≤sizeLine;decide,fun tp htp=>?_⟩
   have s3:=Same.upd (o:=.tup [V.int (j:Int),.int 9]) htp
   refine⟨tp,_,rfl,.inr (SqT.of ad),rfl,rfl,s3 _ _ hD2,?_,fun z o e=>?_,ad⟩
   ·rw[List.range_succ,List.map_append,List.map_append]
    congr 2
    show V.bl (gA (.int (0+(i:Int))) [.int (j:Int),.int 9])=V.bl ((i == j) || (i == 9))
    congr 1
    simp only[gA,List.any_cons,List.any_nil,Bool.or_false]
    have e1:cG (.int (j:Int)) (.int (0+(i:Int)))=(i == j):=by
     show decide ((j:Int)=0+(i:Int))=_
     by_cases h:i=j
     ·subst h;simp
     ·rw[decide_eq_false (by lia)];exact(beq_eq_false_iff_ne.mpr h).symm
    have e2:cG (.int 9) (.int (0+(i:Int)))=(i == 9):=by
     show decide ((9:Int)=0+(i:Int))=_
     by_cases h:i=9
     ·subst h;rfl
     ·rw[decide_eq_false (by lia)];exact(beq_eq_false_iff_ne.mpr h).symm
    rw[e1,e2]
   ·rw[ah (aD e hD)]
    exact s3 _ _ (s2 _ _ e)
  ·rintro ys H2 ⟨rfl,s2,hD2⟩
   exact k D H2 hD hD2 s2
end
abbrev jN:Stmt:=aS 43
def nX:Sp:=fun vs H Q _=>∃(r f l:Addr) (o:Obj) (u A t:List Nat) (es:List ((Nat×Nat)×Addr)) (ds:List Addr) (n:Nat),vs=[.ref r,.int (t.length:Int),.int (n:Int)]∧H r=some (.tup [.ref f,.ref l])∧H f=some (.frz o (.dT (aM es)))∧A.Pairwise (·< ·)∧Stps u A H es∧H l=some (.lst (ds.map V.ref))∧t.length≤ds.length-1∧1≤ds.length∧(∀(j:Nat) (d:Addr),ds[j]?=some d→H d=some (.dT (bD u A es j)))∧A.length≤26∧t.length≤1000∧
 an u A t (0,0)=some n∧∀(v:Addr) (H':Hp),H v=none→H' v=some (.lst (t.map sg))→Same H H'→Q (.ref v) H'
section
variable{P:Program}{w:World}{K:PySem.W.Frag}{mg:Str→Option Value}{base:Heap}
theorem scDueL:FnScope ["counts","length","number","steps","rows","state","found","left","choice","sign","behind","many"] ["counts","length","number"] (ar jN):=fsc_
theorem t5(M:Md K mg)(B:Bl mg)(F:FF K "_law_due" jN):Fn P w K mg base ai "_law_due" 1 ["counts","length","number"] nX:=by
 refine aV M F scDueL (fun _ _ _ _ _ _=>cT fun _ _ _=>rfl) (fun vs H Q E h=>?_) (fun f cdv A outer s H vs Q E hr h=>?_)
 ·obtain⟨r,f,l,o,u,A,t,es,ds,n,rfl,_⟩:=h;rfl
 ·obtain⟨r,f,l,o,u,Al,t,es,ds,n,rfl,hr0,hf,Ari,St,hl,tl,dl,hds,Al26,t9,han,k⟩:=h
  refine⟨_,(ae (eG (pv 0) (fi rfl (cf (ba (i:=3) scDueL.nd rfl (.inl rfl)) (cf (ba (i:=4) scDueL.nd rfl (.inl rfl)) fq))))
   (ae (am (i:=5) scDueL.nd rfl (.inl rfl) (cQ (aa af (aa af ac))))
   (ae (am (i:=6) scDueL.nd rfl (.inl rfl) (bb ac))
   (ae (cm PassesOwn.never rfl (ww B.range (aa (ap aZ (pv 1) af) (aa (j7 kz af) (aa (j7 kz af) ac)))) (ba (i:=7) scDueL.nd rfl (.inl rfl))
   (ae (am (i:=8) scDueL.nd rfl (.inl rfl) eU)
   (ae (cm PassesOwn.never rfl (ck (fe (by exact dw hr) (pv 3) (pv 5) (fun _ _=>rfl))) (fi rfl (cf (ba (i:=9) scDueL.nd rfl (.inl rfl)) (cf (ba (i:=10) scDueL.nd rfl (.inl rfl)) fq)))
   (ae (am (i:=11) scDueL.nd rfl (.inl rfl) (fe (by exact dw hr) (aO aU (pv 4) (pv 7) (fun _ _=>rfl)) (pv 10) (fun _ _=>rfl)))
   (ae (br (PW.pt (ox (aL oa (pv 8) eU (aI _)) (nZ (aL iO (pv 2) (pv 11) (aI _))))) (ao (am (i:=8) scDueL.nd rfl (.inl rfl) (cQ (aa (pv 9) (aa (pv 10) ac))))) bq)
   (ao (br (aL oa (pv 8) eU (aI _)) (ao (am (i:=2) scDueL.nd rfl (.inl rfl) (ap aZ (pv 2) (pv 11)))) bq)))))
   (ae (bf (cI PySem.F.plainAttrs_list PySem.F.slot_list_append PySem.F.type_list_append dJ (pv 6) (aa (aO fM (pv 8) af (fun _ _=>rfl)) ac)))
   (ao (am (i:=5) scDueL.nd rfl (.inl rfl) (aO fM (pv 8) af (fun _ _=>rfl))))))))
   (ao (aJ (pv 6))))))),?_⟩
  refine⟨_,rfl,r,_,rfl,SqT.of hr0,rfl,_,_,rfl,_,_,rfl,rfl,?_⟩
  refine⟨(by show 2≤sizeLine;decide),fun s0 hs0=>?_⟩
  have s1:=Same.upd (o:=.tup [.int 0,.int 0]) hs0
  have hs1:cy (L2.upd H s0 (.tup [.int 0,.int 0])) s0 (0,0):=ad
  generalize L2.upd H s0 (.tup [.int 0,.int 0])=H1 at s1 hs1 ⊢
  refine⟨Nat.zero_le _,fun fo hfo=>?_⟩
  have fo0:H fo=none:=s1.free hfo
  have s2:=s1.trans (Same.upd (o:=.lst []) hfo)
  have hs2:cy (L2.upd H1 fo (.lst [])) s0 (0,0):=(Same.upd (o:=.lst []) hfo) _ _ hs1
  have hfo2:=ad (H:=H1) (a:=fo) (o:=.lst [])
  generalize L2.upd H1 fo (.lst [])=H2 at s2 hs2 hfo2 ⊢
  have val:∀(H2:Hp),Same H H2→∀(j:Nat) (st:Nat×Nat) (tb:Addr),j<ds.length→st∈es.map (·.1)→cy H2 tb st→∃d,ds[j]?=some d∧DGet H2 d (.ref tb) (some (.int ((fw u Al j st:Nat):Int))):=fun H2 s2 j st tb hj hst htb=>by
   refine⟨ds[j],List.getElem?_eq_getElem hj,?_⟩
   rw[←lI (k:=j) St.nd hst]
   exact DGet.t (k:=aP st) (s2 _ _ (hds j _ (List.getElem?_eq_getElem hj))) htb
  refine⟨_,rfl,_,_,rfl,rfl,1,rfl,1,rfl,t.length,rfl,by lia,vO (n:=t.length) (fun k2 σ H3=>∃(sa:Addr) (st:Nat×Nat) (num:Nat) (v7 v8 v9 v10 v11:Option V),σ=[some (.ref r),some (.int (t.length:Int)),some (.int (num:Int)),some (.ref f),some (.ref l),some (.ref sa),some (.ref fo),v7,v8,v9,v10,v11]∧Same H H3∧H3 fo=some (.lst ((t.take k2).map sg))∧cy H3 sa st∧st∈es.map (·.1)∧an u Al (t.drop k2) st=some num) ?_ ?_ ?_⟩
  ·exact⟨s0,(0,0),n,none,none,none,none,none,rfl,s2,by rw[List.take_zero];exact hfo2,hs2,St.z,by rw[List.drop_zero];exact han⟩
  ·rintro D2 k2 σ H3 nx2 kl ⟨sa,st,num,v7,v8,v9,v10,v11,rfl,s3,hfo3,hsa,stm,hnum⟩
   obtain⟨c,hc⟩:∃c,c=t[k2]:=⟨_,rfl⟩
   have tk:t.drop k2=c::t.drop (k2+1):=by rw[List.drop_eq_getElem_cons kl,hc]
   have lk:(t.drop (k2+1)).length=t.length-k2-1:=by rw[List.length_drop];lia
   rw[tk] at hnum
   obtain⟨st',kk,p,q,eo,en,hk',hlt,cA,hnx⟩:=sC Ari hnum
   rw[lk] at en hlt
   obtain⟨e,em,ee⟩:=List.mem_map.mp stm
   have vv:bo (aM es) (aP st)=some (V.ref e.2):=by
    have:=fF (es:=es) (f:=fun e:(Nat×Nat)×Addr=>V.ref e.2) (g:=fun e:(Nat×Nat)×Addr=>e.1) (st:=e.1)
    unfold aM
    rw[←ee,this,iM (g:=fun e:(Nat×Nat)×Addr=>e.1) St.nd em];rfl
   obtain⟨qs,hq,hqs⟩:=St.row e em
   rw[ee] at hqs
   have ql:=hqs.length
   have hleft:((t.length:Int)-1)-(k2:Int)=((t.length-k2-1:Nat):Int):=by lia
   rw[hleft]
   obtain⟨j,hj⟩:∃j,j=t.length-k2-1:=⟨_,rfl⟩
   rw[←hj] at en hlt ⊢
   have jds:j<ds.length:=by lia
   refine⟨_,rfl,_,rfl,f,.ref e.2,rfl,(by rw[←vv];exact DGet.f (k:=aP st) (s3 _ _ hf) hsa),e.2,rfl,⟨_,SqL.of (s3 _ _ hq)⟩,?_⟩
   refine gZ (K:=K) (a:=e.2) (xs:=qs.map V.ref) (fun i σ H4=>∃(ch:V) (num2:Nat) (v9 v10 v11:Option V),σ=[some (.ref r),some (.int (t.length:Int)),some (.int (num2:Int)),some (.ref f),some (.ref l),some (.ref sa),some (.ref fo),some (.int (j:Int)),some ch,v9,v10,v11]∧Same H3 H4∧((i≤p.length∧ch=.non∧num2=((p.drop i).map fun o=>fw u Al j o.2).sum+kk)∨(p.length<i∧num2=kk∧∃ca tb,ch=.ref ca∧H4 ca=some (.tup [sg c,.ref tb])∧cy H4 tb st'))) ?_ ?_ ?_ ?_
   ·exact⟨.non,num,_,_,_,rfl,fun _ _ h=>h,.inl ⟨Nat.zero_le _,rfl,by rw[List.drop_zero];exact en⟩⟩
   ·rintro i σ H4 _ ⟨_,_,_,_,_,_,s4,_⟩
    exact SqL.of (s4 _ _ (s3 _ _ hq))
   ·rintro i x σ H4 hx4 ⟨ch,num2,w9,w10,w11,rfl,s4,hch⟩
    rw[List.getElem?_map] at hx4
    cases qq:qs[i]? with
    | none=>rw[qq] at hx4;cases hx4
    | some p2=>
      rw[qq] at hx4
      obtain rfl:=Option.some.inj hx4
      obtain⟨oo,ho,tb,g1,g2⟩:=fQ hqs qq
      have s34:=s3.trans s4
      have G1:=s34 _ _ g1
      have G2:=s34 _ _ g2
      have mo:=fN (List.mem_of_getElem? ho)
      have tin:oo.2∈es.map (·.1):=St.cl st stm oo.1 mo.1 oo.2 mo.2
      refine⟨p2,_,rfl,SqT.of G1,rfl,_,_,rfl,_,_,rfl,rfl,?_⟩
      obtain⟨d,hd,dg⟩:=val H4 s34 j oo.2 tb jds tin G2
      have hat:bc (ds.map V.ref) (j:Int)=some (.ref d):=cM (by rw[List.getElem?_map,hd];rfl)
      refine bQ ⟨_,rfl,_,rfl,l,_,_,.ref d,rfl,rfl,SqL.of (s34 _ _ hl),hat,_,rfl,d,_,rfl,dg,?_⟩
      rw[eo] at ho
      rcases hch with⟨ip,rfl,e2⟩ | ⟨ip,e2,ca,tb',rfl,hca,htb'⟩
      ·by_cases il:i<p.length
       ·rw[List.getElem?_append_left il] at ho
        obtain⟨_,eoo⟩:=List.getElem?_eq_some_iff.mp ho
        rw[List.drop_eq_getElem_cons il,eoo,List.map_cons,List.sum_cons] at e2
        refine fR (fun σ' H'=>σ'=[some (.ref r),some (.int (t.length:Int)),some (.int (num2:Int)),some (.ref f),some (.ref l),some (.ref sa),some (.ref fo),some (.int (j:Int)),some .non,some (sg oo.1),some (.ref tb),some (.int ((fw u Al j oo.2:Nat):Int))]∧H'=H4) ?_ fun R hR=>?_
        ·rintro σ' H' ⟨rfl,rfl⟩
         refine⟨_,rfl,rfl,_,rfl,aY ⟨_,rfl,_,rfl,_,_,rfl,rfl,?_⟩⟩
         have e3:((num2:Int)-((fw u Al j oo.2:Nat):Int))=((((p.drop (i+1)).map fun o=>fw u Al j o.2).sum+kk:Nat):Int):=by lia
         exact⟨.non,((p.drop (i+1)).map fun o=>fw u Al j o.2).sum+kk,_,_,_,by rw[←e3];rfl,s4,.inl ⟨il,rfl,rfl⟩⟩
        ·refine⟨_,rfl,rfl,_,rfl,aY ⟨_,rfl,_,rfl,_,_,rfl,rfl,_,rfl,?_⟩⟩
         rw[decide_eq_false (by lia)]
         exact aX (hR _ _ ⟨rfl,rfl⟩)
       ·have ie:i=p.length:=by lia
        subst ie
        rw[List.getElem?_append_right (Nat.le_refl _),Nat.sub_self] at ho
        have eoo:oo=(c,st'):=(Option.some.inj ho).symm
        subst eoo
        rw[List.drop_length,List.map_nil,List.sum_nil,Nat.zero_add] at e2
        subst e2
        refine fR (fun σ' H'=>∃ca,σ'=[some (.ref r),some (.int (t.length:Int)),some (.int (num2:Int)),some (.ref f),some (.ref l),some (.ref sa),some (.ref fo),some (.int (j:Int)),some (.ref ca),some (sg c),some (.ref tb),some (.int ((fw u Al j st':Nat):Int))]∧Same H4 H'∧H' ca=some (.tup [sg c,.ref tb])) ?_ fun R hR=>?_
        ·rintro σ' H' ⟨ca,rfl,s5,hca⟩
         refine⟨_,rfl,rfl,_,rfl,aX ?_⟩
         exact⟨.ref ca,num2,_,_,_,rfl,s4.trans s5,.inr ⟨Nat.lt_succ_self _,rfl,ca,tb,rfl,hca,s5 _ _ G2⟩⟩
        ·refine⟨_,rfl,rfl,_,rfl,aY ⟨_,rfl,_,rfl,_,_,rfl,rfl,_,rfl,?_⟩⟩
         rw[decide_eq_true (show(num2:Int)<((fw u Al j st':Nat):Int) by lia)]
         refine aY ⟨_,rfl,_,rfl,(by show 2≤sizeLine;decide),fun ca hca=>?_⟩
         exact hR _ _ ⟨ca,rfl,Same.upd hca,ad⟩
      ·refine fR (fun σ' H'=>σ'=[some (.ref r),some (.int (t.length:Int)),some (.int (num2:Int)),some (.ref f),some (.ref l),some (.ref sa),some (.ref fo),some (.int (j:Int)),some (.ref ca),some (sg oo.1),some (.ref tb),some (.int ((fw u Al j oo.2:Nat):Int))]∧H'=H4) ?_ fun R hR=>?_
       ·rintro σ' H' ⟨rfl,rfl⟩
        refine⟨_,rfl,rfl,_,rfl,aX ?_⟩
        exact⟨.ref ca,num2,_,_,_,rfl,s4,.inr ⟨by lia,e2,ca,tb',rfl,hca,htb'⟩⟩
       ·refine⟨_,rfl,rfl,_,rfl,aX ?_⟩
        exact hR _ _ ⟨rfl,rfl⟩
   ·rintro σ H4 ⟨ch,num2,w9,w10,w11,rfl,s4,hch⟩
    have ol:(qs.map V.ref).length=p.length+1+q.length:=by rw[List.length_map,ql,eo];simp;lia
    rw[ol] at hch
    rcases hch with⟨ip,_⟩ | ⟨_,e2,ca,tb',rfl,hca,htb'⟩
    ·lia
    have s34:=s3.trans s4
    have hfo4:=s4 _ _ hfo3
    refine⟨_,rfl,.inl ⟨rfl,_,SqL.of hfo4⟩,_,rfl,ca,_,_,_,rfl,rfl,SqT.of hca,rfl,fo,_,_,rfl,rfl,hfo4,by rw[List.length_map,List.length_take];exact Nat.le_of_lt (bn (by lia)),?_⟩
    have nca:ca≠fo:=bh hca hfo4 fun z=>nomatch z
    have ntb:tb'≠fo:=bh htb' hfo4 fun z=>nomatch z
    refine⟨_,rfl,ca,_,_,_,rfl,rfl,SqT.of (by rw[ah nca];exact hca),rfl,?_⟩
    refine nx2 _ _ ⟨tb',st',num2,_,_,_,_,_,rfl,fun a o' x=>by rw[ah (aD x fo0)];exact s34 _ _ x,?_,by show(L2.upd H4 fo _) tb'=_;rw[ah ntb];exact htb',St.cl st stm c cA st' hnx,by rw[e2];exact hk'⟩
    rw[ad,List.take_add_one,List.getElem?_eq_getElem kl,←hc,List.map_append];rfl
  ·rintro σ H3 ⟨sa,st,num,v7,v8,v9,v10,v11,rfl,s3,hfo3,hsa,stm,hnum⟩
   rw[List.take_length] at hfo3
   exact⟨_,rfl,k fo H3 fo0 hfo3 s3⟩
end
abbrev j8:Stmt:=aS 44
theorem uH{K:PySem.W.Frag}{C:Addr}{i:Nat}{tb:St→XK→TS}{th aq:TS}{D:Ends}{σ:St}{H:Hp}(T:St→Hp→Prop)(hr:∀σ' H',T σ' H'→aq D σ' H')(h:∀R:St→Hp→Prop,(∀σ' H',T σ' H'→R σ' H')→gH K C i tb th {D with nx:=R} σ H):dY (gH K C i tb th) aq D σ H:=h (aq D) hr
theorem tR{K:PySem.W.Frag}{C:Addr}{i:Nat}{tb:St→XK→TS}{th:TS}{D:Ends}{σ:St}{H:Hp}(Ex:XK)(hEx:∀cls o H',Ex cls o H'→PySem.W.exmOne K cls (.ref C)=some true∧∀e,H' e=none→th (D.drop i) (σ.set i (some (.ref e))) (L2.upd H' e (.ext (bS e cls))))(hb:∀Ex':XK,(∀cls o H',Ex cls o H'→Ex' cls o H')→tb σ Ex' D σ H):gH K C i tb th D σ H:=hb _ hEx
theorem wm{v:V}{i:Nat}{aq:TS}{D:Ends}{σ:St}{H:Hp}(h:aq D (σ.set i (some v)) H):dY (eC (tC v) (cC i)) aq D σ H:=h
theorem TB.kfree{H H':Hp}{pt r:Addr}(k:Keep pt H H')(T:TB H' pt)(h:H' r=none):H r=none:=by
 cases e:H r with
 | none=>rfl
 | some o=>
   exfalso
   by_cases z:r=pt
   ·subst z
    rcases T with t | ⟨_,t,_⟩ <;> (rw[h] at t;cases t)
   ·have:=k _ _ e z
    rw[h] at this;cases this
def lY(pt:Addr):Sp:=fun vs H Q _=>∃(b:Addr) (u:List Nat) (n:Nat) (x:Int),vs=[.ref b,.int (n:Int),.int x]∧H b=some (.lst (u.map sg))∧Low u∧1≤u.length∧u.length≤400∧1≤n∧n≤200∧TB H pt∧
 (¬(0≤x∧x<(aG u n:Nat))→∀(r:Addr) (H':Hp),H r=none→H' r=some (.lst ((eR 5).map V.bl))→Keep pt H H'→TB H' pt→Q (.ref r) H')∧
 (∀y:Nat,x=(y:Int)→y<aG u n→∀(r:Addr) (S ds:List Nat) (H':Hp),H r=none→Stp u S→(∀d∈ds,d∈S)→u.length+ds.sum=n→rk S u.length ds=y→H' r=some (.lst ((tx u ds).map sg))→Keep pt H H'→TB H' pt→Q (.ref r) H')
section
variable{P:Program}{w:World}{K:PySem.W.Frag}{mg:Str→Option Value}{base:Heap}{cCoverError cNoWord cNoSign cNoText cNoCover cNoChain cNoForm cNoNumber cNoneYet cTooMany:Addr}
theorem scSaid:FnScope ["word","length","number","found","e"] ["word","length","number"] (ar j8):=fsc_
theorem uT{pt:Addr}(M:Md K mg)(B:Bl mg)(F:FF K "_law_said" j8)(S:Exs K mg cCoverError cNoWord cNoSign cNoText cNoCover cNoChain cNoForm cNoNumber cNoneYet cTooMany)(Ftext_at:Fn P w K mg base (bw P w) "text_at" 7 ["word","length","number"] (fun vs H Q E=>oF pt vs H Q E∨qQ pt cNoNumber vs H Q E))
 (F_law_flags:FnH P w K mg base "_law_flags" 1 ["e"] (qW cNoNumber)):Fn P w K mg base ai "_law_said" 8 ["word","length","number"] (lY pt):=by
 have bCoverError:=S.bCoverError
 have hF:=excFacts.of S.facts cNoNumber (by simp)
 refine aV M F scSaid (fun _ _ _ _ _ _=>cT fun _ _ _=>rfl) (fun vs H Q E h=>?_) (fun f cdv A outer s H vs Q E hr h=>?_)
 ·obtain⟨b,u,n,x,rfl,_⟩:=h;rfl
 ·obtain⟨b,u,n,x,rfl,hb,lu,u1,ul,n1,n2,T,k1,k2⟩:=h
  refine⟨_,(ae (am (i:=3) scSaid.nd rfl (.inl rfl) eU)
   (ae (zw (i:=4) bCoverError scSaid.nd rfl rfl (fun _ _ _=>by exact(ao (am (i:=3) scSaid.nd rfl (.inl rfl) (xZ Ftext_at hr (aa (pv 0) (aa (pv 1) (aa (pv 2) ac)))))))
   (fun _ _=>by exact(ao (am (i:=3) scSaid.nd rfl (.inl rfl) (sL F_law_flags (xh hr) (aa (pv 4) ac))))))
   (ao (aJ (pv 3))))),?_⟩
  refine wm ?_
  refine uH (fun σ H'=>∃v,σ[3]?=some (some v)∧Q v H') (fun σ H' h=>?_) fun R hR=>?_
  ·obtain⟨v,hv,q⟩:=h
   exact⟨_,hv,q⟩
  refine tR (fun cls _ H'=>cls=.ref cNoNumber∧Keep pt H H'∧TB H' pt∧¬(0≤x∧x<(aG u n:Nat))) ?_ fun Ex hEx=>?_
  ·rintro _ _ H' ⟨rfl,s',T',no⟩
   refine⟨hF.exm,fun e he=>?_⟩
   have se:=Same.upd (o:=.ext (bS e (.ref cNoNumber))) he
   refine⟨_,rfl,e,rfl,ad,fun r H2 hr0 hr2 s2=>hR _ _ ⟨.ref r,rfl,k1 no r H2 (TB.kfree s' T' (se.free hr0)) hr2 (fun x o h n=>s2 _ _ (se _ _ (s' _ _ h n))) ((T'.same se).same s2)⟩⟩
  ·refine⟨rfl,_,rfl,_,rfl,_,rfl,?_⟩
   by_cases hx:0≤x∧x<(aG u n:Nat)
   ·obtain⟨y,rfl⟩:∃y:Nat,x=(y:Int):=⟨x.toNat,by lia⟩
    exact .inl ⟨b,u,n,y,rfl,hb,lu,u1,ul,n1,n2,by lia,T,fun r S ds H' r0 st hds hs hrk hr' k' T'=>hR _ _ ⟨_,rfl,k2 y rfl (by lia) r S ds H' r0 st hds hs hrk hr' k' T'⟩⟩
   ·exact .inr ⟨b,u,n,x,rfl,hb,lu,u1,ul,n1,n2,T,hx,fun H' s' T'=>hEx _ _ _ ⟨rfl,s',T',hx⟩⟩
end
abbrev lG:Stmt:=aS 45
def iy(K:PySem.W.Frag)(pt:Addr):Sp:=fun vs H Q _=>∃(a:Addr) (ns:List Int),vs=[.ref a]∧SqL K H a (ns.map V.int)∧ns.length≤63∧TB H pt∧∀H',TB H' pt→Q (.bl true) H'
theorem sA{xs:List Int}{i:Nat}{x:V}(h:(xs.map V.int)[i]?=some x):∃z:Int,x=.int z:=by
 rw[List.getElem?_map] at h
 cases e:xs[i]? with
 | none=>rw[e] at h;cases h
 | some z=>rw[e] at h;exact⟨z,(Option.some.inj h).symm⟩
theorem tF{K:PySem.W.Frag}{σ:St}{H:Hp}{a:Addr}{ns:List Int}{n:Int}{Q:VK}(hi:σ[0]?=some (some (.ref a)))(hS:SqL K H a (ns.map V.int))(hn:0≤n)(hn2:n≤100)(k:∀(b:Addr) (xs:List Int) (H':Hp),H' b=some (.lst (xs.map V.int))→Same H H'→Q (.ref b) H'):eB jP (qO (oD (tC (.int 0)) lQ)) (lH (js K) (cP 0) i9 (lC (tC (.int n)))) σ H Q:=by
 refine⟨by show 1≤sizeLine;decide,fun l0 hl0=>?_⟩
 refine⟨_,hi,n,rfl,a,_,rfl,(Same.upd hl0).seq hS,fun l1 hl1=>?_⟩
 have e1:bi (ns.map V.int) none (some n)=(ns.take n.toNat).map V.int:=by rw[dq,dD,gm _ _ hn]
 rw[e1] at*
 refine⟨l0,l1,_,_,rfl,rfl,(Same.upd hl1) _ _ ad,ad,by simp only[List.length_cons,List.length_nil,List.length_map,List.length_take];exact sz (by lia),fun b hb=>?_⟩
 refine k b (0::ns.take n.toNat) _ ?_ ((Same.upd hl0).trans ((Same.upd hl1).trans (Same.upd hb)))
 rw[ad]
 rfl
def eF(bs:List Bool):PyData:=.list (bs.map PyData.bool)
theorem jI{K:PySem.W.Frag}{H:Hp}:∀bs:List Bool,DatVs K H (bs.map PyData.bool) (bs.map V.bl)
 | []=>xR
 | b::bs=>zx (sD b) (jI bs)
theorem qF:∀bs:List Bool,PyData.depthAll (bs.map PyData.bool)≤1
 | []=>by rw[List.map_nil,PyData.depthAll];exact Nat.zero_le _
 | b::bs=>by
   have:=qF bs
   simp only[List.map_cons,PyData.depthAll,PyData.depth]
   lia
theorem y8(bs:List Bool):(eF bs).depth≤64:=by
 have:=qF bs
 unfold eF
 simp only[PyData.depth]
 lia
theorem oV:∀bs:List Bool,PyData.eqvAll (bs.map PyData.bool) (bs.map PyData.bool)=true
 | []=>by rw[List.map_nil,PyData.eqvAll]
 | b::bs=>by
   rw[List.map_cons,PyData.eqvAll,oV bs]
   cases b <;> simp[PyData.eqv]
theorem wj(bs:List Bool):PyData.eqv (eF bs) (eF bs)=true:=by
 unfold eF
 simp only[PyData.eqv]
 exact oV bs
theorem rT{K:PySem.W.Frag}{H:Hp}{h k:Addr}{bs:List Bool}{Q:VK}(hh:H h=some (.lst (bs.map V.bl)))(hk:H k=some (.lst (bs.map V.bl)))(q:Q (.bl false) H):eJ K true (.ref h) (.ref k) H Q:=by
 refine⟨eF bs,eF bs,o8 (SqL.of hh) (jI bs),o8 (SqL.of hk) (jI bs),Nat.le_trans (Nat.min_le_left _ _) (y8 bs),?_⟩
 rw[wj]
 exact q
theorem TB.hand{H H':Hp}{p pt:Addr}(h:TB H pt)(hp:Hand H p)(k:Keep p H H'):TB H' pt:=by
 obtain⟨x,y,z,hp⟩:=hp
 have np:=h.ne hp
 rcases h with t | ⟨c,t1,t2⟩
 ·exact .inl (k _ _ t (Ne.symm np))
 ·refine .inr ⟨c,k _ _ t1 (Ne.symm np),k _ _ t2 fun e=>?_⟩
  rw[e,hp] at t2;cases t2
def NX(H H':Hp):Prop:=∀a o,H a=some o→(∀φ,o≠ .ext φ)→H' a=some o
theorem NX.of{H H':Hp}{pt:Addr}(t:TB H pt)(k:Keep pt H H'):NX H H':=fun a o e n=>k a o e fun z=>by
 rw[z] at e
 rcases t with t | ⟨c,t,_⟩ <;> (rw[e] at t;exact n _ (Option.some.inj t))
theorem NX.same{H H':Hp}(s:Same H H'):NX H H':=fun a o e _=>s a o e
structure LawG(b q lr p pt:Addr)(cs:List Int)(u z:List Nat)(H:Hp):Prop where
 hb:H b=some (.lst (cs.map V.int))
 hq:H q=some (.lst (u.map sg))
 hz:H lr=some (.lst (z.map sg))
 hp:Hand H p
 tb:TB H pt
 nb:b≠p
section
variable{b q lr p pt:Addr}{cs:List Int}{u z:List Nat}{H H':Hp}
theorem LawG.same(L:LawG b q lr p pt cs u z H)(s:Same H H'):LawG b q lr p pt cs u z H':=⟨s _ _ L.hb,s _ _ L.hq,s _ _ L.hz,L.hp.same s,L.tb.same s,L.nb⟩
theorem LawG.kp(L:LawG b q lr p pt cs u z H)(k:Keep p H H')(h:Hand H' p):LawG b q lr p pt cs u z H':=⟨k _ _ L.hb L.nb,k _ _ L.hq (cq L.hp L.hq),k _ _ L.hz (cq L.hp L.hz),h,L.tb.hand L.hp k,L.nb⟩
end
theorem nT{c:TT}{t aq:TS}{D:Ends}{σ:St}{H:Hp}(h:∀R:Bool→Hp→Prop,(∀H',Same H H'→R false H')→c σ H R)(q:∀H',Same H H'→aq D σ H'):dY (jg c t o7) aq D σ H:=h (fun b H1=>if b=true then _ else _) fun H' s'=>aX (q H' s')
theorem iJ{c d:TT}{σ:St}{H:Hp}{R:Bool→Hp→Prop}(h:∀Q:Bool→Hp→Prop,(∀H',Same H H'→Q false H')→c σ H Q)(g:∀H',Same H H'→d σ H' R):oz c d σ H R:=h (fun b H1=>if b=true then _ else _) fun H' s'=>aX (g H' s')
theorem yQ{K:PySem.W.Frag}{H:Hp}{h k:Addr}{t:List Nat}{Q:VK}(lt:Low t)(hh:H h=some (.lst (t.map sg)))(hk:H k=some (.lst (t.map sg)))(q:Q (.bl false) H):eJ K true (.ref h) (.ref k) H Q:=by
 refine⟨gg t,gg t,gF (SqL.of hh) lt.cp,gF (SqL.of hk) lt.cp,Nat.le_trans (Nat.min_le_left _ _) (Nat.le_trans (yF t) (by decide)),?_⟩
 rw[vc,decide_eq_true rfl]
 exact q
structure LawD(b q hd r f l so p pt:Addr)(o:Obj)(cs:List Int)(u A:List Nat)(es:List ((Nat×Nat)×Addr))(ds:List Addr)(xs:List V)(H:Hp):Prop where
 hb:H b=some (.lst (cs.map V.int))
 hq:H q=some (.lst (u.map sg))
 hh:H hd=some (.lst (u.map sg))
 hs:H so=some (.lst xs)
 hr:H r=some (.tup [.ref f,.ref l])
 hf:H f=some (.frz o (.dT (aM es)))
 st:Stps u A H es
 hl:H l=some (.lst (ds.map V.ref))
 hds:∀(j:Nat) (d:Addr),ds[j]?=some d→H d=some (.dT (bD u A es j))
 tb:TB H pt
 hp:Hand H p
 nb:b≠p
 ns:so≠p
 nl:l≠p
section
variable{b q hd r f l so p pt:Addr}{o:Obj}{cs:List Int}{u A:List Nat}{es:List ((Nat×Nat)×Addr)}{ds:List Addr}{xs:List V}{H H' H0:Hp}
theorem LawD.nx(L:LawD b q hd r f l so p pt o cs u A es ds xs H)(n:NX H H')(t:TB H' pt):LawD b q hd r f l so p pt o cs u A es ds xs H':=by
 have tk:TK H H':=fun a xs e=>n _ _ e (fun φ z=>(nomatch z))
 obtain⟨x,y,z,hz⟩:=L.hp
 exact⟨n _ _ L.hb (fun φ z=>(nomatch z)),n _ _ L.hq (fun φ z=>(nomatch z)),n _ _ L.hh (fun φ z=>(nomatch z)),n _ _ L.hs (fun φ z=>(nomatch z)),n _ _ L.hr (fun φ z=>(nomatch z)),n _ _ L.hf (fun φ z=>(nomatch z)),⟨L.st.nd,L.st.bk,L.st.cl,L.st.z,fun e he=>(L.st.row e he).keep tk fun xs x=>n _ _ x (fun φ z=>(nomatch z))⟩,n _ _ L.hl (fun φ z=>(nomatch z)),fun j d h=>n _ _ (L.hds j d h) (fun φ z=>(nomatch z)),t,⟨x,y,z,n _ _ hz (fun φ z=>(nomatch z))⟩,L.nb,L.ns,L.nl⟩
theorem LawD.same(L:LawD b q hd r f l so p pt o cs u A es ds xs H)(s:Same H H'):LawD b q hd r f l so p pt o cs u A es ds xs H':=L.nx (NX.same s) (L.tb.same s)
theorem LawD.kt(L:LawD b q hd r f l so p pt o cs u A es ds xs H)(k:Keep pt H H')(t:TB H' pt):LawD b q hd r f l so p pt o cs u A es ds xs H':=L.nx (NX.of L.tb k) t
theorem LawD.kp(L:LawD b q hd r f l so p pt o cs u A es ds xs H)(k:Keep p H H')(h:Hand H' p):LawD b q hd r f l so p pt o cs u A es ds xs H':=by
 obtain⟨x,y,z,hz⟩:=L.hp
 have tk:TK H H':=fun a xs e=>k _ _ e (bh e hz fun z=>nomatch z)
 refine⟨k _ _ L.hb L.nb,k _ _ L.hq (cq L.hp L.hq),k _ _ L.hh (cq L.hp L.hh),k _ _ L.hs L.ns,tk _ _ L.hr,k _ _ L.hf (bh L.hf hz fun z=>nomatch z),⟨L.st.nd,L.st.bk,L.st.cl,L.st.z,fun e he=>?_⟩,k _ _ L.hl L.nl,fun j d h=>k _ _ (L.hds j d h) (bh (L.hds j d h) hz fun z=>nomatch z),L.tb.hand L.hp k,h,L.nb,L.ns,L.nl⟩
 obtain⟨ps,h1,h2⟩:=L.st.row e he
 refine⟨ps,k _ _ h1 fun z=>?_,Paired.mapP h2 fun _ _ x=>x.keep tk⟩
 rw[z,hz] at h1
 cases ps with
 | nil=>cases h1
 | cons a r=>cases h1
theorem LawD.wr(L0:LawD b q hd r f l so p pt o cs u A es ds xs H0){D:Addr}(d0:H0 D=none)(L:LawD b q hd r f l so p pt o cs u A es ds xs H){ys:List V}(hD:H D=some (.lst ys)){o':HO}:LawD b q hd r f l so p pt o cs u A es ds xs (L2.upd H D o'):=by
 have tk:TK H (L2.upd H D o'):=TK.upd hD fun xs z=>nomatch z
 have np:=L.tb.ne hD
 have hp0:p≠D:=by obtain⟨x,y,z,hz⟩:=L0.hp;exact aD hz d0
 refine⟨by rw[ah (aD L0.hb d0)];exact L.hb,by rw[ah (aD L0.hq d0)];exact L.hq,by rw[ah (aD L0.hh d0)];exact L.hh,by rw[ah (aD L0.hs d0)];exact L.hs,tk _ _ L.hr,by rw[ah (aD L0.hf d0)];exact L.hf,⟨L.st.nd,L.st.bk,L.st.cl,L.st.z,fun e he=>?_⟩,by rw[ah (aD L0.hl d0)];exact L.hl,fun j d h=>by rw[ah (aD (L0.hds j d h) d0)];exact L.hds j d h,?_,L.hp.upd hp0,L.nb,L.ns,L.nl⟩
 ·obtain⟨ps,h1,_⟩:=L0.st.row e he
  exact(L.st.row e he).keep tk fun xs x=>by rw[ah (aD h1 d0)];exact x
 ·rcases L.tb with t | ⟨c,t1,t2⟩
  ·exact .inl (by rw[ah (Ne.symm np)];exact t)
  ·exact .inr ⟨c,by rw[ah (Ne.symm np)];exact t1,by rw[ah (bh t2 hD fun z=>nomatch z)];exact t2⟩
end
def DueAt(u A:List Nat)(n:Nat)(num:Int)(dr:Addr)(H:Hp):Prop:=(¬(0≤num∧num<(aG u n:Nat))∧H dr=some (.lst ((eR 5).map V.bl)))∨∃(y:Nat) (t:List Nat),num=(y:Int)∧y<aG u n∧t.length=n∧an u A t (0,0)=some y∧H dr=some (.lst (t.map sg))
theorem DueAt.nx{u A:List Nat}{n:Nat}{num:Int}{dr:Addr}{H H':Hp}(h:DueAt u A n num dr H)(k:NX H H'):DueAt u A n num dr H':=by
 rcases h with⟨h1,h2⟩ | ⟨y,t,h1,h2,h3,h4,h5⟩
 ·exact .inl ⟨h1,k _ _ h2 (fun φ z=>(nomatch z))⟩
 ·exact .inr ⟨y,t,h1,h2,h3,h4,k _ _ h5 (fun φ z=>(nomatch z))⟩
theorem DueAt.wr{u A:List Nat}{n:Nat}{num:Int}{dr D:Addr}{H:Hp}{o:HO}(h:DueAt u A n num dr H)(ne:dr≠D):DueAt u A n num dr (L2.upd H D o):=by
 rcases h with⟨h1,h2⟩ | ⟨y,t,h1,h2,h3,h4,h5⟩
 ·exact .inl ⟨h1,by rw[ah ne];exact h2⟩
 ·exact .inr ⟨y,t,h1,h2,h3,h4,by rw[ah ne];exact h5⟩
theorem pL{u A:List Nat}(hA:∀c∈A,c∈u)(lu:Low u):∀{t:List Nat} {st:Nat×Nat} {n:Nat},an u A t st=some n→Low t
 | [],_,_,_=>Low.nil
 | c::t,st,n,h=>by
   obtain⟨st',k,cA,_,h2,_⟩:=gc h
   have ih:=pL hA lu h2
   intro x hx
   rcases List.mem_cons.mp hx with rfl | hx
   ·exact lu _ (hA _ cA)
   ·exact ih x hx
section
variable{P:Program}{w:World}{K:PySem.W.Frag}{mg:Str→Option Value}{base:Heap}
theorem scLaw:FnScope ["script","cell","pot","letters","word","some","counts","handed","length","many","far","numbers","number","due","again","told"] ["script"] (ar lG):=fsc_
theorem uP{pt:Addr}(M:Md K mg)(B:Bl mg)(F:FF K "law" lG)(F_law_pot:Fn P w K mg base ai "_law_pot" 1 ["cell"] pR)(F_law_take:Fn P w K mg base ai "_law_take" 1 ["pot","many"] eY)(F_law_letters:Fn P w K mg base ai "_law_letters" 2 ["pot"] n5)(F_law_word:Fn P w K mg base ai "_law_word" 3 ["pot","letters","most"] mZ)(F_law_laid:Fn P w K mg base ai "_law_laid" 2 ["pot","word","most"] nE)(F_law_counts:Fn P w K mg base ai "_law_counts" 3 ["word","most"] nA)(F_law_due_flags:Fn P w K mg base ai "_law_due_flags" 1 ["at"] nC)(F_law_due:Fn P w K mg base ai "_law_due" 1 ["counts","length","number"] nX)(F_law_said:Fn P w K mg base ai "_law_said" 8 ["word","length","number"] (lY pt)):Fn P w K mg base ai "law" 9 ["script"] (iy K pt):=by
 refine aV M F scLaw (fun _ _ _ _ _ _=>bJ fun _=>rfl) (fun vs H Q E h=>?_) (fun f cdv A outer s H vs Q E hr h=>?_)
 ·obtain⟨a,ns,rfl,_⟩:=h;rfl
 ·obtain⟨a,ns,rfl,hS,hlen,T,k⟩:=h
  refine⟨_,(ae (cm PassesOwn.never rfl (ck (ap cX (bb (aa af ac)) (bF bG (pv 0) bO (bu af)))) (ba (i:=1) scLaw.nd rfl (.inl rfl))
   (ae (am (i:=2) scLaw.nd rfl (.inr rfl) (aC F_law_pot hr aE (aa (pv 1) ac)))
   (ae (am (i:=3) scLaw.nd rfl (.inl rfl) (aC F_law_letters hr aE (aa (pv 2) ac)))
   (ae (am (i:=4) scLaw.nd rfl (.inl rfl) (aC F_law_word hr aE (aa (pv 2) (aa (pv 3) (aa (aO aU (bb (aa af (aa af (aa af (aa af ac))))) (aC F_law_take hr aE (aa (pv 2) (aa af ac))) (fun _ _=>rfl)) ac)))))
   (ae (am (i:=5) scLaw.nd rfl (.inl rfl) (bb (aa (aR B.len (aC F_law_laid hr aE (aa (pv 2) (aa (pv 4) (aa (aO aU (bb (aa af (aa af ac))) (aC F_law_take hr aE (aa (pv 2) (aa af ac))) (fun _ _=>rfl)) ac))))) (aa (ap bC af (aC F_law_take hr aE (aa (pv 2) (aa af ac)))) ac))))
   (ae (am (i:=6) scLaw.nd rfl (.inl rfl) (aC F_law_counts hr aE (aa (pv 4) (aa (wL rfl B.max (pv 5)) ac))))
   (ae (am (i:=7) scLaw.nd rfl (.inl rfl) (ik B.list (pv 4)))
   (ao (cm PassesOwn.never rfl (ck (pv 5)) (ba (i:=8) scLaw.nd rfl (.inl rfl))
   (ae (am (i:=9) scLaw.nd rfl (.inr rfl) (fe (by exact dw hr) (aO aU (aO fM (pv 6) af (fun _ _=>rfl)) (pv 8) (fun _ _=>rfl)) (cQ (aa af (aa af ac))) (fun _ _=>rfl)))
   (ae (am (i:=10) scLaw.nd rfl (.inl rfl) (aC F_law_take hr aE (aa (pv 2) (aa (aO aU (bb (aa af (aa (ap pW af af) ac))) (aC F_law_take hr aE (aa (pv 2) (aa af ac))) (fun _ _=>rfl)) ac))))
   (ae (iK (i:=11) ["script","cell","pot","letters","word","some","counts","handed","length","many","far","numbers","number","due","","told"] rfl scLaw.nd rfl (.inl rfl) (dR (by rfl) B.range (aa af ac)) (fun _=>by exact df) (fun _=>by exact(aC F_law_take hr aE (aa (pv 2) (aa (iF rfl B.max af (pv 9)) ac)))))
   (ao (cm PassesOwn.never rfl (ck (ap cX (pv 11) (bb (aa af (aa (ap aZ (pv 9) af) (aa (pv 9) (aa (ap bC (pv 9) (pv 10)) (aa (ap aZ (j7 kz af) (pv 10)) ac)))))))) (ba (i:=12) scLaw.nd rfl (.inl rfl))
   (ae (am (i:=13) scLaw.nd rfl (.inl rfl) (aC F_law_due_flags hr aE (aa af ac)))
   (ae (br (k9 dP iO af (pv 12) (pv 9)) (ao (am (i:=13) scLaw.nd rfl (.inl rfl) (aC F_law_due hr aE (aa (pv 6) (aa (pv 8) (aa (pv 12) ac)))))) bq)
   (ao (cm PassesOwn.never rfl (dR (by rfl) B.range (aa af ac)) (ba (i:=14) scLaw.nd rfl (.inl rfl))
   (ae (am (i:=15) scLaw.nd rfl (.inl rfl) (aC F_law_said hr aE (aa (pv 7) (aa (pv 8) (aa (pv 12) ac)))))
   (ae (br (PW.pt (kJ (iE (pN (pA B.isinst B.list ji (pv 15)))) (kJ (aL (gL (by exact hr)) (pv 15) (pv 13) (aI _)) (pK (aL (ph (by exact hr)) (pv 7) (pv 4) (aI _)))))) (ao (aJ pT)) bq)
   (ao (bf (cI PySem.F.plainAttrs_list PySem.F.slot_list_append PySem.F.type_list_append dJ (pv 15) (aa iq ac))))))))))))))))))))))))
   (ao (aJ pT))),?_⟩
  refine xr (tF (K:=K) (n:=4) rfl hS (by decide) (by decide) fun b cs H1 hb1 sm1=>⟨b,rfl,⟨_,SqL.of hb1⟩,?_⟩)
  have T1:=T.same sm1
  refine i4 (K:=K) (a:=b) (xs:=cs.map V.int) (fun i σ H2=>H2 b=some (.lst (cs.map V.int))∧TB H2 pt∧∃v1 v2 v3 v4 v5 v6 v7 v8 v9 v10 v11 v12 v13 v14 v15,σ=[some (.ref a),v1,v2,v3,v4,v5,v6,v7,v8,v9,v10,v11,v12,v13,v14,v15]) ⟨hb1,T1,_,_,_,_,_,_,_,_,_,_,_,_,_,_,_,rfl⟩ (fun i σ H2 _ h2=>SqL.of h2.1) ?_ ?_
  ·rintro D1 i x σ H2 nx1 hx ⟨hb2,T2,v1,v2,v3,v4,v5,v6,v7,v8,v9,v10,v11,v12,v13,v14,v15,rfl⟩
   obtain⟨c,rfl⟩:=sA hx
   refine bQ ⟨_,rfl,c,rfl,fun p H3 hp0 hp3 s3=>?_⟩
   have hb3:=s3 _ _ hb2
   have nb:b≠p:=aD hb2 hp0
   have T3:=T2.same s3
   refine bQ ⟨_,rfl,p,rfl,hp3,fun z lr H4 hlr0 hlr4 lz nz z1 z2 hp4 k4=>?_⟩
   have hb4:=k4 _ _ hb3 nb
   have T4:TB H4 pt:=TB.hand T3 hp3 k4
   have nlr:=cq hp4 hlr4
   refine bQ ⟨_,rfl,_,rfl,by show 4≤sizeLine;decide,fun l2 hl2=>?_⟩
   have s6:=Same.upd (o:=.lst [V.int 6,.int 40,.int 6,.int 200]) hl2
   have hl6:=ad (H:=H4) (a:=l2) (o:=.lst [V.int 6,.int 40,.int 6,.int 200])
   have nl2:l2≠p:=(hp4.ne hl2).symm
   generalize L2.upd H4 l2 (.lst [V.int 6,.int 40,.int 6,.int 200])=H6 at s6 hl6 ⊢
   have T6:=T4.same s6
   refine⟨_,rfl,p,4,rfl,hp4.same s6,by decide,by decide,fun r H7 r0 r1 hp7 k7=>?_⟩
   obtain⟨mm,hmm1,hmm2,hat2⟩:∃mm:Int,1≤mm∧mm≤200∧bc [V.int 6,.int 40,.int 6,.int 200] r=some (.int mm):=by
    have:r=0∨r=1∨r=2∨r=3:=by lia
    rcases this with h | h | h | h
    ·subst h;exact⟨6,by decide,by decide,rfl⟩
    ·subst h;exact⟨40,by decide,by decide,rfl⟩
    ·subst h;exact⟨6,by decide,by decide,rfl⟩
    ·subst h;exact⟨200,by decide,by decide,rfl⟩
   have T7:TB H7 pt:=TB.hand T6 (hp4.same s6) k7
   have k47:Keep p H4 H7:=fun c o h n=>k7 _ _ (s6 _ _ h) n
   refine⟨l2,_,_,_,rfl,rfl,SqL.of (k7 _ _ hl6 nl2),hat2,p,lr,z,mm,rfl,hp7,k47 _ _ hlr4 nlr,lz,z1,by lia,by lia,by lia,fun u q H8 hq0 hq8 lu u1 ul hp8 k8=>?_⟩
   have k48:=k47.trans k8
   have L8:LawG b q lr p pt cs u z H8:=⟨k48 _ _ hb4 nb,hq8,k48 _ _ hlr4 nlr,hp8,TB.hand T7 hp7 k8,nb⟩
   clear hb4 T4 T6 T7 hlr4 hq8 s6 hl6 k7 k47 k48 k8
   refine bQ ⟨_,rfl,_,rfl,by show 2≤sizeLine;decide,fun l3 hl3=>?_⟩
   have s10:=Same.upd (o:=.lst [V.int 30,.int 200]) hl3
   have hl10:=ad (H:=H8) (a:=l3) (o:=.lst [V.int 30,.int 200])
   have nl3:l3≠p:=(L8.hp.ne hl3).symm
   have L10:=L8.same s10
   generalize L2.upd H8 l3 (.lst [V.int 30,.int 200])=H10 at s10 hl10 L10 ⊢
   refine⟨_,rfl,p,2,rfl,L10.hp,by decide,by decide,fun r2 H11 q0 q1 hp11 k11=>?_⟩
   have L11:=L10.kp k11 hp11
   obtain⟨m,m0,m1,hat3⟩:∃m:Int,0≤m∧m≤200∧bc [V.int 30,.int 200] r2=some (.int m):=by
    have:r2=0∨r2=1:=by lia
    rcases this with h | h
    ·subst h;exact⟨30,by decide,by decide,rfl⟩
    ·subst h;exact⟨200,by decide,by decide,rfl⟩
   refine⟨l3,_,_,_,rfl,rfl,SqL.of (k11 _ _ hl10 nl3),hat3,p,q,u,m,rfl,hp11,L11.hq,lu,u1,by lia,m0,by lia,fun t y H12 hy0 hy12 lt La tl hp12 k12=>?_⟩
   have L12:=L11.kp k12 hp12
   have t1:1≤t.length:=by
    have:=(La.cv u1).1.le
    lia
   have t2:t.length≤200:=by lia
   refine⟨y,_,rfl,SqL.of hy12,_,rfl,p,200,rfl,L12.hp,by decide,by decide,fun g1 H13 g10 g11 hp13 k13=>?_⟩
   have L13:=L12.kp k13 hp13
   refine⟨_,_,rfl,rfl,by show 2≤sizeLine;decide,fun so hso=>?_⟩
   rw[List.length_map]
   have X2:∀x∈[((t.length:Nat):Int),1+g1],∃n:Nat,x=(n:Int)∧1≤n∧n≤200:=by
    intro x hx
    simp only[List.mem_cons,List.not_mem_nil,or_false] at hx
    rcases hx with rfl | rfl
    ·exact⟨t.length,rfl,t1,t2⟩
    ·exact⟨(1+g1).toNat,by lia,by lia,by lia⟩
   have X2n:[((t.length:Nat):Int),1+g1]≠ []:=fun z=>(nomatch z)
   have eX:[V.int ((t.length:Nat):Int),.int (1+g1)]=[((t.length:Nat):Int),1+g1].map V.int:=rfl
   rw[eX]
   have X2l:[((t.length:Nat):Int),1+g1].length=2:=rfl
   generalize [((t.length:Nat):Int),1+g1]=xs at X2 X2n X2l ⊢
   have s14:=Same.upd (o:=.lst (xs.map V.int)) hso
   have hso14:=ad (H:=H13) (a:=so) (o:=.lst (xs.map V.int))
   have nso:so≠p:=(L13.hp.ne hso).symm
   have L14:=L13.same s14
   generalize L2.upd H13 so (.lst (xs.map V.int))=H14 at s14 hso14 L14 ⊢
   clear s14 L13 L12 L11 L10 L8 hso k13 k12 k11 hl10 s10 hy12
   refine bQ ⟨_,rfl,_,rfl,so,_,rfl,hso14,X2n,fun m' hm hmx=>?_⟩
   obtain⟨m',rfl,_,m200⟩:=X2 m' hm
   refine⟨q,u,m',rfl,L14.hq,lu,u1,by lia,by lia,fun r3 f3 l3 o3 A3 es ds H15 r30 hr15 hf15 Ari Au St hl15 dsl hds s15=>?_⟩
   have L15:=L14.same s15
   have hso15:=s15 _ _ hso14
   refine bQ ⟨_,rfl,q,_,rfl,SqL.of L15.hq,fun hd hhd=>?_⟩
   have And:A3.Nodup:=Ari.imp fun h=>Nat.ne_of_lt h
   have A26:=jf And (fun c hc=>(Au c).mp hc) lu
   have L16:LawD b q hd r3 f3 l3 so p pt o3 cs u A3 es ds (xs.map V.int) (L2.upd H15 hd (.lst (u.map sg))):=by
    have s16:=Same.upd (o:=.lst (u.map sg)) hhd
    have L16:=L15.same s16
    refine⟨L16.hb,L16.hq,ad,s16 _ _ hso15,s16 _ _ hr15,s16 _ _ hf15,⟨St.nd,St.bk,St.cl,St.z,fun e he=>(St.row e he).keep (Same.tk s16) fun xs x=>s16 _ _ x⟩,s16 _ _ hl15,fun j d h=>s16 _ _ (hds j d h),L16.tb,L16.hp,L16.nb,nso,fun e=>?_⟩
    obtain⟨x,y,z,hz⟩:=L15.hp
    rw[e,hz] at hl15
    cases ds with
    | nil=>simp at dsl
    | cons d' r=>cases hl15
   generalize L2.upd H15 hd (.lst (u.map sg))=H16 at L16 ⊢
   clear L15 L14 hso15 hso14 hr15 hf15 St hl15 hds s15 hhd
   refine⟨_,rfl,so,rfl,⟨_,SqL.of L16.hs⟩,i4 (K:=K) (a:=so) (xs:=xs.map V.int) (fun i2 σ H17=>LawD b q hd r3 f3 l3 so p pt o3 cs u A3 es ds (xs.map V.int) H17∧∃v8 v9 v10 v11 v12 v13 v14 v15,σ=[some (.ref a),some (.int c),some (.ref p),some (.ref lr),some (.ref q),some (.ref so),some (.ref r3),some (.ref hd),v8,v9,v10,v11,v12,v13,v14,v15]) ⟨L16,_,_,_,_,_,_,_,_,rfl⟩ (fun i2 σ H17 _ h=>SqL.of h.1.hs) ?_ ?_⟩
   ·rintro D2 i2 x σ H17 nx2 hx17 ⟨L17,w8,w9,w10,w11,w12,w13,w14,w15,rfl⟩
    obtain⟨n,rfl,n1,n2,nm⟩:∃n:Nat,x=.int (n:Int)∧1≤n∧n≤200∧n≤m':=by
     obtain⟨z,hz,rfl⟩:=List.mem_map.mp (List.mem_of_getElem? hx17)
     obtain⟨n,rfl,h1,h2⟩:=X2 z hz
     have:=hmx _ hz
     exact⟨n,rfl,h1,h2,by lia⟩
    obtain⟨d,hd0⟩:∃d,ds[n]?=some d:=⟨ds[n],List.getElem?_eq_getElem (by lia)⟩
    refine bQ ⟨_,rfl,r3,_,_,_,rfl,rfl,SqT.of L17.hr,rfl,_,rfl,l3,_,_,.ref d,rfl,rfl,SqL.of L17.hl,cM (j:=n) (by rw[List.getElem?_map,hd0];rfl),(by show 2≤sizeLine;decide),fun kt hkt=>?_⟩
    have s18:=Same.upd (o:=.tup [V.int 0,.int 0]) hkt
    have hkt18:=ad (H:=H17) (a:=kt) (o:=.tup [V.int 0,.int 0])
    have L18:=L17.same s18
    have fwc:fw u A3 n (0,0)=aG u n:=(ng u1 And (fun c hc=>(Au c).mpr hc) n).symm
    refine⟨d,.int ((aG u n:Nat):Int),rfl,(by rw[←fwc,←lI (k:=n) L18.st.nd L18.st.z];exact DGet.t (k:=aP (0,0)) (L18.hds n d hd0) hkt18),?_⟩
    generalize L2.upd H17 kt (.tup [V.int 0,.int 0])=H18 at s18 hkt18 L18 ⊢
    clear s18 hkt18 L17
    refine bQ ⟨_,rfl,_,_,rfl,rfl,⟨by decide,by decide,by decide⟩,by show 2≤sizeLine;decide,fun l4 hl4=>?_⟩
    have s19:=Same.upd (o:=.lst [V.int 3,.int (10 ^ (50:Int).toNat)]) hl4
    have hl419:=ad (H:=H18) (a:=l4) (o:=.lst [V.int 3,.int (10 ^ (50:Int).toNat)])
    have L19:=L18.same s19
    have nl4:l4≠p:=(L18.hp.ne hl4).symm
    generalize L2.upd H18 l4 (.lst [V.int 3,.int (10 ^ (50:Int).toNat)])=H19 at s19 hl419 L19 ⊢
    refine⟨_,rfl,p,2,rfl,L19.hp,by decide,by decide,fun g3 H20 g30 g31 hp20 k20=>?_⟩
    have L20:=L19.kp k20 hp20
    obtain⟨m3,m31,m32,hat4⟩:∃m3:Int,1≤m3∧m3<1000000000000000000000000000000000000000000000000000000000000∧bc [V.int 3,.int (10 ^ (50:Int).toNat)] g3=some (.int m3):=by
     have:g3=0∨g3=1:=by lia
     rcases this with h | h
     ·subst h;exact⟨3,by decide,by decide,rfl⟩
     ·subst h;exact⟨10 ^ (50:Int).toNat,by decide,by decide,rfl⟩
    refine⟨l4,_,_,_,rfl,rfl,SqL.of (k20 _ _ hl419 nl4),hat4,p,m3,rfl,hp20,m31,m32,fun far H21 f0 f1 hp21 k21=>?_⟩
    have L21:=L20.kp k21 hp21
    clear L18 L19 L20 s19 hl419 k20 k21 hat4
    have cb:((aG u n:Nat):Int)<1000000000000000000000000000000000000000000000000000000000000:=by
     have h1:=my u1 n2
     have h2:(2:Nat) ^ 199<1000000000000000000000000000000000000000000000000000000000000:=by decide
     lia
    refine bQ ⟨2,rfl,by decide,by decide,fun D hD cbk=>?_⟩
    refine eD (lo:=0) (n:=2) (fun i ys H22=>ys.length=i∧(∀y∈ys,∃z:Int,y=.int z)∧LawD b q hd r3 f3 l3 so p pt o3 cs u A3 es ds (xs.map V.int) H22∧H22 D=some (.lst ys)) (by decide) ?_ ?_ ?_ ?_
    ·exact⟨rfl,fun y h=>(nomatch h),L21.same (Same.upd hD),ad⟩
    ·rintro i ys H22 ⟨e,_⟩;exact Nat.le_of_eq e
    ·rintro i ys H22 hi ⟨yl,ya,L22,hD22⟩
     have nD:D≠p:=(L21.hp.ne hD).symm
     have mb:∃mq:Int,mq=(if((aG u n:Nat):Int)>1 then((aG u n:Nat):Int) else 1)∧1≤mq∧mq<1000000000000000000000000000000000000000000000000000000000000:=by
      refine⟨_,rfl,?_⟩
      by_cases h:((aG u n:Nat):Int)>1
      ·rw[if_pos h];exact⟨by lia,cb⟩
      ·rw[if_neg h];exact⟨by decide,by decide⟩
     obtain⟨mq,emq,mq1,mq2⟩:=mb
     refine dh ⟨_,rfl,_,rfl,_,_,rfl,rfl,p,mq,by rw[emq];rfl,L22.hp,mq1,mq2,fun t2 H23 q0 q1 hp23 k23=>?_⟩
     have L23:=L22.kp k23 hp23
     have hD23:=k23 _ _ hD22 nD
     refine⟨hD23,by simp[yl],fun y hy=>?_,LawD.wr L21 hD L23 hD23,ad⟩
     rcases List.mem_append.mp hy with hy | hy
     ·exact ya y hy
     ·exact⟨_,List.mem_singleton.mp hy⟩
    rintro ys H22 ⟨yl,ya,L22,hD22⟩
    refine⟨_,rfl,_,rfl,_,_,rfl,rfl,_,rfl,_,rfl,_,rfl,_,_,rfl,rfl,1,rfl,_,rfl,_,_,rfl,rfl,by show 5≤sizeLine;decide,fun l5 hl5=>?_⟩
    have I5:∀x∈[V.int 0,.int (((aG u n:Nat):Int)-1),.int ((aG u n:Nat):Int),.int (((aG u n:Nat):Int)+far),.int (-1-far)],∃n:Int,x=.int n:=by
     intro x hx
     simp only[List.mem_cons,List.not_mem_nil,or_false] at hx
     rcases hx with rfl | rfl | rfl | rfl | rfl <;> exact⟨_,rfl⟩
    have I5l:[V.int 0,.int (((aG u n:Nat):Int)-1),.int ((aG u n:Nat):Int),.int (((aG u n:Nat):Int)+far),.int (-1-far)].length=5:=rfl
    generalize [V.int 0,.int (((aG u n:Nat):Int)-1),.int ((aG u n:Nat):Int),.int (((aG u n:Nat):Int)+far),.int (-1-far)]=l5s at I5 I5l ⊢
    have s23:=Same.upd (o:=.lst l5s) hl5
    have hl523:=ad (H:=H22) (a:=l5) (o:=.lst l5s)
    have L23:=L22.same s23
    have hD23:=s23 _ _ hD22
    generalize L2.upd H22 l5 (.lst l5s)=H23 at s23 hl523 L23 hD23 ⊢
    refine⟨D,l5,_,_,rfl,rfl,hD23,hl523,by rw[yl,I5l];decide,fun n4 hn4=>?_⟩
    have s24:=Same.upd (o:=.lst (ys++l5s)) hn4
    have hn424:=ad (H:=H23) (a:=n4) (o:=.lst (ys++l5s))
    have L24:=L23.same s24
    have al:∀x∈ys++l5s,∃z:Int,x=.int z:=fun x hx=>(List.mem_append.mp hx).elim (ya x) (I5 x)
    generalize L2.upd H23 n4 (.lst (ys++l5s))=H24 at s24 hn424 L24 ⊢
    generalize ys++l5s=zs at hn424 al ⊢
    clear s23 s24 hl523 hD23 L22 L23 hD22 I5
    refine⟨n4,rfl,⟨_,SqL.of hn424⟩,i4 (K:=K) (a:=n4) (xs:=zs) (fun i3 σ H25=>LawD b q hd r3 f3 l3 so p pt o3 cs u A3 es ds (xs.map V.int) H25∧H25 n4=some (.lst zs)∧∃v12 v13 v14 v15,σ=[some (.ref a),some (.int c),some (.ref p),some (.ref lr),some (.ref q),some (.ref so),some (.ref r3),some (.ref hd),some (.int (n:Int)),some (.int ((aG u n:Nat):Int)),some (.int far),some (.ref D),v12,v13,v14,v15]) ⟨L24,hn424,_,_,_,_,rfl⟩ (fun i3 σ H25 _ h=>SqL.of h.2.1) ?_ ?_⟩
    ·rintro D3 i3 x σ H25 nx3 hx25 ⟨L25,hn425,y12,y13,y14,y15,rfl⟩
     obtain⟨num,rfl⟩:=al x (List.mem_of_getElem? hx25)
     refine bQ ⟨5,by decide,rfl,fun dr H26 dr0 hdr26 s26=>?_⟩
     have L26:=L25.same s26
     have hn426:=s26 _ _ hn425
     refine fR (fun σ' H'=>∃dr,σ'=[some (.ref a),some (.int c),some (.ref p),some (.ref lr),some (.ref q),some (.ref so),some (.ref r3),some (.ref hd),some (.int (n:Int)),some (.int ((aG u n:Nat):Int)),some (.int far),some (.ref D),some (.int num),some (.ref dr),y14,y15]∧LawD b q hd r3 f3 l3 so p pt o3 cs u A3 es ds (xs.map V.int) H'∧H' n4=some (.lst zs)∧DueAt u A3 n num dr H') ?_ fun R hR=>?_
     ·rintro σ' H27 ⟨dr,rfl,L27,hn427,due27⟩
      have drs:∃o,H27 dr=some o:=by
       rcases due27 with⟨_,h⟩ | ⟨_,_,_,_,_,_,h⟩ <;> exact⟨_,h⟩
      obtain⟨dro,hdro⟩:=drs
      refine⟨2,rfl,by decide,by decide,uc (lo:=0) (n:=2) (fun j σ H28=>LawD b q hd r3 f3 l3 so p pt o3 cs u A3 es ds (xs.map V.int) H28∧H28 n4=some (.lst zs)∧DueAt u A3 n num dr H28∧∃v14 v15,σ=[some (.ref a),some (.int c),some (.ref p),some (.ref lr),some (.ref q),some (.ref so),some (.ref r3),some (.ref hd),some (.int (n:Int)),some (.int ((aG u n:Nat):Int)),some (.int far),some (.ref D),some (.int num),some (.ref dr),v14,v15]) ⟨L27,hn427,due27,_,_,rfl⟩ ?_ ?_⟩
      ·rintro D4 j σ H28 nx4 _ ⟨L28,hn428,due28,x14,x15,rfl⟩
       have ndr:∀tr,H28 tr=none→dr≠tr:=fun tr h=>by
        rcases due28 with⟨_,h2⟩ | ⟨_,_,_,_,_,_,h2⟩ <;> exact aD h2 h
       refine bQ ⟨_,rfl,_,rfl,_,rfl,hd,u,n,num,rfl,L28.hh,lu,u1,by lia,n1,n2,L28.tb,fun no tr H29 tr0 htr k29 T29=>?_,fun y ey hy tr S dz H29 tr0 stS hdz hsum hrk htr k29 T29=>?_⟩
       ·have n29:=NX.of L28.tb k29
        have L29:=L28.kt k29 T29
        have due29:=due28.nx n29
        have hn429:=n29 _ _ hn428 (fun φ z=>(nomatch z))
        have hdr:H29 dr=some (.lst ((eR 5).map V.bl)):=by
         rcases due29 with⟨_,h⟩ | ⟨y,t,e,hy,_⟩
         ·exact h
         ·exact absurd ⟨by lia,by lia⟩ no
        refine nT (fun R hR=>?_) fun H30 s30=>?_
        ·refine iJ (fun R' hR'=>?_) fun H30 s30=>iJ (fun R' hR'=>?_) fun H31 s31=>?_
         ·exact⟨_,rfl,_,true,TyOf.lst htr,rfl,_,rfl,hR' _ (Same.refl _)⟩
         ·exact⟨_,rfl,_,rfl,rT (s30 _ _ htr) (s30 _ _ hdr) ⟨_,rfl,hR' _ (Same.refl _)⟩⟩
         ·have L31:=(L29.same s30).same s31
          refine⟨_,rfl,_,rfl,hd,q,u,u,rfl,rfl,SqL.of L31.hh,SqL.of L31.hq,lu.cp,lu.cp,_,rfl,?_⟩
          rw[if_pos rfl,decide_eq_true rfl]
          exact hR _ (s30.trans s31)
        ·have L30:=L29.same s30
         have htr30:=s30 _ _ htr
         refine⟨_,rfl,.inl ⟨rfl,_,SqL.of htr30⟩,tr,_,_,rfl,rfl,htr30,by rw[List.length_map];decide,?_⟩
         exact nx4 _ _ ⟨LawD.wr L28 tr0 L30 htr30,by rw[ah (aD hn428 tr0)];exact s30 _ _ hn429,(due29.nx (NX.same s30)).wr (ndr tr tr0),_,_,rfl⟩
       ·have n29:=NX.of L28.tb k29
        have L29:=L28.kt k29 T29
        have due29:=due28.nx n29
        have hn429:=n29 _ _ hn428 (fun φ z=>(nomatch z))
        have txl:(tx u dz).length=n:=by rw[lA fun d hd=>(stS.mem.mp (hdz d hd)).1.2.1,hsum]
        have hant:=vR (A:=A3) u1 And (fun c hc=>(Au c).mpr hc) stS hdz
        rw[hrk] at hant
        have ltx:=pL (fun c hc=>(Au c).mp hc) lu hant
        have hdr:H29 dr=some (.lst ((tx u dz).map sg)):=by
         rcases due29 with⟨no,_⟩ | ⟨y',t,e,hy',tl',ht',h⟩
         ·exact absurd ⟨by lia,by lia⟩ no
         ·have ey':y'=y:=by lia
          rw[ey'] at ht'
          rw[mV (txl.trans tl'.symm) hant ht']
          exact h
        refine nT (fun R hR=>?_) fun H30 s30=>?_
        ·refine iJ (fun R' hR'=>?_) fun H30 s30=>iJ (fun R' hR'=>?_) fun H31 s31=>?_
         ·exact⟨_,rfl,_,true,TyOf.lst htr,rfl,_,rfl,hR' _ (Same.refl _)⟩
         ·exact⟨_,rfl,_,rfl,yQ ltx (s30 _ _ htr) (s30 _ _ hdr) ⟨_,rfl,hR' _ (Same.refl _)⟩⟩
         ·have L31:=(L29.same s30).same s31
          refine⟨_,rfl,_,rfl,hd,q,u,u,rfl,rfl,SqL.of L31.hh,SqL.of L31.hq,lu.cp,lu.cp,_,rfl,?_⟩
          rw[if_pos rfl,decide_eq_true rfl]
          exact hR _ (s30.trans s31)
        ·have L30:=L29.same s30
         have htr30:=s30 _ _ htr
         refine⟨_,rfl,.inl ⟨rfl,_,SqL.of htr30⟩,tr,_,_,rfl,rfl,htr30,by rw[List.length_map,txl];exact Nat.le_of_lt (bn (by lia)),?_⟩
         exact nx4 _ _ ⟨LawD.wr L28 tr0 L30 htr30,by rw[ah (aD hn428 tr0)];exact s30 _ _ hn429,(due29.nx (NX.same s30)).wr (ndr tr tr0),_,_,rfl⟩
      ·rintro σ H28 ⟨L28,hn428,due28,x14,x15,rfl⟩
       exact nx3 _ _ ⟨L28,hn428,_,_,_,_,rfl⟩
     ·have hout:¬(0≤num∧num<(aG u n:Nat))→R _ H26:=fun no=>hR _ _ ⟨dr,rfl,L26,hn426,.inl ⟨no,hdr26⟩⟩
      refine⟨_,rfl,_,_,rfl,rfl,_,rfl,?_⟩
      by_cases c1:0≤num
      ·rw[decide_eq_true c1]
       refine aY ⟨_,rfl,_,_,rfl,rfl,_,rfl,?_⟩
       by_cases c2:num<((aG u n:Nat):Int)
       ·rw[decide_eq_true c2]
        obtain⟨y,rfl⟩:∃y:Nat,num=(y:Int):=⟨num.toNat,by lia⟩
        obtain⟨t,tl,han⟩:=nG (u:=u) Ari n (0,0) y (by rw[fwc];lia)
        refine aY ⟨_,rfl,_,rfl,_,rfl,r3,f3,l3,o3,u,A3,t,es,ds,y,by rw[tl];rfl,L26.hr,L26.hf,Ari,L26.st,L26.hl,by lia,by lia,L26.hds,A26,by lia,han,fun v H27 v0 hv s27=>?_⟩
        exact hR _ _ ⟨v,rfl,L26.same s27,s27 _ _ hn426,.inr ⟨y,t,rfl,by lia,tl,han,hv⟩⟩
       ·rw[decide_eq_false c2]
        exact aX (hout fun z=>c2 z.2)
      ·rw[decide_eq_false c1]
       exact aX ⟨_,rfl,aX (hout fun z=>c1 z.1)⟩
    ·rintro σ H25 ⟨L25,hn425,y12,y13,y14,y15,rfl⟩
     exact nx2 _ _ ⟨L25,_,_,_,_,_,_,_,_,rfl⟩
   ·rintro σ H17 ⟨L17,w8,w9,w10,w11,w12,w13,w14,w15,rfl⟩
    exact nx1 _ _ ⟨L17.hb,L17.tb,_,_,_,_,_,_,_,_,_,_,_,_,_,_,_,rfl⟩
  ·rintro σ H2 ⟨hb2,T2,v1,v2,v3,v4,v5,v6,v7,v8,v9,v10,v11,v12,v13,v14,v15,rfl⟩
   exact k H2 T2
end
def iW(n:Int):Option (Option Value)→Bool
 | some (some (.int i _))=>decide (i=n)
 | _=>false
theorem rG{n:Int}{o:Option (Option Value)}(h:iW n o=true):∃u,o=some (some u)∧RelV (.int n) u:=by
 unfold iW at h
 split at h
 ·rename_i i t
  have e:i=n:=of_decide_eq_true h
  subst e
  exact⟨_,rfl,t,rfl⟩
 ·cases h
theorem sY{P:Program}{w:World}{K:PySem.W.Frag}{mg:Str→Option Value}{st:Stmt}{fa:Addr}{k:Nat}{sp:Sp}{CX:bB}(M:Md K mg)(F:FF K "law" st)(hfa:mg "law"=some (.ref fa))(hb:∀(kV doc pm:Value) (an:Option Addr) (cdv ct:Value) (s:Shared) (v:Value),BindsTo s (PySem.W.fnOf "law" "law" (bW st) (bz st) (ar st) .none kV doc pm an cdv ct) ⟨[v],[]⟩ [("script",v)])(h:∀base:Heap,K.In base→cH mg base→Fn P w K mg base CX "law" k ["script"] sp):∃fd:FuncData,(∀(s:Shared) (v:Value),BindsTo s fd ⟨[v],[]⟩ [("script",v)])∧∀base:Heap,K.In base→base.Ns mainGlobals mg→cH mg base→FnOk P w K mg base CX k fa fd ["script"] sp:=by
 obtain⟨f,oc,od,an,osl,kV,doc,pm,cdv,ct,a,l,c,kk⟩:=F.ex
 have e:=hfa.symm.trans (M.ns _ _ a)
 cases e
 refine⟨_,hb kV doc pm an cdv ct,fun base hK _ hB=>?_⟩
 obtain⟨f',fd',F',hm',_,_,oc',od',osl',l'⟩:=(h base hK hB).ex
 have e:=hm'.symm.trans (M.ns _ _ a)
 cases e
 rw[l] at l'
 cases l'
 exact F'
theorem all_mk{P:Program}{w:World}{K:PySem.W.Frag}{h:Heap}{mg:Str→Option Value}{fa cc pt:Addr}(X:K.In h)(G:h.Ns mainGlobals mg)(hfa:mg "law"=some (.ref fa))(hC:PySem.W.codeHdIn K cc pt=true)(f1:FF K "_law_pot" jx)(f2:FF K "_law_take" jc)(f3:FF K "_law_letters" kg)(f4:FF K "_law_signs" ll)(f5:FF K "_law_word" jQ)(f6:FF K "_law_shifts" jo)(f7:FF K "is_sign" jW)(f8:FF K "check_signs" kc)(f9:FF K "check_word" lm)(f10:FF K "borders" jT)(f11:FF K "periods" jG)(f12:FF K "lies_at" lD)(f13:FF K "shifts" iV)(f14:FF K "check_within" gD)(f15:FF K "_law_laid" kr)(f16:FF K "counts_by_length" kF)(f17:FF K "next_step" j9)(f18:FF K "text_at" ic)(f19:FF K "_law_fails" lB)(f20:FF K "_law_next" jM)(f21:FF K "_law_steps" kD)(f22:FF K "_law_counts" je)(f23:FF K "_law_due" jN)(f24:FF K "_law_flags" jw)(f25:FF K "_law_due_flags" kY)(f26:FF K "_law_said" j8)(f27:FF K "law" lG)(fC:FFC K "single_steps" eT cc)(exs:Md K mg→∃c0 c1 c2 c3 c4 c5 c6 c7 c8 c9,Exs K mg c0 c1 c2 c3 c4 c5 c6 c7 c8 c9)(na:PySem.W.nsIn K mainGlobals "sorted"=some none)(ne:PySem.W.nsIn K mainGlobals "set"=some none)(nd:PySem.W.nsIn K mainGlobals "dict"=some none)(nm:iW 200 (PySem.W.nsIn K mainGlobals "MOST_LENGTH")=true)(b:Md K mg→Bl mg):∃fd:FuncData,(∀(s:Shared) (v:Value),BindsTo s fd ⟨[v],[]⟩ [("script",v)])∧∀base:Heap,K.In base→base.Ns mainGlobals mg→cH mg base→FnOk P w K mg base ai 9 fa fd ["script"] (iy K pt):=by
 have M:=xC X G
 have Bl:=b M
 obtain⟨_,_,_,_,_,_,_,c7,_,_,S⟩:=exs M
 have nsorted:mg "sorted"=none:=M.ns _ _ na
 have nset:mg "set"=none:=M.ns _ _ ne
 have ndict:mg "dict"=none:=M.ns _ _ nd
 obtain⟨uM,nm1,nm2⟩:=rG nm
 have nm3:=M.ns _ _ nm1
 have O7:Exc K mg "NoNumber" c7:=⟨S.bNoNumber,(excFacts.of S.facts c7 (by simp)).isIn⟩
 refine sY M f27 hfa (fun _ _ _ _ _ _ s v=>.of_eq rfl) fun base hK hB=>?_
 have C:=PySem.W.codeHd_of_K hK hC
 have g1:=xg (P:=P) (w:=w) (base:=base) M Bl f1
 have g2:=xV (P:=P) (w:=w) (base:=base) M f2
 have g3:=vg M Bl f3 g2
 have g4:=vL M Bl f4 g2
 have g5:=xB M Bl f5 g2 g4
 have g6:=yG (P:=P) (w:=w) (base:=base) M Bl f6
 have g7:=yT (P:=P) (w:=w) (base:=base) M Bl f7
 have g8:=zj M Bl f8 g7
 have g9:=wR M Bl f9 g8
 have g10:=tQ M Bl f10 g8
 have g11:=rC M Bl f11 g10
 have g12:=uj M Bl f12 g8 g9
 have g13:=t7 M Bl f13 g9 g11
 have g14:=rq (P:=P) (w:=w) (base:=base) M Bl f14
 have x14:=(Fn.toX (CX:=bw P w) g14).or (tu (P:=P) (w:=w) (base:=base) M Bl f14 O7) (k:=1)
 have g15:=u6 M Bl f15 g2 g6
 have gS:=xQ M Bl nsorted C hB fC g13 g12
 have g16:=wp (P:=P) (w:=w) (base:=base) M Bl f16
 have g17:=tS (P:=P) (w:=w) (base:=base) M Bl f17
 have g18:=(Fn.toX (CX:=bw P w) (xp M Bl nm3 nm2 f18 g9 g14 gS g16 g17)).or (zg M Bl nm3 nm2 f18 g9 x14 gS g16 g17) (k:=7)
 have g19:=wY (P:=P) (w:=w) (base:=base) M Bl f19
 have g20:=yA (P:=P) (w:=w) (base:=base) M Bl f20
 have g21:=sT M Bl nsorted nset f21 g19 g20
 have g22:=xJ M Bl ndict f22 g21
 have g23:=t5 (P:=P) (w:=w) (base:=base) M Bl f23
 have g24:=vV (P:=P) (w:=w) (base:=base) M Bl f24 S
 have g25:=tD (P:=P) (w:=w) (base:=base) M Bl f25
 have g26:=uT M Bl f26 S g18 g24
 exact uP M Bl f27 g1 g2 g3 g5 g15 g22 g25 g23 g26
theorem walk{l:PySem.W.OpenLaw}{q:Program}{loose:List Str}{XP:(Str→Option Value)→Heap→Prop}{YP:World→Heap→Prop}{d:DefRec}{K:Params→PySem.W.Frag}{c pt:Addr}(hn:l.most=some 63)(hdf:d.params.defaults=[])(hY:∀(w:World) (h:Heap),YP w h→(K w.params).In h)(hT:∀(w:World) (h:Heap),YP w h→h.get? pt=some (PySem.W.tabObj #[]))(hC:∀w:World,PySem.W.codeHdIn (K w.params) c pt=true)(hKP:∀w:World,(K w.params).lookup pt=none)(F:∀(w:World) (mg:Str→Option Value) (fa:Addr) (h:Heap),PySem.W.codeHdIn (K w.params) c pt=true→(K w.params).In h→h.Ns mainGlobals mg→mg d.name=some (.ref fa)→∃fd:FuncData,(∀(s:Shared) (u:Value),BindsTo s fd ⟨[u],[]⟩ [("script",u)])∧∀base:Heap,(K w.params).In base→base.Ns mainGlobals mg→cH mg base→FnOk l.prog w (K w.params) mg base ai 9 fa fd ["script"] (iy (K w.params) pt)):PySem.W.WalkO q loose XP YP l.row.toRowW d [] (fun f vs=>PySem.call f vs):=by
 refine L2.walk_tab (n:=63) (k:=9) (x:="script") (c:=c) (P:=pt) (CX:=fun _=>ai) (sp:=fun w=>iy (K w.params) pt) hn (by decide) hdf ⟨rfl,by decide,by decide⟩ hY hT hC hKP (fun w mg fa h=>F w mg fa h (hC w)) (fun _ _ a ns hl B hS=>⟨a,ns,rfl,hS,hl,.inl B.tab,fun H' T=>⟨rfl,?_⟩⟩) fun _ _ _ _ _ z=>z
 rcases T with t | ⟨c,t,_⟩
 ·exact⟨_,t⟩
 ·exact⟨_,t⟩
end Ov
noncomputable section
namespace PySem.W.Fast
def tw17201973409688057048:=Nat
def tw13772571638066756094:=Nat
def tw6790113284862881754:=Nat
def tw17888068441787836035:=Nat
def tw9116650756233304806:=Nat
def tw3080761854569158786:=Nat
def tw15414591850809711085:=Nat
def tw5595648041077975965:=Nat
def tw6249983314418092607:=Nat
def tw8022738270809998301:=Nat
def tw971253994879012692:=Nat
def tw16383998667163269545:=Nat
def tw2957891743725515042:=Nat
def tw13825868140701373024:=Nat
def tw11275371368780850550:=Nat
def tw8109980431171324080:=Nat
def tw7413137051198264538:=Nat
def tw4004161132571510138:=Nat
def tw2513372545802679490:=Nat
def tw2725971240429597818:=Nat
def tw14167920446483025953:=Nat
def tw4369748872877056400:=Nat
def tw12462799230750435745:=Nat
def tw1521403298565032212:=Nat
def tw10835758618627513206:=Nat
def tw12665320367293596287:=Nat
def tw9678089450417738942:=Nat
def tw13664736755645433655:=Nat
def tw5829188626563083090:=Nat
def tw5968120913427854827:=Nat
def tw6331375996011840016:=Nat
def tw15122023582645407935:=Nat
def tw1479123547857051043:=Nat
def tw13332660605613256338:=Nat
def tw4615940179069746491:=Nat
def tw9677522669199708037:=Nat
def tw5984749115178375762:=Nat
def tw16556057780192299968:=Nat
def tw10666870656487006782:=Nat
def tw3079321737404985061:=Nat
def tw5899652748878117709:=Nat
def tw9412821205763655569:=Nat
def tw4624334463822434707:=Nat
def tw11111603069105461751:=Nat
def tw6553409576294927841:=Nat
def tw5188579311232764979:=Nat
def tw3933485648118868081:=Nat
def tw1673172198527805093:=Nat
def tw17518937769571834306:=Nat
def tw3580276311487266748:=Nat
def tw17777323252817993107:=Nat
def tw16778792235530251584:=Nat
def tw9260486926143048540:=Nat
def tw2307340796814338431:=Nat
def tw4763504725640784011:=Nat
def tw5732730944697284116:=Nat
def tw10380559188894043871:=Nat
def tw8100582389189643616:=Nat
def tw5639779851347766625:=Nat
def tw10393098002864811585:=Nat
def tw3557871774355140522:=Nat
def tw5312719931833330815:=Nat
def tw5587827230379405966:=Nat
def tw13434495759513741560:=Nat
def tw1315845045791730989:=Nat
def tw7698673521007115963:=Nat
def tw7608414493557687594:=Nat
def tw65782566579410597:=Nat
def tw13915924724770566527:=Nat
def tw2056893506209628435:=Nat
def tw10423475528953900307:=Nat
def tw5520748839873821477:=Nat
def tw18158428182074361361:=Nat
def tw685300112362241802:=Nat
def tw16783049889165382522:=Nat
def tw9858230565444763488:=Nat
def tw17958335932757233280:=Nat
def tw15717717530455661901:=Nat
def tw17333258895440518327:=Nat
def tw6312454432611041941:=Nat
def tw8797391714489626953:=Nat
def tw13962142085315922648:=Nat
def tw4272404923023995898:=Nat
def tw17209424863575110845:=Nat
def tw9367982157320121371:=Nat
def tw8014188734642410702:=Nat
def tw6496839329672244009:=Nat
def tw17273938164578444824:=Nat
def tw7075262949079796170:=Nat
def tw15469480636767705595:=Nat
def tw17078228070964906026:=Nat
def tw9644920645764055019:=Nat
def tw14747570970510502977:=Nat
def tw4389293371906603054:=Nat
def tw17560861290812599910:=Nat
def tw12497643380608181813:=Nat
def tw16153008308983146906:=Nat
def tw13000970961571316546:=Nat
def tw2239606937525493113:=Nat
def tw15143282194349040448:=Nat
end PySem.W.Fast
end
open PySem PySem.W PyProof.Rows
set_option maxRecDepth 100000 in
set_option maxHeartbeats 0 in
theorem PySem.Challenge.cw_overlaid_k38_texts_of_numbers_holds : PySem.Challenge.rw_overlaid_k38_texts_of_numbers.Holds := by
 w_on;o_law;k_head;(case hw=>w_witness2)
 k_fill
 refine' Ov.walk (l:=PySem.Challenge.rw_overlaid_k38_texts_of_numbers) rfl rfl (fun w h Y=>PySem.W.km_in_of Y) (fun w h Y=>PySem.W.km_tabs_of Y _ List.mem_cons_self) ?hC ?hKP ?F
 case F=>
  intro w mg fa h hc KX G hmg
  refine' Ov.all_mk KX G hmg hc ?f1 ?f2 ?f3 ?f4 ?f5 ?f6 ?f7 ?f8 ?f9 ?f10 ?f11 ?f12 ?f13 ?f14 ?f15 ?f16 ?f17 ?f18 ?f19 ?f20 ?f21 ?f22 ?f23 ?f24 ?f25 ?f26 ?f27 ?fC ?X ?Nsorted ?Nset ?Ndict ?NMOST ?B
  (case fC=>(refine' Ov.ffc_mk ?a ?l ?c ?k;(case a|l|c|k=>k_is)))
  (case f1|f2|f3|f4|f5|f6|f7|f8|f9|f10|f11|f12|f13|f14|f15|f16|f17|f18|f19|f20|f21|f22|f23|f24|f25|f26|f27=>(refine' L2.ff_mk ?a ?l ?c ?k;(case a|l|c|k=>k_is)))
  (case X=>(intro M;refine' ⟨_,_,_,_,_,_,_,_,_,_,Ov.exs_mk M ?a0 ?a1 ?a2 ?a3 ?a4 ?a5 ?a6 ?a7 ?a8 ?a9 ?av ?ef ?nd⟩;(case a0|a1|a2|a3|a4|a5|a6|a7|a8|a9|av=>k_is);(case ef=>kernel_rfl);(case nd=>decide)))
  (case Nsorted=>k_is)
  (case Nset=>k_is)
  (case Ndict=>k_is)
  (case NMOST=>kernel_rfl)
  (case B=>(intro M;refine' L2.bl_of M ?b1 ?b2 ?b3 ?b4 ?b5 ?b6 ?b7 ?b8 ?b9 ?b10 ?b11 ?b12 ?b13 ?b14 ?b15;(case b1|b2|b3|b4|b5|b6|b7|b8|b9|b10|b11|b12|b13|b14|b15=>k_is)))
 case hC=>(intro w;kernel_rfl)
 case hKP=>(intro w;kernel_rfl)
