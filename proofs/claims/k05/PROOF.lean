import PyProof.Rows.All
import Wide.All
import KE.KNestM
import OpenK.KOwn
import OpenK.KRaise
import KE.KIsAll
import KE.KTypeName
import Wide.FinOn
import Lean
import PyProof.EqAt
import PyProof.EqKinds
import PyProof.TupleCall
import PyProof.Draws
import PyProof.EnumMake
import KE.KLam
import KE.KMinKey
import PyProof.StrCalls2
import PyProof.Rows.StrIndexOr
import PyProof.CollectIter
import PyProof.ListStr
import KE.KDictLaws
import KE.KSortTup
import PySem.Challenge.RW_glowrow_k05_what_is_a_stand
set_option Elab.async false
set_option linter.all false
set_option maxRecDepth 100000
set_option maxHeartbeats 4000000
namespace L2
open PySem PySem.Spec PyProof.Rows
abbrev dH:=Sum Int Str
def sK:dH→Value→Bool
 | .inl k,v=>Value.isInt k v
 | .inr x,v=>Value.isStrOf x v
def NJ (w:World):dH→Int
 | .inl k=>hashInt k
 | .inr x=>hashStr w x
theorem cO:∀{k:dH} {v:Value},sK k v=true→(∃i t,k=Sum.inl i∧v=Value.int i t)∨(∃x t,k=Sum.inr x∧v=Value.str x t)
 | .inl i,v,h=>by
  obtain⟨t,e⟩:=Value.isInt_shape (k:=i) (v:=v) h
  exact .inl ⟨i,t,rfl,e⟩
 | .inr x,v,h=>by
  obtain⟨t,e⟩:=Value.isStrOf_shape (x:=x) (v:=v) h
  exact .inr ⟨x,t,rfl,e⟩
theorem An (i:Int)(t:Tok):sK (.inl i) (.int i t)=true:=by simp[sK,Value.isInt]
theorem z0 (x:Str)(t:Tok):sK (.inr x) (.str x t)=true:=by simp[sK,Value.isStrOf]
theorem IZ (a b:Int):decide ((Sum.inl a:dH)=Sum.inl b)=(a==b):=by
 by_cases e:a=b
 ·subst e;simp
 ·have h:¬(Sum.inl a:dH)=Sum.inl b:=fun q=>e (Sum.inl.inj q)
  rw[decide_eq_false h]
  exact(beq_eq_false_iff_ne.mpr e).symm
theorem Ht (a b:Str):decide ((Sum.inr a:dH)=Sum.inr b)=decide (a=b):=by
 by_cases e:a=b
 ·subst e;simp
 ·have h:¬(Sum.inr a:dH)=Sum.inr b:=fun q=>e (Sum.inr.inj q)
  rw[decide_eq_false h,decide_eq_false e]
theorem GV (a:Int)(b:Str):decide ((Sum.inl a:dH)=Sum.inr b)=false:=decide_eq_false (fun q=>nomatch q)
theorem GR (a:Str)(b:Int):decide ((Sum.inr a:dH)=Sum.inl b)=false:=decide_eq_false (fun q=>nomatch q)
def cD (prog:Program)(w:World):PySem.KeyKind prog w dH where
 is:=sK
 hash:=NJ w
 inj:=fun v a b ha hb=>by
  rcases cO ha with⟨i,t,rfl,rfl⟩|⟨x,t,rfl,rfl⟩
  ·rcases cO hb with⟨j,u,rfl,e⟩|⟨y,u,rfl,e⟩
   ·injection e with e1 _;rw[e1]
   ·exact nomatch e
  ·rcases cO hb with⟨j,u,rfl,e⟩|⟨y,u,rfl,e⟩
   ·exact nomatch e
   ·injection e with e1 _;rw[e1]
 byValue:=fun k v h=>by
  rcases cO h with⟨i,t,rfl,rfl⟩|⟨x,t,rfl,rfl⟩ <;> rfl
 pyHash:=fun hv h=>by
  rcases cO hv with⟨i,t,rfl,rfl⟩|⟨x,t,rfl,rfl⟩
  ·exact wpAny_pyHash_int h
  ·exact wpAny_pyHash_str h
 eqBool:=fun hu hv h=>by
  rcases cO hu with⟨i,t,rfl,rfl⟩|⟨x,t,rfl,rfl⟩
  ·rcases cO hv with⟨j,u,rfl,rfl⟩|⟨y,u,rfl,rfl⟩
   ·rw[IZ] at h;exact wpAny_eqBool_int h
   ·rw[GV] at h;exact SeqAt.EqAt.int_str i t y u _ _ _ _ h
  ·rcases cO hv with⟨j,u,rfl,rfl⟩|⟨y,u,rfl,rfl⟩
   ·rw[GR] at h;exact SeqAt.EqAt.str_int x t j u _ _ _ _ h
   ·rw[Ht] at h;exact wpAny_eqBool_str h
 «strs»:=fun k x t v h=>by
  rcases cO h with⟨i,u,rfl,e⟩|⟨y,u,rfl,e⟩
  ·exact nomatch e
  ·injection e with e1 _
   subst e1
   cases v <;> rfl
theorem vB (prog:Program)(w:World)(i:Int)(t:Tok):(cD prog w).is (.inl i) (.int i t)=true:=An i t
theorem vZ (prog:Program)(w:World)(x:Str)(t:Tok):(cD prog w).is (.inr x) (.str x t)=true:=z0 x t
inductive V where
 | non|bl (b:Bool)|int (i:Int)|str (x:Str)|byt (b:Array UInt8)|flt (b:UInt64)|ref (a:Addr)|ty (n:String)
 deriving DecidableEq
def RelV:V→Value→Prop
 | .non,u=>u=Value.none
 | .bl b,u=>u=Value.bool b
 | .int i,u=>∃t,u=Value.int i t
 | .str x,u=>∃t,u=Value.str x t
 | .byt b,u=>∃t,u=Value.bytes b t
 | .flt b,u=>∃t,u=Value.float b t
 | .ref a,u=>u=Value.ref a
 | .ty n,u=>u=Value.type n
abbrev aZ:List V→List Value→Prop:=Paired RelV
variable{xs:List V}{us:List Value}
theorem aZ.length (r:aZ xs us):xs.length=us.length:=Paired.length r
theorem aZ.get:∀{xs:List V} {us:List Value} {i:Nat} {x:V},aZ xs us→xs[i]?=some x→∃u,us[i]?=some u∧RelV x u
 | _,_,_,_,.nil,e=>by simp at e
 | _,_,0,_,.cons r _,e=>by simp at e;subst e;exact⟨_,rfl,r⟩
 | _,_,i+1,x,.cons _ t,e=>by
  obtain⟨u,h1,h2⟩:=aZ.get (i:=i) (x:=x) t (by simpa using e)
  exact⟨u,by simpa using h1,h2⟩
variable{u:Value}
theorem aZ.set {x:V}(r:RelV x u):∀{xs:List V} {us:List Value} (i:Nat),aZ xs us→aZ (xs.set i x) (us.set i u)
 | _,_,_,.nil=>.nil
 | _,_,0,.cons _ t=>.cons r t
 | _,_,i+1,.cons q t=>.cons q (aZ.set r i t)
theorem aZ.append:∀{xs ys:List V} {us ws:List Value},aZ xs us→aZ ys ws→aZ (xs++ys) (us++ws)
 | _,_,_,_,.nil,s=>s
 | _,_,_,_,.cons r t,s=>.cons r (aZ.append t s)
theorem aZ.take:∀{xs:List V} {us:List Value} (n:Nat),aZ xs us→aZ (xs.take n) (us.take n)
 | _,_,0,_=>.nil
 | _,_,_+1,.nil=>.nil
 | _,_,n+1,.cons r t=>.cons r (aZ.take n t)
theorem aZ.drop:∀{xs:List V} {us:List Value} (n:Nat),aZ xs us→aZ (xs.drop n) (us.drop n)
 | _,_,0,r=>r
 | _,_,_+1,.nil=>.nil
 | _,_,n+1,.cons _ t=>aZ.drop n t
def lA:Option V→Option Value→Prop
 | some v,some u=>RelV v u
 | none,none=>True
 | _,_=>False
def KV {κ:Type}:List (κ×V)→List (κ×Value)→Prop:=Paired fun(p:κ×V) (q:κ×Value)=>p.1=q.1∧RelV p.2 q.2
def kV:dH→V
 | .inl i=>.int i
 | .inr x=>.str x
inductive HO where
 | lst (xs:List V)
 | tup (xs:List V)
 | dK (kvs:List (dH×V))|dT (kvs:List (List dH×V))
 | set (S:Int→Bool) (n:Nat)
 | ins (C dx:Addr) (fs:List (Str×V))
 | own (x:Addr)
 | xd (fs:List (Str×V))
 | met (f x:Addr)
 | rng (lo hi:Int)
 | frz (o:Obj) (u:HO)
 | tbl (ps:Array Value)
 | ext (φ:Heap→Prop)
abbrev Hp:=Addr→Option HO
def cj (H:Hp)(a:Addr)(o:HO):Hp:=fun b=>if b=a then some o else H b
variable{H:Hp}{a:Addr}{o:HO}
theorem bE :cj H a o a=some o:=by unfold cj;rw[if_pos rfl]
variable{b:Addr}
theorem az (h:b≠a):cj H a o b=H b:=by unfold cj;rw[if_neg h]
theorem wa {u:HO}(h:H a=some o)(h':H b=some u)(d:o≠u):a≠b:=by
 intro e;subst e;rw[h] at h';exact d (Option.some.inj h')
theorem bN (h:H a=some o)(h':H b=none):a≠b:=by
 intro e;subst e;rw[h] at h';cases h'
section
variable (P:Program)(w:World)
def cP (H:Hp)(h:Heap)(a:Addr):HO→Prop
 | .lst xs=>xs.length≤sizeLine∧∃(its:List Value) (n:Nat),aZ xs its∧h.get? a=some {cls:=.type "list",data:=.seq its.toArray n}
 | .tup xs=>xs.length≤sizeLine∧∃its:List Value,aZ xs its∧IsTup h a its.toArray
 | .dK kvs=>kvs.length≤sizeLine∧(a==sysModules)=false∧∃vs,KV kvs vs∧h.DictOf (cD P w) a vs
 | .dT kvs=>kvs.length≤sizeLine∧(a==sysModules)=false∧∃xs:List (List dH×Addr×Value),
   Paired (fun(p:List dH×V) (q:List dH×Addr×Value)=>p.1=q.1∧H q.2.1=some (.tup (p.1.map kV))∧RelV p.2 q.2.2) kvs xs∧
   ∃o es ep,h.get? a=some o∧o.ExactDict∧o.data=.dict es ep∧es.toList=xs.map (entryOfKey (tupleKind (cD P w)))∧(xs.map (·.1)).Nodup
 | .set S n=>h.SetOf (intKind P w) a S n
 | .ins C dx fs=>H dx=some (.own a)∧fs.length≤1000∧dx≠a∧h.get? a=some (W.instObj C dx)∧
   ∃mA,h.Ns1 dx mA∧(∀f,lA (fs.lookup f) (mA f))∧PySem.Within mA (fs.map (·.1))
 | .own _=>∃o,h.get? a=some o
 | .xd fs=>∃mA,h.Ns1 a mA∧∀f,lA (fs.lookup f) (mA f)
 | .rng lo hi=>∃t u v,h.get? a=some {cls:=.type "range",data:=.fields #[.int lo t,.int hi u,.int 1 v]}
 | .frz o u=>h.get? a=some o∧cP H h a u
 | .tbl ps=>h.get? a=some {cls:=.none,data:=.fields ps}
 | .met f x=>h.get? a=some (W.methodObj (.ref f) (.ref x))
 | .ext φ=>φ h∧(∃o,h.get? a=some o)∧∀h1 h2:Heap,φ h1→(∀o,h1.get? a=some o→h2.get? a=some o)→φ h2
def lN (H:Hp)(h:Heap):Prop:=∀a o,H a=some o→cP P w H h a o
end
section
variable {P:Program}{w:World}{H H':Hp}{h h':Heap}{a:Addr}{o:HO}
theorem cP.lt (x:cP P w H h a o):a<h.objs.size:=by
 cases o with
 | lst xs=>obtain⟨_,_,_,_,e⟩:=x;exact Heap.lt_size e
 | tup xs=>obtain⟨_,_,_,p⟩:=x;exact p.lt
 | dK kvs=>obtain⟨_,_,_,_,o,_,_,e,_⟩:=x;exact Heap.lt_size e
 | dT kvs=>obtain⟨_,_,_,_,o,_,_,e,_⟩:=x;exact Heap.lt_size e
 | set S n=>obtain⟨o,_,_,_,e,_⟩:=x;exact Heap.lt_size e
 | ins C dx fs=>obtain⟨_,_,_,e,_⟩:=x;exact Heap.lt_size e
 | own y=>obtain⟨_,e⟩:=x;exact Heap.lt_size e
 | xd fs=>obtain⟨_,⟨_,_,_,e,_⟩,_⟩:=x;exact Heap.lt_size e
 | rng lo hi=>obtain⟨_,_,_,e⟩:=x;exact Heap.lt_size e
 | frz ob u=>obtain⟨e,_⟩:=x;exact Heap.lt_size e
 | tbl ps=>exact Heap.lt_size (show h.get? a=some _ from x)
 | met f y=>exact Heap.lt_size (show h.get? a=some _ from x)
 | ext φ=>obtain⟨_,⟨_,e⟩,_⟩:=x;exact Heap.lt_size e
theorem Paired.mapP {α β:Type}{F G:α→β→Prop}:∀{l₁:List α} {l₂:List β},Paired F l₁ l₂→(∀a b,F a b→G a b)→Paired G l₁ l₂
 | _,_,.nil,_=>.nil
 | _,_,.cons r t,f=>.cons (f _ _ r) (Paired.mapP t f)
theorem cP.stay (x:cP P w H h a o)(k:∀b u,(b=a∨H b=some (.own a))→h.get? b=some u→h'.get? b=some u)
  (ho:∀b,H b=some (.own a)→H' b=some (.own a)) (ht:∀b xs,H b=some (.tup xs)→H' b=some (.tup xs)):cP P w H' h' a o:=by
 induction o with
 | lst xs=>obtain⟨z,its,n,r,e⟩:=x;exact⟨z,its,n,r,k _ _ (.inl rfl) e⟩
 | tup xs=>obtain⟨z,its,r,ob,e,c⟩:=x;exact⟨z,its,r,ob,k _ _ (.inl rfl) e,c⟩
 | dK kvs=>obtain⟨z,y,vs,r,ob,es,ep,e,c⟩:=x;exact⟨z,y,vs,r,ob,es,ep,k _ _ (.inl rfl) e,c⟩
 | dT kvs=>
  obtain⟨z,y,xs,r,ob,es,ep,e,c⟩:=x
  exact⟨z,y,xs,Paired.mapP r fun p q z=>⟨z.1,ht _ _ z.2.1,z.2.2⟩,ob,es,ep,k _ _ (.inl rfl) e,c⟩
 | set S n=>obtain⟨ob,es,ep,t,e,c⟩:=x;exact⟨ob,es,ep,t,k _ _ (.inl rfl) e,c⟩
 | ins C dx fs=>
  obtain⟨d,z,ne,e,mA,⟨od,es,ep,e2,c⟩,r⟩:=x
  exact⟨ho _ d,z,ne,k _ _ (.inl rfl) e,mA,⟨od,es,ep,k _ _ (.inr d) e2,c⟩,r⟩
 | own y=>obtain⟨ob,e⟩:=x;exact⟨ob,k _ _ (.inl rfl) e⟩
 | xd fs=>obtain⟨mA,⟨od,es,ep,e,c⟩,r⟩:=x;exact⟨mA,⟨od,es,ep,k _ _ (.inl rfl) e,c⟩,r⟩
 | rng lo hi=>obtain⟨t,u,v,e⟩:=x;exact⟨t,u,v,k _ _ (.inl rfl) e⟩
 | frz ob u ih=>obtain⟨e,q⟩:=x;exact⟨k _ _ (.inl rfl) e,ih q⟩
 | tbl ps=>
  have e:h.get? a=some {cls:=.none,data:=.fields ps}:=x
  show h'.get? a=some {cls:=.none,data:=.fields ps}
  exact k a _ (.inl rfl) e
 | met f y=>
  have e:h.get? a=some (W.methodObj (.ref f) (.ref y)):=x
  show h'.get? a=some (W.methodObj (.ref f) (.ref y))
  exact k a _ (.inl rfl) e
 | ext φ=>obtain⟨p,⟨o,e⟩,st⟩:=x;exact⟨st _ _ p fun o q=>k _ _ (.inl rfl) q,⟨o,k _ _ (.inl rfl) e⟩,st⟩
theorem lN.lt (x:lN P w H h)(e:H a=some o):a<h.objs.size:=(x a o e).lt
theorem lN.fresh (x:lN P w H h)(e:h.objs.size≤a):H a=none:=by
 cases q:H a with
 | none=>rfl
 | some u=>exact absurd (Nat.lt_of_lt_of_le (x.lt q) e) (Nat.lt_irrefl _)
theorem lN.kept (x:lN P w H h)(k:∀b u,h.get? b=some u→h'.get? b=some u):lN P w H h':=fun a o e=>
 (x a o e).stay (fun b u _ q=>k b u q) (fun _ q=>q) fun _ _ q=>q
theorem lN.laid (x:lN P w H h)(k:∀b u,h.get? b=some u→h'.get? b=some u)(hp:h.objs.size≤a)(new:cP P w (cj H a o) h' a o):lN P w (cj H a o) h':=fun b u e=>by
 have hn:=x.fresh hp
 by_cases hb:b=a
 ·subst hb;rw[bE] at e;cases e;exact new
 ·rw[az hb] at e
  exact(x b u e).stay (fun c v _ q=>k c v q) (fun c q=>by rw[az (bN q hn)];exact q) fun c xs q=>by rw[az (bN q hn)];exact q
end
def Rd (H:Hp)(a:Addr)(u:HO):Prop:=H a=some u∨∃o,H a=some (.frz o u)
variable{P:Program}{w:World}{h:Heap}
theorem Rd.ok {u:HO}(r:Rd H a u)(x:lN P w H h):cP P w H h a u:=by
 rcases r with r|⟨o,r⟩
 ·exact x a u r
 ·obtain⟨_,q⟩:=x a _ r
  exact q
def Mo:Option HO→Prop
 | some (.lst _)=>True
 | some (.dK _)=>True
 | some (.dT _)=>True
 | some (.set _ _)=>True
 | some (.ins _ _ _)=>True
 | some (.ext _)=>True
 | _=>False
section
variable {P:Program}{w:World}{H:Hp}{h h':Heap}{x e:Addr}{o':HO}
theorem lN.write (ok:lN P w H h)(mu:Mo (H x))(he:e=x∨H e=some (.own x))(k:∀b u,b≠e→h.get? b=some u→h'.get? b=some u)(heo:∃u,h'.get? e=some u)
  (new:cP P w (cj H x o') h' x o'):lN P w (cj H x o') h':=fun b u q=>by
 have nown:∀c y,H c=some (.own y)→c≠x:=fun c y r z=>by subst z;rw[r] at mu;exact mu
 have ntup:∀c xs,H c=some (.tup xs)→c≠x:=fun c xs r z=>by subst z;rw[r] at mu;exact mu
 by_cases hb:b=x
 ·subst hb;rw[bE] at q;cases q;exact new
 ·rw[az hb] at q
  by_cases hbe:b=e
  ·have q':H b=some (.own x):=by
    rcases he with z|z
    ·exact absurd (hbe.trans z) hb
    ·rw[hbe];exact z
   rw[q] at q';cases q'
   obtain⟨v,hv⟩:=heo
   exact⟨v,by rw[hbe];exact hv⟩
  ·refine(ok b u q).stay (fun c v hc r=>k c v ?_ r) (fun c r=>by rw[az (nown c b r)];exact r) fun c xs r=>by rw[az (ntup c xs r)];exact r
   rcases hc with rfl|hc
   ·exact hbe
   ·rintro rfl
    rcases he with z|z
    ·exact nown c b hc z
    ·rw[hc] at z;cases z;exact hb rfl
end
structure Un (fs ex:List Addr)(H H':Hp)(h h':Heap):Prop where
 keep:∀b o,h.get? b=some o→H b=none→b∉fs→b∉ex→h'.get? b=some o
 slot:∀b o,h.get? b=some o→H b=none→b∈fs→b∉ex→∃sl,h'.get? b=some {o with slots:=sl}
 free:∀b o,h.get? b=some o→H b=none→b∉ex→H' b=none
 there:∀b o,h.get? b=some o→b∉ex→∃o',h'.get? b=some o'
 tups:∀b xs,H b=some (.tup xs)→H' b=some (.tup xs)
 frzs:∀b o u,H b=some (.frz o u)→H' b=some (.frz o u)
 tbls:∀b ps,H b=some (.tbl ps)→∃more,H' b=some (.tbl (ps++more))
section
variable {fs fs' ex ex':List Addr}{H H1 H2:Hp}{h h1 h2 h':Heap}{a x e:Addr}{o:HO}
theorem Un.any (u:Un fs ex H H1 h h1){ob:Obj}(q:h.get? b=some ob)(n:H b=none)(hx:b∉ex):∃sl,h1.get? b=some {ob with slots:=sl}:=by
 by_cases hb:b∈fs
 ·exact u.slot b ob q n hb hx
 ·exact⟨ob.slots,u.keep b ob q n hb hx⟩
theorem Un.kept (k:∀b u,h.get? b=some u→h'.get? b=some u):Un fs ex H H h h':=
 ⟨fun b ob q _ _ _=>k b ob q,fun b ob q _ _ _=>⟨ob.slots,k b ob q⟩,fun _ _ _ n _=>n,fun b ob q _=>⟨ob,k b ob q⟩,fun _ _ q=>q,fun _ _ _ q=>q,fun _ ps q=>⟨#[],by rw[q];simp⟩⟩
theorem Un.refl:Un fs ex H H h h:=Un.kept fun _ _ q=>q
theorem Un.laid (k:∀b u,h.get? b=some u→h'.get? b=some u)(hp:h.objs.size≤a)(hn:H a=none):Un fs ex H (cj H a o) h h' where
 keep:=fun b u q _ _ _=>k b u q
 slot:=fun b u q _ _ _=>⟨u.slots,k b u q⟩
 free:=fun b u q n _=>by rw[az (Nat.ne_of_lt (Nat.lt_of_lt_of_le (Heap.lt_size q) hp))];exact n
 there:=fun b u q _=>⟨u,k b u q⟩
 tups:=fun b xs q=>by rw[az (bN q hn)];exact q
 frzs:=fun b u xs q=>by rw[az (bN q hn)];exact q
 tbls:=fun b ps q=>⟨#[],by rw[az (bN q hn),q];simp⟩
theorem Un.write (mu:Mo (H x))(he:e=x∨H e=some (.own x))(k:∀b u,b≠e→h.get? b=some u→h'.get? b=some u)(heo:∃u,h'.get? e=some u):Un fs ex H (cj H x o) h h':=by
 have hx:∀b,H b=none→b≠x:=fun b n z=>by subst z;rw[n] at mu;exact mu
 have hb:∀b,H b=none→b≠e:=fun b n z=>by
  subst z
  rcases he with r|r
  ·exact hx b n r
  ·rw[n] at r;cases r
 have hm:∀b u,H b=some u→¬Mo (some u)→b≠x:=fun b u q nm z=>by subst z;rw[q] at mu;exact nm mu
 refine⟨fun b u q n _ _=>k b u (hb b n) q,fun b u q n _ _=>⟨u.slots,k b u (hb b n) q⟩,fun b u q n _=>by rw[az (hx b n)];exact n,fun b u q _=>?_,
  fun b xs q=>by rw[az (hm b _ q fun z=>z)];exact q,fun b u xs q=>by rw[az (hm b _ q fun z=>z)];exact q,fun b ps q=>⟨#[],by rw[az (hm b _ q fun z=>z),q];simp⟩⟩
 by_cases hbe:b=e
 ·subst hbe;exact heo
 ·exact⟨u,k b u hbe q⟩
end
def trk (h:Heap)(H:Hp):List Addr:=(List.range h.objs.size).filter fun a=>(H a).isSome
def uR (h:Heap)(H:Hp):Heap:=W.hideAll h (trk h H)
theorem zx (h:Heap)(H:Hp):(uR h H).objs.size=h.objs.size:=W.hideAll_size _ _
theorem Dl {o:Obj}(e:h.get? b=some o)(n:H b=none):(uR h H).get? b=some o:=
 W.hideAll_get _ e fun hm=>by
  have q:(H b).isSome=true:=(List.mem_filter.mp hm).2
  rw[n] at q;simp at q
theorem D2 {o:Obj}(e:(uR h H).get? b=some o):h.get? b=some o∧H b=none:=by
 have e':h.get? b=some o:=W.of_hideAll (trk h H) e
 refine⟨e',?_⟩
 cases q:H b with
 | none=>rfl
 | some x=>
  have hm:b∈trk h H:=List.mem_filter.mpr ⟨List.mem_range.mpr (Heap.lt_size e'),by simp[q]⟩
  have z:(uR h H).get? b=none:=W.hideAll_none (trk h H) hm
  rw[z] at e;cases e
def Eg (g h:Heap)(L:Addr):List (Addr×Obj):=(List.range h.objs.size).filterMap fun a=>if a=L∨(g.get? a).isSome=true then none else(h.get? a).map fun o=>(a,o)
def rest (g h:Heap)(L d:Addr):List (Addr×Obj):=(Eg g h L).filter fun p=>decide (p.1≠d)
structure Mod (K:W.Frag)(mg:Str→Option Value)(base:Heap):Prop where
 kin:K.In base
 glob:base.Ns mainGlobals mg
 blt:∃mb,base.Ns builtinsNs mb∧∀x:Str,x≠"__name__"→mb x=bootBuiltins x
 nolimit:base.NoLimit
structure Cx where
 prog:Program
 w:World
 K:W.Frag
 mg:Str→Option Value
 base:Heap
 A:Around
 N:List Str
 s₀:Shared
 H₀:Hp
 env:Env
 outer:List Env
 stack:List Env
 ex:List Addr
 fn:Str→Bool
 calm:Bool
 pn:List (Addr×Obj)
 xe:Value→Shared→Prop
def rM (l:List Env):List Addr:=l.filterMap (·.frame)
abbrev Cx.fs (X:Cx):List Addr:=rM X.outer
def Kf (sc:Scope)(x:Str):Prop:=sc.names.lookup x=some .local∨sc.names.lookup x=some .cell∨sc.names.lookup x=some .free
def Dn (sc:Scope)(x:Str):Prop:=sc.names.lookup x=some .local∨sc.names.lookup x=some .cell
def NQ (env:Env)(h:Heap)(m:Str→Option Value)(x:Str)(u:Value):Prop:=
 (env.kindOf x=some .local∧m x=some u)∨((env.kindOf x=some .cell∨env.kindOf x=some .free)∧∃c,env.cells.lookup x=some c∧h.IsCell c (some u))
structure Cx.Ok (X:Cx):Prop where
 mod:Mod X.K X.mg X.base
 kind:X.env.scope.kind=.function
 glob:X.env.globals=mainGlobals
 blt:X.env.builtins=builtinsNs
 above:X.s₀.heap.objs.size≤X.env.locals
 inj:∀x y c,X.env.cells.lookup x=some c→X.env.cells.lookup y=some c→x=y
 has:∀x,(X.env.kindOf x=some .cell∨X.env.kindOf x=some .free)→∃c,X.env.cells.lookup x=some c
 cab:∀x c,X.fn x=true→X.env.cells.lookup x=some c→X.s₀.heap.objs.size≤c
 hd:X.calm=true→X.A.handled=none
 frames:X.A.frames=some X.stack
 stk:X.stack=X.outer∨(X.stack=X.env::X.outer∧X.env.frame=some X.env.locals)
 exf:∀b∈X.ex,b≠X.env.locals∧∀x c,X.env.cells.lookup x=some c→c≠b
 bs:∀b o,X.base.get? b=some o→X.s₀.heap.get? b=some o∧X.H₀ b=none
 bsz:X.base.objs.size≤X.s₀.heap.objs.size
 noex:∀b o,X.base.get? b=some o→b∉X.ex
 exfs:∀b∈X.ex,b∉X.fs
 funs:X.s₀.heap.FunFrames X.base X.outer
 frf:∀b∈X.fs,X.H₀ b=none
structure Inv (X:Cx)(ah:List (Addr×Obj))(σ:List (Option V))(H:Hp)(s:Shared):Prop where
 ok:X.Ok
 os:s.os=X.s₀.os
 bare:AllBare s.gens
 base:Un X.fs X.ex X.H₀ H X.s₀.heap s.heap
 loc:∃m,s.heap.Ns X.env.locals m∧∀(i:Nat) (x:Str) (v:V),X.N[i]?=some x→σ[i]?=some (some v)→Kf X.env.scope x→∃u,RelV v u∧NQ X.env s.heap m x u
 cell:∀x c,X.env.cells.lookup x=some c→∃v,s.heap.IsCell c v
 free:H X.env.locals=none
 freeC:∀x c,X.env.cells.lookup x=some c→H c=none
 pin:∀p∈X.pn++ah,s.heap.get? p.1=some p.2∧H p.1=none∧p.1≠X.env.locals∧p.1∉X.fs∧∀v,p.2.data≠.cell v
 hok:lN X.prog X.w H s.heap
 len:σ.length=X.N.length
variable{x:Str}{ch:List Addr}{i:Nat}{v:V}
section
variable {X:Cx}{ah:List (Addr×Obj)}{σ:List (Option V)}{H H':Hp}{s:Shared}{h':Heap}
theorem Cx.Ok.nofr (ok:X.Ok){o:Obj}(e:X.base.get? b=some o):b∉X.fs:=fun hb=>by
 have:=(ok.funs.mem hb).1
 rw[e] at this;cases this
theorem Inv.bs (I:Inv X ah σ H s):∀b o,X.base.get? b=some o→s.heap.get? b=some o∧H b=none:=fun b o e=>
 ⟨I.base.keep b o (I.ok.bs b o e).1 (I.ok.bs b o e).2 (I.ok.nofr e) (I.ok.noex b o e),I.base.free b o (I.ok.bs b o e).1 (I.ok.bs b o e).2 (I.ok.noex b o e)⟩
theorem Inv.bk (I:Inv X ah σ H s):∀b o,X.base.get? b=some o→s.heap.get? b=some o:=fun b o e=>(I.bs b o e).1
theorem Inv.mod (I:Inv X ah σ H s):Mod X.K X.mg X.base:=I.ok.mod
theorem Inv.kIn (I:Inv X ah σ H s):X.K.In s.heap:=I.ok.mod.kin.keeps I.bk
theorem Inv.lt (I:Inv X ah σ H s):X.env.locals<s.heap.objs.size:=let ⟨_,hn,_⟩:=I.loc;hn.lt
theorem Inv.sz (I:Inv X ah σ H s):X.s₀.heap.objs.size≤s.heap.objs.size:=Nat.le_trans I.ok.above (Nat.le_of_lt I.lt)
theorem Inv.nofs (I:Inv X ah σ H s)(h:s.heap.objs.size≤a):a∉X.fs:=fun hb=>by
 obtain⟨_,o,ho,_⟩:=I.ok.funs.mem hb
 exact absurd (Nat.lt_of_lt_of_le (Heap.lt_size ho) (Nat.le_trans I.sz h)) (Nat.lt_irrefl _)
theorem Inv.cne (I:Inv X ah σ H s):∀x c,X.env.cells.lookup x=some c→c≠X.env.locals:=fun x c e z=>by
 obtain⟨v,o,ho,hd⟩:=I.cell x c e
 obtain⟨m,⟨o',es,ep,ho',hd',_⟩,_⟩:=I.loc
 rw[z,ho'] at ho;cases ho;rw[hd'] at hd;cases hd
theorem Inv.funs (I:Inv X ah σ H s):s.heap.FunFrames X.base X.outer:=by
 have all:∀(l:List Env),(∀b∈rM l,b∈X.fs)→X.s₀.heap.FunFrames X.base l→s.heap.FunFrames X.base l:=by
  intro l
  induction l with
  | nil=>intro _ _;trivial
  | cons env r ih=>
   intro hs hl
   obtain⟨hk,⟨L,o,hf,hn,ho,hd⟩,hr⟩:=hl
   have hL:L∈X.fs:=hs L (by unfold rM;rw[List.filterMap_cons,hf];exact List.mem_cons_self)
   obtain⟨sl,e⟩:=I.base.slot L o ho (I.ok.frf L hL) hL fun z=>I.ok.exfs L z hL
   exact⟨hk,⟨L,_,hf,hn,e,hd⟩,ih (fun b hb=>hs b (by unfold rM;rw[List.filterMap_cons,hf];exact List.mem_cons_of_mem _ hb)) hr⟩
 exact all X.outer (fun _ hb=>hb) I.ok.funs
theorem Inv.stack (I:Inv X ah σ H s):s.heap.FunFrames X.base X.stack:=by
 rcases I.ok.stk with e|⟨e,hf⟩
 ·rw[e];exact I.funs
 ·rw[e]
  obtain⟨m,hn,_⟩:=I.loc
  refine .cons (by rw[I.ok.kind];decide) hf hn ?_ I.funs
  exact Heap.get?_none_of_le (Nat.le_trans I.ok.bsz I.ok.above)
theorem Inv.stkSub (I:Inv X ah σ H s):∀b∈rM X.stack,b∈X.env.locals::X.fs:=fun b hb=>by
 rcases I.ok.stk with e|⟨e,hf⟩
 ·rw[e] at hb;exact List.mem_cons_of_mem _ hb
 ·rw[e] at hb
  unfold rM at hb
  rw[List.filterMap_cons,hf] at hb
  exact hb
theorem Inv.stkFree (I:Inv X ah σ H s):∀b∈rM X.stack,H b=none:=fun b hb=>by
 rcases List.mem_cons.mp (I.stkSub b hb) with e|hb
 ·rw[e];exact I.free
 ·obtain⟨_,o,ho,_⟩:=I.ok.funs.mem hb
  exact I.base.free b o ho (I.ok.frf b hb) fun z=>I.ok.exfs b z hb
theorem Inv.step {g':Array GenState}{t':Nat}{d':Drawn}(I:Inv X ah σ H s)
  (hch:∀b∈ch,(b∈X.ex∨X.s₀.heap.objs.size≤b)∧b≠X.env.locals∧(∀x c,X.env.cells.lookup x=some c→c≠b)∧∀p∈X.pn++ah,p.1≠b)
  (keep:∀b o,b≠X.env.locals→b∉X.fs→b∉ch→s.heap.get? b=some o→H b=none→h'.get? b=some o)
  (slot:∀b o,b≠X.env.locals→b∈X.fs→b∉ch→s.heap.get? b=some o→H b=none→∃sl,h'.get? b=some {o with slots:=sl}) (free:∀b o,b∉ch→s.heap.get? b=some o→H b=none→H' b=none)
  (there:∀b o,b∉ch→s.heap.get? b=some o→∃o',h'.get? b=some o')
  (tups:∀b xs,H b=some (.tup xs)→H' b=some (.tup xs)) (frzs:∀b o u,H b=some (.frz o u)→H' b=some (.frz o u)) (tbls:∀b ps,H b=some (.tbl ps)→∃more,H' b=some (.tbl (ps++more)))
  (ns:∀m,s.heap.Ns X.env.locals m→h'.Ns X.env.locals m) (hok:lN X.prog X.w H' h') (hg:AllBare g') :
  Inv X ah σ H' {s with heap:=h',gens:=g',drawn:=d',toks:=t'}:=by
 have neL:∀b o,X.s₀.heap.get? b=some o→b≠X.env.locals:=fun b o e=>Nat.ne_of_lt (Nat.lt_of_lt_of_le (Heap.lt_size e) I.ok.above)
 have neC:∀b o,X.s₀.heap.get? b=some o→b∉X.ex→b∉ch:=fun b o e hx hb=>by
  rcases(hch b hb).1 with z|z
  ·exact hx z
  ·exact absurd (Nat.lt_of_lt_of_le (Heap.lt_size e) z) (Nat.lt_irrefl _)
 have cellK:∀x c,X.env.cells.lookup x=some c→∀v,s.heap.IsCell c v→h'.IsCell c v:=fun x c e v ⟨o,ho,hd⟩=>by
  have nch:c∉ch:=fun z=>(hch c z).2.2.1 x c e rfl
  by_cases hc:c∈X.fs
  ·obtain⟨sl,q⟩:=slot c o (I.cne x c e) hc nch ho (I.freeC x c e)
   exact⟨_,q,hd⟩
  ·exact⟨o,keep c o (I.cne x c e) hc nch ho (I.freeC x c e),hd⟩
 refine⟨I.ok,I.os,hg,⟨fun b o e n hb hx=>?_,fun b o e n hb hx=>?_,fun b o e n hx=>?_,fun b o e hx=>?_,fun b xs e=>tups b xs (I.base.tups b xs e),fun b o xs e=>frzs b o xs (I.base.frzs b o xs e),fun b ps e=>?_⟩,?_,fun x c e=>?_,?_,fun x c e=>?_,fun p hp=>?_,hok,I.len⟩
 ·exact keep b o (neL b o e) hb (neC b o e hx) (I.base.keep b o e n hb hx) (I.base.free b o e n hx)
 ·obtain⟨sl,e1⟩:=I.base.slot b o e n hb hx
  obtain⟨sl',e2⟩:=slot b _ (neL b o e) hb (neC b o e hx) e1 (I.base.free b o e n hx)
  exact⟨sl',e2⟩
 ·obtain⟨o',e1⟩:=I.base.there b o e hx
  exact free b o' (neC b o e hx) e1 (I.base.free b o e n hx)
 ·obtain⟨o',e1⟩:=I.base.there b o e hx
  exact there b o' (neC b o e hx) e1
 ·obtain⟨m1,e1⟩:=I.base.tbls b ps e
  obtain⟨m2,e2⟩:=tbls b _ e1
  exact⟨m1++m2,by rw[e2,Array.append_assoc]⟩
 ·obtain⟨m,hn,hl⟩:=I.loc
  refine⟨m,ns m hn,fun i x v e1 e2 e3=>?_⟩
  obtain⟨u,r,l⟩:=hl i x v e1 e2 e3
  refine⟨u,r,?_⟩
  rcases l with l|⟨k,c,e,z⟩
  ·exact .inl l
  ·exact .inr ⟨k,c,e,cellK x c e _ z⟩
 ·obtain⟨v,z⟩:=I.cell x c e
  exact⟨v,cellK x c e v z⟩
 ·obtain⟨m,⟨o,_,_,ho,_⟩,_⟩:=I.loc
  exact free _ o (fun z=>(hch _ z).2.1 rfl) ho I.free
 ·obtain⟨v,o,ho,hd⟩:=I.cell x c e
  exact free c o (fun z=>(hch c z).2.2.1 x c e rfl) ho (I.freeC x c e)
 ·obtain⟨e,n,ne,nf,d⟩:=I.pin p hp
  have nch:p.1∉ch:=fun z=>(hch p.1 z).2.2.2 p hp rfl
  exact⟨keep p.1 p.2 ne nf nch e n,free p.1 p.2 nch e n,ne,nf,d⟩
theorem Inv.un {t':Nat}(I:Inv X ah σ H s)(u:Un X.fs [] H H' s.heap h')(hok:lN X.prog X.w H' h'):Inv X ah σ H' {s with heap:=h',toks:=t'}:=by
 obtain⟨m,⟨o,es,ep,ho,r⟩,_⟩:=id I.loc
 obtain⟨sl,hL⟩:=u.any ho I.free (by simp)
 exact I.step (g':=s.gens) (d':=s.drawn) (ch:=[]) (fun _ z=>nomatch z) (fun b o _ hb _ e n=>u.keep b o e n hb (by simp)) (fun b o _ hb _ e n=>u.slot b o e n hb (by simp)) (fun b o _ e n=>u.free b o e n (by simp)) (fun b o _ e=>u.there b o e (by simp)) u.tups u.frzs u.tbls (fun m' hm=>by
  obtain⟨o',es',ep',ho',r'⟩:=hm
  rw[ho] at ho';cases ho'
  exact⟨_,es',ep',hL,r'⟩) hok I.bare
theorem Inv.call {g':Array GenState}{t':Nat}{d':Drawn}(I:Inv X ah σ H s)(u:Un (rM X.stack) ch H H' s.heap h')(hok:lN X.prog X.w H' h')(hg:AllBare g')
  (hch:∀b∈ch,(b∈X.ex∨X.s₀.heap.objs.size≤b)∧b≠X.env.locals∧(∀x c,X.env.cells.lookup x=some c→c≠b)∧∀p∈X.pn++ah,p.1≠b) :
  Inv X ah σ H' {s with heap:=h',gens:=g',drawn:=d',toks:=t'}:=by
 obtain⟨m,⟨o,es,ep,ho,r⟩,_⟩:=id I.loc
 obtain⟨sl,hL⟩:=u.any ho I.free fun z=>(hch _ z).2.1 rfl
 exact I.step (ch:=ch) hch (fun b o hL hb hc e n=>u.keep b o e n (fun z=>(List.mem_cons.mp (I.stkSub b z)).elim hL hb) hc) (fun b o _ _ hc e n=>u.any e n hc) (fun b o hc e n=>u.free b o e n hc) (fun b o hc e=>u.there b o e hc) u.tups u.frzs u.tbls (fun m' hm=>by
  obtain⟨o',es',ep',ho',r'⟩:=hm
  rw[ho] at ho';cases ho'
  exact⟨_,es',ep',hL,r'⟩) hok hg
theorem Inv.turned {t':Nat}{it:Addr}(I:Inv X ah σ H s)(k:∀b o,b≠it→s.heap.get? b=some o→h'.get? b=some o)(hn:H it=none)(hL:it≠X.env.locals)
  (h1:it∈X.ex∨X.s₀.heap.objs.size≤it) (h2:∀x c,X.env.cells.lookup x=some c→c≠it) (h3:∀p∈X.pn++ah,p.1≠it):Inv X ah σ H {s with heap:=h',toks:=t'}:=by
 have nit:∀b u,H b=some u→b≠it:=fun b u e z=>by rw[z,hn] at e;cases e
 refine I.step (g':=s.gens) (d':=s.drawn) (ch:=[it]) (fun b hb=>?_) (fun b o _ _ hc e _=>k b o (fun z=>hc (by simp[z])) e) (fun b o _ _ hc e _=>⟨o.slots,k b o (fun z=>hc (by simp[z])) e⟩) (fun _ _ _ _ n=>n)
  (fun b o hc e=>⟨o,k b o (fun z=>hc (by simp[z])) e⟩) (fun _ _ e=>e) (fun _ _ _ e=>e) (fun b ps e=>⟨#[],by rw[e];simp⟩) (fun m hm=>?_) (fun b u e=>?_) I.bare
 ·have e:b=it:=by simpa using hb
  subst e
  exact⟨h1,hL,h2,h3⟩
 ·obtain⟨o,es,ep,ho,r⟩:=hm
  exact⟨o,es,ep,k _ o (Ne.symm hL) ho,r⟩
 ·refine(I.hok b u e).stay (fun c v hc q=>k c v ?_ q) (fun _ q=>q) fun _ _ q=>q
  rcases hc with z|z
  ·rw[z];exact nit b u e
  ·exact nit c _ z
theorem Inv.tok (I:Inv X ah σ H s)(t:Nat):Inv X ah σ H {s with toks:=t}:=I.un (h':=s.heap) (t':=t) Un.refl I.hok
theorem Inv.kept {t':Nat}(I:Inv X ah σ H s)(k:∀b u,s.heap.get? b=some u→h'.get? b=some u):Inv X ah σ H {s with heap:=h',toks:=t'}:=I.un (Un.kept k) (I.hok.kept k)
theorem Inv.laid {t':Nat}(I:Inv X ah σ H s)(k:∀b u,s.heap.get? b=some u→h'.get? b=some u)(hp:s.heap.objs.size≤a)(new:cP X.prog X.w (cj H a o) h' a o) :
  Inv X ah σ (cj H a o) {s with heap:=h',toks:=t'}:=I.un (Un.laid k hp (I.hok.fresh hp)) (I.hok.laid k hp new)
theorem Inv.write {x e:Addr}{t':Nat}(I:Inv X ah σ H s)(mu:Mo (H x))(he:e=x∨H e=some (.own x))(k:∀b u,b≠e→s.heap.get? b=some u→h'.get? b=some u)(heo:∃u,h'.get? e=some u)
  (new:cP X.prog X.w (cj H x o) h' x o):Inv X ah σ (cj H x o) {s with heap:=h',toks:=t'}:=I.un (Un.write mu he k heo) (I.hok.write mu he k heo new)
theorem Inv.pins_of {pins':List (Addr×Obj)}(I:Inv X ah σ H s)(h:∀p∈pins',s.heap.get? p.1=some p.2∧H p.1=none∧p.1≠X.env.locals∧p.1∉X.fs∧∀v,p.2.data≠.cell v):Inv X pins' σ H s:=
 ⟨I.ok,I.os,I.bare,I.base,I.loc,I.cell,I.free,I.freeC,fun p hp=>(List.mem_append.mp hp).elim (fun z=>I.pin p (List.mem_append_left _ z)) (h p),I.hok,I.len⟩
theorem qI {N:List Str}(hN:N.Nodup){j:Nat}(a:N[i]?=some x)(b:N[j]?=some x):i=j:=by
 obtain⟨h1,e1⟩:=List.getElem?_eq_some_iff.mp a
 obtain⟨h2,e2⟩:=List.getElem?_eq_some_iff.mp b
 exact(List.getElem_inj hN).mp (e1.trans e2.symm)
theorem sW {M:Model}{A:Around}{E:Value→Shared→Prop}{Q:Unit→Shared→Prop}(I:Inv X ah σ H s)(hN:X.N.Nodup)(hi:X.N[i]?=some x)(hx:Dn X.env.scope x)(r:RelV v u)
  (h:∀s',Inv X ah (σ.set i (some v)) H s'→(∃a,Heap.SameBut a s.heap s'.heap∧(a=X.env.locals∨X.env.cells.lookup x=some a))→Q () s') (hf:X.fn x=true∨X.env.scope.names.lookup x=some .local:=by first|exact .inl rfl|exact .inr rfl|assumption):wpAny M A (storeName X.env x u) Q E s:=by
 obtain⟨m,hn,hl⟩:=id I.loc
 have hcls:(X.env.scope.kind==.class||(X.env.scope.kind==.module&&X.env.locals != X.env.globals))=false:=by rw[I.ok.kind];rfl
 have hiσ:i<σ.length:=by rw[I.len];exact(List.getElem?_eq_some_iff.mp hi).1
 have cne:=I.cne
 have tracked:∀{a:Addr} {h':Heap},(∃o,s.heap.get? a=some o∧H a=none)→Heap.SameBut a s.heap h'→lN X.prog X.w H h':=fun {a h'} ha hs b ob e=>by
  obtain⟨_,_,hfree⟩:=ha
  refine(I.hok b ob e).stay (fun c w' hc q=>(hs.2 c ?_).trans q) (fun _ q=>q) fun _ _ q=>q
  rintro rfl
  rcases hc with rfl|hc
  ·rw[hfree] at e;cases e
  ·rw[hfree] at hc;cases hc
 rcases hx with hk|hk
 ·refine wpAny_storeName_local hk hn (fun h' hn' hs=>?_) hcls
  obtain⟨oL,_,_,hoL,_⟩:=id hn
  refine h _ ⟨I.ok,I.os,I.bare,⟨fun b o e n hb hx=>?_,fun b o e n hb hx=>?_,I.base.free,fun b o e hx=>?_,I.base.tups,I.base.frzs,I.base.tbls⟩,⟨_,hn',fun j y v' e1 e2 e3=>?_⟩,fun y c e=>?_,I.free,I.freeC,fun p hp=>?_,tracked ⟨oL,hoL,I.free⟩ hs,by simpa using I.len⟩ ⟨_,hs,.inl rfl⟩
  ·exact(hs.2 b (Nat.ne_of_lt (Nat.lt_of_lt_of_le (Heap.lt_size e) I.ok.above))).trans (I.base.keep b o e n hb hx)
  ·obtain⟨sl,e1⟩:=I.base.slot b o e n hb hx
   exact⟨sl,(hs.2 b (Nat.ne_of_lt (Nat.lt_of_lt_of_le (Heap.lt_size e) I.ok.above))).trans e1⟩
  ·obtain⟨o',e1⟩:=I.base.there b o e hx
   exact⟨o',(hs.2 b (Nat.ne_of_lt (Nat.lt_of_lt_of_le (Heap.lt_size e) I.ok.above))).trans e1⟩
  ·by_cases hj:j=i
   ·subst hj
    rw[hi] at e1;cases e1
    rw[List.getElem?_set_self hiσ] at e2
    cases e2
    exact⟨u,r,.inl ⟨hk,by simp⟩⟩
   ·rw[List.getElem?_set_ne (Ne.symm hj)] at e2
    obtain⟨u',r',q⟩:=hl j y v' e1 e2 e3
    refine⟨u',r',?_⟩
    rcases q with⟨k,e⟩|⟨k,c,e,z⟩
    ·refine .inl ⟨k,?_⟩
     have:y≠x:=fun e=>hj (qI hN e1 (e▸hi))
     simp[this,e]
    ·exact .inr ⟨k,c,e,z.sameBut hs (cne y c e)⟩
  ·obtain⟨w',z⟩:=I.cell y c e
   exact⟨w',z.sameBut hs (cne y c e)⟩
  ·obtain⟨e,n,ne,nf,d⟩:=I.pin p hp
   exact⟨(hs.2 p.1 ne).trans e,n,ne,nf,d⟩
 ·have hfn:X.fn x=true:=by
   rcases hf with z|z
   ·exact z
   ·rw[z] at hk;cases hk
  obtain⟨c,hc⟩:=I.ok.has x (.inl hk)
  obtain⟨w',z⟩:=I.cell x c hc
  refine wpAny_storeName_cell I.ok.kind hk hc z (fun h' hc' hs=>?_)
  obtain⟨oc,hoc,hocd⟩:=id z
  refine h {s with heap:=h'} ⟨I.ok,I.os,I.bare,⟨fun b o e n hb hx=>?_,fun b o e n hb hx=>?_,I.base.free,fun b o e hx=>?_,I.base.tups,I.base.frzs,I.base.tbls⟩,⟨m,hn.sameBut hs (Ne.symm (cne x c hc)),fun j y v' e1 e2 e3=>?_⟩,fun y c' e=>?_,I.free,I.freeC,fun p hp=>?_,tracked ⟨oc,hoc,I.freeC x c hc⟩ hs,by simpa using I.len⟩ ⟨c,hs,.inr hc⟩
  ·exact(hs.2 b (Nat.ne_of_lt (Nat.lt_of_lt_of_le (Heap.lt_size e) (I.ok.cab x c hfn hc)))).trans (I.base.keep b o e n hb hx)
  ·obtain⟨sl,e1⟩:=I.base.slot b o e n hb hx
   exact⟨sl,(hs.2 b (Nat.ne_of_lt (Nat.lt_of_lt_of_le (Heap.lt_size e) (I.ok.cab x c hfn hc)))).trans e1⟩
  ·obtain⟨o',e1⟩:=I.base.there b o e hx
   exact⟨o',(hs.2 b (Nat.ne_of_lt (Nat.lt_of_lt_of_le (Heap.lt_size e) (I.ok.cab x c hfn hc)))).trans e1⟩
  ·by_cases hj:j=i
   ·subst hj
    rw[hi] at e1;cases e1
    rw[List.getElem?_set_self hiσ] at e2
    cases e2
    exact⟨u,r,.inr ⟨.inl hk,c,hc,hc'⟩⟩
   ·rw[List.getElem?_set_ne (Ne.symm hj)] at e2
    obtain⟨u',r',q⟩:=hl j y v' e1 e2 e3
    refine⟨u',r',?_⟩
    rcases q with q|⟨k,c',e,z'⟩
    ·exact .inl q
    ·refine .inr ⟨k,c',e,z'.sameBut hs ?_⟩
     rintro rfl
     exact hj (qI hN e1 (I.ok.inj _ _ _ e hc▸hi))
  ·by_cases hcc:c'=c
   ·subst hcc;exact⟨_,hc'⟩
   ·obtain⟨w2,z2⟩:=I.cell y c' e
    exact⟨w2,z2.sameBut hs hcc⟩
  ·obtain⟨e,n,ne,nf,d⟩:=I.pin p hp
   refine⟨(hs.2 p.1 ?_).trans e,n,ne,nf,d⟩
   intro q
   rw[q,hoc] at e
   have q':oc=p.2:=Option.some.inj e
   exact d w' (by rw[←q'];exact hocd)
theorem rH {M:Model}{A:Around}{E:Value→Shared→Prop}{Q:Unit→Shared→Prop}(I:Inv X ah σ H s)(hN:X.N.Nodup)(hi:X.N[i]?=some x)(hx:Dn X.env.scope x)(r:RelV v u)
  (h:∀s',Inv X ah (σ.set i (some v)) H s'→Q () s') (hf:X.fn x=true∨X.env.scope.names.lookup x=some .local:=by first|exact .inl rfl|exact .inr rfl|assumption):wpAny M A (storeName X.env x u) Q E s:=
 sW I hN hi hx r (fun s' I' _=>h s' I') hf
theorem Inv.call' {s':Shared}(I:Inv X ah σ H s)(ho:s'.os=s.os)(u:Un (rM X.stack) ch H H' s.heap s'.heap)(hok:lN X.prog X.w H' s'.heap)(hg:AllBare s'.gens)
  (hch:∀b∈ch,(b∈X.ex∨X.s₀.heap.objs.size≤b)∧b≠X.env.locals∧(∀x c,X.env.cells.lookup x=some c→c≠b)∧∀p∈X.pn++ah,p.1≠b):Inv X ah σ H' s':=by
 obtain⟨h',g',d',t',o'⟩:=s'
 have e:o'=s.os:=ho
 subst e
 exact I.call (g':=g') (t':=t') (d':=d') u hok hg hch
end
abbrev XK:=Value→Option Addr→Hp→Prop
abbrev St:=List (Option V)
abbrev VK:=V→Hp→Prop
abbrev TE:=St→Hp→VK→Prop
abbrev TT:=St→Hp→(Bool→Hp→Prop)→Prop
abbrev TA:=St→Hp→(List V→Hp→Prop)→Prop
structure Ab where
 nx:St→Hp→Prop
 rt:VK
 bk:St→Hp→Prop:=fun _ _=>False
 ct:St→Hp→Prop:=fun _ _=>False
abbrev TS:=Ab→St→Hp→Prop
def EP (X:Cx)(ah:List (Addr×Obj))(σ:St)(Q:VK)(u:Value)(s':Shared):Prop:=∃v H',Inv X ah σ H' s'∧RelV v u∧Q v H'
def TP (X:Cx)(ah:List (Addr×Obj))(σ:St)(Q:Bool→Hp→Prop)(b:Bool)(s':Shared):Prop:=∃H',Inv X ah σ H' s'∧Q b H'
def AP (X:Cx)(ah:List (Addr×Obj))(σ:St)(Q:List V→Hp→Prop)(us:List Value)(s':Shared):Prop:=∃vs H',Inv X ah σ H' s'∧aZ vs us∧Q vs H'
def SP (X:Cx)(ah:List (Addr×Obj))(D:Ab)(f:Flow)(s':Shared):Prop:=
 match f with
 | .next=>∃σ' H',Inv X ah σ' H' s'∧D.nx σ' H'
 | .brk=>∃σ' H',Inv X ah σ' H' s'∧D.bk σ' H'
 | .cont=>∃σ' H',Inv X ah σ' H' s'∧D.ct σ' H'
 | .ret u=>∃v σ' H',Inv X ah σ' H' s'∧RelV v u∧D.rt v H'
def PE (X:Cx)(e:Expr)(t:TE):Prop:=
 ∀(ah:List (Addr×Obj)) (s:Shared) (σ:St) (H:Hp) (Q:VK),Inv X ah σ H s→t σ H Q→wpAny (model X.prog X.w) X.A (eval e X.env) (EP X ah σ Q) X.xe s
def PT (X:Cx)(e:Expr)(t:TT):Prop:=
 ∀(ah:List (Addr×Obj)) (s:Shared) (σ:St) (H:Hp) (Q:Bool→Hp→Prop),Inv X ah σ H s→t σ H Q→wpAny (model X.prog X.w) X.A (isTrue e X.env (eval e X.env)) (TP X ah σ Q) X.xe s
def PW (X:Cx)(e:Expr)(t:TT):Prop:=
 ∀(whole:Sem Value) (ah:List (Addr×Obj)) (s:Shared) (σ:St) (H:Hp) (Q:Bool→Hp→Prop),Inv X ah σ H s→t σ H Q→wpAny (model X.prog X.w) X.A (isTrue e X.env whole) (TP X ah σ Q) X.xe s
variable{e:Expr}
theorem PW.pt {X:Cx}{t:TT}(h:PW X e t):PT X e t:=h _
def PA (X:Cx)(es:List Expr)(t:TA):Prop:=
 ∀(pos:Pos) (ah:List (Addr×Obj)) (s:Shared) (σ:St) (H:Hp) (Q:List V→Hp→Prop),Inv X ah σ H s→t σ H Q→wpAny (model X.prog X.w) X.A (spliced (backTo pos (starEach es X.env))) (AP X ah σ Q) X.xe s
def PS (X:Cx)(st:Stmt)(t:TS):Prop:=
 ∀(ah:List (Addr×Obj)) (s:Shared) (σ:St) (H:Hp) (D:Ab),Inv X ah σ H s→t D σ H→wpAny (model X.prog X.w) X.A (exec st X.env) (SP X ah D) X.xe s
def PSs (X:Cx)(st:List Stmt)(t:TS):Prop:=
 ∀(ah:List (Addr×Obj)) (s:Shared) (σ:St) (H:Hp) (D:Ab),Inv X ah σ H s→t D σ H→wpAny (model X.prog X.w) X.A (execs st X.env) (SP X ah D) X.xe s
variable{A:Around}{E:Value→Shared→Prop}{s:Shared}
theorem cF {α:Type}{t:Sem α}{Q Q':α→Shared→Prop}{M:Model}(h:wpAny M A t Q E s)(hQ:∀a s,Q a s→Q' a s):wpAny M A t Q' E s:=wpAny_mono h hQ fun _ _ x=>x
variable{Q:Value→Shared→Prop}{ah:List (Addr×Obj)}{σ:St}{c:Expr}
section
variable {X:Cx}
def Kx (i:Nat):TE:=fun σ H Q=>∃v,σ[i]?=some (some v)∧Q v H
def tC (v:V):TE:=fun _ H Q=>Q v H
theorem IJ {pos:Pos}(hN:X.N[i]?=some x)(hv:Kf X.env.scope x)(hd:(x==("__debug__":Str))=false:=by decide)(hcd:(x==("__classdict__":Str))=false:=by decide):PE X (.Name x pos) (Kx i):=by
 intro ah s σ H Q I h
 obtain⟨v,e,h⟩:=h
 obtain⟨m,hn,hl⟩:=I.loc
 obtain⟨u,r,l⟩:=hl i x v hN e hv
 have fin:EP X ah σ Q u s:=⟨v,H,I,r,h⟩
 rcases l with⟨hk,hm⟩|⟨hk,c,hc,hcell⟩
 ·exact wpAny_Name (wpAny_loadName_local I.ok.kind hk hn hm fin) hd
 ·rcases hk with hk|hk
  ·exact wpAny_Name (wpAny_loadName_cell I.ok.kind hk hc hcell fin) hd
  ·exact wpAny_Name (wpAny_loadName_free I.ok.kind hk hc hcell fin hcd) hd
theorem CV {i j pos}:PE X (.Constant (.int i) j pos) (tC (.int i)):=fun _ _ _ H _ I h=>wpAny_Constant_int ⟨.int i,H,I.tok _,⟨_,rfl⟩,h⟩
theorem K4 {b j pos}:PE X (.Constant (.bool b) j pos) (tC (.bl b)):=fun _ _ _ H _ I h=>Constant_bool ⟨.bl b,H,I,rfl,h⟩
theorem HD {j pos}:PE X (.Constant .none j pos) (tC .non):=fun _ _ _ H _ I h=>Constant_none ⟨.non,H,I,rfl,h⟩
theorem Gx {x j pos}:PE X (.Constant (.str x) j pos) (tC (.str x)):=fun _ _ _ H _ I h=>Calls.Constant_str ⟨.str x,H,I.tok _,⟨_,rfl⟩,h⟩
def Gl (X:Cx)(x:Str):Prop:=X.env.kindOf x=some .globalImplicit
theorem nV {E:Value→Shared→Prop}{pos:Pos}(I:Inv X ah σ H s)(hg:Gl X x)(hm:X.mg x=some u)(h:Q u s)
  (hd:(x==("__debug__":Str))=false:=by decide):wpAny (model X.prog X.w) X.A (eval (.Name x pos) X.env) Q E s:=
 Calls.Name_function_global I.ok.kind hg (Calls.loadGlobal_global (by rw[I.ok.glob];exact I.mod.glob.keeps I.bk) hm h) hd
theorem oO {E:Value→Shared→Prop}{pos:Pos}(I:Inv X ah σ H s)(hg:Gl X x)(hm:X.mg x=none)(hv:bootBuiltins x=some u)(h:Q u s)
  (hn:x≠"__name__":=by decide) (hd:(x==("__debug__":Str))=false:=by decide):wpAny (model X.prog X.w) X.A (eval (.Name x pos) X.env) Q E s:=by
 obtain⟨mb,h1,h2⟩:=I.mod.blt
 exact Calls.Name_function_global I.ok.kind hg (Calls.loadGlobal_builtin (by rw[I.ok.glob];exact I.mod.glob.keeps I.bk) hm (by rw[I.ok.blt];exact h1.keeps I.bk) ((h2 x hn).trans hv) h) hd
theorem EU {pos:Pos}(hg:Gl X x)(hm:X.mg x=some u)(r:RelV v u)(hd:(x==("__debug__":Str))=false:=by decide):PE X (.Name x pos) (tC v):=
 fun _ _ _ H _ I h=>nV I hg hm ⟨v,H,I,r,h⟩ hd
theorem yt {pos:Pos}(hg:Gl X x)(hm:X.mg x=none)(hv:bootBuiltins x=some u)(r:RelV v u)(hn:x≠"__name__":=by decide)(hd:(x==("__debug__":Str))=false:=by decide):PE X (.Name x pos) (tC v):=
 fun _ _ _ H _ I h=>oO I hg hm hv ⟨v,H,I,r,h⟩ hn hd
variable {a b:Expr}{ta tb:TE}{pos:Pos}
variable {tA tB':TT}{rest:List Expr}
def NU (t u:TT):TT:=fun σ H Q=>t σ H fun c H1=>if c=true then u σ H1 Q else Q false H1
def Ou (t u:TT):TT:=fun σ H Q=>t σ H fun c H1=>if c=true then Q true H1 else u σ H1 Q
def Nn (t:TT):TT:=fun σ H Q=>t σ H fun c H1=>Q (!c) H1
theorem DD (ha:PT X a tA):PW X (.BoolOp .And [a] pos) tA:=by
 intro wh ah s σ H Q I h
 refine isTrue_and (cF (ha ah s σ H Q I h) fun c s1 e=>?_)
 cases c with
 | true=>exact isTrue_and_nil e
 | false=>exact e
theorem HM (ha:PT X a tA):PW X (.BoolOp .Or [a] pos) tA:=by
 intro wh ah s σ H Q I h
 refine isTrue_or (cF (ha ah s σ H Q I h) fun c s1 e=>?_)
 cases c with
 | false=>exact isTrue_or_nil e
 | true=>exact e
theorem Ir (ha:PT X a tA)(hb:PW X (.BoolOp .And (b::rest) pos) tB'):PW X (.BoolOp .And (a::b::rest) pos) (NU tA tB'):=by
 intro wh ah s σ H Q I h
 refine isTrue_and (cF (ha ah s σ H _ I h) fun c s1 ⟨H1,I1,q1⟩=>?_)
 cases c with
 | true=>exact hb wh ah s1 σ H1 Q I1 q1
 | false=>exact⟨H1,I1,q1⟩
theorem Mt (ha:PT X a tA)(hb:PW X (.BoolOp .Or (b::rest) pos) tB'):PW X (.BoolOp .Or (a::b::rest) pos) (Ou tA tB'):=by
 intro wh ah s σ H Q I h
 refine isTrue_or (cF (ha ah s σ H _ I h) fun c s1 ⟨H1,I1,q1⟩=>?_)
 cases c with
 | true=>exact⟨H1,I1,q1⟩
 | false=>exact hb wh ah s1 σ H1 Q I1 q1
theorem Ij (ha:PT X a tA):PT X (.UnaryOp .Not a pos) (Nn tA):=by
 intro ah s σ H Q I h
 exact isTrue_not (ha ah s σ H (fun c H1=>Q (!c) H1) I h)
def Kn (ta tb:TE):TE:=fun σ H Q=>ta σ H fun x H1=>∃c,x=.bl c∧if c=true then tb σ H1 Q else Q (.bl false) H1
def NZ (ta tb:TE):TE:=fun σ H Q=>ta σ H fun x H1=>∃c,x=.bl c∧if c=true then Q (.bl true) H1 else tb σ H1 Q
def KN (ta:TE):TE:=fun σ H Q=>ta σ H fun x H1=>∃c,x=.bl c∧Q (.bl (!c)) H1
theorem II {op}{t:TE}(h:PE X a t):PE X (.BoolOp op [a] pos) t:=fun ah s σ H Q I hw=>BoolOp_one (h ah s σ H Q I hw)
theorem Im (ha:PE X a ta)(hb:PE X (.BoolOp .And (b::rest) pos) tb):PE X (.BoolOp .And (a::b::rest) pos) (Kn ta tb):=by
 intro ah s σ H Q I h
 refine BoolOp_and (cF (ha ah s σ H _ I h) fun v s1 ⟨x,H1,I1,r1,q1⟩=>?_)
 obtain⟨c,rfl,q1⟩:=q1
 cases r1
 refine wpAny_truthy_bool ?_
 cases c with
 | true=>exact hb ah s1 σ H1 Q I1 q1
 | false=>exact⟨.bl false,H1,I1,rfl,q1⟩
theorem Lj (ha:PE X a ta)(hb:PE X (.BoolOp .Or (b::rest) pos) tb):PE X (.BoolOp .Or (a::b::rest) pos) (NZ ta tb):=by
 intro ah s σ H Q I h
 refine BoolOp_or (cF (ha ah s σ H _ I h) fun v s1 ⟨x,H1,I1,r1,q1⟩=>?_)
 obtain⟨c,rfl,q1⟩:=q1
 cases r1
 refine wpAny_truthy_bool ?_
 cases c with
 | false=>exact hb ah s1 σ H1 Q I1 q1
 | true=>exact⟨.bl true,H1,I1,rfl,q1⟩
theorem Iu (ha:PE X a ta):PE X (.UnaryOp .Not a pos) (KN ta):=by
 intro ah s σ H Q I h
 refine UnaryOp_ (cF (ha ah s σ H _ I h) fun v s1 ⟨x,H1,I1,r1,q1⟩=>?_)
 obtain⟨c,rfl,q1⟩:=q1
 cases r1
 exact not_of (wpAny_truthy_bool ⟨.bl (!c),H1,I1,rfl,q1⟩)
def Ot (t:TT)(ta tb:TE):TE:=fun σ H Q=>t σ H fun c H1=>if c=true then ta σ H1 Q else tb σ H1 Q
theorem CT (hc:PT X c tA)(ha:PE X a ta)(hb:PE X b tb):PE X (.IfExp c a b pos) (Ot tA ta tb):=by
 intro ah s σ H Q I h
 refine wpAny_IfExp (cF (hc ah s σ H _ I h) fun d s1 ⟨H1,I1,q1⟩=>?_)
 cases d with
 | true=>exact ha ah s1 σ H1 Q I1 q1
 | false=>exact hb ah s1 σ H1 Q I1 q1
end
def mE (K:W.Frag)(H:Hp)(a:Addr)(xs:List V):Prop:=
 Rd H a (.lst xs)∨
  ∃(o:Obj) (its:Array Value) (n:Nat),K.lookup a=some o∧o.cls=.type "list"∧o.dict=none∧o.data=.seq its n∧its.size≤sizeLine∧aZ xs its.toList
def pV (K:W.Frag)(H:Hp)(a:Addr)(xs:List V):Prop:=
 Rd H a (.tup xs)∨
  ∃(o:Obj) (its:Array Value) (n:Nat),K.lookup a=some o∧o.cls=.type "tuple"∧o.data=.seq its n∧its.size≤sizeLine∧aZ xs its.toList
def MP:Value→Option V
 | .none=>some .non
 | .bool b=>some (.bl b)
 | .int i _=>some (.int i)
 | .str x _=>some (.str x)
 | .bytes b _=>some (.byt b)
 | .float b _=>some (.flt b)
 | .ref a=>some (.ref a)
 | .type n=>some (.ty n)
 | _=>none
theorem RelV.abs {x:V}(r:RelV x u):MP u=some x:=by
 cases x with
 | non=>cases r;rfl
 | bl _=>cases r;rfl
 | int _=>obtain⟨t,rfl⟩:=r;rfl
 | str _=>obtain⟨t,rfl⟩:=r;rfl
 | byt _=>obtain⟨t,rfl⟩:=r;rfl
 | flt _=>obtain⟨t,rfl⟩:=r;rfl
 | ref _=>cases r;rfl
 | ty _=>cases r;rfl
theorem RelV.inj {x y:V}(r:RelV x u)(q:RelV y u):x=y:=Option.some.inj (r.abs.symm.trans q.abs)
theorem aZ.inj:∀{xs ys:List V} {us:List Value},aZ xs us→aZ ys us→xs=ys
 | _,_,_,.nil,.nil=>rfl
 | _,_,_,.cons r t,.cons r' t'=>by rw[r.inj r',aZ.inj t t']
section
variable {X:Cx}{ah:List (Addr×Obj)}{σ:St}{H:Hp}{s:Shared}{a:Addr}{xs ys:List V}
theorem Inv.list (I:Inv X ah σ H s)(h:mE X.K H a xs):∃its:List Value,aZ xs its∧PlainL s.heap a its.toArray∧xs.length≤sizeLine:=by
 rcases h with h|⟨o,its,n,hk,hc,hd,hs,hz,r⟩
 ·obtain⟨z,its,n,r,e⟩:=h.ok I.hok
  exact⟨its,r,⟨_,n,e,rfl,rfl,rfl⟩,z⟩
 ·refine⟨its.toList,r,⟨o,n,I.kIn a o hk,hc,hd,by simpa using hs⟩,?_⟩
  have e:=r.length
  simp only[Array.length_toList] at e
  omega
theorem Inv.tuple (I:Inv X ah σ H s)(h:pV X.K H a xs):∃its:List Value,aZ xs its∧IsTup s.heap a its.toArray∧xs.length≤sizeLine:=by
 rcases h with h|⟨o,its,n,hk,hc,hs,hz,r⟩
 ·obtain⟨z,its,r,p⟩:=h.ok I.hok
  exact⟨its,r,p,z⟩
 ·refine⟨its.toList,r,⟨o,I.kIn a o hk,hc,n,by simpa using hs⟩,?_⟩
  have e:=r.length
  simp only[Array.length_toList] at e
  omega
theorem Inv.list_inj (I:Inv X ah σ H s)(h:mE X.K H a xs)(h':mE X.K H a ys):xs=ys:=by
 obtain⟨its,r,⟨o,n,e,_,_,d⟩,_⟩:=I.list h
 obtain⟨its',r',⟨o',n',e',_,_,d'⟩,_⟩:=I.list h'
 rw[e] at e';cases e'
 rw[d] at d'
 injection d' with d1 _
 have:its=its':=by simpa using congrArg Array.toList d1
 subst this
 exact r.inj r'
theorem Inv.tuple_inj (I:Inv X ah σ H s)(h:pV X.K H a xs)(h':pV X.K H a ys):xs=ys:=by
 obtain⟨its,r,⟨o,e,_,n,d⟩,_⟩:=I.tuple h
 obtain⟨its',r',⟨o',e',_,n',d'⟩,_⟩:=I.tuple h'
 rw[e] at e';cases e'
 rw[d] at d'
 injection d' with d1 _
 have:its=its':=by simpa using congrArg Array.toList d1
 subst this
 exact r.inj r'
end
section
variable {X:Cx}{st:Stmt}{rest:List Stmt}{t u:TS}{e:Expr}{te:TE}{pos:Pos}
def Kq:TS:=fun D σ H=>D.nx σ H
def Ni (t u:TS):TS:=fun D σ H=>t {D with nx:=u D} σ H
theorem EW:PSs X [] Kq:=fun _ _ σ H _ I h=>wpAny_execs_nil ⟨σ,H,I,h⟩
theorem B3 (h1:PS X st t)(h2:PSs X rest u):PSs X (st::rest) (Ni t u):=by
 intro ah s σ H D I h
 refine wpAny_execs_cons (cF (h1 ah s σ H {D with nx:=u D} I h) fun f s1 q=>?_)
 cases f with
 | next=>
  obtain⟨σ',H',I',q⟩:=q
  exact h2 ah s1 σ' H' D I' q
 | ret v=>exact q
 | brk=>exact q
 | cont=>exact q
theorem E2 (h1:PS X st t):PSs X [st] t:=by
 intro ah s σ H D I h
 refine wpAny_execs_cons (cF (h1 ah s σ H D I h) fun f s1 q=>?_)
 cases f with
 | next=>exact wpAny_execs_nil q
 | ret v=>exact q
 | brk=>exact q
 | cont=>exact q
theorem Inv.quiet (I:Inv X ah σ H s):interactive X.env=false:=by simp[interactive,I.ok.kind]
def K1 (te:TE):TS:=fun D σ H=>te σ H fun _ H1=>D.nx σ H1
theorem Fp (he:PE X e te)(hs:swapsWith e none pos.line X.env=pure false:=by rfl):PS X (.Expr e pos) (K1 te):=by
 intro ah s σ H D I h
 exact wpAny_Expr_any (cF (he ah s σ H _ I h) fun v s1 ⟨x,H1,I1,r1,q1⟩=>⟨σ,H1,I1,q1⟩) I.quiet hs
def N8 (te:TE):TS:=fun D σ H=>te σ H D.rt
theorem JB (he:PE X e te):PS X (.Return (some e) pos) (N8 te):=by
 intro ah s σ H D I h
 exact wpAny_Return_some (cF (he ah s σ H _ I h) fun v s1 ⟨x,H1,I1,r1,q1⟩=>⟨x,σ,H1,I1,r1,q1⟩)
def MQ (c:TT)(t u:TS):TS:=fun D σ H=>c σ H fun b H1=>if b=true then t D σ H1 else u D σ H1
theorem J4 {a b:List Stmt}{tc:TT}(hc:PT X c tc)(ha:PSs X a t)(hb:PSs X b u):PS X (.If c a b pos) (MQ tc t u):=by
 intro ah s σ H D I h
 refine wpAny_If (cF (hc ah s σ H _ I h) fun d s1 ⟨H1,I1,q1⟩=>?_)
 cases d with
 | true=>exact ha ah s1 σ H1 D I1 q1
 | false=>exact hb ah s1 σ H1 D I1 q1
end
abbrev TG:=V→St→Hp→(St→Hp→Prop)→Prop
abbrev DJ:=List V→St→Hp→(St→Hp→Prop)→Prop
def PG (X:Cx)(target:Expr)(t:TG):Prop:=
 ∀(ah:List (Addr×Obj)) (s:Shared) (σ:St) (H:Hp) (v:V) (u:Value) (Q:St→Hp→Prop),Inv X ah σ H s→RelV v u→t v σ H Q→
  wpAny (model X.prog X.w) X.A (assign target X.env u) (fun _ s'=>∃σ' H',Inv X ah σ' H' s'∧Q σ' H') X.xe s
def yL (X:Cx)(ts:List Expr)(t:DJ):Prop:=
 ∀(ah:List (Addr×Obj)) (s:Shared) (σ:St) (H:Hp) (vs:List V) (us:List Value) (Q:St→Hp→Prop),Inv X ah σ H s→aZ vs us→t vs σ H Q→
  wpAny (model X.prog X.w) X.A (assignInOrder ((assignEach ts X.env).map (·.2)) us) (fun _ s'=>∃σ' H',Inv X ah σ' H' s'∧Q σ' H') X.xe s
abbrev Jd:=V→V→V→Hp→(Hp→Prop)→Prop
def Km (X:Cx)(t:Jd):Prop:=
 ∀(ah:List (Addr×Obj)) (s:Shared) (σ:St) (H:Hp) (o i v:V) (ov iv u:Value) (Q:Hp→Prop),Inv X ah σ H s→RelV o ov→RelV i iv→RelV v u→t o i v H Q→
  wpAny (model X.prog X.w) X.A (setItem ov iv u) (fun _ s'=>∃H',Inv X ah σ H' s'∧Q H') X.xe s
variable{es:List Expr}{tg:Expr}
section
variable {X:Cx}{pos:Pos}
def F9 (i:Nat):TG:=fun v σ H Q=>Q (σ.set i (some v)) H
theorem DQ (hN:X.N.Nodup)(hi:X.N[i]?=some x)(hx:Dn X.env.scope x)(hf:X.fn x=true∨X.env.scope.names.lookup x=some .local:=by first|exact .inl rfl|exact .inr rfl|assumption):PG X (.Name x pos) (F9 i):=by
 intro ah s σ H v u Q I r h
 exact wpAny_assign_Name (rH I hN hi hx r (fun s' I'=>⟨_,H,I',h⟩) hf)
def MN:DJ:=fun vs σ H Q=>vs=[]∧Q σ H
def LV (t:TG)(u:DJ):DJ:=fun vs σ H Q=>∃v r,vs=v::r∧t v σ H fun σ' H'=>u r σ' H' Q
theorem yT:yL X [] MN:=by
 intro ah s σ H vs us Q I r h
 obtain⟨e,h⟩:=h
 subst e
 cases r
 exact assignInOrder_nil ⟨σ,H,I,h⟩
theorem vE {t:TG}{u:DJ}(h1:PG X e t)(h2:yL X es u)
  (hs:(assignEach (e::es) X.env).map (·.2)=assign e X.env::(assignEach es X.env).map (·.2):=by rfl):yL X (e::es) (LV t u):=by
 intro ah s σ H vs us Q I r h
 obtain⟨v,vr,e1,h⟩:=h
 subst e1
 cases r with
 | cons r rr=>
  rw[hs]
  refine assignInOrder_cons (cF (h1 ah s σ H _ _ _ I r h) fun _ s1 ⟨σ1,H1,I1,q1⟩=>?_)
  exact h2 ah s1 σ1 H1 _ _ Q I1 rr q1
def NK (K:W.Frag)(n:Nat)(t:DJ):TG:=fun v σ H Q=>∃a xs,v=.ref a∧pV K H a xs∧xs.length=n∧t xs σ H Q
theorem A8 {k:Nat}{t:DJ}{n:Nat}(hc:X.calm=true)(h:yL X es t)
  (hn:(assignEach es X.env).length=n:=by rfl) (hst:(assignEach es X.env).findIdx? (·.1)=none:=by rfl):PG X (.Tuple es k pos) (NK X.K n t):=by
 intro ah s σ H v u Q I r hw
 obtain⟨a,xs,e1,hq,hl,hw⟩:=hw
 subst e1
 cases r
 obtain⟨its,rv,ht,hz⟩:=I.tuple hq
 refine assign_Tuple_tuple (I.ok.hd hc) ht (by simp[hn,←hl,rv.length]) hst fun h' hx=>?_
 have I1:Inv X ah σ H {s with heap:=h'}:=I.kept (t':=s.toks) fun b o e=>hx b o (Nat.ne_of_lt (Heap.lt_size e)) e
 exact h ah _ σ H xs _ Q I1 (by simpa using rv) hw
def Np (to ti:TE)(t:Jd):TG:=fun v σ H Q=>to σ H fun o H1=>ti σ H1 fun i H2=>t o i v H2 fun H3=>Q σ H3
theorem HK {o i:Expr}{to ti:TE}{t:Jd}(ho:PE X o to)(hi:PE X i ti)(hs:Km X t)
  (ha:∀v,assign (.Subscript o i pos) X.env v=(do
   let ov ←holding [v] (eval o X.env)
   let iv ←holding [v,ov] (eval i X.env)
   standAt pos
   holding [v,ov,iv] (setItem ov iv v)
   release [v,ov,iv] []):=by intro _;rfl):PG X (.Subscript o i pos) (Np to ti t):=by
 intro ah s σ H v u Q I r h
 rw[ha]
 refine wpAny_bind (wpAny_holding (cF (ho ah s σ H _ I h) fun ov s1 ⟨x,H1,I1,r1,q1⟩=>?_))
 refine wpAny_bind (wpAny_holding (cF (hi ah s1 σ H1 _ I1 q1) fun iv s2 ⟨y,H2,I2,r2,q2⟩=>?_))
 refine wpAny_bind (wpAny_standAt (wpAny_bind (wpAny_holding (cF (hs ah s2 σ H2 x y v ov iv u _ I2 r1 r2 r q2) fun _ s3 ⟨H3,I3,q3⟩=>?_))))
 exact wpAny_release ⟨σ,H3,I3,q3⟩
def KG (te:TE)(g:TG):TS:=fun D σ H=>te σ H fun x H1=>g x σ H1 D.nx
theorem AV {te:TE}{g:TG}(he:PE X e te)(hg:PG X tg g)(hs:swapsWithSole [tg] e pos.line X.env=pure false:=by rfl)(hw:swappedStores [tg] e X.env=pure none:=by rfl)
  (h1:(assignEach [tg] X.env).map (·.2)=[assign tg X.env]:=by rfl):PS X (.Assign [tg] e pos) (KG te g):=by
 intro ah s σ H D I h
 refine wpAny_Assign_stores (cF (he ah s σ H _ I h) fun v s1 ⟨x,H1,I1,r1,q1⟩=>?_) hs hw
 rw[h1]
 exact cF (hg ah s1 σ H1 x v _ I1 r1 q1) fun _ s2 q=>q
theorem Ge {te:TE}{pos':Pos}(hN:X.N.Nodup)(hi:X.N[i]?=some x)(hx:Dn X.env.scope x)(he:PE X e te)(hs:swapsWith e (some (.Name x pos')) pos.line X.env=pure false:=by rfl)(hf:X.fn x=true∨X.env.scope.names.lookup x=some .local:=by first|exact .inl rfl|exact .inr rfl|assumption) :
  PS X (.Assign [.Name x pos'] e pos) (KG te (F9 i)):=by
 intro ah s σ H D I h
 refine wpAny_Assign_Name (cF (he ah s σ H _ I h) fun v s1 ⟨y,H1,I1,r1,q1⟩=>?_) hs
 exact rH I1 hN hi hx r1 (fun s2 I2=>⟨_,H1,I2,q1⟩) hf
end
variable{body:List Stmt}
section
variable {X:Cx}{pos:Pos}
def GL (c:TT)(tb:TS):TS:=fun D σ H=>∃W:Nat→St→Hp→Prop,(∃m,W m σ H)∧∀m σ H,W m σ H→
 c σ H fun b H1=>if b=true then∃N:St→Hp→Prop,(∀σ' H',N σ' H'→∃m',m'<m∧W m' σ' H')∧tb {D with nx:=N,ct:=N,bk:=D.nx} σ H1 else D.nx σ H1
theorem BL {tc:TT}{tb:TS}(hp:PassesOwn (model X.prog X.w) X.A X.env X.xe)(hc:PT X c tc)(hb:PSs X body tb):PS X (.While c body [] pos) (GL tc tb):=by
 intro ah s σ H D I h
 obtain⟨W,⟨m0,w0⟩,turn⟩:=h
 refine wpAny_While (codeAny_whileLoop (fun n s'=>∃σ' H',Inv X ah σ' H' s'∧W n σ' H') ?_ m0 ⟨σ,H,I,w0⟩)
 rintro n s1 ⟨σ1,H1,I1,w1⟩
 refine wpAny_passesOwn hp (cF (hc ah s1 σ1 H1 _ I1 (turn n σ1 H1 w1)) fun b s2 ⟨H2,I2,q2⟩=>?_)
 cases b with
 | true=>
  obtain⟨N,hN,q2⟩:=q2
  rw[if_pos rfl]
  refine wpAny_passesOwn hp (cF (hb ah s2 σ1 H2 _ I2 q2) fun f s3 q3=>?_)
  cases f with
  | next=>
   obtain⟨σ3,H3,I3,n3⟩:=q3
   obtain⟨m',hm,w3⟩:=hN σ3 H3 n3
   exact⟨m',hm,σ3,H3,I3,w3⟩
  | cont=>
   obtain⟨σ3,H3,I3,n3⟩:=q3
   obtain⟨m',hm,w3⟩:=hN σ3 H3 n3
   exact⟨m',hm,σ3,H3,I3,w3⟩
  | brk=>exact q3
  | ret v=>exact q3
 | false=>
  rw[if_neg Bool.false_ne_true]
  exact wpAny_execs_nil ⟨σ1,H2,I2,q2⟩
end
structure It where
 go:Nat→Hp→Prop
 yld:Nat→Hp→V→Hp→Prop
 stop:Nat→Hp→Prop
def j9 (X:Cx)(ah:List (Addr×Obj))(H:Hp)(b:Addr):Prop:=
 H b=none∧b≠X.env.locals∧b∉X.fs∧(b∈X.ex∨X.s₀.heap.objs.size≤b)∧(∀x c,X.env.cells.lookup x=some c→c≠b)∧∀p∈X.pn++ah,p.1≠b
theorem Inv.fpOk {X:Cx}{H':Hp}(I:Inv X ah σ H s)(hb:s.heap.objs.size≤b)(hn:H' b=none):j9 X ah H' b:=by
 refine⟨hn,Nat.ne_of_gt (Nat.lt_of_lt_of_le I.lt hb),I.nofs hb,.inr (Nat.le_trans I.sz hb),fun x c e z=>?_,fun p hp z=>?_⟩
 ·obtain⟨v,q⟩:=I.cell x c e
  exact absurd (Nat.lt_of_lt_of_le q.lt (by rw[z];exact hb)) (Nat.lt_irrefl _)
 ·exact absurd (Nat.lt_of_lt_of_le (Heap.lt_size (I.pin p hp).1) (by rw[z];exact hb)) (Nat.lt_irrefl _)
structure Ap (P:Program)(w:World)(K:W.Frag)(tg:Expr)(J:It)(fp:List Addr)(it:Addr)(tn:Nat→Heap→Prop):Prop where
 mem:it∈fp
 obj:∀i h,tn i h→∀b∈fp,∃o,h.get? b=some o∧∀v,o.data≠.cell v
 keep:∀i h h',tn i h→(∀b∈fp,∀o,h.get? b=some o→h'.get? b=some o)→tn i h'
 item:∀(X:Cx),X.prog=P→X.w=w→X.K=K→X.calm=true→∀(i:Nat) (ah:List (Addr×Obj)) (s:Shared) (σ:St) (H:Hp) (E:Value→Shared→Prop),Inv X ah σ H s→(∀b∈fp,j9 X ah H b)→tn i s.heap→J.go i H→
  wpAny (model P w) X.A (pyNext (.ref it)) (fun r s1=>∃u,r=some u∧
   wpAny (model P w) X.A (letOwnedTupleGo tg (.ref it) u) (fun _ s2=>∃x H',Inv X ah σ H' s2∧RelV x u∧J.yld i H x H'∧tn (i+1) s2.heap∧∀b∈fp,H' b=none) E s1) E s
 done:∀(X:Cx),X.prog=P→X.w=w→X.K=K→X.calm=true→∀(i:Nat) (ah:List (Addr×Obj)) (s:Shared) (σ:St) (H:Hp) (E:Value→Shared→Prop),Inv X ah σ H s→(∀b∈fp,j9 X ah H b)→tn i s.heap→J.stop i H→
  wpAny (model P w) X.A (pyNext (.ref it)) (fun r s1=>r=none∧Inv X ah σ H s1) E s
 self:∀(A:Around) (i:Nat) (s:Shared) (Q:Value→Shared→Prop) (E:Value→Shared→Prop),tn i s.heap→Q (.ref it) s→wpAny (model P w) A (pyIter (.ref it)) Q E s
abbrev TI:=St→Hp→(It→Hp→Prop)→Prop
def Nl (X:Cx)(ah:List (Addr×Obj))(σ:St)(tg:Expr)(R:It→Hp→Prop)(itv:Value)(s2:Shared):Prop:=
 ∃(it:Addr) (fp:List Addr) (tn:Nat→Heap→Prop) (J:It) (H':Hp),itv=.ref it∧Inv X ah σ H' s2∧Ap X.prog X.w X.K tg J fp it tn∧tn 0 s2.heap∧(∀b∈fp,j9 X ah H' b)∧R J H'
def PI (X:Cx)(tg iter:Expr)(wi:TI):Prop:=
 ∀(ah:List (Addr×Obj)) (s:Shared) (σ:St) (H:Hp) (R:It→Hp→Prop),Inv X ah σ H s→wi σ H R→
  wpAny (model X.prog X.w) X.A (eval iter X.env) (fun v s1=>wpAny (model X.prog X.w) X.A (pyIter v) (Nl X ah σ tg R) X.xe s1) X.xe s
theorem BE {M:Model}{it:Addr}{o:Obj}{n:String}{vs:Array Value}{Q:Unit→Shared→Prop}(ho:s.heap.get? it=some o)(hc:o.cls=.type n)(hd:o.data=.fields vs)
  (hn:["enumerate","zip","dict_itemiterator","dict_reverseitemiterator","odict_iterator","itertools.zip_longest","itertools.pairwise"].contains n=false) (hQ:Q () s):wpAny M A (letOwnedTupleGo tg (.ref it) u) Q E s:=by
 unfold letOwnedTupleGo
 cases tg <;> first
  | exact wpAny_pure hQ
  | (cases u <;> first
    | exact wpAny_pure hQ
    | (refine wpAny_bind (wpAny_load ho ?_)
       rw[hc,hd]
       show wpAny M A (if(["enumerate","zip","dict_itemiterator","dict_reverseitemiterator","odict_iterator","itertools.zip_longest","itertools.pairwise"].contains n&&vs[0]?==some (rawInt _))=true then _ else _) Q E s
       rw[if_neg (by intro h;rw[hn,Bool.false_and] at h;cases h)]
       exact wpAny_pure hQ))
def My (K:W.Frag)(a:Addr):It:=
 ⟨fun i H=>∃xs x,mE K H a xs∧xs[i]?=some x,fun i H x H'=>H'=H∧∀xs,mE K H a xs→xs[i]?=some x,fun i H=>∃xs,mE K H a xs∧xs.length≤i⟩
def MV (K:W.Frag)(a:Addr):It:=
 ⟨fun i H=>∃xs x,pV K H a xs∧xs[i]?=some x,fun i H x H'=>H'=H∧∀xs,pV K H a xs→xs[i]?=some x,fun i H=>∃xs,pV K H a xs∧xs.length≤i⟩
def MA (lo:Int)(n:Nat):It:=⟨fun i _=>i<n,fun i H x H'=>H'=H∧x=.int (lo+i),fun i _=>n≤i⟩
variable{K:W.Frag}
theorem Aq (a it:Addr):Ap P w K tg (My K a) [it] it (fun i h=>h.IsListIter it a i) where
 mem:=by simp
 obj:=fun i h st b hb=>by
  have e:b=it:=by simpa using hb
  subst e
  obtain⟨o,e,c,d⟩:=st
  exact⟨o,e,fun v z=>by rw[d] at z;cases z⟩
 keep:=fun i h h' st k=>st.at fun o e=>k it (by simp) o e
 item:=by
  intro X hP hw hK hc i ah s σ H E I hf st hg
  subst hP hw hK
  obtain⟨xs,x,hq,hx⟩:=hg
  obtain⟨its,rv,p,hz⟩:=I.list hq
  obtain⟨u,hu,ru⟩:=rv.get hx
  obtain⟨f0,f1,f2,f3,f4,f5⟩:=hf it (by simp)
  refine wpAny_pyNext_list_item st p.isList (x:=u) (by simpa using hu) fun h' st' sb=>?_
  have I1:Inv X ah σ H {s with heap:=h'}:=I.turned (t':=s.toks) (fun b o hb e=>(sb.2 b hb).trans e) f0 f1 f3 f4 f5
  obtain⟨o,e,c,d⟩:=id st'
  exact⟨u,rfl,BE (s:={s with heap:=h'}) e c d (by decide) ⟨x,H,I1,ru,⟨rfl,fun ys hy=>by rw[I.list_inj hy hq];exact hx⟩,st',fun b hb=>(hf b hb).1⟩⟩
 done:=by
  intro X hP hw hK hc i ah s σ H E I hf st hg
  subst hP hw hK
  obtain⟨xs,hq,hx⟩:=hg
  obtain⟨its,rv,p,hz⟩:=I.list hq
  obtain⟨f0,f1,f2,f3,f4,f5⟩:=hf it (by simp)
  have hl:=rv.length
  exact wpAny_pyNext_list_end (I.ok.hd hc) st p.isList (by simp;omega) fun h' eb=>⟨rfl,I.turned (t':=s.toks) (fun b o hb e=>eb b o hb e) f0 f1 f3 f4 f5⟩
 self:=fun _ _ _ _ _ st h=>wpAny_pyIter_listiter st h
theorem wR (a it:Addr):Ap P w K tg (MV K a) [it] it (fun i h=>h.IsTupleIter it a i) where
 mem:=by simp
 obj:=fun i h st b hb=>by
  have e:b=it:=by simpa using hb
  subst e
  obtain⟨o,e,c,d⟩:=st
  exact⟨o,e,fun v z=>by rw[d] at z;cases z⟩
 keep:=fun i h h' st k=>st.at fun o e=>k it (by simp) o e
 item:=by
  intro X hP hw hK hc i ah s σ H E I hf st hg
  subst hP hw hK
  obtain⟨xs,x,hq,hx⟩:=hg
  obtain⟨its,rv,p,hz⟩:=I.tuple hq
  obtain⟨u,hu,ru⟩:=rv.get hx
  obtain⟨f0,f1,f2,f3,f4,f5⟩:=hf it (by simp)
  refine wpAny_pyNext_tuple_item st (show s.heap.IsTuple a its.toArray from p) (x:=u) (by simpa using hu) fun h' st' sb=>?_
  have I1:Inv X ah σ H {s with heap:=h'}:=I.turned (t':=s.toks) (fun b o hb e=>(sb.2 b hb).trans e) f0 f1 f3 f4 f5
  obtain⟨o,e,c,d⟩:=id st'
  exact⟨u,rfl,BE (s:={s with heap:=h'}) e c d (by decide) ⟨x,H,I1,ru,⟨rfl,fun ys hy=>by rw[I.tuple_inj hy hq];exact hx⟩,st',fun b hb=>(hf b hb).1⟩⟩
 done:=by
  intro X hP hw hK hc i ah s σ H E I hf st hg
  subst hP hw hK
  obtain⟨xs,hq,hx⟩:=hg
  obtain⟨its,rv,p,hz⟩:=I.tuple hq
  obtain⟨f0,f1,f2,f3,f4,f5⟩:=hf it (by simp)
  have hl:=rv.length
  exact wpAny_pyNext_tuple_end (I.ok.hd hc) st (show s.heap.IsTuple a its.toArray from p) (by simp;omega) fun h' eb=>⟨rfl,I.turned (t':=s.toks) (fun b o hb e=>eb b o hb e) f0 f1 f3 f4 f5⟩
 self:=fun _ _ _ _ _ st h=>wpAny_pyIter_tupleiter st h
theorem yc (it:Addr)(lo:Int)(n:Nat):Ap P w K tg (MA lo n) [it] it (fun i h=>IsRangeIter h it (lo+(i:Nat)*1) ((n:Int)-(i:Nat)) 1) where
 mem:=by simp
 obj:=fun i h st b hb=>by
  have e:b=it:=by simpa using hb
  subst e
  exact⟨_,st,fun v z=>by
   have z':Data.fields _=Data.cell v:=z
   cases z'⟩
 keep:=fun i h h' st k=>k it (by simp) _ st
 item:=by
  intro X hP hw hK hc i ah s σ H E I hf st hg
  subst hP hw hK
  obtain⟨f0,f1,f2,f3,f4,f5⟩:=hf it (by simp)
  have W:=Walks.range (prog:=X.prog) (w:=X.w) (I.ok.hd hc) it lo 1 n
  refine W.item i s _ _ hg st fun v h' tk hv st' kk=>?_
  obtain⟨t,rfl⟩:=hv
  have I1:Inv X ah σ H {s with heap:=h',toks:=tk}:=I.turned (fun b o hb e=>kk b o (by simpa using hb) e) f0 f1 f3 f4 f5
  refine⟨_,rfl,BE (s:={s with heap:=h',toks:=tk}) (n:="range_iterator") st' rfl rfl (by decide) ⟨.int (lo+i),H,I1,⟨t,?_⟩,⟨rfl,rfl⟩,st',fun b hb=>(hf b hb).1⟩⟩
  rw[Int.mul_one]
 done:=by
  intro X hP hw hK hc i ah s σ H E I hf st hg
  subst hP hw hK
  obtain⟨f0,f1,f2,f3,f4,f5⟩:=hf it (by simp)
  exact wpAny_pyNext_range_end (I.ok.hd hc) st (by have:n≤i:=hg;omega) fun h' eb=>⟨rfl,I.turned (t':=s.toks) (fun b o hb e=>eb b o hb e) f0 f1 f3 f4 f5⟩
 self:=fun _ _ _ _ _ st h=>wpAny_pyIter_rangeiter st h
variable{fp:List Addr}
section
variable {X:Cx}{tg:Expr}
theorem CS {R:It→Hp→Prop}{lo hi:Int}{t u v:Tok}{tk:Nat}(I:Inv X ah σ H s)(h1:-(2 ^ 62)≤lo)(h2:lo<2 ^ 62)(h3:-(2 ^ 62)≤hi)(h4:hi<2 ^ 62)
  (q:R (MA lo (hi-lo).toNat) H):wpAny (model X.prog X.w) X.A (pyIter (.ref s.heap.objs.size)) (Nl X ah σ tg R) E {s with heap:=s.heap.push {cls:=.type "range",data:=.fields #[.int lo t,.int hi u,.int 1 v]},toks:=tk}:=by
 refine wpAny_pyIter_range (IsRange.new ..) (small_one h1 h2 h3 h4) ?_
 have I1:Inv X ah σ H {s with heap:=s.heap.push {cls:=.type "range",data:=.fields #[.int lo t,.int hi u,.int 1 v]},toks:=tk}:=I.kept fun b o e=>Heap.get?_push_of_some _ e
 refine⟨(s.heap.push {cls:=.type "range",data:=.fields #[.int lo t,.int hi u,.int 1 v]}).objs.size,[(s.heap.push {cls:=.type "range",data:=.fields #[.int lo t,.int hi u,.int 1 v]}).objs.size],_,_,H,rfl,
  I1.kept (t':=tk) fun b o e=>Heap.get?_push_of_some _ e,yc _ lo (hi-lo).toNat,?_,fun b hb=>?_,q⟩
 ·have e1:lo+((0:Nat):Int)*1=lo:=by simp
  have e2:(((hi-lo).toNat:Nat):Int)-((0:Nat):Int)=Builtin.Range.rangeSize lo hi 1:=by rw[rangeSize_one];split <;> omega
  show IsRangeIter _ _ (lo+((0:Nat):Int)*1) ((((hi-lo).toNat:Nat):Int)-((0:Nat):Int)) 1
  rw[e1,e2]
  exact Heap.get?_push_size _ rfl
 ·have e:b=(s.heap.push {cls:=.type "range",data:=.fields #[.int lo t,.int hi u,.int 1 v]}).objs.size:=by simpa using hb
  subst e
  exact I1.fpOk (Nat.le_refl _) (I1.hok.fresh (Nat.le_refl _))
def LO (ta:TA):TI:=fun σ H R=>ta σ H fun vs H1=>∃j:Int,vs=[.int j]∧-(2 ^ 62)≤j∧j<2 ^ 62∧R (MA 0 j.toNat) H1
theorem Ae {a:Expr}{ta:TA}{p pos:Pos}(hg:Gl X "range")(hm:X.mg "range"=none)(ha:PA X [a] ta)(hs:starEach [a] X.env=[(false,eval a X.env)]:=by rfl):PI X tg (.Call (.Name "range" p) [a] [] pos) (LO ta):=by
 intro ah s σ H R I h
 refine Call_ (oO I hg hm boot_range (PyProof.Rows.callWith_type1 (cF (ha pos ah s σ H _ I h) fun us s1 ⟨vs,H1,I1,r1,q1⟩=>?_) hs rfl))
 obtain⟨j,e,q1,q2,q⟩:=q1
 subst e
 cases r1 with
 | cons r rr=>
  cases rr
  obtain⟨t,rfl⟩:=r
  exact call_range_1 (CS I1 (by omega) (by omega) q1 q2 (by simpa using q))
def NL (wi:TI)(g:TG)(tb:TS):TS:=fun D σ H=>wi σ H fun J H1=>∃W:Nat→Nat→St→Hp→Prop,(∃m,W 0 m σ H1)∧∀i m σ H,W i m σ H→
 (J.stop i H∧D.nx σ H)∨(J.go i H∧∃N:St→Hp→Prop,(∀σ' H',N σ' H'→∃m',m'<m∧W (i+1) m' σ' H')∧∀x H',J.yld i H x H'→g x σ H' fun σ2 H2=>tb {D with nx:=N,ct:=N,bk:=D.nx} σ2 H2)
def qj (fp:List Addr)(h:Heap):List (Addr×Obj):=fp.filterMap fun b=>(h.get? b).map fun o=>(b,o)
theorem ko {o:Obj}(hb:b∈fp)(e:h.get? b=some o):(b,o)∈qj fp h:=List.mem_filterMap.mpr ⟨b,hb,by rw[e];rfl⟩
theorem zF {p:Addr×Obj}(hp:p∈qj fp h):p.1∈fp∧h.get? p.1=some p.2:=by
 obtain⟨b,hb,e⟩:=List.mem_filterMap.mp hp
 cases q:h.get? b with
 | none=>rw[q] at e;cases e
 | some o=>
  rw[q] at e
  have e':(b,o)=p:=Option.some.inj e
  subst e'
  exact⟨hb,q⟩
theorem Inv.pinned (I:Inv X ah σ H s)(hf:∀b∈fp,j9 X ah H b)(ho:∀b∈fp,∃o,s.heap.get? b=some o∧∀v,o.data≠.cell v):Inv X (ah++qj fp s.heap) σ H s:=
 I.pins_of fun p hp=>(List.mem_append.mp hp).elim (fun z=>I.pin p (List.mem_append_right _ z)) fun z=>by
  obtain⟨hb,e⟩:=zF z
  obtain⟨f0,f1,f2,_⟩:=hf p.1 hb
  obtain⟨o,e',d⟩:=ho p.1 hb
  rw[e] at e';cases e'
  exact⟨e,f0,f1,f2,d⟩
theorem Inv.unpinned {pl:List (Addr×Obj)}(I:Inv X (ah++pl) σ H s):Inv X ah σ H s:=I.pins_of fun p hp=>I.pin p (List.mem_append_right _ (List.mem_append_left _ hp))
theorem ID {iter:Expr}{wi:TI}{g:TG}{tb:TS}{pos:Pos}(hp:PassesOwn (model X.prog X.w) X.A X.env X.xe)(hc:X.calm=true)(hi:PI X tg iter wi)(hg:PG X tg g)(hb:PSs X body tb)
  (hs:∀x,foldedSetIterable iter X.env x=pure x:=by intro _;rfl):PS X (.For tg iter body [] pos) (NL wi g tb):=by
 intro ah s σ H D I h
 refine wpAny_For (cF (hi ah s σ H _ I h) fun v s1 h1=>cF h1 fun itv s2 h2=>?_) hs
 obtain⟨it,fp,tn,J,H2,e,I2,T,st2,f2,W,⟨m0,w0⟩,turn⟩:=h2
 subst e
 have stat:∀{H':Hp},(∀b∈fp,H' b=none)→∀b∈fp,j9 X ah H' b:=fun hn b hb=>⟨hn b hb,(f2 b hb).2⟩
 refine codeAny_forLoop_any (fun n s'=>∃i σ' H',Inv X ah σ' H' s'∧tn i s'.heap∧(∀b∈fp,H' b=none)∧W i n σ' H') ?_ m0 ⟨0,σ,H2,I2,st2,fun b hb=>(f2 b hb).1,w0⟩
 rintro n s3 ⟨i,σ3,H3,I3,st3,fr3,w3⟩
 rcases turn i n σ3 H3 w3 with⟨stop,qn⟩|⟨go,N,hN,step⟩
 ·refine wpAny_passesOwn hp (cF (T.done X rfl rfl rfl hc i ah s3 σ3 H3 X.xe I3 (stat fr3) st3 stop) fun r s4 ⟨hr,I4⟩=>?_)
  subst hr
  exact wpAny_execs_nil ⟨σ3,H3,I4,qn⟩
 ·refine wpAny_passesOwn hp (cF (T.item X rfl rfl rfl hc i ah s3 σ3 H3 X.xe I3 (stat fr3) st3 go) fun r s4 ⟨u,hr,h4⟩=>?_)
  subst hr
  refine wpAny_passesOwn hp (cF h4 fun _ s5 ⟨x,H5,I5,r5,y5,st5,Hr⟩=>?_)
  have I5':=I5.pinned (stat Hr) (T.obj _ _ st5)
  refine wpAny_passesOwn hp (cF (hg _ s5 σ3 H5 x u _ I5' r5 (step x H5 y5)) fun _ s6 ⟨σ6,H6,I6,q6⟩=>?_)
  refine wpAny_passesOwn hp (cF (hb _ s6 σ6 H6 _ I6 q6) fun f s7 q7=>?_)
  have again:∀{σ7:St} {H7:Hp},Inv X (ah++qj fp s5.heap) σ7 H7 s7→N σ7 H7→∃m,m<n∧∃i σ' H',Inv X ah σ' H' s7∧tn i s7.heap∧(∀b∈fp,H' b=none)∧W i m σ' H':=fun {σ7 H7} I7 n7=>by
   obtain⟨m',hm,w7⟩:=hN σ7 H7 n7
   refine⟨m',hm,i+1,σ7,H7,I7.unpinned,T.keep _ _ _ st5 fun b hb o e=>(I7.pin (b,o) (List.mem_append_right _ (List.mem_append_right _ (ko hb e)))).1,fun b hb=>?_,w7⟩
   obtain⟨o,e,d⟩:=T.obj _ _ st5 b hb
   exact(I7.pin (b,o) (List.mem_append_right _ (List.mem_append_right _ (ko hb e)))).2.1
  cases f with
  | next=>obtain⟨σ7,H7,I7,n7⟩:=q7;exact again I7 n7
  | cont=>obtain⟨σ7,H7,I7,n7⟩:=q7;exact again I7 n7
  | brk=>obtain⟨σ7,H7,I7,q7⟩:=q7;exact⟨σ7,H7,I7.unpinned,q7⟩
  | ret v=>obtain⟨x7,σ7,H7,I7,r7,q7⟩:=q7;exact⟨x7,σ7,H7,I7.unpinned,r7,q7⟩
end
abbrev R2:=V→V→Hp→VK→Prop
def iO (X:Cx)(f:Value→Value→Sem Value)(r:R2):Prop:=
 ∀(ah:List (Addr×Obj)) (s:Shared) (σ:St) (H:Hp) (x y:V) (v u:Value) (Q:VK),Inv X ah σ H s→RelV x v→RelV y u→r x y H Q→
  wpAny (model X.prog X.w) X.A (f v u) (EP X ah σ Q) X.xe s
def N3 (X:Cx)(f:Value→Sem Value)(r:V→Hp→VK→Prop):Prop:=
 ∀(ah:List (Addr×Obj)) (s:Shared) (σ:St) (H:Hp) (x:V) (v:Value) (Q:VK),Inv X ah σ H s→RelV x v→r x H Q→
  wpAny (model X.prog X.w) X.A (f v) (EP X ah σ Q) X.xe s
def dY (X:Cx)(f:Value)(r:List V→Hp→VK→Prop):Prop:=
 ∀(ah:List (Addr×Obj)) (s:Shared) (σ:St) (H:Hp) (xs:List V) (us:List Value) (Q:VK),Inv X ah σ H s→aZ xs us→r xs H Q→
  wpAny (model X.prog X.w) X.A (call f us) (EP X ah σ Q) X.xe s
def NI (X:Cx)(r:V→Hp→(Bool→Hp→Prop)→Prop):Prop:=
 ∀(ah:List (Addr×Obj)) (s:Shared) (σ:St) (H:Hp) (x:V) (v:Value) (Q:Bool→Hp→Prop),Inv X ah σ H s→RelV x v→r x H Q→
  wpAny (model X.prog X.w) X.A (truthy v) (TP X ah σ Q) X.xe s
def JU (r:R2)(ta tb:TE):TE:=fun σ H Q=>ta σ H fun x H1=>tb σ H1 fun y H2=>r x y H2 Q
def Oi (r:V→Hp→VK→Prop)(ta:TE):TE:=fun σ H Q=>ta σ H fun x H1=>r x H1 Q
def rI (C:Int→Int→Prop)(g:Int→Int→V):R2:=fun x y H Q=>∃i j,x=.int i∧y=.int j∧C i j∧Q (g i j) H
def F4 (g:Int→Int→V):R2:=fun x y H Q=>∃i j,x=.int i∧y=.int j∧Q (g i j) H
def rU (g:Int→V):V→Hp→VK→Prop:=fun x H Q=>∃i,x=.int i∧Q (g i) H
variable{f:Value→Value→Sem Value}{r:R2}{g:Int→Int→Int}
section
variable {X:Cx}{a b c:Expr}{ta tb tc:TE}{pos:Pos}
theorem Jk (ha:PE X a ta)(hb:PE X b tb){R:V→V→Hp→Prop}(I:Inv X ah σ H s)
  (h:ta σ H fun x H1=>tb σ H1 fun y H2=>R x y H2)  
  (hf:∀v u s2 x y H2,Inv X ah σ H2 s2→RelV x v→RelV y u→R x y H2→wpAny (model X.prog X.w) X.A (f v u) Q X.xe s2) :
  wpAny (model X.prog X.w) X.A (eval a X.env) (fun v s₁=>wpAny (model X.prog X.w) X.A (eval b X.env) (fun u s₂=>wpAny (model X.prog X.w) X.A (f v u) Q X.xe s₂) X.xe s₁) X.xe s:=by
 refine cF (ha ah s σ H _ I h) fun v s1 ⟨x,H1,I1,r1,q1⟩=>?_
 refine cF (hb ah s1 σ H1 _ I1 q1) fun u s2 ⟨y,H2,I2,r2,q2⟩=>?_
 exact hf v u s2 x y H2 I2 r1 r2 q2
theorem Ll {op:Operator}(ho:iO X (binaryOp op) r)(ha:PE X a ta)(hb:PE X b tb):PE X (.BinOp a op b pos) (JU r ta tb):=by
 intro ah s σ H Q I h
 exact wpAny_BinOp (Jk ha hb I h fun v u s2 x y H2 I2 rx ry q=>ho ah s2 σ H2 x y v u Q I2 rx ry q)
theorem F7 {op:UnaryOp}{r:V→Hp→VK→Prop}(ho:N3 X (unaryOp op) r)(ha:PE X a ta):PE X (.UnaryOp op a pos) (Oi r ta):=by
 intro ah s σ H Q I h
 exact UnaryOp_ (cF (ha ah s σ H _ I h) fun v s1 ⟨x,H1,I1,r1,q1⟩=>ho ah s1 σ H1 x v Q I1 r1 q1)
theorem Nm {f:Value→Value→Sem Value}{C:Int→Int→Prop}
  (rule:∀(i j:Int) (t u:Tok) (s:Shared) (Q:Value→Shared→Prop) (E:Value→Shared→Prop),C i j→Q (.int (g i j) s.toks) {s with toks:=s.toks+1}→wpAny (model X.prog X.w) X.A (f (.int i t) (.int j u)) Q E s) :
  iO X f (rI C fun i j=>.int (g i j)):=by
 intro ah s σ H x y v u Q I rx ry h
 obtain⟨i,j,rfl,rfl,hc,q⟩:=h
 obtain⟨t,rfl⟩:=rx
 obtain⟨t',rfl⟩:=ry
 exact rule i j t t' s _ _ hc ⟨.int (g i j),H,I.tok _,⟨_,rfl⟩,q⟩
theorem Lb {f:Value→Value→Sem Value}
  (rule:∀(i j:Int) (t u:Tok) (s:Shared) (Q:Value→Shared→Prop) (E:Value→Shared→Prop),Q (.int (g i j) s.toks) {s with toks:=s.toks+1}→wpAny (model X.prog X.w) X.A (f (.int i t) (.int j u)) Q E s) :
  iO X f (F4 fun i j=>.int (g i j)):=by
 intro ah s σ H x y v u Q I rx ry h
 obtain⟨i,j,rfl,rfl,q⟩:=h
 obtain⟨t,rfl⟩:=rx
 obtain⟨t',rfl⟩:=ry
 exact rule i j t t' s _ _ ⟨.int (g i j),H,I.tok _,⟨_,rfl⟩,q⟩
theorem DS {g:Int→Int→Bool}
  (rule:∀(i j:Int) (t u:Tok) (s:Shared) (Q:Value→Shared→Prop) (E:Value→Shared→Prop),Q (.bool (g i j)) s→wpAny (model X.prog X.w) X.A (f (.int i t) (.int j u)) Q E s) :
  iO X f (F4 fun i j=>.bl (g i j)):=by
 intro ah s σ H x y v u Q I rx ry h
 obtain⟨i,j,rfl,rfl,q⟩:=h
 obtain⟨t,rfl⟩:=rx
 obtain⟨t',rfl⟩:=ry
 exact rule i j t t' s _ _ ⟨.bl (g i j),H,I,rfl,q⟩
def N6 (i j:Int):Prop:=0≤j∧j≤1000000∧i.natAbs<2 ^ 64
def G0 (i j:Int):Prop:=(-(2 ^ 64)<i∧i<2 ^ 64)∨(-(2 ^ 64)<j∧j<2 ^ 64)
theorem G0.ok {i j:Int}(h:G0 i j):IntMulOk i j:=by
 rcases h with⟨h1,h2⟩|⟨h1,h2⟩
 ·exact .of_left (intBits_le_64 h1 h2)
 ·exact .of_right (intBits_le_64 h1 h2)
theorem Jq:iO X (binaryOp .Add) (F4 fun i j=>.int (i+j)):=Lb fun _ _ _ _ _ _ _ q=>add_int q
theorem IP:iO X (binaryOp .Sub) (F4 fun i j=>.int (i-j)):=Lb fun _ _ _ _ _ _ _ q=>sub_int q
theorem Jc:iO X (binaryOp .Mult) (rI G0 fun i j=>.int (i*j)):=Nm fun _ _ _ _ _ _ _ hc q=>mul_int q hc.ok
theorem GW:iO X (binaryOp .Mod) (rI (fun _ j=>0<j) fun i j=>.int (i % j)):=Nm fun i j _ _ _ _ _ hc q=>by
 have h1:(0:Int)<j:=hc
 exact mod_int' (by omega) (by rw[Int.fmod_eq_emod_of_nonneg i (by omega)];exact q)
theorem IF:iO X (binaryOp .Pow) (rI N6 fun i j=>.int (i ^ j.toNat)):=Nm fun _ _ _ _ _ _ _ hc q=>pow_int_small hc.1 hc.2.1 hc.2.2 q
theorem Ol {f:Value→Sem Value}{g:Int→Int}
  (rule:∀(i:Int) (t:Tok) (s:Shared) (Q:Value→Shared→Prop) (E:Value→Shared→Prop),Q (.int (g i) s.toks) {s with toks:=s.toks+1}→wpAny (model X.prog X.w) X.A (f (.int i t)) Q E s) :
  N3 X f (rU fun i=>.int (g i)):=by
 intro ah s σ H x v Q I rx h
 obtain⟨i,rfl,q⟩:=h
 obtain⟨t,rfl⟩:=rx
 exact rule i t s _ _ ⟨.int (g i),H,I.tok _,⟨_,rfl⟩,q⟩
theorem Bh:N3 X (unaryOp .USub) (rU fun i=>.int (-i)):=Ol fun _ _ _ _ _ q=>neg_int q
end
variable{op:CmpOp}
section
variable {X:Cx}{a b c:Expr}{ta tb tc:TE}{pos:Pos}
theorem Kp:iO X (compareOp .Lt) (F4 fun i j=>.bl (decide (i<j))):=DS fun _ _ _ _ _ _ _ q=>lt_int q
theorem LP:iO X (compareOp .LtE) (F4 fun i j=>.bl (decide (i≤j))):=DS fun _ _ _ _ _ _ _ q=>le_int q
theorem LK:iO X (compareOp .Gt) (F4 fun i j=>.bl (decide (j<i))):=DS fun _ _ _ _ _ _ _ q=>gt_int q
theorem LL:iO X (compareOp .GtE) (F4 fun i j=>.bl (decide (j≤i))):=DS fun _ _ _ _ _ _ _ q=>ge_int q
def LD:HO→Bool
 | .lst _=>true
 | .ins _ _ _=>true
 | _=>false
theorem JM {a:Addr}(I:Inv X ah σ H s)(h:H a=some o)(p:LD o=true):∃ob,s.heap.get? a=some ob∧ob.cls≠.type "tuple":=by
 cases o with
 | lst xs=>
  obtain⟨_,its,n,_,e⟩:xs.length≤sizeLine∧∃(its:List Value) (n:Nat),aZ xs its∧s.heap.get? a=some {cls:=.type "list",data:=.seq its.toArray n}:=I.hok a _ h
  exact⟨_,e,(by show Value.type "list"≠.type "tuple";decide +kernel)⟩
 | ins C dx fs=>
  have x:=I.hok a _ h
  obtain⟨_,_,_,e,_⟩:=x
  exact⟨_,e,(by show Value.ref C≠.type "tuple";exact fun z=>by cases z)⟩
 | _=>exact absurd (show false=true from p) Bool.false_ne_true
theorem HC (b:Expr)(h:op≠.In:=by decide)(h2:op≠.NotIn:=by decide):behindInMarks op b=false:=by
 have e1:(op==CmpOp.In)=false:=by cases op <;> first|rfl|exact absurd rfl h
 have e2:(op==CmpOp.NotIn)=false:=by cases op <;> first|rfl|exact absurd rfl h2
 cases b <;> simp[behindInMarks,e1,e2]
theorem EV (ho:iO X (compareOp op) r)(ha:PE X a ta)(hb:PE X b tb)(hm:behindInMarks op b=false):PE X (.Compare a [op] [b] pos) (JU r ta tb):=by
 intro ah s σ H Q I h
 exact wpAny_Compare1 (Jk ha hb I h fun v u s2 x y H2 I2 rx ry q=>ho ah s2 σ H2 x y v u Q I2 rx ry q) hm
def FS (t:TE):TT:=fun σ H Q=>t σ H fun x H'=>∃k,x=.bl k∧Q k H'
theorem Fh (ho:iO X (compareOp op) r)(ha:PE X a ta)(hb:PE X b tb)(hm:behindInMarks op b=false):PT X (.Compare a [op] [b] pos) (FS (JU r ta tb)):=by
 intro ah s σ H Q I h
 refine wpAny_isTrue_Compare1 (cF (ha ah s σ H _ I h) fun v s1 ⟨x,H1,I1,r1,q1⟩=>cF (hb ah s1 σ H1 _ I1 q1) fun u s2 ⟨y,H2,I2,r2,q2⟩=>
  cF (ho ah s2 σ H2 x y v u _ I2 r1 r2 q2) fun c s3 ⟨z,H3,I3,r3,k,e,q3⟩=>?_) hm
 subst e
 cases r3
 exact wpAny_truthy_bool ⟨H3,I3,q3⟩
def xF (r r':R2)(ta tb tc:TE):TE:=fun σ H Q=>ta σ H fun x H1=>tb σ H1 fun y H2=>r x y H2 fun z H3=>∃k,z=.bl k∧
 (if k=true then tc σ H3 fun w' H4=>r' y w' H4 Q else Q (.bl false) H3)
theorem AX {op':CmpOp}{r':R2}(ho:iO X (compareOp op) r)(ho':iO X (compareOp op') r')(ha:PE X a ta)(hb:PE X b tb)(hc:PE X c tc)
  (hm:lastMarks [op,op'] [b,c]=false:=by with_unfolding_all rfl):PE X (.Compare a [op,op'] [b,c] pos) (xF r r' ta tb tc):=by
 intro ah s σ H Q I h
 refine Compare_chain (cF (ha ah s σ H _ I h) fun v s1 ⟨x,H1,I1,r1,q1⟩=>chain_link (cF (hb ah s1 σ H1 _ I1 q1) fun u s2 ⟨y,H2,I2,r2,q2⟩=>
  cF (ho ah s2 σ H2 x y v u _ I2 r1 r2 q2) fun d s3 ⟨z,H3,I3,r3,k,e,q3⟩=>?_)) hm
 subst e
 cases r3
 refine wpAny_truthy_bool ?_
 cases k with
 | false=>exact ite_ff ⟨.bl false,H3,I3,rfl,q3⟩
 | true=>exact ite_tt (chain_last (cF (hc ah s3 σ H3 _ I3 q3) fun w' s4 ⟨z',H4,I4,r4,q4⟩=>ho' ah s4 σ H4 y z' u w' Q I4 r2 r4 q4))
theorem BO {op':CmpOp}{r':R2}(ho:iO X (compareOp op) r)(ho':iO X (compareOp op') r')(ha:PE X a ta)(hb:PE X b tb)(hc:PE X c tc)
  (hm:lastMarks [op,op'] [b,c]=false:=by with_unfolding_all rfl):PT X (.Compare a [op,op'] [b,c] pos) (FS (xF r r' ta tb tc)):=by
 intro ah s σ H Q I h
 refine isTrue_chain (cF (ha ah s σ H _ I h) fun v s1 ⟨x,H1,I1,r1,q1⟩=>test_link (cF (hb ah s1 σ H1 _ I1 q1) fun u s2 ⟨y,H2,I2,r2,q2⟩=>
  cF (ho ah s2 σ H2 x y v u _ I2 r1 r2 q2) fun d s3 ⟨z,H3,I3,r3,k,e,q3⟩=>?_)) hm
 subst e
 cases r3
 refine wpAny_truthy_bool ?_
 cases k with
 | false=>
  obtain⟨k',e',q'⟩:=q3
  cases e'
  exact ite_ff ⟨H3,I3,q'⟩
 | true=>
  refine ite_tt (test_last (cF (hc ah s3 σ H3 _ I3 q3) fun w' s4 ⟨z',H4,I4,r4,q4⟩=>cF (ho' ah s4 σ H4 y z' u w' _ I4 r2 r4 q4) fun d' s5 ⟨z2,H5,I5,r5,k2,e2,q5⟩=>?_))
  subst e2
  cases r5
  exact wpAny_truthy_bool ⟨H5,I5,q5⟩
def JW (K:W.Frag)(x:V)(H:Hp)(k:Bool):Prop:=
 match x with
 | .non=>k=false
 | .bl b=>k=b
 | .int i=>k=(i != 0)
 | .str y=>y.length≤sizeLine∧k=((y.length:Int) != 0)
 | .byt y=>y.size≤sizeLine∧k=((y.size:Int) != 0)
 | .ref p=>(∃xs,mE K H p xs∧k=!xs.isEmpty)∨(∃xs,pV K H p xs∧k=!xs.isEmpty)∨∃kvs,H p=some (.dK kvs)∧k=!kvs.isEmpty
 | _=>False
theorem xc {κ:Type}{kvs:List (κ×V)}{vs:List (κ×Value)}(r:KV kvs vs):(!vs.isEmpty)=!kvs.isEmpty:=by
 cases r <;> rfl
theorem qS {its:List Value}(r:aZ xs its):(!its.toArray.isEmpty)=!xs.isEmpty:=by
 cases r <;> simp
theorem mQ:(sizeLine:Nat)<2 ^ 63:=by rw[sizeLine_eq];decide
theorem G6:NI X (fun x H Q=>∃k,JW X.K x H k∧Q k H):=by
 intro ah s σ H x v Q I rx h
 obtain⟨k,e,q⟩:=h
 have hl:=mQ
 have hs:sizeLine=16777216:=sizeLine_eq
 cases x with
 | non=>
  cases rx
  have e':k=false:=e
  subst e'
  exact truthy_none ⟨H,I,q⟩
 | bl b=>
  cases rx
  have e':k=b:=e
  subst e'
  exact wpAny_truthy_bool ⟨H,I,q⟩
 | int i=>
  obtain⟨t,rfl⟩:=rx
  have e':k=(i != 0):=e
  subst e'
  exact PySem.P.truthy_int ⟨H,I,q⟩
 | str y=>
  obtain⟨t,rfl⟩:=rx
  obtain⟨hy,e'⟩:y.length≤sizeLine∧k=((y.length:Int) != 0):=e
  subst e'
  exact PySem.P.truthy_str (by omega) ⟨H,I.tok _,q⟩
 | byt y=>
  obtain⟨t,rfl⟩:=rx
  obtain⟨hy,e'⟩:y.size≤sizeLine∧k=((y.size:Int) != 0):=e
  subst e'
  exact W.truthy_bytes (by omega) ⟨H,I.tok _,q⟩
 | ref p=>
  cases rx
  have e':(∃xs,mE X.K H p xs∧k=!xs.isEmpty)∨(∃xs,pV X.K H p xs∧k=!xs.isEmpty)∨∃kvs,H p=some (.dK kvs)∧k=!kvs.isEmpty:=e
  rcases e' with⟨xs,hx,e'⟩|⟨xs,hx,e'⟩|⟨kvs,hx,e'⟩
  ·subst e'
   obtain⟨its,r,pl,hz⟩:=I.list hx
   have hlen:=r.length
   exact wpAny_truthy_list pl.isList (by simp only[List.size_toArray];omega) ⟨H,I.tok _,by rw[qS r];exact q⟩
  ·subst e'
   obtain⟨its,r,pl,hz⟩:=I.tuple hx
   have hlen:=r.length
   exact truthy_tuple pl (by simp only[List.size_toArray];omega) ⟨H,I.tok _,by rw[qS r];exact q⟩
  ·subst e'
   obtain⟨hz,hS,vs,r,m⟩:kvs.length≤sizeLine∧(p==sysModules)=false∧∃vs,KV kvs vs∧s.heap.DictOf (cD X.prog X.w) p vs:=I.hok p _ hx
   have hlen:kvs.length=vs.length:=Paired.length r
   exact wpAny_truthy_dict hS m (by omega) ⟨H,I.tok _,by rw[xc r];exact q⟩
 | _=>exact(show False from e).elim
theorem Bw (ha:PE X a ta)(he:∀whole,isTrue a X.env whole=(do let v ←whole;standAt a.pos;holding [v] (truthy v))) :
  PT X a (fun σ H Q=>ta σ H fun x H'=>∃k,JW X.K x H' k∧Q k H'):=by
 intro ah s σ H Q I h
 exact isTrue_plain (cF (ha ah s σ H _ I h) fun v s1 ⟨x,H1,I1,r1,q1⟩=>G6 ah s1 σ H1 x v Q I1 r1 q1) (he _)
theorem wW:iO X (binaryOp .Add) (fun x y H Q=>∃i j,x=.str i∧y=.str j∧i.length+j.length≤sizeLine∧Q (.str (i++j)) H):=by
 intro ah s σ H x y v u Q I rx ry h
 obtain⟨i,j,rfl,rfl,hz,q⟩:=h
 obtain⟨t,rfl⟩:=rx
 obtain⟨t',rfl⟩:=ry
 exact add_str (fun t' tk=>⟨.str (i++j),H,I.tok _,⟨_,rfl⟩,q⟩) hz
theorem ou {x:V}(r:aZ [x] us):∃u,us=[u]∧RelV x u:=by
 cases r with
 | cons r1 r2=>cases r2;exact⟨_,rfl,r1⟩
theorem yn {x y:V}(r:aZ [x,y] us):∃u w',us=[u,w']∧RelV x u∧RelV y w':=by
 cases r with
 | cons r1 r2=>
  cases r2 with
  | cons r3 r4=>cases r4;exact⟨_,_,rfl,r1,r3⟩
theorem zk (hc:X.calm=true):dY X (.builtin "min") (fun xs H Q=>∃i j,xs=[.int i,.int j]∧Q (.int (if j<i then j else i)) H):=by
 intro ah s σ H xs us Q I r h
 obtain⟨i,j,rfl,q⟩:=h
 obtain⟨u,w',rfl,⟨t,rfl⟩,⟨t',rfl⟩⟩:=yn r
 refine min_two_ints (I.ok.hd hc) fun h' tk k=>⟨_,H,I.kept k,?_,q⟩
 by_cases hj:j<i
 ·rw[if_pos hj,if_pos hj];exact⟨_,rfl⟩
 ·rw[if_neg hj,if_neg hj];exact⟨_,rfl⟩
theorem tH:dY X (.type "int") (fun xs H Q=>(∃i,xs=[.int i]∧Q (.int i) H)∨∃k,xs=[.bl k]∧Q (.int (if k then 1 else 0)) H):=by
 intro ah s σ H xs us Q I r h
 rcases h with⟨i,rfl,q⟩|⟨k,rfl,q⟩
 ·obtain⟨u,rfl,t,rfl⟩:=ou r
  exact call_int_int ⟨.int i,H,I,⟨_,rfl⟩,q⟩
 ·obtain⟨u,rfl,r1⟩:=ou r
  cases r1
  exact call_int_bool ⟨.int (if k then 1 else 0),H,I.tok _,⟨_,rfl⟩,q⟩
end
structure xY (h:Heap)(x dx C:Addr)(mA:Str→Option Value):Prop where
 obj:h.get? x=some (W.instObj C dx)
 ns:h.Ns1 dx mA
 ne:dx≠x
variable{mA:Str→Option Value}
theorem zt {dx:Addr}(n:h.Ns1 dx mA):∃od,h.get? dx=some od∧∀name,W.lookIn name od=some (mA name):=by
 obtain⟨o,es,ep,ho,hd,hk,_,hm⟩:=n
 refine⟨o,ho,fun name=>?_⟩
 have e:=hm name
 unfold nsFind findBy at e
 rw[←Array.find?_toList] at e
 unfold W.lookIn
 rw[hd]
 dsimp only
 split
 ·rename_i y q
  rw[q] at e
  exact congrArg some e
 ·rename_i q
  rw[q] at e
  have a:es.toList.any (·.refKey)=false:=by
   rw[List.any_eq_false]
   intro y hy
   obtain⟨z,t,hkey⟩:=hk y (Array.mem_toList_iff.mp hy)
   simp[DictEntry.refKey,hkey]
  have a':¬es.toList.any (·.refKey)=true:=by rw[a];exact Bool.false_ne_true
  rw[if_neg a']
  exact congrArg some e
variable{C:Addr}
theorem xY.look {x dx:Addr}(I:xY h x dx C mA):∃od,W.InstAt h x (W.instObj C dx) C (some od)∧∀name,W.lookIn name od=some (mA name):=
 let ⟨od,ho,hl⟩:=zt I.ns
 ⟨od,⟨I.obj,rfl,rfl,ho⟩,hl⟩
variable{pl:Sem Bool}{kw:List (Str×Value)}
section
variable {prog:Program}{w:World}{A:Around}{E:Value→Shared→Prop}{s:Shared}{K:W.Frag}{x dx C f:Addr}{mA:Str→Option Value}{name:Str}{v:Value}
theorem E3 {expr:Bool}(X:K.In s.heap)(I:xY s.heap x dx C mA)(hg:W.plainGet K C name=true)(hh:W.hasDictIn K C=true)
  (ha:W.findIn K (.ref C) name=some none) (hv:mA name=some v) (hv':W.handedIn v=true) (h:Q v {s with toks:=s.toks+1}) :
  wpAny (model prog w) A (getAttr (.ref x) name expr) Q E s:=by
 obtain⟨od,J,hl⟩:=I.look
 exact W.get_value X J (W.plainGet_of hg).1 (W.findObj_own hh ha rfl (by rw[hl,hv])) hv' h
theorem De {Q:Value×List Value→Shared→Prop}(X:K.In s.heap)(I:xY s.heap x dx C mA)(hg:W.plainGet K C name=true)
  (hf:W.findIn K (.ref C) name=some (some (.ref f))) (ht:W.isFn K (.ref f)=true) (hv:mA name=none) (h:Q (.ref f,[.ref x]) s) :
  wpAny (model prog w) A (getMethod (.ref x) name pl) Q E s:=by
 obtain⟨od,J,hl⟩:=I.look
 exact W.method_fn X J (W.plainGet_of hg).1 (W.plainGet_of hg).2 hf (beq_iff_eq.mp ht) (by show(W.lookIn name od).map (·.isSome)=some false;rw[hl,hv];rfl) h
theorem Fx {ns:List Str}{Q:Unit→Shared→Prop}(X:K.In s.heap)(I:xY s.heap x dx C mA)
  (hs:W.findIn K (.ref C) "__setattr__"=some (some (.builtin "object.__setattr__"))) (hp:W.plainOver K C=true) (ht:W.takerIn K C name=some none) (hh:W.hasDictIn K C=true)
  (hw:PySem.Within mA ns) (hsz:ns.length≤sizeLine)
  (h:∀h',xY h' x dx C (fun y=>if y=name then some v else mA y)→Heap.SameBut dx s.heap h'→Q () {s with heap:=h',toks:=s.toks+2}) :
  wpAny (model prog w) A (setAttr (.ref x) name v) Q E s:=by
 obtain⟨od,J,hl⟩:=I.look
 refine W.set_plain X J hs (W.osa_open (s:={s with toks:=s.toks+1}) (r:=none) X J hp ht fun b=>?_)
 obtain⟨cd,hc,hd'⟩:=W.any_some hh
 have hx:s.heap.get? x=some ⟨.ref C,some dx,.plain,#[]⟩:=I.obj
 refine wpAny_bind (wpAny_pure (wpAny_bind (wpAny_bind (wpAny_loadPart hx (wpAny_bind (W.Looks.here (s:={s with toks:=s.toks+1}) (W.looks_clsIn X hc) ?_))))))
 rw[hd']
 refine wpAny_pure (a:=some dx) (wpAny_bind (wpAny_pure (wpAny_bind ?_)))
 refine wpAny_nsSet1 (s:={s with toks:=s.toks+1}) I.ns fun h' hn2 hs2=>?_
 obtain⟨oD,esD,epD,hoD,hdD,hcD⟩:=hn2.count (PySem.Within.cons name v hw)
 refine wpAny_bind (wpAny_lookBehind hoD (by rw[hdD];exact pastItsLine_dict (Nat.le_trans hcD (by rw[List.length_cons];omega))) ?_)
 exact wpAny_pure (h _ ⟨(hs2.2 _ (Ne.symm I.ne)).trans I.obj,hn2,I.ne⟩ hs2)
theorem CW {R:Result→Shared→Prop}{vs:List Value}(X:K.In s.heap)(hm:W.makesIn K C=true)
  (hi:W.findIn K (.ref C) "__init__"=some (some (.ref f))) (hf:W.typeIn K (.ref f)=some (.type "function"))
  (h:codeAny (model prog w) (A.under (.builtin "type.__call__" ⟨.ref C::vs,kw⟩)) (.call (.ref f) ⟨.ref (s.heap.objs.size+1)::vs,kw⟩) (W.InitBack (s.heap.objs.size+1) R)
   {s with heap:=(s.heap.push W.emptyDict).push (W.instObj C s.heap.objs.size)}) :
  codeAny (model prog w) A (.call (.ref C) ⟨vs,kw⟩) R s:=by
 obtain⟨hh,g,d,t,os⟩:=s
 exact W.make_core (W.makes_of X hm) (W.looks_findIn X hi) (fun self=>W.bind_fn X self hf) (.inl rfl) h
end
def ke (f:Str)(v:V):List (Str×V)→List (Str×V)
 | []=>[(f,v)]
 | (g,x)::r=>if g=f then(g,v)::r else(g,x)::ke f v r
theorem pw (f g:Str)(v:V):∀fs:List (Str×V),(ke f v fs).lookup g=if g=f then some v else fs.lookup g
 | []=>by
  show List.lookup g [(f,v)]=_
  by_cases h:g=f
  ·have hb:(g==f)=true:=beq_iff_eq.mpr h
   simp only[List.lookup,hb,if_pos h]
  ·have hb:(g==f)=false:=beq_eq_false_iff_ne.mpr h
   simp only[List.lookup,hb,if_neg h]
 | (k,x)::r=>by
  have ih:=pw f g v r
  rw[show ke f v ((k,x)::r)=(if k=f then(k,v)::r else(k,x)::ke f v r) from rfl]
  by_cases hk:k=f
  ·rw[if_pos hk]
   by_cases h:g=k
   ·have hb:(g==k)=true:=beq_iff_eq.mpr h
    simp only[List.lookup,hb,if_pos (h.trans hk)]
   ·have hb:(g==k)=false:=beq_eq_false_iff_ne.mpr h
    simp only[List.lookup,hb,if_neg (fun e:g=f=>h (e.trans hk.symm))]
  ·rw[if_neg hk]
   by_cases h:g=k
   ·have hb:(g==k)=true:=beq_iff_eq.mpr h
    simp only[List.lookup,hb,if_neg (fun e:g=f=>hk (h.symm.trans e))]
   ·have hb:(g==k)=false:=beq_eq_false_iff_ne.mpr h
    simp only[List.lookup,hb]
    exact ih
theorem oz (f:Str)(v:V):∀fs:List (Str×V),f∈(ke f v fs).map (·.1)∧∀g,g∈fs.map (·.1)→g∈(ke f v fs).map (·.1)
 | []=>⟨by simp[ke],fun g h=>by simp at h⟩
 | (k,x)::r=>by
  obtain⟨i1,i2⟩:=oz f v r
  rw[show ke f v ((k,x)::r)=(if k=f then(k,v)::r else(k,x)::ke f v r) from rfl]
  by_cases hk:k=f
  ·rw[if_pos hk]
   subst hk
   exact⟨by simp,fun g h=>by simpa using h⟩
  ·rw[if_neg hk]
   refine⟨?_,fun g h=>?_⟩
   ·rw[List.map_cons]
    exact List.mem_cons_of_mem _ i1
   ·rw[List.map_cons] at h ⊢
    rcases List.mem_cons.mp h with e|e
    ·exact List.mem_cons.mpr (.inl e)
    ·exact List.mem_cons_of_mem _ (i2 g e)
theorem pG (f:Str)(v:V):∀fs:List (Str×V),(ke f v fs).length≤fs.length+1
 | []=>by simp[ke]
 | (k,x)::r=>by
  have ih:=pG f v r
  rw[show ke f v ((k,x)::r)=(if k=f then(k,v)::r else(k,x)::ke f v r) from rfl]
  by_cases hk:k=f
  ·rw[if_pos hk,List.length_cons,List.length_cons];omega
  ·rw[if_neg hk,List.length_cons,List.length_cons];omega
theorem lA.some_of {o:Option Value}(r:lA (some v) o):∃u,o=some u∧RelV v u:=by
 cases o with
 | none=>exact(show False from r).elim
 | some u=>exact⟨u,rfl,r⟩
theorem lA.none_of {o:Option Value}(r:lA none o):o=none:=by
 cases o with
 | none=>rfl
 | some u=>exact(show False from r).elim
theorem Af (r:RelV v u):W.handedIn u=true:=by
 cases v with
 | non=>cases (show u=Value.none from r);rfl
 | bl b=>cases (show u=Value.bool b from r);rfl
 | int i=>obtain⟨t,e⟩:=(show∃t,u=Value.int i t from r);cases e;rfl
 | str x=>obtain⟨t,e⟩:=(show∃t,u=Value.str x t from r);cases e;rfl
 | byt b=>obtain⟨t,e⟩:=(show∃t,u=Value.bytes b t from r);cases e;rfl
 | flt b=>obtain⟨t,e⟩:=(show∃t,u=Value.float b t from r);cases e;rfl
 | ref a=>cases (show u=Value.ref a from r);rfl
 | ty n=>cases (show u=Value.type n from r);rfl
section
variable {P:Program}{w:World}{H H':Hp}{h h':Heap}{a C dx:Addr}{fs fs':List (Str×V)}
theorem uw (hok:lN P w H h)(e:H a=some (.ins C dx fs)):∃mA,xY h a dx C mA∧(∀f,lA (fs.lookup f) (mA f))∧PySem.Within mA (fs.map (·.1))∧fs.length≤1000∧H dx=some (.own a):=by
 obtain⟨d,z,ne,ob,mA,n,r,q⟩:=(show cP P w H h a (.ins C dx fs) from hok a _ e)
 exact⟨mA,⟨ob,n,ne⟩,r,q,z,d⟩
end
structure Av (K:W.Frag)(C:Addr):Prop where
 pg:W.plainGet K C Str.empty=true
 hd:W.hasDictIn K C=true
 po:W.plainOver K C=true
 sa:W.findIn K (.ref C) "__setattr__"=some (some (.builtin "object.__setattr__"))
theorem Av.get (c:Av K C)(f:Str):W.plainGet K C f=true:=c.pg
def f6 (K:W.Frag)(C:Addr)(f:Str):Prop:=W.findIn K (.ref C) f=some none
theorem f6.taker {f:Str}(n:f6 K C f):W.takerIn K C f=some none:=by
 unfold W.takerIn
 rw[show W.findIn K (.ref C) f=some none from n]
 rfl
structure tW (K:W.Frag)(C:Addr)(m:Str)(f:Addr):Prop where
 at_:W.findIn K (.ref C) m=some (some (.ref f))
 fn:W.isFn K (.ref f)=true
 kp:W.keepIn K (.ref f)=true
section
variable {X:Cx}{ah:List (Addr×Obj)}{σ:St}{H:Hp}{s:Shared}{a C dx:Addr}{fs:List (Str×V)}{f:Str}{v:V}{A:Around}{E:Value→Shared→Prop}
theorem qJ {b:Bool}(I:Inv X ah σ H s)(e:H a=some (.ins C dx fs))(c:Av X.K C)(n:f6 X.K C f)(l:fs.lookup f=some v)
  (h:∀u s',Inv X ah σ H s'→RelV v u→Q u s'):wpAny (model X.prog X.w) A (getAttr (.ref a) f b) Q E s:=by
 obtain⟨mA,O,r,_,_,_⟩:=uw I.hok e
 obtain⟨u,hu,ru⟩:=lA.some_of (v:=v) (o:=mA f) (by rw[←l];exact r f)
 exact E3 I.kIn O (c.get f) c.hd n hu (Af ru) (h u _ (I.tok _) ru)
theorem qz {m:Str}{g:Addr}{Q:Value×List Value→Shared→Prop}(I:Inv X ah σ H s)(e:H a=some (.ins C dx fs))(c:Av X.K C)(k:tW X.K C m g)(l:fs.lookup m=none)
  (h:Q (.ref g,[.ref a]) s):wpAny (model X.prog X.w) A (getMethod (.ref a) m pl) Q E s:=by
 obtain⟨mA,O,r,_,_,_⟩:=uw I.hok e
 have hn:mA m=none:=lA.none_of (by rw[←l];exact r m)
 exact De I.kIn O (c.get m) k.at_ k.fn hn h
theorem qh {y:V}{Q:Unit→Shared→Prop}(I:Inv X ah σ H s)(e:H a=some (.ins C dx fs))(c:Av X.K C)(n:f6 X.K C f)(hl:fs.length<1000)(ry:RelV y u)
  (h:∀s',Inv X ah σ (cj H a (.ins C dx (ke f y fs))) s'→Q () s'):wpAny (model X.prog X.w) A (setAttr (.ref a) f u) Q E s:=by
 obtain⟨mA,O,r,wi,_,ho⟩:=uw I.hok e
 have hz:(fs.map (·.1)).length≤sizeLine:=by rw[List.length_map,sizeLine_eq];omega
 refine Fx I.kIn O c.sa c.po n.taker c.hd wi hz fun h' O' sb=>h _ ?_
 have hd:∃o,h'.get? dx=some o:=let ⟨o,_,_,e',_⟩:=O'.ns;⟨o,e'⟩
 refine I.write (x:=a) (e:=dx) (by rw[e];exact True.intro) (.inr ho) (fun b q hb z=>(sb.2 b hb).trans z) hd ?_
 refine⟨by rw[az O.ne];exact ho,?_,O.ne,O'.obj,_,O'.ns,fun g=>?_,fun g hg=>?_⟩
 ·have:=pG f y fs;omega
 ·show lA ((ke f y fs).lookup g) (if g=f then some u else mA g)
  rw[pw]
  by_cases q:g=f
  ·rw[if_pos q,if_pos q];exact ry
  ·rw[if_neg q,if_neg q];exact r g
 ·by_cases q:g=f
  ·rw[q];exact(oz f y fs).1
  ·refine(oz f y fs).2 g (wi g fun z=>hg ?_)
   show(if g=f then some u else mA g)=none
   rw[if_neg q];exact z
theorem Inv.made (I:Inv X ah σ H s):Inv X ah σ (cj (cj H s.heap.objs.size (.own (s.heap.objs.size+1))) (s.heap.objs.size+1) (.ins C s.heap.objs.size []))
  {s with heap:=(s.heap.push W.emptyDict).push (W.instObj C s.heap.objs.size)}:=by
 have e1:(s.heap.push W.emptyDict).get? s.heap.objs.size=some W.emptyDict:=Heap.get?_push_size s.heap rfl
 have e2:((s.heap.push W.emptyDict).push (W.instObj C s.heap.objs.size)).get? (s.heap.objs.size+1)=some (W.instObj C s.heap.objs.size):=by
  have:=Heap.get?_push_size (s.heap.push W.emptyDict) (o:=W.instObj C s.heap.objs.size) rfl
  rwa [Heap.size_push] at this
 have e3:(s.heap.push W.emptyDict).Ns s.heap.objs.size (fun _=>none):=⟨W.emptyDict,#[],_,e1,rfl,(fun e he=>absurd he (by simp)),fun _=>rfl⟩
 have I1:=I.laid (a:=s.heap.objs.size) (o:=.own (s.heap.objs.size+1)) (h':=s.heap.push W.emptyDict) (t':=s.toks) (fun b u q=>Heap.get?_push_of_some _ q) (Nat.le_refl _) ⟨_,e1⟩
 refine I1.laid (a:=s.heap.objs.size+1) (o:=.ins C s.heap.objs.size []) (t':=s.toks) (fun b u q=>Heap.get?_push_of_some _ q) (Nat.le_of_eq (Heap.size_push _ _)) ?_
 have ne:s.heap.objs.size≠s.heap.objs.size+1:=Nat.ne_of_lt (Nat.lt_succ_self _)
 refine⟨by rw[az ne,bE],Nat.zero_le _,ne,e2,fun _=>none,(Heap.Ns1.of_empty e3).at fun o q=>Heap.get?_push_of_some _ q,fun _=>True.intro,fun y hy=>absurd rfl hy⟩
theorem Ew {prog:Program}{env:Env}{f:Str}{pos:Pos}{s:Shared}(hb:attributeBase e f env (eval e env)=eval e env)
  (h:wpAny (model prog w) A (eval e env) (fun o s₁=>wpAny (model prog w) A (getAttr o f true) Q E s₁) E s):wpAny (model prog w) A (eval (.Attribute e f pos) env) Q E s:=
 Attribute_any_ h (by rw[arm_eval_Attribute,hb])
end
def ND (K:W.Frag)(ta:TE)(f:Str):TE:=fun σ H Q=>ta σ H fun x H1=>∃a C dx fs v,x=.ref a∧H1 a=some (.ins C dx fs)∧Av K C∧f6 K C f∧fs.lookup f=some v∧Q v H1
def N4 (K:W.Frag)(ta tv:TE)(f:Str):TS:=fun D σ H=>tv σ H fun y H1=>ta σ H1 fun x H2=>∃a C dx fs,x=.ref a∧H2 a=some (.ins C dx fs)∧Av K C∧f6 K C f∧fs.length<1000∧
 D.nx σ (cj H2 a (.ins C dx (ke f y fs)))
def FE (X:Cx)(op:Operator)(rd:V→V→Hp→VK→Prop):Prop:=
 ∀(ah:List (Addr×Obj)) (s:Shared) (σ:St) (H:Hp) (x y:V) (u v:Value) (Q:VK),Inv X ah σ H s→RelV x u→RelV y v→rd x y H Q→wpAny (model X.prog X.w) X.A (inplaceOp op u v) (EP X ah σ Q) X.xe s
def E9 (K:W.Frag)(ta tv:TE)(rd:V→V→Hp→VK→Prop)(f:Str):TS:=fun D σ H=>ta σ H fun x H1=>∃a C dx fs v,x=.ref a∧H1 a=some (.ins C dx fs)∧Av K C∧f6 K C f∧fs.lookup f=some v∧
 tv σ H1 fun y H2=>rd v y H2 fun z H3=>∃dx' fs',H3 a=some (.ins C dx' fs')∧fs'.length<1000∧D.nx σ (cj H3 a (.ins C dx' (ke f z fs')))
section
variable {X:Cx}{o e value:Expr}{f:Str}{pos pos' tpos:Pos}{ta tv:TE}
theorem GQ (he:PE X e ta)(hb:attributeBase e f X.env (eval e X.env)=eval e X.env):PE X (.Attribute e f pos) (ND X.K ta f):=by
 intro ah s σ H Q I h
 refine Ew hb (cF (he ah s σ H _ I h) fun u s1 ⟨x,H1,I1,rx,a,C,dx,fs,v,ex,ea,c,n,l,q⟩=>?_)
 subst ex
 obtain rfl:u=Value.ref a:=rx
 exact qJ I1 ea c n l fun u' s2 I2 ru=>⟨v,H1,I2,ru,q⟩
theorem G5 (ha:PE X o ta)(hv:PE X value tv)(hs:swapsWith value (some (.Attribute o f pos')) pos.line X.env=pure false):PS X (.Assign [.Attribute o f pos'] value pos) (N4 X.K ta tv f):=by
 intro ah s σ H D I h
 refine plainObj_wpAny_Assign_Attribute (cF (hv ah s σ H _ I h) fun u s1 ⟨y,H1,I1,ry,q⟩=>cF (ha ah s1 σ H1 _ I1 q) fun ov s2 ⟨x,H2,I2,rx,a,C,dx,fs,ex,ea,c,n,l,q2⟩=>?_) hs
 subst ex
 obtain rfl:ov=Value.ref a:=rx
 exact qh I2 ea c n l ry fun s3 I3=>⟨σ,_,I3,q2⟩
theorem zz {op:Operator}{rd:V→V→Hp→VK→Prop}(ha:PE X o ta)(hv:PE X value tv)(hop:FE X op rd):PS X (.AugAssign (.Attribute o f tpos) op value pos) (E9 X.K ta tv rd f):=by
 intro ah s σ H D I h
 refine wpAny_AugAssign_AttributeAny (cF (ha ah s σ H _ I h) fun ov s1 ⟨x,H1,I1,rx,a,C,dx,fs,v,ex,ea,c,n,l,q⟩=>?_)
 subst ex
 obtain rfl:ov=Value.ref a:=rx
 refine qJ I1 ea c n l fun u s2 I2 ru=>cF (hv ah s2 σ H1 _ I2 q) fun w3 s3 ⟨y,H2,I3,ry,q3⟩=>cF (hop ah s3 σ H2 v y u w3 _ I3 ru ry q3) fun w4 s4 ⟨z,H3,I4,rz,dx',fs',ea',l',q4⟩=>?_
 exact qh I4 ea' c n l' rz fun s5 I5=>⟨σ,_,I5,q4⟩
def Nf:V→V→Hp→VK→Prop:=fun x y H Q=>∃i j,x=.int i∧y=.int j∧Q (.int (i+j)) H
theorem Ip:FE X .Add Nf:=by
 rintro ah s σ H x y u v Q I rx ry ⟨i,j,rfl,rfl,q⟩
 obtain⟨t,rfl⟩:=(show∃t,u=Value.int i t from rx)
 obtain⟨t',rfl⟩:=(show∃t',v=Value.int j t' from ry)
 exact PyProof.Rows.iadd_int ⟨.int (i+j),H,I.tok _,⟨_,rfl⟩,q⟩
end
structure bI (k:Nat)(A:Around):Prop where
 hd:A.handled=none
 dp:A.depth+3*k+5<recursionLimit
 un:A.units+16*k+200<cLine
variable{k:Nat}
theorem bI.mono {j:Nat}(r:bI k A)(h:j≤k):bI j A:=⟨r.hd,by have:=r.dp;omega,by have:=r.un;omega⟩
theorem bI.deeper (r:bI (k+1) A)(env:Env):bI k (A.deeper env):=
 ⟨r.hd,by have:=r.dp;show A.depth+1+3*k+5<_;omega,by have:=r.un;show A.units+3+16*k+200<_;omega⟩
theorem bI.in1 (r:bI (k+1) A):bI k A.in1:=
 ⟨r.hd,by have:=r.dp;show A.depth+3*k+5<_;omega,by have:=r.un;show A.units+1+16*k+200<_;omega⟩
theorem xh :(A.under (.builtin "type.__call__" ⟨.ref C::us,kw⟩)).depth=A.depth+1:=by
 first|rfl|simp[Around.under,Code.weight,Code.isCreation,Code.isGuard,Code.isCaller,Code.frames,Code.isFrame,guardIds]
theorem xN :(A.under (.builtin "type.__call__" ⟨.ref C::us,kw⟩)).units=A.units+1:=by
 first|rfl|simp[Around.under,Code.cUnits,Code.frames,Code.isFrame]
theorem bI.make (r:bI (k+1) A)(C:Addr)(us:List Value)(kw:List (Str×Value)):bI k (A.under (.builtin "type.__call__" ⟨.ref C::us,kw⟩)):=
 ⟨r.hd,by have:=r.dp;rw[xh];omega,by have:=r.un;rw[xN];omega⟩
theorem bI.depth (r:bI k A):A.depth<recursionLimit:=by have:=r.dp;omega
theorem bI.units (r:bI k A):A.units+64<cLine:=by have:=r.un;omega
theorem bI.units0 (r:bI k A):A.units<cLine:=by have:=r.un;omega
def CU:TA:=fun _ H Q=>Q [] H
def wu (ta:TE)(tr:TA):TA:=fun σ H Q=>ta σ H fun x H1=>tr σ H1 fun xs H2=>Q (x::xs) H2
section
variable {X:Cx}{e:Expr}{es:List Expr}{te:TE}{t:TA}{pos:Pos}
theorem kE:PA X [] CU:=fun _ _ _ _ H Q I h=>Calls.spliced_nil ⟨[],H,I,.nil,h⟩
theorem fJ (ha:PE X e te)(hr:PA X es t)(hs:starEach (e::es) X.env=(false,eval e X.env)::starEach es X.env:=by rfl):PA X (e::es) (wu te t):=by
 intro pos ah s σ H Q I h
 rw[hs]
 show wpAny _ _ (spliced ((false,eval e X.env)::backTo pos (starEach es X.env))) _ _ s
 refine Calls.spliced_cons (cF (ha ah s σ H _ I h) fun u s1 ⟨x,H1,I1,r1,q1⟩=>?_)
 exact cF (hr pos ah s1 σ H1 _ I1 q1) fun us s2 ⟨xs,H2,I2,r2,q2⟩=>⟨x::xs,H2,I2,.cons r1 r2,q2⟩
def Nc (t:TA):TE:=fun σ H Q=>t σ H fun xs H1=>xs.length≤sizeLine∧∀p,H1 p=none→Q (.ref p) (cj H1 p (.tup xs))
def MU (t:TA):TE:=fun σ H Q=>t σ H fun xs H1=>xs.length≤sizeLine∧∀p,H1 p=none→Q (.ref p) (cj H1 p (.lst xs))
theorem Ji {x1}(h:PA X es t):PE X (.Tuple es x1 pos) (Nc t):=by
 intro ah s σ H Q I hq
 refine wpAny_Tuple_spliced (cF (h pos ah s σ H _ I hq) fun us s1 ⟨xs,H1,I1,r,z,q⟩=>⟨by rw[←r.length];exact z,?_⟩)
 have hf:H1 s1.heap.objs.size=none:=I1.hok.fresh (Nat.le_refl _)
 refine⟨.ref s1.heap.objs.size,cj H1 s1.heap.objs.size (.tup xs),I1.laid (t':=s1.toks) (fun b u e=>Heap.get?_push_of_some _ e) (Nat.le_refl _) ?_,rfl,q _ hf⟩
 exact⟨z,us,r,⟨_,Heap.get?_push_size _ rfl,rfl,_,rfl⟩⟩
theorem Cc (h:PA X es t):PE X (.List es pos) (MU t):=by
 intro ah s σ H Q I hq
 refine wpAny_List_spliced (cF (h pos ah s σ H _ I hq) fun us s1 ⟨xs,H1,I1,r,z,q⟩=>⟨by rw[←r.length];exact z,?_⟩)
 have hf:H1 s1.heap.objs.size=none:=I1.hok.fresh (Nat.le_refl _)
 refine⟨.ref s1.heap.objs.size,cj H1 s1.heap.objs.size (.lst xs),I1.laid (t':=s1.toks) (fun b u e=>Heap.get?_push_of_some _ e) (Nat.le_refl _) ?_,rfl,q _ hf⟩
 exact⟨z,us,0,r,Heap.get?_push_size _ rfl⟩
end
abbrev Sp:=List V→Hp→VK→XK→Prop
abbrev Ad:=List Env→Hp→Shared→XK→Value→Shared→Prop
structure rR (P:Program)(w:World)(K:W.Frag)(mg:Str→Option Value)(base:Heap)(A:Around)(outer:List Env)(s:Shared)(H:Hp):Prop where
 frames:A.frames=some outer
 mod:Mod K mg base
 bs:∀b o,base.get? b=some o→s.heap.get? b=some o∧H b=none
 bsz:base.objs.size≤s.heap.objs.size
 funs:s.heap.FunFrames base outer
 frf:∀b∈rM outer,H b=none
 hok:lN P w H s.heap
 bare:AllBare s.gens
def CE (outer:List Env)(P:Program)(w:World)(H:Hp)(s:Shared)(Q:VK)(u:Value)(s':Shared):Prop:=
 ∃v H',s'.os=s.os∧AllBare s'.gens∧Un (rM outer) [] H H' s.heap s'.heap∧lN P w H' s'.heap∧RelV v u∧Q v H'
def CR (CX:Ad)(outer:List Env)(P:Program)(w:World)(H:Hp)(s:Shared)(Q:VK)(E:XK)(r:Result)(s':Shared):Prop:=
 match r with
 | .ok (.ret u)=>CE outer P w H s Q u s'
 | .ok _=>False
 | .error e=>CX outer H s E e s'
structure dN (P:Program)(w:World)(K:W.Frag)(mg:Str→Option Value)(base:Heap)(CX:Ad)(k:Nat)(f:Addr)(fd:FuncData)(ps:List Str)(sp:Sp):Prop where
 len:∀vs H Q E,sp vs H Q E→vs.length=ps.length
 run:∀(A:Around) (outer:List Env) (s:Shared) (H:Hp) (args:Args) (us:List Value) (vs:List V) (Q:VK) (E:XK),bI k A→rR P w K mg base A outer s H→BindsTo s fd args (ps.zip us)→aZ vs us→sp vs H Q E→
  codeAny (model P w) A (.call (.ref f) args) (CR CX outer P w H s Q E) s
variable{mg:Str→Option Value}{base:Heap}{CX:Ad}{fd:FuncData}{ps:List Str}
theorem dN.imp {f:Addr}{sp sp':Sp}(F:dN P w K mg base CX k f fd ps sp)
  (h:∀vs H Q E,sp' vs H Q E→sp vs H Q E):dN P w K mg base CX k f fd ps sp':=
 ⟨fun vs H Q E q=>F.len vs H Q E (h _ _ _ _ q),fun A outer s H args us vs Q E hr he hb hv hs=>F.run A outer s H args us vs Q E hr he hb hv (h _ _ _ _ hs)⟩
variable{outer:List Env}
theorem rR.make (e:rR P w K mg base A outer s H)(C:Addr)(us:List Value)(kw:List (Str×Value)) :
  rR P w K mg base (A.under (.builtin "type.__call__" ⟨.ref C::us,kw⟩)) outer s H:=⟨by first|exact e.frames|(simpa[Around.under,Code.envs,Code.isFrame,pushEnvs] using e.frames),e.mod,e.bs,e.bsz,e.funs,e.frf,e.hok,e.bare⟩
theorem rR.in1 (e:rR P w K mg base A outer s H) :
  rR P w K mg base A.in1 outer s H:=⟨e.frames,e.mod,e.bs,e.bsz,e.funs,e.frf,e.hok,e.bare⟩
section
variable {X:Cx}{ah:List (Addr×Obj)}{σ:St}{H:Hp}{s s':Shared}
theorem Inv.env0 (I:Inv X ah σ H s):rR X.prog X.w X.K X.mg X.base X.A X.stack s H:=
 ⟨I.ok.frames,I.ok.mod,I.bs,Nat.le_trans I.ok.bsz I.sz,I.stack,I.stkFree,I.hok,I.bare⟩
theorem Inv.after {Q:VK}(I:Inv X ah σ H s)(h:CE X.stack X.prog X.w H s Q u s'):EP X ah σ Q u s':=by
 obtain⟨v,H',os,bare,un,hok,r,q⟩:=h
 obtain⟨hh,g,d,t,os'⟩:=s'
 obtain rfl:os'=s.os:=os
 exact⟨v,H',I.call (h':=hh) (g':=g) (d':=d) (t':=t) (ch:=[]) un hok bare (fun b z=>absurd z (by simp)),r,q⟩
end
def Lx (sp:Sp)(dvs:List V)(E:XK)(t:TA):TE:=fun σ H Q=>t σ H fun vs H1=>sp (vs++dvs) H1 Q E
def Bd (C:Addr)(m:Str)(sp:Sp)(dvs:List V)(E:XK)(ta:TE)(t:TA):TE:=fun σ H Q=>ta σ H fun x H1=>∃a dx fs,x=.ref a∧H1 a=some (.ins C dx fs)∧fs.lookup m=none∧
 t σ H1 fun vs H2=>sp (x::(vs++dvs)) H2 Q E
def FQ (C:Addr)(sp:Sp)(dvs:List V)(E:XK)(t:TA):TE:=fun σ H Q=>t σ H fun vs H1=>∀x dx,H1 x=none→H1 dx=none→dx≠x→
 sp (.ref x::(vs++dvs)) (cj (cj H1 dx (.own x)) x (.ins C dx [])) (fun v H2=>v=.non∧Q (.ref x) H2) E
def fg (K:W.Frag)(fd:FuncData)(ps:List Str)(ds:List Value):Prop:=
 ∀(s:Shared) (us:List Value),K.In s.heap→(us++ds).length=ps.length→BindsTo s fd ⟨us,[]⟩ (ps.zip (us++ds))
theorem fg.all (h:∀us:List Value,us.length=ps.length→bindArgs fd ⟨us,[]⟩=pure (ps.zip us)):fg K fd ps []:=fun s us _ hl=>by
 rw[List.append_nil] at hl ⊢
 exact .of_eq (h us hl)
def mI (CX:Ad)(X:Cx)(E:XK):Prop:=∀(ah:List (Addr×Obj)) (σ:St) (H:Hp) (s:Shared) (e:Value) (s':Shared),Inv X ah σ H s→CX X.stack H s E e s'→X.xe e s'
variable{vs:List V}
section
variable {X:Cx}{CX:Ad}{k:Nat}{f C:Addr}{fd:FuncData}{ps:List Str}{sp:Sp}{dvs:List V}{ds:List Value}{E:XK}{x m:Str}{p pos apos:Pos}{e o:Expr}{es:List Expr}{ta:TE}{t:TA}
theorem wQ {Q:VK}(F:dN X.prog X.w X.K X.mg X.base CX k f fd ps sp)(hr:bI k X.A)(hb:fg X.K fd ps ds)(hd:aZ dvs ds)(hx:mI CX X E)
  (I:Inv X ah σ H s) (r:aZ vs us) (h:sp (vs++dvs) H Q E):wpAny (model X.prog X.w) X.A (call (.ref f) us) (EP X ah σ Q) X.xe s:=by
 have r2:aZ (vs++dvs) (us++ds):=r.append hd
 have hl:(us++ds).length=ps.length:=by rw[←r2.length];exact F.len _ _ _ _ h
 refine wpAny_call (codeAny_mono (F.run X.A X.stack s H ⟨us,[]⟩ (us++ds) (vs++dvs) Q E hr I.env0 (hb s us I.kIn hl) r2 h) fun r s' hq=>?_)
 cases r with
 | error e=>exact hx ah σ H s e s' I hq
 | ok fl=>
  cases fl with
  | ret u=>exact I.after hq
  | next=>exact False.elim hq
  | brk=>exact False.elim hq
  | cont=>exact False.elim hq
theorem Fj (F:dN X.prog X.w X.K X.mg X.base CX k f fd ps sp)(hr:bI k X.A)(hg:Gl X x)(hm:X.mg x=some (.ref f))(hk:W.keepIn X.K (.ref f)=true)(hb:fg X.K fd ps ds)(hd:aZ dvs ds)(hx:mI CX X E)
  (ha:PA X (e::es) t) (hdb:(x==("__debug__":Str))=false:=by decide) (he:starEach (e::es) X.env=(false,eval e X.env)::starEach es X.env:=by rfl) (hpl:(backTo pos (starEach es X.env)).any (·.1)=false:=by rfl) :
  PE X (.Call (.Name x p) (e::es) [] pos) (Lx sp dvs E t):=by
 intro ah s σ H Q I h
 refine wpAny_Call_Name_kw (nV I hg hm ?_ hdb)
 refine W.callWith_K (h₀:=X.base) I.ok.mod.kin hk (cF (ha pos ah s σ H _ I h) fun us s1 ⟨vs,H1,I1,r,q⟩=>⟨I1.kIn,?_⟩) he hpl
 exact wQ F hr hb hd hx I1 r q
theorem Ed {pl:Sem Bool}(he:PE X o ta)(c:Av X.K C)(hm:tW X.K C m f)(F:dN X.prog X.w X.K X.mg X.base CX k f fd ps sp)(hr:bI k X.A)(hb:fg X.K fd ps ds)(hd:aZ dvs ds)(hx:mI CX X E)(ha:PA X (e::es) t)
  (hst:starEach (e::es) X.env=(false,eval e X.env)::starEach es X.env:=by rfl) (hpl:(backTo pos (starEach es X.env)).any (·.1)=false:=by rfl)
  (ht:eval (.Call (.Attribute o m apos) (e::es) [] pos) X.env=(do
   let ov ←eval o X.env
   standAt apos.atName
   let (f,first) ←holding [ov] (getMethod ov m pl)
   callWith pos f first (backTo pos (starEach (e::es) X.env)) (backToKw pos (keywordEach [] X.env))):=by rfl) :
  PE X (.Call (.Attribute o m apos) (e::es) [] pos) (Bd C m sp dvs E ta t):=by
 intro ah s σ H Q I h
 refine W.methodCall_KW (pl:=pl) (cF (he ah s σ H _ I h) fun u s1 ⟨x,H1,I1,rx,a,dx,fs,ex,ea,l,q⟩=>?_) ht
 subst ex
 obtain rfl:u=Value.ref a:=rx
 refine qz I1 ea c hm l ?_
 refine W.callWith_K (first:=[.ref a]) (h₀:=X.base) I.ok.mod.kin hm.kp (cF (ha pos ah s1 σ H1 _ I1 q) fun us s2 ⟨vs,H2,I2,r,q2⟩=>⟨I2.kIn,?_⟩) hst hpl
 exact wQ (us:=.ref a::us) (vs:=.ref a::vs) F hr hb hd hx I2 (.cons rfl r) q2
theorem AG (he:PE X o ta)(c:Av X.K C)(hm:tW X.K C m f)(F:dN X.prog X.w X.K X.mg X.base CX k f fd ps sp)(hr:bI k X.A)(hb:fg X.K fd ps ds)(hd:aZ dvs ds)(hx:mI CX X E)
  (ht:eval (.Call (.Attribute o m apos) [] [] pos) X.env=(do
   let ov ←eval o X.env
   standAt apos.atName
   let (f,first) ←holding [ov] (getMethod ov m pl)
   callWith pos f first (backTo pos (starEach [] X.env)) (backToKw pos (keywordEach [] X.env))):=by rfl) :
  PE X (.Call (.Attribute o m apos) [] [] pos) (Bd C m sp dvs E ta CU):=by
 intro ah s σ H Q I h
 refine W.methodCall_KW (pl:=pl) (cF (he ah s σ H _ I h) fun u s1 ⟨x,H1,I1,rx,a,dx,fs,ex,ea,l,q⟩=>?_) ht
 subst ex
 obtain rfl:u=Value.ref a:=rx
 refine qz I1 ea c hm l ?_
 exact W.callWith_K0 (first:=[.ref a]) I1.kIn hm.kp (wQ (us:=[.ref a]) (vs:=[.ref a]) F hr hb hd hx I1 (.cons rfl .nil) q)
structure Mk (K:W.Frag)(C f:Addr):Prop where
 makes:W.makesIn K C=true
 init:W.findIn K (.ref C) "__init__"=some (some (.ref f))
 fn:W.isFn K (.ref f)=true
 kp:W.keepIn K (.ref C)=true
theorem BJ {Q:VK}(M:Mk X.K C f)(F:dN X.prog X.w X.K X.mg X.base CX k f fd ps sp)(hr:bI (k+1) X.A)(hb:fg X.K fd ps ds)(hd:aZ dvs ds)
  (hx:mI CX X E) (I:Inv X ah σ H s) (r:aZ vs us)
  (h:∀x dx,H x=none→H dx=none→dx≠x→sp (.ref x::(vs++dvs)) (cj (cj H dx (.own x)) x (.ins C dx [])) (fun v H2=>v=.non∧Q (.ref x) H2) E) :
  wpAny (model X.prog X.w) X.A (call (.ref C) us) (EP X ah σ Q) X.xe s:=by
 have hq:=h (s.heap.objs.size+1) s.heap.objs.size (I.hok.fresh (Nat.le_succ _)) (I.hok.fresh (Nat.le_refl _)) (Nat.ne_of_lt (Nat.lt_succ_self _))
 have I2:=Inv.made (C:=C) I
 have r2:aZ (V.ref (s.heap.objs.size+1)::(vs++dvs)) (Value.ref (s.heap.objs.size+1)::(us++ds)):=.cons rfl (r.append hd)
 have hl:(Value.ref (s.heap.objs.size+1)::us++ds).length=ps.length:=by
  have e:=r2.length
  rw[F.len _ _ _ _ hq] at e
  exact e.symm
 refine wpAny_call (CW (f:=f) I.kIn M.makes M.init (beq_iff_eq.mp M.fn) (codeAny_mono (F.run _ X.stack _ _ ⟨Value.ref (s.heap.objs.size+1)::us,[]⟩ (Value.ref (s.heap.objs.size+1)::(us++ds)) _ _ E (hr.make C us [])
  (I2.env0.make C us []) (hb _ (Value.ref (s.heap.objs.size+1)::us) I2.kIn hl) r2 hq) fun r s' hq'=>?_))
 cases r with
 | error e=>exact hx ah σ _ _ e s' I2 hq'
 | ok fl=>
  cases fl with
  | ret u=>
   obtain⟨v,H',I3,rv,ev,q3⟩:=I2.after hq'
   subst ev
   exact⟨rv,⟨V.ref (s.heap.objs.size+1),H',I3,rfl,q3⟩⟩
  | next=>exact False.elim hq'
  | brk=>exact False.elim hq'
  | cont=>exact False.elim hq'
theorem Fa (M:Mk X.K C f)(F:dN X.prog X.w X.K X.mg X.base CX k f fd ps sp)(hr:bI (k+1) X.A)(hg:Gl X x)(hm:X.mg x=some (.ref C))(hb:fg X.K fd ps ds)(hd:aZ dvs ds)(hx:mI CX X E)
  (ha:PA X (e::es) t) (hdb:(x==("__debug__":Str))=false:=by decide) (he:starEach (e::es) X.env=(false,eval e X.env)::starEach es X.env:=by rfl) (hpl:(backTo pos (starEach es X.env)).any (·.1)=false:=by rfl) :
  PE X (.Call (.Name x p) (e::es) [] pos) (FQ C sp dvs E t):=by
 intro ah s σ H Q I h
 refine wpAny_Call_Name_kw (nV I hg hm ?_ hdb)
 refine W.callWith_K (h₀:=X.base) I.ok.mod.kin M.kp (cF (ha pos ah s σ H _ I h) fun us s1 ⟨vs,H1,I1,r,q⟩=>⟨I1.kIn,?_⟩) he hpl
 exact BJ M F hr hb hd hx I1 r q
end
structure eR (N P:List Str)(sc:Scope):Prop where
 kind:sc.kind=.function
 co:sc.isCoroutine=false
 gen:sc.isGenerator=false
 nd:N.Nodup
 pre:N.take P.length=P
 par:∀x∈P,sc.names.lookup x=some .local∨sc.names.lookup x=some .cell
 nofree:∀y∈sc.names,y.2≠.free
theorem tF {kindOf:Str→Option NameKind}{x:Str}:∀{binds:List (Str×Value)} {m:Str→Option Value},(∀v,(x,v)∉binds)→bindL kindOf binds m x=m x
 | [],_,_=>rfl
 | (n,v)::r,m,h=>by
  unfold bindL
  rw[tF fun w hw=>h w (List.mem_cons_of_mem _ hw)]
  split
  ·have:x≠n:=by rintro rfl;exact h v List.mem_cons_self
   simp[this]
  ·rfl
theorem tz {kindOf:Str→Option NameKind}{x:Str}:∀{binds:List (Str×Value)} {m:Str→Option Value},(∀v,(x,v)∉binds)→bindC kindOf binds m x=m x
 | [],_,_=>rfl
 | (n,v)::r,m,h=>by
  unfold bindC
  rw[tz fun w hw=>h w (List.mem_cons_of_mem _ hw)]
  split
  ·rfl
  ·have:x≠n:=by rintro rfl;exact h v List.mem_cons_self
   simp[this]
theorem tL {kindOf:Str→Option NameKind}{x:Str}{v:Value}:∀{P:List Str} {vs:List Value} {i:Nat} {m:Str→Option Value},P.Nodup→P[i]?=some x→vs[i]?=some v→kindOf x=some .local→
  bindL kindOf (P.zip vs) m x=some v
 | [],_,_,_,_,h,_,_=>by simp at h
 | _::_,[],_,_,_,_,h,_=>by simp at h
 | p::P,w::vs,0,m,nd,h1,h2,hk=>by
  simp at h1 h2;subst h1;subst h2
  show bindL kindOf ((p,w)::P.zip vs) m p=_
  unfold bindL
  rw[tF fun v hv=>(List.nodup_cons.mp nd).1 (List.of_mem_zip hv).1,if_pos hk]
  simp
 | p::P,w::vs,i+1,m,nd,h1,h2,hk=>by
  show bindL kindOf ((p,w)::P.zip vs) m x=_
  unfold bindL
  exact tL (i:=i) (List.nodup_cons.mp nd).2 (by simpa using h1) (by simpa using h2) hk
theorem sL {kindOf:Str→Option NameKind}{x:Str}{v:Value}:∀{P:List Str} {vs:List Value} {i:Nat} {m:Str→Option Value},P.Nodup→P[i]?=some x→vs[i]?=some v→kindOf x≠some .local→
  bindC kindOf (P.zip vs) m x=some v
 | [],_,_,_,_,h,_,_=>by simp at h
 | _::_,[],_,_,_,_,h,_=>by simp at h
 | p::P,w::vs,0,m,nd,h1,h2,hk=>by
  simp at h1 h2;subst h1;subst h2
  show bindC kindOf ((p,w)::P.zip vs) m p=_
  unfold bindC
  rw[tz fun v hv=>(List.nodup_cons.mp nd).1 (List.of_mem_zip hv).1,if_neg hk]
  simp
 | p::P,w::vs,i+1,m,nd,h1,h2,hk=>by
  show bindC kindOf ((p,w)::P.zip vs) m x=_
  unfold bindC
  exact sL (i:=i) (List.nodup_cons.mp nd).2 (by simpa using h1) (by simpa using h2) hk
def start (N:List Str)(vs:List V):St:=vs.map some++List.replicate (N.length-vs.length) none
def io (CX:Ad)(P:Program)(w:World)(K:W.Frag)(mg:Str→Option Value)(base:Heap)(N:List Str)(qual:Str)(scope:Scope)(f:Addr)(cd:Value)(A:Around)(outer:List Env)(s:Shared)(H:Hp)(E:XK):Cx where
 prog:=P
 w:=w
 K:=K
 mg:=mg
 base:=base
 A:=A.deeper (envOfC qual scope s.heap.objs.size f cd)
 N:=N
 s₀:=s
 H₀:=H
 env:=envOfC qual scope s.heap.objs.size f cd
 outer:=outer
 stack:=envOfC qual scope s.heap.objs.size f cd::outer
 ex:=[]
 calm:=true
 fn:=fun _=>true
 pn:=[]
 xe:=fun e s'=>wpAny (model P w) (A.deeper (envOfC qual scope s.heap.objs.size f cd)) (leaving (envOfC qual scope s.heap.objs.size f cd) e) (fun _ s''=>CX outer H s E e s'') (fun e' s''=>CX outer H s E e' s'') s'
theorem wc {sc:Scope}{n:Nat}(h:sc.names.lookup x=some .cell):∃c,(cellsFrom n sc.names []).lookup x=some c:=by
 have q:=W.cellsFrom_some sc.names n [] (.inl h)
 exact Option.isSome_iff_exists.mp q
variable{scope:Scope}
theorem tD {N:List Str}{qual:Str}{f:Addr}{cd:Value}{s1:Shared}{E:XK}
  (S:eR N ps scope) (hd:A.handled=none) (e0:rR P w K mg base A outer s H) (hl:vs.length=ps.length) (r:aZ vs us)
  (x:InCallC s s.heap.objs.size (bindL (envOfC qual scope s.heap.objs.size f cd).kindOf (ps.zip us) fun _=>none) (cellsFrom (s.heap.objs.size+1) scope.names []) (bindC (envOfC qual scope s.heap.objs.size f cd).kindOf (ps.zip us) fun _=>none) s1) :
  Inv (io CX P w K mg base N qual scope f cd A outer s H E) [] (start N vs) H s1:=by
 have hpl:ps.length≤N.length:=by have:=congrArg List.length S.pre;rw[List.length_take] at this;omega
 obtain⟨h1,tk,rfl,hk⟩:=x.done
 have noA:∀b:Addr,b∉(io CX P w K mg base N qual scope f cd A outer s H E).ex:=fun b z=>absurd (show b∈([]:List Addr) from z) (by simp)
 refine⟨⟨e0.mod,S.kind,rfl,rfl,Nat.le_refl _,fun y z c h1 h2=>?_,fun y hy=>?_,fun y c _ h=>?_,fun _=>hd,Around.frames_deeper e0.frames,.inr ⟨rfl,rfl⟩,fun b z=>absurd z (noA b),e0.bs,e0.bsz,fun b _ _=>noA b,fun b z=>absurd z (noA b),e0.funs,e0.frf⟩,
  rfl,e0.bare,Un.kept hk,⟨_,x.toInCall.ns,fun i y v h1 h2 h3=>?_⟩,fun y c h=>⟨_,x.cell y c h⟩,e0.hok.fresh (Nat.le_refl _),fun y c h=>?_,fun p hp=>absurd (show p∈([]:List (Addr×Obj)) from hp) (by simp),e0.hok.kept hk,?_⟩
 ·exact name_of_addr x.apart (PySem.mem_of_lookup h1) (PySem.mem_of_lookup h2)
 ·have hy:scope.names.lookup y=some .cell∨scope.names.lookup y=some .free:=hy
  rcases hy with hy|hy
  ·exact wc hy
  ·exact absurd rfl (S.nofree _ (PySem.mem_of_lookup hy))
 ·exact Nat.le_of_lt (x.above y c (PySem.mem_of_lookup h))
 ·have hi:i<vs.length:=by
   unfold start at h2
   by_cases hi:i<vs.length
   ·exact hi
   ·rw[List.getElem?_append_right (by simpa using hi)] at h2
    rw[List.getElem?_replicate] at h2
    split at h2 <;> cases h2
  have ha:vs[i]?=some v:=by
   unfold start at h2
   rw[List.getElem?_append_left (by simpa using hi),List.getElem?_map] at h2
   cases e:vs[i]? with
   | none=>rw[e] at h2;cases h2
   | some a=>rw[e] at h2;cases h2;rfl
  obtain⟨u,hu,rv⟩:=r.get ha
  have hp:ps[i]?=some y:=by
   rw[←S.pre,List.getElem?_take_of_lt (by omega)];exact h1
  have ndP:ps.Nodup:=by rw[←S.pre];exact S.nd.sublist (List.take_sublist _ _)
  refine⟨u,rv,?_⟩
  rcases S.par y (List.mem_of_getElem? hp) with k|k
  ·exact .inl ⟨k,tL ndP hp hu k⟩
  ·obtain⟨c,e⟩:=wc (n:=s.heap.objs.size+1) k
   refine .inr ⟨.inl k,c,e,?_⟩
   have q:=x.cell y c e
   rw[sL ndP hp hu (by show scope.names.lookup y≠_;rw[k];decide)] at q
   exact q
 ·exact e0.hok.fresh (Nat.le_of_lt (x.above y c (PySem.mem_of_lookup h)))
 ·unfold start
  show _=N.length
  rw[List.length_append,List.length_map,List.length_replicate]
  omega
theorem FZ {f:Addr}{name qual:Str}{params:Arguments}{dV kV doc pm cdv ct oc:Value}{an od:Option Addr}
  {osl:Array (Option Value)} {N:List Str} {sp:Sp} (lk:K.lookup f=some ⟨oc,od,.func (W.fnOf name qual params body scope dV kV doc pm an cdv ct),osl⟩) (hcd:W.codeIn K cdv qual=true) (S:eR N ps scope)
  (len:∀vs H Q E,sp vs H Q E→vs.length=ps.length)
  (hbody:∀(A:Around) (outer:List Env) (s:Shared) (H:Hp) (vs:List V) (Q:VK) (E:XK),bI k (A.deeper (envOfC qual scope s.heap.objs.size f cdv))→sp vs H Q E→
   ∃t,PSs (io CX P w K mg base N qual scope f cdv A outer s H E) body t∧t {nx:=fun _ H'=>Q .non H',rt:=Q} (start N vs) H) :
  dN P w K mg base CX (k+1) f (W.fnOf name qual params body scope dV kV doc pm an cdv ct) ps sp:=by
 refine⟨len,fun A outer s H args us vs Q E hr e0 hb r hsp=>?_⟩
 have hl:=len _ _ _ _ hsp
 have KX:K.In s.heap:=e0.mod.kin.keeps fun b o e=>(e0.bs b o e).1
 have lim:s.heap.NoLimit:=e0.mod.nolimit.keeps fun b o e=>(e0.bs b o e).1
 have hkind:∀y∈ps.zip us,scope.names.lookup y.1=some .local∨(scope.names.lookup y.1=some .cell∧((cellsFrom (s.heap.objs.size+1) scope.names []).lookup y.1).isSome=true):=fun⟨n,v⟩ hy=>by
  rcases S.par n (List.of_mem_zip hy).1 with q|q
  ·exact .inl q
  ·exact .inr ⟨q,W.cellsFrom_some _ _ _ (.inl q)⟩
 refine codeAny_call_function hr.depth (KX _ _ lk) rfl S.co S.gen rfl (W.codeRec_of KX hcd) (hb _ _ _ _ ?_)
 refine wpAny_newFunctionEnv_cells S.kind hkind fun env he s1 x=>?_
 subst he
 refine⟨lim.keeps x.toInCall.keep,codeAny_func ?_⟩
 obtain⟨t,ht,hq⟩:=hbody A outer s H vs Q E (hr.deeper _) hsp
 have I:Inv (io CX P w K mg base N qual scope f cdv A outer s H E) [] (start N vs) H s1:=tD S hr.hd e0 hl r x
 refine wpAny_mono (ht [] s1 (start N vs) H _ I hq) (fun fl s' hs=>?_) fun e s' hs=>hs
 have fin:∀{σ':St} {H':Hp} {v:V} {u:Value},Inv (io CX P w K mg base N qual scope f cdv A outer s H E) [] σ' H' s'→RelV v u→Q v H'→CE outer P w H s Q u s':=
  fun {σ' H' v u} J rv q=>⟨v,H',J.os,J.bare,J.base,J.hok,rv,q⟩
 cases fl with
 | ret u=>
  obtain⟨v,σ',H',J,rv,q⟩:=hs
  exact fin J rv q
 | next=>
  obtain⟨σ',H',J,q⟩:=hs
  exact fin (v:=V.non) (u:=Value.none) J rfl q
 | brk=>
  obtain⟨_,_,_,q⟩:=hs
  exact False.elim q
 | cont=>
  obtain⟨_,_,_,q⟩:=hs
  exact False.elim q
section
variable {X:Cx}{x:Str}{p pos:Pos}{e:Expr}{es:List Expr}{t:TA}{id T:String}{r:List V→Hp→VK→Prop}
def Mz (r:List V→Hp→VK→Prop)(t:TA):TE:=fun σ H Q=>t σ H fun vs H1=>r vs H1 Q
theorem nT (hc:dY X (.builtin id) r)(hg:Gl X x)(hm:X.mg x=none)(hv:bootBuiltins x=some (.builtin id))(ha:PA X (e::es) t)(hn:x≠"__name__":=by decide)(hdb:(x==("__debug__":Str))=false:=by decide)
  (he:starEach (e::es) X.env=(false,eval e X.env)::starEach es X.env:=by rfl) (hpl:(backTo pos (starEach es X.env)).any (·.1)=false:=by rfl):PE X (.Call (.Name x p) (e::es) [] pos) (Mz r t):=by
 intro ah s σ H Q I h
 refine wpAny_Call_Name_kw (oO I hg hm hv ?_ hn hdb)
 exact PyProof.Rows.callWith_builtin1 (cF (ha pos ah s σ H _ I h) fun us s1 ⟨vs,H1,I1,r1,q1⟩=>hc ah s1 σ H1 vs us Q I1 r1 q1) he hpl
theorem zj (hc:dY X (.type T) r)(hg:Gl X x)(hm:X.mg x=none)(hv:bootBuiltins x=some (.type T))(ha:PA X (e::es) t)(hn:x≠"__name__":=by decide)(hdb:(x==("__debug__":Str))=false:=by decide)
  (he:starEach (e::es) X.env=(false,eval e X.env)::starEach es X.env:=by rfl) (hpl:(backTo pos (starEach es X.env)).any (·.1)=false:=by rfl):PE X (.Call (.Name x p) (e::es) [] pos) (Mz r t):=by
 intro ah s σ H Q I h
 refine wpAny_Call_Name_kw (oO I hg hm hv ?_ hn hdb)
 exact PyProof.Rows.callWith_type1 (cF (ha pos ah s σ H _ I h) fun us s1 ⟨vs,H1,I1,r1,q1⟩=>hc ah s1 σ H1 vs us Q I1 r1 q1) he hpl
end
end L2
namespace HT
open PySem PyProof.Rows
def lexLt:List Int→List Int→Bool
 | [],[]=>false
 | [],_::_=>true
 | _::_,[]=>false
 | x::xs,y::ys=>if x=y then lexLt xs ys else decide (x<y)
theorem lexLt_cons (x y:Int)(xs ys:List Int):lexLt (x::xs) (y::ys)=if x=y then lexLt xs ys else decide (x<y):=rfl
theorem sv:lexLt [] []=false:=rfl
theorem rE (y:Int)(ys:List Int):lexLt [] (y::ys)=true:=rfl
theorem rG (x:Int)(xs:List Int):lexLt (x::xs) []=false:=rfl
theorem Bo (A:Around)(s:Shared)(a:Int)(t:Tok)(c:Int)(u:Tok):∃e,SeqAt.EqAt A s (.int a t) (.int c u) e∧(e=true↔a=c):=
 ⟨(a==c),SeqAt.EqAt.int_int a t c u,by simp⟩
theorem CY (A:Around)(s:Shared)(a:Int)(t:Tok)(c:Int)(u:Tok)(prog:Program)(w:World)(E:Value→Shared→Prop)(Q:Value→Shared→Prop)(h:Q (.bool (decide (a<c))) s) :
  wpAny (model prog w) A (richCompare .Lt (.int a t) (.int c u)) Q E s:=
 (PyProof.Rows.lt_int h:wpAny (model prog w) A (compareOp .Lt (.int a t) (.int c u)) Q E s)
section
open PySem.SeqAt
open PySem.AutoSeq1 (wpAny_loadPart')
open PySem.MeetsSeq PySem.MeetsSeq2 PySem.MeetsSeq3
theorem si (l b:Addr)(items items2:Array Value)(n n2:Nat)(dd dd2:Option Addr)(sl sl2:Array (Option Value))(ns ms:List Int)(hi:IntsAre items.toList ns)(hj:IntsAre items2.toList ms) :
  Meets (Builtin.«tuple.__lt__» ⟨[.ref l,.ref b],[]⟩)
   (fun _ R s=>s.heap.get? l=some {cls:=.type "tuple",dict:=dd,data:=.seq items n,slots:=sl}∧s.heap.get? b=some {cls:=.type "tuple",dict:=dd2,data:=.seq items2 n2,slots:=sl2}∧
    R (.ok (.ret (.bool (lexLt ns ms)))) s):=
 .of_wp fun prog w A R s h=>by
  obtain⟨hp,g,d,tk,os⟩:=s;obtain⟨hl,hb,h⟩:=h
  have f2:=AutoSeq1.sub_tuple_tuple
  have z1:items.size=ns.length:=by rw[←hi.length];simp
  have z2:items2.size=ms.length:=by rw[←hj.length];simp
  wp_walk using wpAny_loadPart' hl,wpAny_loadPart' hb,wpAny_forIn_list _ (fun rest b s'=>b.1=none∧s'=⟨hp,g,d,tk,os⟩∧∃(vs ws:List Value) (ns' ms':List Int),rest=vs.zip ws∧
   IntsAre vs ns'∧IntsAre ws ms'∧ns'.length+items2.size=ms'.length+items.size∧R (.ok (.ret (.bool (lexLt ns' ms')))) ⟨hp,g,d,tk,os⟩) _
  case turn=>
   rintro ⟨y,x⟩ rest b s' ⟨hb',rfl,vs,ws,ns',ms',hz,hvi,hwi,hlen,hR⟩
   cases hvi with
   | nil=>rw[List.zip_nil_left] at hz;cases hz
   | cons a t hvi'=>
    cases hwi with
    | nil=>rw[List.zip_nil_right] at hz;cases hz
    | cons c u hwi'=>
     rw[List.zip_cons_cons] at hz
     injection hz with hyx hrest
     injection hyx with hy hx
     subst hy hx
     rw[lexLt_cons] at hR
     simp only[List.length_cons] at hlen
     obtain⟨e,he,hiff⟩:=Bo A.in1 ⟨hp,g,d,tk,os⟩ a t c u
     refine wpAny_bind (he prog w _ _ ?_)
     cases e with
     | true=>
      rw[if_pos (hiff.mp rfl)] at hR
      wp_walk
      exact⟨rfl,rfl,_,_,_,_,hrest,hvi',hwi',by omega,hR⟩
     | false=>
      rw[if_neg (fun q=>absurd (hiff.mpr q) Bool.false_ne_true)] at hR
      have hri:=CY A.in1 ⟨hp,g,d,tk,os⟩ a t c u prog w
      wp_walk using hri
      exact⟨_,rfl,by simpa using hR⟩
  case fin=>
   rintro ⟨b1,b2⟩ s' ⟨hb',rfl,vs,ws,ns',ms',hz,hvi,hwi,hlen,hR⟩
   simp only at hb'
   subst hb'
   have hv:lexLt ns' ms'=decide (items.size<items2.size):=by
    cases hvi with
    | nil=>
     cases hwi with
     | nil=>
      simp only[List.length_nil] at hlen
      rw[sv]
      exact(decide_eq_false (by omega)).symm
     | cons c u hw=>
      simp only[List.length_nil,List.length_cons] at hlen
      rw[rE]
      exact(decide_eq_true (by omega)).symm
    | cons a t hv=>
     cases hwi with
     | nil=>
      simp only[List.length_nil,List.length_cons] at hlen
      rw[rG]
      exact(decide_eq_false (by omega)).symm
     | cons c u hw=>
      rw[List.zip_cons_cons] at hz
      cases hz
   rw[hv] at hR
   wp_walk
   exact⟨_,rfl,by simpa[Builtin.Tuple.tupleCompareSizes] using hR⟩
  case h=>
   exact⟨rfl,rfl,items.toList,items2.toList,ns,ms,rfl,hi,hj,by omega,h⟩
end
variable{Q:Value→Shared→Prop}
section
variable {prog:Program}{w:World}{A:Around}{E:Value→Shared→Prop}{s:Shared}
theorem lt_tupInts {l b:Addr}{items items2:Array Value}{ns ms:List Int}(hl:IsTup s.heap l items)(hb:IsTup s.heap b items2)(hi:IntsAre items.toList ns)(hj:IntsAre items2.toList ms)
  (hu:A.units<cLine) (h:Q (.bool (lexLt ns ms)) s):wpAny (model prog w) A (compareOp .Lt (.ref l) (.ref b)) Q E s:=by
 obtain⟨⟨cls,dd,data,sl⟩,ho,hc,n,hd⟩:=id hl
 obtain⟨⟨cls2,dd2,data2,sl2⟩,ho2,hc2,n2,hd2⟩:=id hb
 simp only at hc hd hc2 hd2
 subst hc hd hc2 hd2
 exact richCompare_meets_room (op:=.Lt) ⟨_,ho,rfl⟩ ⟨_,ho2,rfl⟩ PySem.F.slot_tuple_lt PySem.F.entry_tuple_lt (PySem.F.args_tuple_lt_2 _ _) (si l b items items2 n n2 dd dd2 sl sl2 ns ms hi hj)
  ⟨ho,ho2,show Value.bool (lexLt ns ms)≠Value.notImplemented∧Q (.bool (lexLt ns ms)) s from⟨(fun x=>nomatch x),h⟩⟩ hu
theorem cat_tup {t b:Addr}{vs ws:List Value}(ht:IsTup s.heap t vs.toArray)(hb:IsTup s.heap b ws.toArray)(hv:vs≠[])
  (h1:ws=[]→Q (.ref t) s) (h2:ws≠[]→Q (.ref s.heap.objs.size) {s with heap:=s.heap.push {cls:=.type "tuple",data:=.seq (vs++ws).toArray}})
  (hsz:vs.length+ws.length≤sizeLine):wpAny (model prog w) A (binaryOp .Add (.ref t) (.ref b)) Q E s:=by
 obtain⟨⟨cls,dd,data,sl⟩,ho,hc,n,hd⟩:=id ht
 obtain⟨⟨cls2,dd2,data2,sl2⟩,ho2,hc2,n2,hd2⟩:=id hb
 simp only at hc hd hc2 hd2
 subst hc hd hc2 hd2
 have e:vs.toArray++ws.toArray=(vs++ws).toArray:=by simp
 by_cases hw:ws=[]
 ·exact concat_meets ⟨_,ho,rfl⟩ ⟨_,ho2,rfl⟩ noFill_tuple_add seq_tuple_add PySem.F.slot_tuple_add PySem.F.entry_tuple_add (PySem.F.args_tuple_add_2 _ _)
   (tuple_addW1 t b vs.toArray ws.toArray n n2 dd dd2 sl sl2 (by simpa using hv) (by simp[hw])) ⟨ho,ho2,h1 hw⟩
 ·refine concat_meets ⟨_,ho,rfl⟩ ⟨_,ho2,rfl⟩ noFill_tuple_add seq_tuple_add PySem.F.slot_tuple_add PySem.F.entry_tuple_add (PySem.F.args_tuple_add_2 _ _)
   (tuple_addW2 t b vs.toArray ws.toArray n n2 dd dd2 sl sl2 (by simpa using hv) (by simpa using hw) (by rw[List.size_toArray,List.size_toArray];exact hsz)) ⟨ho,ho2,?_⟩
  rw[e]
  exact h2 hw
def sIx (n d:Nat):Option Int→Nat
 | none=>d
 | some v=>if v<0 then(v+(n:Int)).toNat else min v.toNat n
theorem sIx_none (n d:Nat):sIx n d none=d:=rfl
theorem sIx_nat (n d k:Nat):sIx n d (some (k:Int))=min k n:=by
 show(if(k:Int)<0 then((k:Int)+(n:Int)).toNat else min (k:Int).toNat n)=min k n
 rw[if_neg (by omega),Int.toNat_natCast]
theorem Gi (n d:Nat)(hd:d≤n)(o:Option Int):sIx n d o≤n:=by
 cases o with
 | none=>exact hd
 | some v=>
  show(if v<0 then(v+(n:Int)).toNat else min v.toNat n)≤n
  by_cases hv:v<0
  ·rw[if_pos hv];omega
  ·rw[if_neg hv];exact Nat.min_le_right _ _
theorem yv (v:Int)(n d:Nat):(if v<0 then max (v+(n:Int)) 0 else min v (n:Int))=((sIx n d (some v):Nat):Int):=by
 show(if v<0 then max (v+(n:Int)) 0 else min v (n:Int))=(((if v<0 then(v+(n:Int)).toNat else min v.toNat n):Nat):Int)
 by_cases hv:v<0
 ·simp only[if_pos hv];omega
 ·simp only[if_neg hv];omega
theorem ya (lo hi:Option Int)(n:Nat):Builtin.Slice.sliceAdjust lo hi 1 (n:Int)=(((sIx n 0 lo:Nat):Int),((sIx n n hi:Nat):Int)):=by
 have h1:¬((1:Int)<0):=by omega
 unfold Builtin.Slice.sliceAdjust
 simp only[h1,if_false]
 refine Prod.ext ?_ ?_
 ·cases lo with
  | none=>rfl
  | some v=>exact yv v n 0
 ·cases hi with
  | none=>rfl
  | some v=>exact yv v n n
theorem yj (i j:Nat):Builtin.Slice.slicePlaces (i:Int) (j:Int) 1=j-i:=by
 unfold Builtin.Slice.slicePlaces
 have h1:(1:Int)>0:=by omega
 simp only[h1,if_true,Int.ediv_one]
 split <;> omega
theorem qY {v:Value}{o:Option Int}{Q:Option Int→Shared→Prop}(p:IsPart v o)(h:Q o s):wpAny (model prog w) A (Builtin.Slice.slicePartIndex v) Q E s:=by
 cases p with
 | none=>exact slicePart_none h
 | int i t=>exact slicePart_int h
theorem sliceApplied_gen {sl:Addr}{vl vu:Value}{lo hi:Option Int}{n:Nat}{Q:Int×Int×Nat→Shared→Prop}(hs:s.heap.IsSliceOf sl vl vu .none)(pl:IsPart vl lo)(pu:IsPart vu hi)
  (h:Q (((sIx n 0 lo:Nat):Int),1,sIx n n hi-sIx n 0 lo) s):wpAny (model prog w) A (Builtin.Slice.sliceApplied (.ref sl) (pure (n:Int))) Q E s:=by
 obtain⟨os,hos,hcs,hds⟩:=id hs
 unfold Builtin.Slice.sliceApplied Builtin.Slice.sliceFields
 refine wpAny_bind (wpAny_bind (wpAny_field hos hds (x:=vl) rfl (wpAny_bind (wpAny_field hos hds (x:=vu) rfl (wpAny_bind (wpAny_field hos hds (x:=.none) rfl (wpAny_pure ?_)))))))
 refine wpAny_bind (slicePart_none ?_)
 show wpAny _ _ (if((1:Int)==0)=true then _ else _) _ _ s
 rw[if_neg (by decide)]
 refine wpAny_bind (qY pl (wpAny_bind (qY pu (wpAny_bind (wpAny_pure ?_)))))
 show wpAny _ _ (match Builtin.Slice.sliceAdjust lo hi 1 (n:Int) with|(lo,hi)=>pure (lo,(1:Int),Builtin.Slice.slicePlaces lo hi 1)) _ _ s
 rw[ya lo hi n]
 show wpAny _ _ (pure (((sIx n 0 lo:Nat):Int),(1:Int),Builtin.Slice.slicePlaces ((sIx n 0 lo:Nat):Int) ((sIx n n hi:Nat):Int) 1)) _ _ s
 rw[yj]
 exact wpAny_pure h
theorem C3 (xs:Array Value)(i k:Nat):((List.range k).filterMap fun(m:Nat)=>xs[((i:Int)+(m:Int)*1).toNat]?).toArray=((xs.toList.drop i).take k).toArray:=by
 have e:(fun(m:Nat)=>xs[((i:Int)+(m:Int)*1).toNat]?)=fun m=>xs[i+m]?:=by
  funext m
  have:((i:Int)+(m:Int)*1).toNat=i+m:=by omega
  rw[this]
 rw[e]
 have:=pick_run xs i k
 rw[List.filterMap_map] at this
 have e2:((fun x=>xs[x]?) ∘ fun x=>i+x)=fun m=>xs[i+m]?:=rfl
 rw[e2] at this
 rw[this]
theorem getItem_tuple_cut {t sl:Addr}{items:Array Value}{vl vu:Value}{lo hi:Option Int}(ht:IsTup s.heap t items)(hs:s.heap.IsSliceOf sl vl vu .none)(pl:IsPart vl lo)(pu:IsPart vu hi)
  (hw:¬(sIx items.size 0 lo=0∧sIx items.size items.size hi=items.size))
  (h:Q (.ref s.heap.objs.size) {s with heap:=s.heap.push {cls:=.type "tuple",data:=.seq ((items.toList.drop (sIx items.size 0 lo)).take (sIx items.size items.size hi-sIx items.size 0 lo)).toArray}})
  (hsz:items.size≤sizeLine):wpAny (model prog w) A (getItem (.ref t) (.ref sl)) Q E s:=by
 have htake:sizeOk (.seq ((items.toList.drop (sIx items.size 0 lo)).take (sIx items.size items.size hi-sIx items.size 0 lo)).toArray):=by
  show((items.toList.drop (sIx items.size 0 lo)).take (sIx items.size items.size hi-sIx items.size 0 lo)).toArray.size≤sizeLine
  rw[List.size_toArray,List.length_take,List.length_drop,Array.length_toList]
  omega
 have hj:sIx items.size items.size hi≤items.size:=Gi _ _ (Nat.le_refl _) hi
 obtain⟨os,hos,hcs,hds⟩:=id hs
 have hTs:s.TypeIs (.ref sl) "slice":=⟨os,hos,hcs⟩
 unfold getItem
 try with_reducible refine wpAny_holding ?_
 first|refine wpAny_bind (wpAny_pure ?_)|skip
 refine wpAny_bind (wpAny_sequenceKey ht.typeIs (by decide) ?_)
 refine wpAny_bind (wpAny_callSpecial?_slot (name:=Str.ofString "__getitem__") ht.typeIs PyProof.Rows.slot_tuple_getitem
  (wpAny_call_entry PyProof.Rows.slot_tuple_getitem ht.typeIs entry_tuple_getitem ?_ (args_tuple_getitem _ _)))
 show wpAny _ _ (Builtin.Tuple.tupleItemsOf (.ref t) >>= _) _ _ s
 refine wpAny_bind (tupleItemsOf_ ht ?_)
 refine wpAny_bind (wpAny_typeOf hTs ?_)
 rw[if_pos (by decide)]
 refine wpAny_bind (sliceApplied_gen hs pl pu ?_)
 have hno:¬((((sIx items.size 0 lo:Nat):Int)==0&&(1:Int)==1&&(sIx items.size items.size hi-sIx items.size 0 lo)==items.size)=true):=by
  intro q
  rw[Bool.and_eq_true,Bool.and_eq_true] at q
  have q1:((sIx items.size 0 lo:Nat):Int)=0:=eq_of_beq q.1.1
  have q2:sIx items.size items.size hi-sIx items.size 0 lo=items.size:=eq_of_beq q.2
  exact hw ⟨by omega,by omega⟩
 show wpAny _ _ (if(((sIx items.size 0 lo:Nat):Int)==0&&(1:Int)==1&&(sIx items.size items.size hi-sIx items.size 0 lo)==items.size)=true then _ else _) _ _ s
 rw[if_neg hno,C3]
 first
  | exact wpAny_bind (m:=Builtin.Tuple.tupleExact _) (wpAny_newObj_type (wpAny_pure ⟨_,rfl,wpAny_pure h⟩) htake)
  | exact wpAny_bind (m:=Builtin.Tuple.tupleExact _) (wpAny_newObj_type (wpAny_bind (wpAny_pure (wpAny_pure ⟨_,rfl,wpAny_pure h⟩))) htake)
  | exact wpAny_bind (wpAny_bind (m:=Builtin.Tuple.tupleExact _) (wpAny_newObj_type (wpAny_pure (wpAny_pure ⟨_,rfl,wpAny_pure h⟩)) htake))
  | exact wpAny_bind (wpAny_bind (m:=Builtin.Tuple.tupleExact _) (wpAny_newObj_type (wpAny_pure ⟨_,rfl,wpAny_pure h⟩) htake))
end
end HT
namespace L2
open PySem PySem.Spec PyProof.Rows
abbrev TO:=St→Hp→(Option Int→Hp→Prop)→Prop
def PO (X:Cx)(e:Option Expr)(t:TO):Prop:=
 ∀(ah:List (Addr×Obj)) (s:Shared) (σ:St) (H:Hp) (Q:Option Int→Hp→Prop),Inv X ah σ H s→t σ H Q→
  wpAny (model X.prog X.w) X.A (evalPart e X.env) (fun u s'=>∃o H',Inv X ah σ H' s'∧IsPart u o∧Q o H') X.xe s
def ED:TO:=fun _ H Q=>Q none H
def Kl (t:TE):TO:=fun σ H Q=>t σ H fun x H1=>∃i,x=.int i∧Q (some i) H1
theorem qZ {ns:List Int}:∀{us:List Value},aZ (ns.map V.int) us→IntsAre us ns:=by
 induction ns with
 | nil=>intro us r;rw[List.map_nil] at r;cases r;exact .nil
 | cons n ns ih=>
  intro us r
  rw[List.map_cons] at r
  cases r with
  | cons r1 r2=>
   obtain⟨t,e⟩:=r1
   subst e
   exact .cons n t (ih r2)
variable{xs:List V}{us:List Value}
section
variable {X:Cx}{e:Expr}{te:TE}{lo hi:Option Expr}{tl th:TO}{pos p2:Pos}
theorem DK:PO X none ED:=by
 intro ah s σ H Q I h
 rw[evalPart_none]
 exact wpAny_pure ⟨none,H,I,.none,h⟩
theorem Dr (h:PE X e te):PO X (some e) (Kl te):=by
 intro ah s σ H Q I hw
 rw[evalPart_some]
 refine cF (h ah s σ H _ I hw) fun u s1 ⟨x,H1,I1,r1,q1⟩=>?_
 obtain⟨i,rfl,q⟩:=q1
 obtain⟨t,rfl⟩:=r1
 exact⟨some i,H1,I1,.int i t,q⟩
def Mw (X:Cx)(r:V→Option Int→Option Int→Hp→VK→Prop):Prop:=
 ∀(ah:List (Addr×Obj)) (s:Shared) (σ:St) (H:Hp) (x:V) (v vl vu:Value) (lo hi:Option Int) (sl:Addr) (Q:VK),Inv X ah σ H s→RelV x v→s.heap.IsSliceOf sl vl vu .none→IsPart vl lo→IsPart vu hi→r x lo hi H Q→
  ∃T id,typeLookup (.type T) "__getitem__"=pure (some (.builtin id))∧s.TypeIs v T∧wpAny (model X.prog X.w) X.A (getItem v (.ref sl)) (EP X ah σ Q) X.xe s
def Oj (r:V→Option Int→Option Int→Hp→VK→Prop)(te:TE)(tl th:TO):TE:=fun σ H Q=>te σ H fun x H1=>tl σ H1 fun l H2=>th σ H2 fun u H3=>r x l u H3 Q
theorem Ay {r:V→Option Int→Option Int→Hp→VK→Prop}(hr:Mw X r)(he:PE X e te)(hl:PO X lo tl)(hu:PO X hi th):PE X (.Subscript e (.Slice lo hi none p2) pos) (Oj r te tl th):=by
 intro ah s σ H Q I h
 refine Subscript_ (cF (he ah s σ H _ I h) fun v s1 ⟨x,H1,I1,r1,q1⟩=>?_)
 refine wpAny_Slice (cF (hl ah s1 σ H1 _ I1 q1) fun vl s2 ⟨l,H2,I2,pl,q2⟩=>cF (hu ah s2 σ H2 _ I2 q2) fun vu s3 ⟨u,H3,I3,pu,q3⟩=>?_)
 rw[evalPart_none]
 refine wpAny_pure ?_
 have I4:Inv X ah σ H3 {s3 with heap:=s3.heap.push {cls:=.type "slice",data:=.fields #[vl,vu,.none]}}:=I3.kept (t':=s3.toks) fun b ob q=>Heap.get?_push_of_some _ q
 obtain⟨T,id,hT,ht,hg⟩:=hr ah {s3 with heap:=s3.heap.push {cls:=.type "slice",data:=.fields #[vl,vu,.none]}} σ H3 x v vl vu l u s3.heap.objs.size Q I4 r1 (Heap.IsSliceOf.new ..) pl pu q3
 show wpAny (model X.prog X.w) X.A (subscriptTail e (.Slice lo hi none p2) v (.ref s3.heap.objs.size)) (EP X ah σ Q) X.xe {s3 with heap:=s3.heap.push {cls:=.type "slice",data:=.fields #[vl,vu,.none]}}
 exact tail_any (ops:=[.ref s3.heap.objs.size,v]) ht hT hg (by with_unfolding_all rfl)
def we (xs:List V)(lo hi:Option Int):List V:=(xs.drop (HT.sIx xs.length 0 lo)).take (HT.sIx xs.length xs.length hi-HT.sIx xs.length 0 lo)
theorem pK (xs:List V)(lo hi:Option Int):(we xs lo hi).length≤xs.length:=by
 unfold we
 rw[List.length_take,List.length_drop]
 omega
def Nz (K:W.Frag):V→Option Int→Option Int→Hp→VK→Prop:=fun x lo hi H Q=>∃a xs,x=.ref a∧pV K H a xs∧
 ¬(HT.sIx xs.length 0 lo=0∧HT.sIx xs.length xs.length hi=xs.length)∧∀p,H p=none→Q (.ref p) (cj H p (.tup (we xs lo hi)))
theorem Il:Mw X (Nz X.K):=by
 intro ah s σ H x v vl vu lo hi sl Q I rx hs pl pu h
 obtain⟨a,xs,rfl,hx,hw,q⟩:=h
 cases rx
 obtain⟨its,r,ht,hz⟩:=I.tuple hx
 have hlen:its.toArray.size=xs.length:=by rw[List.size_toArray];exact r.length.symm
 refine⟨"tuple",_,PyProof.Rows.slot_tuple_getitem.lookup,ht.typeIs,?_⟩
 refine HT.getItem_tuple_cut ht hs pl pu (by rw[hlen];exact hw) ?_ (by rw[hlen];exact hz)
 rw[hlen]
 refine⟨.ref s.heap.objs.size,_,I.laid (t':=s.toks) (o:=.tup (we xs lo hi)) (fun b ob q=>Heap.get?_push_of_some _ q) (Nat.le_refl _) ?_,rfl,q _ (I.hok.fresh (Nat.le_refl _))⟩
 exact⟨Nat.le_trans (pK xs lo hi) hz,_,(r.drop (HT.sIx xs.length 0 lo)).take (HT.sIx xs.length xs.length hi-HT.sIx xs.length 0 lo),IsTup.new _ _⟩
def Ks (K:W.Frag):R2:=fun x y H Q=>∃a b xs ys,x=.ref a∧y=.ref b∧pV K H a xs∧pV K H b ys∧xs≠[]∧xs.length+ys.length≤sizeLine∧
 (ys=[]→Q (.ref a) H)∧(ys≠[]→∀p,H p=none→Q (.ref p) (cj H p (.tup (xs++ys))))
theorem aZ.nil_iff (r:aZ xs us):us=[]↔xs=[]:=by
 cases r with
 | nil=>simp
 | cons _ _=>simp
theorem Ej:iO X (binaryOp .Add) (Ks X.K):=by
 intro ah s σ H x y v u Q I rx ry h
 obtain⟨a,b,xs,ys,rfl,rfl,ha,hb,hx,hz,q1,q2⟩:=h
 cases rx
 cases ry
 obtain⟨its,r1,p1,_⟩:=I.tuple ha
 obtain⟨its2,r2,p2,_⟩:=I.tuple hb
 refine HT.cat_tup p1 p2 (fun z=>hx (r1.nil_iff.mp z)) (fun z=>⟨.ref a,H,I,rfl,q1 (r2.nil_iff.mp z)⟩) (fun z=>?_) (by rw[←r1.length,←r2.length];exact hz)
 refine⟨.ref s.heap.objs.size,_,I.laid (t':=s.toks) (o:=.tup (xs++ys)) (fun b ob q=>Heap.get?_push_of_some _ q) (Nat.le_refl _) ?_,rfl,q2 (fun w=>z (r2.nil_iff.mpr w)) _ (I.hok.fresh (Nat.le_refl _))⟩
 exact⟨by rw[List.length_append];exact hz,_,r1.append r2,IsTup.new _ _⟩
end
def Do (n:Nat)(i:Int):Option Nat:=if 0≤i then(if i<n then some i.toNat else none) else if -(n:Int)≤i then some (i+n).toNat else none
def jL {α:Type}(xs:List α)(i:Int):Option α:=(Do xs.length i).bind fun j=>xs[j]?
theorem yz {n:Nat}{i:Int}{j:Nat}(h:Do n i=some j):seqIndex? i n=some j∧j<n∧-(n:Int)≤i∧i<n:=by
 unfold Do at h
 by_cases h0:0≤i
 ·rw[if_pos h0] at h
  by_cases h1:i<n
  ·rw[if_pos h1] at h
   have e:i.toNat=j:=Option.some.inj h
   exact⟨by rw[seqIndex_of h0 h1,e],by omega,by omega,h1⟩
  ·rw[if_neg h1] at h;cases h
 ·rw[if_neg h0] at h
  by_cases h1:-(n:Int)≤i
  ·rw[if_pos h1] at h
   have e:(i+n).toNat=j:=Option.some.inj h
   exact⟨by rw[seqIndex_neg (by omega) h1,e],by omega,h1,by omega⟩
  ·rw[if_neg h1] at h;cases h
theorem yQ {α:Type}{xs:List α}{i:Int}{v:α}(h:jL xs i=some v):∃j,seqIndex? i xs.length=some j∧xs[j]?=some v∧j<xs.length∧-(xs.length:Int)≤i∧i<xs.length:=by
 unfold jL at h
 cases e:Do xs.length i with
 | none=>rw[e] at h;cases h
 | some j=>
  rw[e] at h
  obtain⟨h1,h2,h3,h4⟩:=yz e
  exact⟨j,h1,h,h2,h3,h4⟩
theorem dU {α:Type}{xs:List α}{j:Nat}{v:α}(h:xs[j]?=some v):jL xs (j:Int)=some v:=by
 have hj:j<xs.length:=(List.getElem?_eq_some_iff.mp h).1
 have e:Do xs.length (j:Int)=some j:=by
  unfold Do
  rw[if_pos (by omega),if_pos (by omega)];simp
 unfold jL;rw[e];exact h
def ut (b:Expr):Prop:=∀o i,subscripted b false o i=operate [o,i] (getItem o i)
def MB (X:Cx)(r:R2):Prop:=
 ∀(value slice:Expr) (ah:List (Addr×Obj)) (s:Shared) (σ:St) (H:Hp) (x y:V) (v u:Value) (Q:VK),Inv X ah σ H s→RelV x v→RelV y u→r x y H Q→
  subscripted slice false v u=operate [v,u] (getItem v u)→wpAny (model X.prog X.w) X.A (subscriptTail value slice v u) (EP X ah σ Q) X.xe s
def NE (X:Cx)(id:String)(r:V→List V→Hp→VK→Prop):Prop:=
 ∀(ah:List (Addr×Obj)) (s:Shared) (σ:St) (H:Hp) (x:V) (xs:List V) (v:Value) (us:List Value) (Q:VK),Inv X ah σ H s→RelV x v→aZ xs us→r x xs H Q→
  wpAny (model X.prog X.w) X.A (call (.builtin id) (v::us)) (EP X ah σ Q) X.xe s
variable{ah:List (Addr×Obj)}{σ:St}{H:Hp}{s:Shared}
section
variable {X:Cx}{a b:Expr}{ta tb:TE}{pos:Pos}
theorem Kh {r:R2}(hr:MB X r)(ha:PE X a ta)(hb:PE X b tb)(hs:ut b):PE X (.Subscript a b pos) (JU r ta tb):=by
 intro ah s σ H Q I h
 exact Subscript_ (Jk ha hb I h fun v u s2 x y H2 I2 rx ry q=>hr a b ah s2 σ H2 x y v u Q I2 rx ry q (hs _ _))
def Nj (K:W.Frag):R2:=fun x y H Q=>∃p xs i v,x=.ref p∧y=.int i∧mE K H p xs∧jL xs i=some v∧Q v H
def NO (K:W.Frag):R2:=fun x y H Q=>∃p xs i v,x=.ref p∧y=.int i∧pV K H p xs∧jL xs i=some v∧Q v H
theorem FC:MB X (Nj X.K):=by
 intro value slice ah s σ H x y v u Q I rx ry h hs
 obtain⟨p,xs,i,z,rfl,rfl,hq,he,q⟩:=h
 cases rx
 obtain⟨t,rfl⟩:=ry
 obtain⟨its,r,pl,hz⟩:=I.list hq
 obtain⟨j,h1,h2,h3,h4,h5⟩:=yQ he
 obtain⟨w,ew,rw'⟩:=r.get h2
 have hl:=r.length
 have hn:=mQ
 have fin:EP X ah σ Q w s:=⟨z,H,I,rw',q⟩
 by_cases h0:0≤i
 ·have hj:i.toNat=j:=by
   rw[seqIndex_of h0 h5] at h1
   exact Option.some.inj h1
  exact item_listR pl.isList h0 (by omega) (by rw[hj];simpa using ew) fin hs
 ·have hj:(i+(its.toArray.size:Int)).toNat=j:=by
   rw[seqIndex_neg (by omega) h4] at h1
   rw[List.size_toArray,←hl]
   exact Option.some.inj h1
  exact subscriptTail_builtinR (x:=w) pl.isList.typeIs slot_list_getitem.lookup
   (wpAny_getItem_list_neg (Q:=fun r s'=>r=w∧EP X ah σ Q r s') pl.isList (by omega) (by rw[List.size_toArray] <;> omega) (by omega) (by rw[hj];simpa using ew) ⟨rfl,fin⟩) hs
theorem Je:MB X (NO X.K):=by
 intro value slice ah s σ H x y v u Q I rx ry h hs
 obtain⟨p,xs,i,z,rfl,rfl,hq,he,q⟩:=h
 cases rx
 obtain⟨t,rfl⟩:=ry
 obtain⟨its,r,pl,hz⟩:=I.tuple hq
 obtain⟨j,h1,h2,h3,h4,h5⟩:=yQ he
 obtain⟨w,ew,rw'⟩:=r.get h2
 have hl:=r.length
 have hn:=mQ
 have fin:EP X ah σ Q w s:=⟨z,H,I,rw',q⟩
 exact subscriptTail_builtinR (x:=w) pl.typeIs slot_tuple_getitem.lookup
  (getItem_tuple (j:=j) (Q:=fun r s'=>r=w∧EP X ah σ Q r s') pl (by omega) (by omega) (by rw[List.size_toArray,←hl];exact h1) (by simpa using ew) ⟨rfl,fin⟩) hs
theorem xU (its:List Value)(n j:Nat)(u:Value):Obj.mapSeq (·.setIfInBounds j u) {cls:=.type "list",data:=.seq its.toArray n}={cls:=.type "list",data:=.seq (its.set j u).toArray n}:=by
 simp[Obj.mapSeq]
theorem Inv.lst {p:Addr}(I:Inv X ah σ H s)(h:H p=some (.lst xs)) :
  ∃(its:List Value) (n:Nat),aZ xs its∧s.heap.get? p=some {cls:=.type "list",data:=.seq its.toArray n}∧xs.length≤sizeLine:=by
 obtain⟨z,its,n,r,e⟩:=I.hok p _ h
 exact⟨its,n,r,e,z⟩
theorem Inv.lstUpd {p:Addr}{ys:List V}{its its':List Value}{n n':Nat}{f:Obj→Obj}(I:Inv X ah σ H s)(h:H p=some (.lst xs))
  (ho:s.heap.get? p=some {cls:=.type "list",data:=.seq its.toArray n}) (hf:f {cls:=.type "list",data:=.seq its.toArray n}={cls:=.type "list",data:=.seq its'.toArray n'}) (r:aZ ys its') (hz:ys.length≤sizeLine) (t:Nat) :
  Inv X ah σ (cj H p (.lst ys)) {s with heap:=s.heap.update p f,toks:=t}:=by
 have e:(s.heap.update p f).get? p=some {cls:=.type "list",data:=.seq its'.toArray n'}:=by
  rw[Heap.get?_update_self f ho (by rw[hf] <;> rfl),hf]
 refine I.write (x:=p) (e:=p) (by rw[h];trivial) (.inl rfl) (fun b u hb q=>(Heap.get?_update_other _ _ (Ne.symm hb)).trans q) ⟨_,e⟩ ?_
 exact⟨hz,its',n',r,e⟩
def LG:V→V→V→Hp→(Hp→Prop)→Prop:=fun o i v H Q=>∃p xs k j,o=.ref p∧i=.int k∧H p=some (.lst xs)∧Do xs.length k=some j∧Q (cj H p (.lst (xs.set j v)))
theorem BP:Km X LG:=by
 intro ah s σ H o i v ov iv u Q I ro ri rv h
 obtain⟨p,xs,k,j,rfl,rfl,hp,hj,q⟩:=h
 cases ro
 obtain⟨t,rfl⟩:=ri
 obtain⟨its,n,r,ho,hz⟩:=I.lst hp
 obtain⟨h1,h2,h3,h4⟩:=yz hj
 have hl:=r.length
 have hn:=mQ
 have I':Inv X ah σ (cj H p (.lst (xs.set j v))) {s with heap:=s.heap.update p (Obj.mapSeq (·.setIfInBounds j u))}:=
  I.lstUpd hp ho (xU its n j u) (r.set rv j) (by rw[List.length_set];exact hz) s.toks
 by_cases h0:0≤k
 ·have hk:k.toNat=j:=by
   rw[seqIndex_of h0 h4] at h1
   exact Option.some.inj h1
  exact W.ki_setAt ho h0 (by omega) (by rw[List.size_toArray,←hl];exact h4) (by rw[hk];exact⟨_,I',q⟩)
 ·have hk:(k+(its.toArray.size:Int)).toNat=j:=by
   rw[seqIndex_neg (by omega) h3] at h1
   rw[List.size_toArray,←hl]
   exact Option.some.inj h1
  exact W.ki_setBack ho (by omega) (by rw[List.size_toArray,←hl];exact h3) (by omega) (by rw[hk];exact⟨_,I',q⟩)
theorem uy (lo hi:Option Int)(n:Nat):(sliceBounds lo hi none n).1=((HT.sIx n 0 lo:Nat):Int)∧(sliceBounds lo hi none n).2.1=((HT.sIx n n hi:Nat):Int)∧(sliceBounds lo hi none n).2.2=1:=by
 refine⟨?_,?_,rfl⟩
 ·cases lo with
  | none=>simp[sliceBounds,HT.sIx]
  | some i=>
   simp only[sliceBounds,HT.sIx,Option.getD_none,show(1:Int)>0 by decide,if_true]
   by_cases h:i<0
   ·simp only[h,if_true] <;> omega
   ·simp only[h,if_false] <;> omega
 ·cases hi with
  | none=>simp[sliceBounds,HT.sIx]
  | some i=>
   simp only[sliceBounds,HT.sIx,Option.getD_none,show(1:Int)>0 by decide,if_true]
   by_cases h:i<0
   ·simp only[h,if_true] <;> omega
   ·simp only[h,if_false] <;> omega
theorem rY (its:List Value)(lo hi:Option Int):slicePick its.toArray lo hi none=((its.drop (HT.sIx its.length 0 lo)).take (HT.sIx its.length its.length hi-HT.sIx its.length 0 lo)).toArray:=by
 obtain⟨h1,h2,h3⟩:=uy lo hi its.toArray.size
 unfold slicePick
 rw[h1,h2,h3]
 simp only[sliceRange_one,pick_run,List.size_toArray] <;> rfl
def NB (K:W.Frag):V→Option Int→Option Int→Hp→VK→Prop:=fun x lo hi H Q=>∃a xs,x=.ref a∧mE K H a xs∧∀p,H p=none→Q (.ref p) (cj H p (.lst (we xs lo hi)))
theorem uW:Mw X (NB X.K):=by
 intro ah s σ H x v vl vu lo hi sl Q I rx hs pl pu h
 obtain⟨a,xs,rfl,hx,q⟩:=h
 cases rx
 obtain⟨its,r,ht,hz⟩:=I.list hx
 have hlen:=r.length
 refine⟨"list",_,slot_list_getitem.lookup,ht.isList.typeIs,?_⟩
 refine wpAny_getItem_list_slice ht.isList hs pl pu .none (by simp) ?_ (by rw[List.size_toArray] <;> omega)
 rw[rY,←hlen]
 refine⟨.ref s.heap.objs.size,_,I.laid (t':=s.toks) (o:=.lst (we xs lo hi)) (fun b ob q=>Heap.get?_push_of_some _ q) (Nat.le_refl _) ?_,rfl,q _ (I.hok.fresh (Nat.le_refl _))⟩
 exact⟨Nat.le_trans (pK xs lo hi) hz,_,0,(r.drop (HT.sIx xs.length 0 lo)).take (HT.sIx xs.length xs.length hi-HT.sIx xs.length 0 lo),Heap.get?_push_size _ rfl⟩
def iw:V→Bool
 | .non=>true
 | .bl _=>true
 | .int _=>true
 | .str _=>true
 | _=>false
def wM:V→V→Bool
 | .non,.non=>true
 | .bl a,.bl b=>a==b
 | .bl a,.int b=>(if a then 1 else 0)==b
 | .int a,.bl b=>a==(if b then 1 else 0)
 | .int a,.int b=>a==b
 | .str a,.str b=>a==b
 | _,_=>false
theorem Gh {A:Around}{y x:V}{u v:Value}(ry:RelV y u)(rx:RelV x v)(fy:iw y=true)(fx:iw x=true):SeqAt.EqAt A s u v (wM y x):=by
 cases y with
 | non=>
  cases ry
  cases x with
  | non=>cases rx;exact SeqAt.EqAt.same _
  | bl b=>cases rx;exact SeqAt.EqAt.none_bool b
  | int b=>obtain⟨t,rfl⟩:=rx;exact SeqAt.EqAt.none_int b t
  | str b=>obtain⟨t,rfl⟩:=rx;exact SeqAt.EqAt.none_str b t
  | _=>exact absurd (show false=true from fx) Bool.false_ne_true
 | bl a=>
  cases ry
  cases x with
  | non=>cases rx;exact SeqAt.EqAt.bool_none a
  | bl b=>cases rx;exact SeqAt.EqAt.bool_bool a b
  | int b=>obtain⟨t,rfl⟩:=rx;exact SeqAt.EqAt.bool_int a b t
  | str b=>obtain⟨t,rfl⟩:=rx;exact SeqAt.EqAt.bool_str a b t
  | _=>exact absurd (show false=true from fx) Bool.false_ne_true
 | int a=>
  obtain⟨t',rfl⟩:=ry
  cases x with
  | non=>cases rx;exact SeqAt.EqAt.int_none a t'
  | bl b=>cases rx;exact SeqAt.EqAt.int_bool a t' b
  | int b=>obtain⟨t,rfl⟩:=rx;exact SeqAt.EqAt.int_int a t' b t
  | str b=>obtain⟨t,rfl⟩:=rx;exact SeqAt.EqAt.int_str a t' b t
  | _=>exact absurd (show false=true from fx) Bool.false_ne_true
 | str a=>
  obtain⟨t',rfl⟩:=ry
  cases x with
  | non=>cases rx;exact SeqAt.EqAt.str_none a t'
  | bl b=>cases rx;exact SeqAt.EqAt.str_bool a t' b
  | int b=>obtain⟨t,rfl⟩:=rx;exact SeqAt.EqAt.str_int a t' b t
  | str b=>obtain⟨t,rfl⟩:=rx;exact SeqAt.EqAt.str_str a t' b t
  | _=>exact absurd (show false=true from fx) Bool.false_ne_true
 | _=>exact absurd (show false=true from fy) Bool.false_ne_true
def zN (x:V)(u:Value):Bool:=match u with
 | .none=>wM .non x
 | .bool b=>wM (.bl b) x
 | .int i _=>wM (.int i) x
 | .str z _=>wM (.str z) x
 | _=>false
theorem u5 {x y:V}{u:Value}(r:RelV y u)(f:iw y=true):zN x u=wM y x:=by
 cases y with
 | non=>cases r;rfl
 | bl b=>cases r;rfl
 | int i=>obtain⟨t,rfl⟩:=r;rfl
 | str z=>obtain⟨t,rfl⟩:=r;rfl
 | _=>exact absurd (show false=true from f) Bool.false_ne_true
theorem uz {x:V}:∀{xs:List V} {us:List Value},aZ xs us→xs.all iw=true→us.any (zN x)=xs.any fun y=>wM y x
 | _,_,.nil,_=>rfl
 | y::xs,u::us,.cons r t,f=>by
  rw[List.all_cons,Bool.and_eq_true] at f
  rw[List.any_cons,List.any_cons,u5 r f.1,uz t f.2]
theorem lE {A:Around}{s:Shared}{x:V}{v:Value}(rx:RelV x v)(fx:iw x=true):∀{xs:List V} {us:List Value},aZ xs us→xs.all iw=true→∀u∈us,SeqAt.EqAt A s u v (zN x u)
 | _,_,.nil,_=>fun u hu=>by cases hu
 | y::xs,u::us,.cons r t,f=>fun u' hu=>by
  rw[List.all_cons,Bool.and_eq_true] at f
  rcases List.mem_cons.mp hu with rfl|hu
  ·rw[u5 r f.1];exact Gh r rx f.1 fx
  ·exact lE rx fx t f.2 u' hu
def MJ (x:V)(xs:List V):Bool:=xs.any fun y=>wM y x
def Of (K:W.Frag)(neg:Bool):R2:=fun x y H Q=>∃p xs,y=.ref p∧(mE K H p xs∨pV K H p xs)∧iw x=true∧xs.all iw=true∧Q (.bl (if neg then !MJ x xs else MJ x xs)) H
theorem ze:iO X (compareOp .In) (Of X.K false):=by
 intro ah s σ H x y v u Q I rx ry h
 obtain⟨p,xs,rfl,hq,fx,fs,q⟩:=h
 cases ry
 rcases hq with hq|hq
 ·obtain⟨its,r,pl,hz⟩:=I.list hq
  refine SeqAt.in_listAt (zN x) pl.isList (fun w hw=>lE rx fx r fs w (by simpa using hw)) ⟨.bl _,H,I,rfl,?_⟩
  rw[show its.toArray.any (zN x)=its.any (zN x) by simp,uz r fs]
  exact q
 ·obtain⟨its,r,pl,hz⟩:=I.tuple hq
  refine SeqAt.in_tupleAt (zN x) pl (fun w hw=>lE rx fx r fs w (by simpa using hw)) ⟨.bl _,H,I,rfl,?_⟩
  rw[show its.toArray.any (zN x)=its.any (zN x) by simp,uz r fs]
  exact q
theorem uE:dY X (.builtin "len") (fun xs H Q=>∃p ys,xs=[.ref p]∧(mE X.K H p ys∨pV X.K H p ys)∧Q (.int ys.length) H):=by
 intro ah s σ H xs us Q I r h
 obtain⟨p,ys,rfl,hq,q⟩:=h
 obtain⟨u,rfl,rx⟩:=ou r
 cases rx
 have hn:=mQ
 rcases hq with hq|hq
 ·obtain⟨its,r',pl,hz⟩:=I.list hq
  have hlen:=r'.length
  exact Calls.call_len_list pl.isList (by simp only[List.size_toArray] <;> omega) ⟨.int ys.length,H,I.tok _,⟨s.toks+1,by rw[List.size_toArray,hlen]⟩,q⟩
 ·obtain⟨its,r',pl,hz⟩:=I.tuple hq
  have hlen:=r'.length
  exact len_tuple pl (by simp only[List.size_toArray] <;> omega) ⟨.int ys.length,H,I.tok _,⟨s.toks+1,by rw[List.size_toArray,hlen]⟩,q⟩
theorem u6:dY X (.builtin "len") (fun xs H Q=>∃z,xs=[.str z]∧z.length≤sizeLine∧Q (.int z.length) H):=by
 intro ah s σ H xs us Q I r h
 obtain⟨z,rfl,hz,q⟩:=h
 obtain⟨u,rfl,t,rfl⟩:=ou r
 have hn:=mQ
 exact len_str (by omega) ⟨.int z.length,H,I.tok _,⟨_,rfl⟩,q⟩
theorem uX:dY X (.type "list") (fun xs H Q=>∃p ys,xs=[.ref p]∧(mE X.K H p ys∨pV X.K H p ys)∧∀l,H l=none→Q (.ref l) (cj H l (.lst ys))):=by
 intro ah s σ H xs us Q I r h
 obtain⟨p,ys,rfl,hq,q⟩:=h
 obtain⟨u,rfl,rx⟩:=ou r
 cases rx
 have fin:∀(its:List Value),aZ ys its→ys.length≤sizeLine→∀(h':Heap) (c':Nat),(∀b o',s.heap.get? b=some o'→h'.get? b=some o')→
   h'.get? s.heap.objs.size=some {cls:=.type "list",dict:=none,data:=.seq its.toArray c',slots:=#[]}→EP X ah σ Q (.ref s.heap.objs.size) {s with heap:=h'}:=fun its r' hz h' c' kp e=>
  ⟨.ref s.heap.objs.size,_,I.laid (t':=s.toks) kp (Nat.le_refl _) (show cP X.prog X.w _ h' _ (.lst ys) from⟨hz,its,c',r',e⟩),rfl,q _ (I.hok.fresh (Nat.le_refl _))⟩
 rcases hq with hq|hq
 ·obtain⟨its,r',pl,hz⟩:=I.list hq
  have hlen:=r'.length
  obtain⟨o,ho,hc,n,hd⟩:=pl.isList
  exact call_list_seq p (.inl rfl) ho hc hd (fun h' c' kp e=>fin its r' hz h' c' kp e) (by simp only[List.size_toArray] <;> omega)
 ·obtain⟨its,r',pl,hz⟩:=I.tuple hq
  have hlen:=r'.length
  obtain⟨o,ho,hc,n,hd⟩:=pl
  exact call_list_seq p (.inr rfl) ho hc hd (fun h' c' kp e=>fin its r' hz h' c' kp e) (by simp only[List.size_toArray] <;> omega)
theorem g6:dY X (.type "tuple") (fun xs H Q=>∃p ys,xs=[.ref p]∧((mE X.K H p ys∧∀l,H l=none→Q (.ref l) (cj H l (.tup ys)))∨(pV X.K H p ys∧Q (.ref p) H))):=by
 intro ah s σ H xs us Q I r h
 obtain⟨p,ys,rfl,h⟩:=h
 obtain⟨u,rfl,rx⟩:=ou r
 cases rx
 rcases h with⟨hq,q⟩|⟨hq,q⟩
 ·obtain⟨its,r',pl,hz⟩:=I.list hq
  have hlen:=r'.length
  refine call_tuple_list pl.isList (fun h' kp=>?_) (by simp only[List.size_toArray] <;> omega)
  have I1:Inv X ah σ H {s with heap:=h'}:=I.kept (t':=s.toks) kp
  have I2:Inv X ah σ (cj H h'.objs.size (.tup ys)) {s with heap:=h'.push {cls:=.type "tuple",data:=.seq its.toArray}}:=
   I1.laid (t':=s.toks) (fun b o e=>Heap.get?_push_of_some _ e) (Nat.le_refl _) (show cP X.prog X.w _ _ _ (.tup ys) from⟨hz,its,r',IsTup.new _ _⟩)
  exact⟨.ref h'.objs.size,_,I2,rfl,q _ (I1.hok.fresh (Nat.le_refl _))⟩
 ·obtain⟨its,r',pl,hz⟩:=I.tuple hq
  exact call_tuple_same pl ⟨.ref p,H,I,rfl,q⟩
def N9 (K:W.Frag)(T:String)(x:V)(H:Hp):Prop:=match x with
 | .str _=>T="str"
 | .int _=>T="int"
 | .ref p=>(T="list"∧∃xs,mE K H p xs)∨(T="tuple"∧∃o,K.lookup p=some o∧o.cls=.type "tuple"∧o.dict=none)∨
   (T="dict"∧((∃kvs,H p=some (.dK kvs))∨∃kvs,H p=some (.dT kvs)))∨(T="set"∧∃S n,H p=some (.set S n))
 | _=>False
theorem G2 {T:String}{x:V}{v:Value}(I:Inv X ah σ H s)(r:RelV x v)(ty:N9 X.K T x H) :
  s.TypeIs v T∧∀a,v=.ref a→∃ob,s.heap.get? a=some ob∧ob.dict=none:=by
 cases x with
 | str z=>
  obtain⟨t,rfl⟩:=r
  cases (show T="str" from ty)
  exact⟨typeIs_str s z t,fun _ e=>nomatch e⟩
 | int i=>
  obtain⟨t,rfl⟩:=r
  cases (show T="int" from ty)
  exact⟨typeIs_int s i t,fun _ e=>nomatch e⟩
 | ref p=>
  cases r
  rcases ty with⟨rfl,xs,hq⟩|⟨rfl,o,hk,hc,hd⟩|⟨rfl,hk⟩|⟨rfl,S,n,hk⟩
  ·obtain⟨its,_,pl,_⟩:=I.list hq
   refine⟨pl.isList.typeIs,fun a e=>?_⟩
   cases e
   obtain⟨o,n,e,c,hd,_⟩:=pl
   exact⟨o,e,hd⟩
  ·refine⟨⟨o,I.kIn p o hk,hc⟩,fun a e=>?_⟩
   cases e
   exact⟨o,I.kIn _ o hk,hd⟩
  ·have z:∃o,s.heap.get? p=some o∧o.ExactDict:=by
    rcases hk with⟨kvs,hk⟩|⟨kvs,hk⟩
    ·obtain⟨_,_,_,_,o,_,_,e,ex,_⟩:=I.hok p _ hk
     exact⟨o,e,ex⟩
    ·obtain⟨_,_,_,_,o,_,_,e,ex,_⟩:=I.hok p _ hk
     exact⟨o,e,ex⟩
   obtain⟨o,e,ex⟩:=z
   refine⟨⟨o,e,ex.1⟩,fun a e2=>?_⟩
   cases e2
   exact⟨o,e,ex.2.1⟩
  ·obtain⟨o,_,_,_,e,ex,_⟩:=I.hok p _ hk
   refine⟨⟨o,e,ex.1⟩,fun a e2=>?_⟩
   cases e2
   exact⟨o,e,ex.2.1⟩
 | _=>exact False.elim ty
def Oa (K:W.Frag)(T:String)(r:V→List V→Hp→VK→Prop)(to:TE)(t:TA):TE:=fun σ H Q=>to σ H fun x H1=>N9 K T x H1∧t σ H1 fun xs H2=>r x xs H2 Q
variable {o e:Expr}{es:List Expr}{to:TE}{t:TA}{name:Str}{apos cpos:Pos}{T id:String}{r:V→List V→Hp→VK→Prop}
theorem BB (pa:PlainAttrs T)(slot:Slot T name id)(hty:typeOf (.builtin id)=pure (.type "method_descriptor"))(hm:NE X id r)(ho:PE X o to)(ha:PA X (e::es) t)
  (hbase:attributeBase o name X.env (eval o X.env)=eval o X.env:=by rfl)
  (hfew:((backTo cpos (starEach (e::es) X.env)).all (fun x=>!x.1)&&(backToKw cpos (keywordEach [] X.env)).all (fun x=>x.1.isSome)
   && decide ((e::es).length+([]:List Keyword).length+(if([]:List Keyword).isEmpty then 0 else 1)<30))=true:=by rfl)
  (hline:(apos.endLine==cpos.line)=true:=by rfl) (hs:starEach (e::es) X.env=(false,eval e X.env)::starEach es X.env:=by rfl) (hplain:(backTo cpos (starEach es X.env)).any (·.1)=false:=by rfl) :
  PE X (.Call (.Attribute o name apos) (e::es) [] cpos) (Oa X.K T r to t):=by
 intro ah s σ H Q I h
 refine wpAny_Call_method_late hbase hfew hline rfl (cF (ho ah s σ H _ I h) fun v s1 ⟨x,H1,I1,r1,ty,q1⟩=>?_)
 obtain⟨h1,h2⟩:=G2 I1 r1 ty
 refine⟨T,id,pa,slot,hty,h1,h2,?_⟩
 have hA:=ha cpos ah s1 σ H1 _ I1 q1
 rw[hs] at hA ⊢
 refine Calls.callWith_builtin (by show(false||(backTo cpos (starEach es X.env)).any (·.1))=false;rw[hplain] <;> rfl) (Calls.evalArgs_plain ?_)
 exact cF hA fun us s2 ⟨vs,H2,I2,r2,q2⟩=>hm ah s2 σ H2 x vs v us Q I2 r1 r2 q2
end
def Oo (X:Cx)(id:String)(r:V→List V→Hp→VK→Prop):Prop:=
 ∀(ah:List (Addr×Obj)) (s:Shared) (σ:St) (H:Hp) (x:V) (xs:List V) (v:Value) (us:List Value) (Q:VK),Inv X ah σ H s→RelV x v→aZ xs us→r x xs H Q→
  wpAny (model X.prog X.w) X.A (call (.builtin id) (v::us)) (EP X ah σ Q) X.xe s
theorem aZ.one:∀{x:V} {us:List Value},aZ [x] us→∃u,us=[u]∧RelV x u
 | _,_,.cons r .nil=>⟨_,rfl,r⟩
theorem aZ.reverse (h:aZ xs us):aZ xs.reverse us.reverse:=by
 induction h with
 | nil=>exact .nil
 | cons r t ih=>rw[List.reverse_cons,List.reverse_cons];exact aZ.append ih (.cons r .nil)
section
variable {X:Cx}{ah:List (Addr×Obj)}{σ:St}{H:Hp}{s:Shared}{l b:Addr}{xs ys zs:List V}
theorem Inv.lset {its its':List Value}{n:Nat}{f:Array Value→Array Value}{t':Nat}(I:Inv X ah σ H s)(hH:H l=some (.lst xs))
  (e:s.heap.get? l=some {cls:=.type "list",data:=.seq its.toArray n}) (hf:f its.toArray=its'.toArray) (hv:aZ ys its') (hz:ys.length≤sizeLine) :
  Inv X ah σ (cj H l (.lst ys)) {s with heap:=s.heap.update l (Obj.mapSeq f),toks:=t'}:=by
 have q:=PySem.IsL.update e f
 rw[hf] at q
 refine I.write (x:=l) (e:=l) (by rw[hH];exact trivial) (.inl rfl) (fun b' u hb hu=>(Heap.get?_update_other s.heap (Obj.mapSeq f) (Ne.symm hb)).trans hu) ⟨_,q⟩ ?_
 exact⟨hz,its',_,hv,q⟩
theorem Inv.lnew {its:List Value}{t':Nat}(I:Inv X ah σ H s)(hv:aZ ys its)(hz:ys.length≤sizeLine) :
  Inv X ah σ (cj H s.heap.objs.size (.lst ys)) {s with heap:=s.heap.push {cls:=.type "list",data:=.seq its.toArray},toks:=t'}:=
 I.laid (fun _ _ q=>Heap.get?_push_of_some _ q) (Nat.le_refl _) ⟨hz,its,0,hv,Heap.get?_push_size _ rfl⟩
theorem Inv.fresh (I:Inv X ah σ H s):H s.heap.objs.size=none:=I.hok.fresh (Nat.le_refl _)
theorem Inv.lstM (I:Inv X ah σ H s)(hH:H l=some (.lst xs)):xs.length≤sizeLine∧∃(its:List Value) (n:Nat),aZ xs its∧xs.length=its.length∧s.heap.get? l=some {cls:=.type "list",data:=.seq its.toArray n}:=by
 obtain⟨z,its,n,r,e⟩:=I.hok l _ hH
 exact⟨z,its,n,r,r.length,e⟩
theorem Ba {n:Nat}(h:n≤sizeLine):Builtin.List.listTooLong n=false:=by
 unfold Builtin.List.listTooLong
 exact decide_eq_false (by omega)
end
section
variable {X:Cx}
def Dy:V→List V→Hp→VK→Prop:=fun x vs H Q=>∃l xs y,x=.ref l∧vs=[y]∧H l=some (.lst xs)∧xs.length<sizeLine∧Q .non (cj H l (.lst (xs++[y])))
theorem Ak:Oo X "list.append" Dy:=by
 intro ah s σ H x vs v us Q I rx rv h
 obtain⟨l,xs,y,rfl,rfl,hH,hz,q⟩:=h
 cases rx
 obtain⟨u,rfl,ru⟩:=rv.one
 obtain⟨z,its,n,r,hl,e⟩:=I.lstM hH
 refine call_meets F.slot_list_append ⟨_,e,rfl⟩ F.entry_list_append (F.args_list_append_2 _ _) (PySem.list_append l its.toArray n u (by rw[List.size_toArray];omega)) ⟨e,?_⟩
 refine⟨.non,_,I.lset (its':=its++[u]) hH e (by simp) (r.append (.cons ru .nil)) ?_,rfl,q⟩
 rw[List.length_append,List.length_singleton]
 omega
def NN:R2:=fun x y H Q=>∃l b xs zs,x=.ref l∧y=.ref b∧H l=some (.lst xs)∧H b=some (.lst zs)∧xs.length+zs.length≤sizeLine∧∀p,H p=none→Q (.ref p) (cj H p (.lst (xs++zs)))
theorem AD:iO X (binaryOp .Add) NN:=by
 intro ah s σ H x y v u Q I rx ry h
 obtain⟨l,b,xs,zs,rfl,rfl,hH,hB,hz,q⟩:=h
 cases rx
 cases ry
 obtain⟨z,its,n,r,hl,e⟩:=I.lstM hH
 obtain⟨z2,its2,n2,r2,hl2,e2⟩:=I.lstM hB
 refine PySem.P.add_list e e2 ?_ (by rw[List.size_toArray,List.size_toArray];omega)
 have ea:its.toArray++its2.toArray=(its++its2).toArray:=by simp
 rw[ea]
 exact⟨.ref _,_,I.lnew (t':=s.toks) (r.append r2) (by rw[List.length_append];omega),rfl,q _ I.fresh⟩
end
end L2
namespace Att
open PySem PySem.W PySem.Calls PyProof.Rows
variable{P:Params}
theorem pQ {h:Heap}:∀(ns:List Int) (vs:List Value),WellAll P h vs (ns.map WData.int)→IntsAre vs ns:=by
 intro ns
 induction ns with
 | nil=>
  intro vs w
  rw[List.map_nil] at w
  cases w
  exact .nil
 | cons n ns ih=>
  intro vs w
  rw[List.map_cons] at w
  cases w with
  | cons a b=>
   cases a
   exact .cons _ _ (ih _ b)
variable{l:OpenLaw}
theorem zJ {n:Nat}(hn:l.most=some n){h:Heap}{args:List WData}{vals:List Value}
  (hpre:l.row.toRowW.claim.pre args=true) (hwl:WellAll P h vals args) :
  ∃a vs ns,vals=[Value.ref a]∧args=[WData.list (ns.map WData.int)]∧h.get? a=some {cls:=.type "list",data:=.seq vs.toArray}∧IntsAre vs ns∧ns.length≤n:=by
 have hsh:WShape.hasAll [] args [.list .int]=true:=(pre_splitW hpre).1
 have hc:l.pre.holds [] {args:=args}=true:=(pre_splitW hpre).2
 obtain⟨d,r,rfl,h1,h2⟩:=hasAllW_cons hsh
 obtain rfl:=hasAllW_nil h2
 obtain⟨xs,rfl,h3⟩:=hasW_list h1
 obtain⟨ns,rfl⟩:=items_int h3
 have hlen:ns.length≤n:=by
  unfold OpenLaw.pre at hc
  have h4:(WTm.not (.lt (.lit (.int (n:Int))) (.len (.arg 0)))).holds [] {args:=[.list (ns.map .int)]}=true:=by
   have h4:=(holds_andW hc).1
   rw[hn] at h4
   exact h4
  have h5:=condW_of h4 (w_not (w_lt w_lit (w_len_list (w_arg rfl))))
  rw[List.length_map] at h5
  refine Nat.le_of_not_lt fun q=>?_
  have q':(n:Int)<((ns.length:Nat):Int):=by omega
  first
   | (rw[decide_eq_true q'] at h5;exact absurd h5 (by decide))
   | (simp at h5;omega)
 cases hwl with
 | cons w1 w2=>
  cases w2
  cases w1 with
  | list ho hall=>exact⟨_,_,ns,rfl,rfl,ho,pQ ns _ hall,hlen⟩
theorem zA (l:OpenLaw)(args:List WData):l.row.toRowW.claim.post args (.bool true) args=true:=
 postW_of (r:=l.row.toRowW) (X:=(true==true))
  (show WShape.has [] (.bool true) .bool=true by first|rfl|decide|simp[WShape.has,WShape.arms,WShape.armsAll])
  (show(WTm.eq .res (.lit (.bool true))).value [] {args:=args,res:=some (.bool true),after:=args}=some (.bool (true==true)) from w_eq_bool (w_res rfl) w_lit) rfl
theorem attach_call {n:Nat}{q:Program}{loose:List Str}{XP:(Str→Option Value)→Heap→Prop}{YP:World→Heap→Prop}{d:DefRec}
  (hn:l.most=some n) (hdf:d.params.defaults=[])
  (call:∀(w:World) (s₀ s₁:Shared) (mg mb:Str→Option Value) (fa:Addr) (o:Obj) (pm cd doc:Value) (a:Addr) (vs:List Value) (ns:List Int),
   Ground q loose [] XP w s₀ mg mb s₁.heap→YP w s₁.heap→
   s₁.heap.get? fa=some o→o.data=.func (docDef d.name d.params d.body d.scope pm cd doc)→s₁.heap.CodeRec cd d.name→mg d.name=some (.ref fa)→
   s₁.heap.get? a=some {cls:=.type "list",data:=.seq vs.toArray}→IntsAre vs ns→ns.length≤n→s₁.gens=#[]→
   codeAny (model l.prog w) callerA (.call (.ref fa) ⟨[.ref a],[]⟩) (fun r s'=>r=.ok (.ret (.bool true))∧OldK s₁.heap s'.heap∧s'.os=s₁.os∧AllBare s'.gens) s₁) :
  WalkO q loose XP YP l.row.toRowW d [] (fun f vs=>PySem.call f vs):=by
 intro w s₀ s₁ mg mb G Y fa o pm cd doc dV kV ho hd hcd hD hmg hg args vals as hpre hlay hrd hwl hlo
 obtain rfl:dV=.none:=Dflts.none hD hdf
 obtain rfl:kV=.none:=Dflts.noKw hD
 obtain⟨a,vs,ns,rfl,rfl,hobj,hints,hlen⟩:=zJ hn hpre hwl
 refine enter_call (codeAny_mono (call w s₀ s₁ mg mb fa o pm cd doc a vs ns G Y ho (fd_plain hd) hcd hmg hobj hints hlen hg) fun r s' hq=>?_)
 obtain⟨rfl,h2,h3,h4⟩:=hq
 exact⟨.inl ⟨.bool true,.bool true,[],rfl,fun _=>rfl,.bool true,zA l _,fun _=>⟨List.Pairwise.nil,fun _ hm=>(nomatch hm)⟩⟩,h2,h3,h4⟩
end Att
namespace L2
open PySem PySem.Spec PyProof.Rows
theorem tq:∀{vs:List Value} {ns:List Int},IntsAre vs ns→aZ (ns.map V.int) vs
 | _,_,.nil=>.nil
 | _,_,.cons n t h=>.cons ⟨t,rfl⟩ (tq h)
def iD (s:Stmt)(j:Nat):Stmt:=match s with
 | .ClassDef _ _ _ body _ _ _ _ _ _ _=>body.getD j (.Pass ⟨0,0,0,0⟩)
 | _=>.Pass ⟨0,0,0,0⟩
def fX (s:Stmt):Arguments:=match s with
 | .FunctionDef _ a _ _ _ _ _ _ _ _=>a
 | _=>{posonlyargs:=[],args:=[],vararg:=none,kwonlyargs:=[],kw_defaults:=[],kwarg:=none,defaults:=[]}
def cB (s:Stmt):List Stmt:=match s with
 | .FunctionDef _ _ b _ _ _ _ _ _ _=>b
 | _=>[]
def aO (s:Stmt):Scope:=match s with
 | .FunctionDef _ _ _ _ _ _ sc _ _ _=>sc
 | _=>{kind:=.function,names:=[],isGenerator:=false,isCoroutine:=false}
structure FA (K:W.Frag)(x qual:Str)(st:Stmt)(f:Addr)(fd:FuncData):Prop where
 ex:∃(oc:Value) (od:Option Addr) (kV doc pm:Value) (an:Option Addr) (cdv ct:Value) (osl:Array (Option Value)),
  fd=W.fnOf x qual (fX st) (cB st) (aO st) .none kV doc pm an cdv ct∧K.lookup f=some ⟨oc,od,.func fd,osl⟩∧W.codeIn K cdv qual=true
 kp:W.keepIn K (.ref f)=true
section
variable {P:Program}{w:World}{K:W.Frag}{mg:Str→Option Value}{base:Heap}
theorem FA.binds {x qual:Str}{st:Stmt}{f:Addr}{fd:FuncData}{ps:List Str}(F:FA K x qual st f fd)
  (h:∀(kV doc pm:Value) (an:Option Addr) (cdv ct:Value) (us:List Value),us.length=ps.length→bindArgs (W.fnOf x qual (fX st) (cB st) (aO st) .none kV doc pm an cdv ct) ⟨us,[]⟩=pure (ps.zip us)):fg K fd ps []:=by
 obtain⟨oc,od,kV,doc,pm,an,cdv,ct,osl,rfl,lk,hcd⟩:=F.ex
 exact .all (h kV doc pm an cdv ct)
theorem oK {x qual:Str}{st:Stmt}{f:Addr}{oc:Value}{od an:Option Addr}{osl:Array (Option Value)}{kV doc pm cdv ct:Value}(l:K.lookup f=some ⟨oc,od,.func (W.fnOf x qual (fX st) (cB st) (aO st) .none kV doc pm an cdv ct),osl⟩)
  (c:W.codeIn K cdv qual=true) (k:W.keepIn K (.ref f)=true):FA K x qual st f (W.fnOf x qual (fX st) (cB st) (aO st) .none kV doc pm an cdv ct):=⟨⟨oc,od,kV,doc,pm,an,cdv,ct,osl,rfl,l,c⟩,k⟩
end
theorem J0 {A:Around}{k:Nat}(hr:bI k A):A.units+1<cLine:=Nat.lt_of_le_of_lt (Nat.add_le_add_left (by decide:1≤64) _) hr.units
variable{y:V}{u:Value}
section
variable {κ:Type}[DecidableEq κ]
def ni (kvs:List (κ×V))(k:κ):Option V:=(kvs.find? fun kv=>decide (kv.1=k)).map (·.2)
def pN (kvs:List (κ×V))(k:κ)(v:V):List (κ×V):=
 if(kvs.any fun kv=>decide (kv.1=k))=true then kvs.map (fun kv=>if kv.1=k then(kv.1,v) else kv) else kvs++[(k,v)]
theorem oj {p:κ×V}{r:List (κ×V)}{k:κ}(e:p.1=k):ni (p::r) k=some p.2:=by simp[ni,List.find?_cons,e]
theorem oi {p:κ×V}{r:List (κ×V)}{k:κ}(e:¬p.1=k):ni (p::r) k=ni r k:=by simp[ni,List.find?_cons,e]
theorem qi (k:κ):∀kvs:List (κ×V),(kvs.any fun kv=>decide (kv.1=k))=(ni kvs k).isSome
 | []=>rfl
 | p::r=>by
  rw[List.any_cons]
  by_cases e:p.1=k
  ·simp only[oj e,decide_eq_true e,Bool.true_or,Option.isSome_some]
  ·rw[oi e,decide_eq_false e,Bool.false_or];exact qi k r
theorem pp (kvs:List (κ×V))(k:κ)(v:V):(pN kvs k v).length≤kvs.length+1:=by
 unfold pN
 split
 ·rw[List.length_map];omega
 ·rw[List.length_append,List.length_cons,List.length_nil];omega
theorem vG {kvs:List (κ×V)}{k:κ}(v:V)(h:ni kvs k=none):pN kvs k v=kvs++[(k,v)]:=by
 unfold pN
 rw[qi,h]
 exact if_neg (by decide)
theorem lA.isSome_eq {o:Option V}{u:Option Value}(r:lA o u):o.isSome=u.isSome:=by
 cases o with
 | none=>cases u with
  | none=>rfl
  | some _=>exact(show False from r).elim
 | some _=>cases u with
  | none=>exact(show False from r).elim
  | some _=>rfl
theorem KV.val {kvs:List (κ×V)}{vs:List (κ×Value)}(r:KV kvs vs)(k:κ):lA (ni kvs k) (valueAt vs k):=by
 unfold KV at r
 induction r with
 | nil=>exact True.intro
 | @cons p q ps qs h t ih=>
  obtain⟨h1,h2⟩:=h
  by_cases e:p.1=k
  ·have e':q.1=k:=h1.symm.trans e
   have b:valueAt (q::qs) k=some q.2:=by simp[valueAt,List.find?_cons,e']
   rw[oj e,b];exact h2
  ·have e':¬q.1=k:=fun z=>e (h1.trans z)
   have b:valueAt (q::qs) k=valueAt qs k:=by simp[valueAt,List.find?_cons,e']
   rw[oi e,b];exact ih
theorem KV.any {kvs:List (κ×V)}{vs:List (κ×Value)}(r:KV kvs vs)(k:κ):(kvs.any fun kv=>decide (kv.1=k))=vs.any fun kv=>decide (kv.1=k):=by
 unfold KV at r
 induction r with
 | nil=>rfl
 | cons h t ih=>rw[List.any_cons,List.any_cons,ih,h.1]
theorem KV.repl {kvs:List (κ×V)}{vs:List (κ×Value)}(r:KV kvs vs)(k:κ)(ry:RelV y u) :
  KV (kvs.map fun kv=>if kv.1=k then(kv.1,y) else kv) (vs.map fun kv=>if kv.1=k then(kv.1,u) else kv):=by
 unfold KV at r ⊢
 induction r with
 | nil=>exact .nil
 | @cons p q ps qs h t ih=>
  rw[List.map_cons,List.map_cons]
  refine .cons ?_ ih
  obtain⟨h1,h2⟩:=h
  by_cases e:p.1=k
  ·rw[if_pos e,if_pos (h1.symm.trans e)];exact⟨h1,ry⟩
  ·rw[if_neg e,if_neg (fun z=>e (h1.trans z))];exact⟨h1,h2⟩
theorem KV.put {kvs:List (κ×V)}{vs:List (κ×Value)}(r:KV kvs vs)(k:κ)(ry:RelV y u):KV (pN kvs k y) (stored vs k u):=by
 unfold pN stored
 rw[r.any k]
 by_cases e:(vs.any fun kv=>decide (kv.1=k))=true
 ·rw[if_pos e,if_pos e];exact r.repl k ry
 ·rw[if_neg e,if_neg e];exact Paired.snoc r ⟨rfl,ry⟩
theorem KV.length {kvs:List (κ×V)}{vs:List (κ×Value)}(r:KV kvs vs):kvs.length=vs.length:=Paired.length r
end
variable{P:Program}{w:World}
theorem Cp {k:dH}(r:RelV (kV k) u):(cD P w).is k u=true:=by
 cases k with
 | inl i=>obtain⟨t,e⟩:=(show∃t,u=Value.int i t from r);subst e;exact vB P w i t
 | inr x=>obtain⟨t,e⟩:=(show∃t,u=Value.str x t from r);subst e;exact vZ P w x t
theorem tB {P:Program}{w:World}:∀{ks:List dH} {us:List Value},aZ (ks.map kV) us→ItemsAre (cD P w) ks us
 | [],_,r=>by rw[List.map_nil] at r;cases r;exact .nil
 | k::ks,_,r=>by
  rw[List.map_cons] at r
  cases r with
  | cons h t=>exact .cons (Cp h) (tB t)
abbrev KT (H:Hp):List (List dH×V)→List (List dH×Addr×Value)→Prop:=Paired fun p q=>p.1=q.1∧H q.2.1=some (.tup (p.1.map kV))∧RelV p.2 q.2.2
variable{H:Hp}{kvs:List (List dH×V)}{xs:List (List dH×Addr×Value)}
theorem KT.val (r:KT H kvs xs)(k:List dH):lA (ni kvs k) ((atKey xs k).map (·.2)):=by
 induction r with
 | nil=>exact True.intro
 | @cons p q ps qs h t ih=>
  obtain⟨h1,_,h2⟩:=h
  by_cases e:p.1=k
  ·have e':q.1=k:=h1.symm.trans e
   have b:atKey (q::qs) k=some q.2:=by simp[atKey,List.find?_cons,e']
   rw[oj e,b];exact h2
  ·have e':¬q.1=k:=fun z=>e (h1.trans z)
   have b:atKey (q::qs) k=atKey qs k:=by simp[atKey,List.find?_cons,e']
   rw[oi e,b];exact ih
theorem KT.repl (r:KT H kvs xs)(k:List dH)(ry:RelV y u) :
  KT H (kvs.map fun kv=>if kv.1=k then(kv.1,y) else kv) (xs.map (putAt k u)):=by
 induction r with
 | nil=>exact .nil
 | @cons p q ps qs h t ih=>
  rw[List.map_cons,List.map_cons]
  refine .cons ?_ ih
  obtain⟨h1,h2,h3⟩:=h
  unfold putAt
  by_cases e:p.1=k
  ·rw[if_pos e,if_pos (h1.symm.trans e)];exact⟨h1,h2,ry⟩
  ·rw[if_neg e,if_neg (fun z=>e (h1.trans z))];exact⟨h1,h2,h3⟩
theorem KT.put (r:KT H kvs xs)(k:List dH){b:Addr}(hb:H b=some (.tup (k.map kV)))(ry:RelV y u) :
  KT H (pN kvs k y) (storedH xs k b u):=by
 have e:(kvs.any fun kv=>decide (kv.1=k))=(atKey xs k).isSome:=by
  rw[qi,(r.val k).isSome_eq,Option.isSome_map]
 unfold pN storedH
 rw[e]
 by_cases q:(atKey xs k).isSome=true
 ·rw[if_pos q,if_pos q];exact r.repl k ry
 ·rw[if_neg q,if_neg q];exact Paired.snoc r ⟨rfl,hb,ry⟩
theorem KT.keeps {H':Hp}(r:KT H kvs xs)(ht:∀b ys,H b=some (.tup ys)→H' b=some (.tup ys)):KT H' kvs xs:=
 Paired.mapP r fun _ _ z=>⟨z.1,ht _ _ z.2.1,z.2.2⟩
section
variable {P:Program}{w:World}{H:Hp}{h:Heap}{a:Addr}
theorem FL {u:HO}(ok:lN P w H h)(e:Rd H a u):cP P w H h a u:=e.ok ok
theorem Cy {kvs:List (dH×V)}(ok:lN P w H h)(e:Rd H a (.dK kvs)):kvs.length≤sizeLine∧(a==sysModules)=false∧∃vs,KV kvs vs∧h.DictOf (cD P w) a vs:=
 show cP P w H h a (.dK kvs) from FL ok e
theorem Mh {kvs:List (dH×V)}(ok:lN P w H h)(e:H a=some (.dK kvs)):kvs.length≤sizeLine∧(a==sysModules)=false∧∃vs,KV kvs vs∧h.DictOf (cD P w) a vs:=Cy ok (.inl e)
theorem wV {ks:List dH}(ok:lN P w H h)(e:H a=some (.tup (ks.map kV))):(tupleKind (cD P w)).is h ks a:=by
 obtain⟨_,its,r,o,h1,h2,n,h3⟩:=(show cP P w H h a (.tup (ks.map kV)) from ok a _ e)
 exact⟨o,its.toArray,n,h1,h2,h3,by simpa using tB r⟩
theorem CI (ok:lN P w H h)(e:Rd H a (.dT kvs)):kvs.length≤sizeLine∧(a==sysModules)=false∧
  ∃xs,KT H kvs xs∧h.DictOfH (tupleKind (cD P w)) a xs:=by
 obtain⟨z,y,xs,r,o,es,ep,h1,h2,h3,h4,h5⟩:=(show cP P w H h a (.dT kvs) from FL ok e)
 refine⟨z,y,xs,r,o,es,ep,h1,h2,h3,h4,fun x hx=>?_,h5⟩
 have all:∀{l:List (List dH×V)} {m:List (List dH×Addr×Value)},KT H l m→∀x∈m,(tupleKind (cD P w)).is h x.1 x.2.1:=by
  intro l m q
  induction q with
  | nil=>intro x hx;exact nomatch hx
  | @cons p q ps qs hq t ih=>
   intro x hx
   rcases List.mem_cons.mp hx with e|hx
   ·subst e
    exact wV ok (by rw[←hq.1];exact hq.2.1)
   ·exact ih x hx
 exact all r x hx
theorem JX (ok:lN P w H h)(e:H a=some (.dT kvs)):kvs.length≤sizeLine∧(a==sysModules)=false∧
  ∃xs,KT H kvs xs∧h.DictOfH (tupleKind (cD P w)) a xs:=CI ok (.inl e)
end
def MY (H:Hp)(a:Addr)(y:V)(r:Option V):Prop:=
 (∃kvs k,Rd H a (.dK kvs)∧y=kV k∧r=ni kvs k)∨∃kvs k b,Rd H a (.dT kvs)∧y=.ref b∧H b=some (.tup (k.map kV))∧r=ni kvs k
section
variable {X:Cx}{ah:List (Addr×Obj)}{σ:St}{H:Hp}{s:Shared}{a:Addr}{y v:V}{u r:Value}{o:Option V}{A:Around}{E:Value→Shared→Prop}
theorem Inv.big (I:Inv X ah σ H s):sysModules<s.heap.objs.size:=by
 have h:mainGlobals<s.heap.objs.size:=(I.mod.glob.keeps I.bk).lt
 exact Nat.lt_trans (by decide) h
theorem yC {h':Heap}{t':Nat}{ob:HO}(I:Inv X ah σ H s)(mu:Mo (H a))(hs:Heap.SameBut a s.heap h')(he:∃q,h'.get? a=some q)(new:cP X.prog X.w (cj H a ob) h' a ob) :
  Inv X ah σ (cj H a ob) {s with heap:=h',toks:=t'}:=
 I.write (x:=a) (e:=a) mu (.inl rfl) (fun b q hb z=>(hs.2 b hb).trans z) he new
theorem GB {H':Hp}{h':Heap}{kvs:List (dH×V)}{vs:List (dH×Value)}(z:kvs.length≤sizeLine)(hd:(a==sysModules)=false)(rel:KV kvs vs)(dd:h'.DictOf (cD P w) a vs) :
  cP P w H' h' a (.dK kvs):=⟨z,hd,vs,rel,dd⟩
end
theorem AC (h:Heap)(hb:sysModules<h.objs.size):cP P w H (h.push {cls:=.type "dict",data:=.dict #[]}) h.objs.size (.dK []):=
 ⟨Nat.zero_le _,beq_eq_false_iff_ne.mpr (Ne.symm (Nat.ne_of_lt hb)),[],.nil,Heap.DictOf.new h⟩
theorem Dc (h:Heap)(hb:sysModules<h.objs.size):cP P w H (h.push {cls:=.type "dict",data:=.dict #[]}) h.objs.size (.dT []):=
 ⟨Nat.zero_le _,beq_eq_false_iff_ne.mpr (Ne.symm (Nat.ne_of_lt hb)),[],.nil,_,#[],0,Heap.get?_push_size _ rfl,⟨rfl,rfl,rfl⟩,rfl,rfl,List.nodup_nil⟩
def Jx:TE:=fun _ H Q=>∀p,H p=none→Q (.ref p) (cj H p (.dK []))
def GJ:TE:=fun _ H Q=>∀p,H p=none→Q (.ref p) (cj H p (.dT []))
section
variable {X:Cx}{pos:Pos}
theorem A2:PE X (.Dict [] [] pos) Jx:=fun ah s σ H Q I h=>
 wpAny_Dict_empty ⟨.ref s.heap.objs.size,_,I.laid (a:=s.heap.objs.size) (o:=.dK []) (t':=s.toks) (fun _ _ q=>Heap.get?_push_of_some _ q) (Nat.le_refl _) (AC s.heap I.big),rfl,h _ (I.hok.fresh (Nat.le_refl _))⟩
theorem AQ:PE X (.Dict [] [] pos) GJ:=fun ah s σ H Q I h=>
 wpAny_Dict_empty ⟨.ref s.heap.objs.size,_,I.laid (a:=s.heap.objs.size) (o:=.dT []) (t':=s.toks) (fun _ _ q=>Heap.get?_push_of_some _ q) (Nat.le_refl _) (Dc s.heap I.big),rfl,h _ (I.hok.fresh (Nat.le_refl _))⟩
end
abbrev VV:List (V×V)→List (Value×Value)→Prop:=Paired fun p q=>RelV p.1 q.1∧RelV p.2 q.2
structure M1 (X:Cx)(o:Expr)(m:Str)(apos:Pos)(e:Expr)(cpos:Pos):Prop where
 base:attributeBase o m X.env (eval o X.env)=eval o X.env
 few:((backTo cpos (starEach [e] X.env)).all (fun x=>!x.1)&&(backToKw cpos (keywordEach [] X.env)).all (fun x=>x.1.isSome)
  && decide (([e]:List Expr).length+([]:List Keyword).length+(if([]:List Keyword).isEmpty then 0 else 1)<30))=true
 line:(apos.endLine==cpos.line)=true
 trees:backTo cpos (starEach [e] X.env)=[(false,eval e X.env)]
structure M2 (X:Cx)(o:Expr)(m:Str)(apos:Pos)(e f:Expr)(cpos:Pos):Prop where
 base:attributeBase o m X.env (eval o X.env)=eval o X.env
 few:((backTo cpos (starEach [e,f] X.env)).all (fun x=>!x.1)&&(backToKw cpos (keywordEach [] X.env)).all (fun x=>x.1.isSome)
  && decide (([e,f]:List Expr).length+([]:List Keyword).length+(if([]:List Keyword).isEmpty then 0 else 1)<30))=true
 line:(apos.endLine==cpos.line)=true
 trees:backTo cpos (starEach [e,f] X.env)=[(false,eval e X.env),(false,eval f X.env)]
def NF (H:Hp)(a:Addr):Prop:=(∃kvs,Rd H a (.dK kvs))∨∃kvs,Rd H a (.dT kvs)
theorem GC {X:Cx}{ah:List (Addr×Obj)}{σ:St}{s:Shared}{a:Addr}(I:Inv X ah σ H s)(d:NF H a) :
  s.TypeIs (.ref a) "dict"∧(∀b,Value.ref a=.ref b→∃ob,s.heap.get? b=some ob∧ob.dict=none)∧(a==sysModules)=false:=by
 rcases d with⟨kvs,e⟩|⟨kvs,e⟩
 ·obtain⟨_,hd,vs,_,dd⟩:=Cy I.hok e
  refine⟨dd.typeIs,fun b q=>?_,hd⟩
  cases q
  obtain⟨ob,_,_,h1,h2,_⟩:=dd
  exact⟨ob,h1,h2.2.1⟩
 ·obtain⟨_,hd,xs,_,dd⟩:=CI I.hok e
  refine⟨dd.typeIs,fun b q=>?_,hd⟩
  cases q
  obtain⟨ob,_,_,h1,h2,_⟩:=dd
  exact⟨ob,h1,h2.2.1⟩
end L2
namespace Att
open PySem PySem.W PySem.Calls PyProof.Rows
end Att
namespace L2
open PySem PySem.Spec PyProof.Rows
end L2
namespace DL
open PySem PySem.Spec PyProof.Rows L2
structure Jn (X:Cx)(ah:List (Addr×Obj))(H:Hp)(B:Heap):Prop where
 trk:∀b o,H b=some o→∃o',B.get? b=some o'
 pin:∀p∈X.pn++ah,∃o',B.get? p.1=some o'
 old:∀b o,X.s₀.heap.get? b=some o→b∉X.ex→b∉rM X.stack→∃o',B.get? b=some o'
def N0 (X:Cx)(H:Hp)(a C:Addr)(s:Shared):Prop:=∃ah σ,
 (∃h vs,L2.Inv X ah σ H {s with heap:=h}∧Heap.MadeExcOf h s.heap a (.ref C) vs)∨
 (L2.Inv X ah σ H s∧H a=none∧∃B a0,Heap.FlyingW B X.stack a (.ref C) a0 s.heap∧Jn X ah H B)∨
 (L2.Inv X ah σ H s∧H a=none∧∃B a0 L,X.env.frame=some L∧Heap.HeldW B X.stack a (.ref C) a0 L s.heap∧Jn X ah H B)
def dm (K:W.Frag)(c:Str)(C:Addr):Prop:=W.nsIn K mainGlobals c=some (some (.ref C))
variable{K:W.Frag}
theorem dm.inj {c:Str}{C C':Addr}(a:dm K c C)(b:dm K c C'):C=C':=by
 unfold dm at a b
 rw[a] at b
 cases b;rfl
variable{P:Program}{w:World}{H:Hp}{a:Addr}{o:HO}
theorem qD {h:Heap}(x:cP P w H h a o):∃u,h.get? a=some u:=by
 cases o with
 | lst xs=>obtain⟨_,_,_,_,e⟩:=x;exact⟨_,e⟩
 | tup xs=>obtain⟨_,_,_,o,e,_⟩:=x;exact⟨_,e⟩
 | dK kvs=>obtain⟨_,_,_,_,o,_,_,e,_⟩:=x;exact⟨_,e⟩
 | dT kvs=>obtain⟨_,_,_,_,o,_,_,e,_⟩:=x;exact⟨_,e⟩
 | set S n=>obtain⟨o,_,_,_,e,_⟩:=x;exact⟨_,e⟩
 | ins C dx fs=>obtain⟨_,_,_,e,_⟩:=x;exact⟨_,e⟩
 | own y=>obtain⟨_,e⟩:=x;exact⟨_,e⟩
 | xd fs=>obtain⟨_,⟨_,_,_,e,_⟩,_⟩:=x;exact⟨_,e⟩
 | rng lo hi=>obtain⟨_,_,_,e⟩:=x;exact⟨_,e⟩
 | frz ob u=>obtain⟨e,_⟩:=x;exact⟨_,e⟩
 | tbl ps=>exact⟨_,show h.get? a=some _ from x⟩
 | met f y=>exact⟨_,show h.get? a=some _ from x⟩
 | ext φ=>obtain⟨_,⟨_,e⟩,_⟩:=x;exact⟨_,e⟩
section
variable {X:Cx}{ah:List (Addr×Obj)}{σ:List (Option V)}{H:Hp}{s:Shared}{B h':Heap}{a C:Addr}
theorem p5 (I:L2.Inv X ah σ H s){b:Addr}{o:Obj}(e:X.s₀.heap.get? b=some o)(n:b∉X.fs):b∉rM X.stack:=fun z=>by
 rcases List.mem_cons.mp (I.stkSub b z) with q|q
 ·have h1:=Heap.lt_size e
  rw[q] at h1
  exact absurd (Nat.lt_of_lt_of_le h1 I.ok.above) (Nat.lt_irrefl _)
 ·exact n q
theorem yp {h h':Heap}{c:Addr}{v:Option Value}(u:h.UpToSlots h')(x:h.IsCell c v):h'.IsCell c v:=by
 obtain⟨o,e,d⟩:=x
 obtain⟨sl,e'⟩:=u c o e fun vs q=>by rw[d] at q;cases q
 exact⟨_,e',d⟩
theorem lW (I:L2.Inv X ah σ H s)(gE:Jn X ah H B)(hB:B.StaysIn s.heap)(hB':B.StaysIn h')(up:s.heap.UpToSlots h'):L2.Inv X ah σ H {s with heap:=h'}:=by
 have keepB:∀b o o',B.get? b=some o'→s.heap.get? b=some o→h'.get? b=some o:=fun b o o' e1 e2=>by
  have:=hB b o' e1
  rw[e2] at this;cases this
  exact hB' b _ e1
 refine⟨I.ok,I.os,I.bare,⟨fun b o e n nf nx=>?_,fun b o e n hf nx=>?_,fun b o e n nx=>I.base.free b o e n nx,fun b o e nx=>?_,I.base.tups,I.base.frzs,I.base.tbls⟩,?_,fun x c e=>?_,I.free,I.freeC,fun p hp=>?_,fun b o e=>?_,I.len⟩
 ·obtain⟨o',e'⟩:=gE.old b o e nx (p5 I e nf)
  exact keepB b o o' e' (I.base.keep b o e n nf nx)
 ·obtain⟨sl,e1⟩:=I.base.slot b o e n hf nx
  obtain⟨_,ob,e2,nf⟩:=I.funs.mem hf
  rw[e1] at e2;cases e2
  obtain⟨sl',e3⟩:=up b _ e1 nf
  exact⟨sl',e3⟩
 ·by_cases hf:b∈X.fs
  ·obtain⟨_,ob,e2,nf⟩:=I.funs.mem hf
   obtain⟨sl',e3⟩:=up b _ e2 nf
   exact⟨_,e3⟩
  ·obtain⟨o',e'⟩:=gE.old b o e nx (p5 I e hf)
   exact⟨o',hB' b o' e'⟩
 ·obtain⟨m,hn,hl⟩:=I.loc
  refine⟨m,up.ns hn,fun i x v e1 e2 e3=>?_⟩
  obtain⟨u,r,lk⟩:=hl i x v e1 e2 e3
  refine⟨u,r,?_⟩
  rcases lk with lk|⟨k,c,ec,ic⟩
  ·exact .inl lk
  ·exact .inr ⟨k,c,ec,yp up ic⟩
 ·obtain⟨v,ic⟩:=I.cell x c e
  exact⟨v,yp up ic⟩
 ·obtain⟨e,n,ne,nf,d⟩:=I.pin p hp
  obtain⟨o',e'⟩:=gE.pin p hp
  exact⟨keepB p.1 p.2 o' e' e,n,ne,nf,d⟩
 ·refine(I.hok b o e).stay (fun c u hc q=>?_) (fun _ q=>q) fun _ _ q=>q
  have:∃o,H c=some o:=by
   rcases hc with z|z
   ·exact⟨o,by rw[z];exact e⟩
   ·exact⟨_,z⟩
  obtain⟨oc,ec⟩:=this
  obtain⟨o',e'⟩:=gE.trk c oc ec
  exact keepB c u o' e' q
theorem wj (I:L2.Inv X ah σ H s):Jn X ah H (W.hideAll s.heap (rM X.stack)):=by
 refine⟨fun b o e=>?_,fun p hp=>?_,fun b o e nx nf=>?_⟩
 ·obtain⟨u,q⟩:=qD (I.hok b o e)
  exact⟨u,W.hideAll_get _ q fun z=>by rw[I.stkFree b z] at e;cases e⟩
 ·obtain⟨e,n,ne,nf,d⟩:=I.pin p hp
  exact⟨p.2,W.hideAll_get _ e fun z=>by
   rcases List.mem_cons.mp (I.stkSub _ z) with q|q
   ·exact ne q
   ·exact nf q⟩
 ·obtain⟨o',e'⟩:=I.base.there b o e nx
  exact⟨o',W.hideAll_get _ e' nf⟩
theorem pe (I:L2.Inv X ah σ H s):s.heap.FunFrames (W.hideAll s.heap (rM X.stack)) X.stack:=
 W.funFrames_hide I.stack fun env he b hb=>List.mem_filterMap.mpr ⟨env,he,hb⟩
theorem tJ {vs:List Value}{h:Heap}(I:L2.Inv X ah σ H {s with heap:=h})(m:Heap.MadeExcOf h s.heap a (.ref C) vs):H a=none:=by
 cases q:H a with
 | none=>rfl
 | some o=>
  obtain⟨u,e⟩:=qD (I.hok a o q)
  have e:h.get? a=some u:=e
  rw[m.new] at e;cases e
end
def ik (P:Program)(w:World):Ad:=fun outer H s E e s'=>∃a C H' B a0,e=.ref a∧s'.os=s.os∧AllBare s'.gens∧Un (rM outer) [] H H' s.heap s'.heap∧lN P w H' s'.heap∧H' a=none∧
 Heap.FlyingW B outer a (.ref C) a0 s'.heap∧(∀b o,H' b=some o→∃o',B.get? b=some o')∧(∀b o,s.heap.get? b=some o→b∉rM outer→∃o',B.get? b=some o')∧E (.ref C) (some a) H'
variable{mg:Str→Option Value}{base:Heap}{scope:Scope}{f:Addr}{A:Around}{s:Shared}{E:XK}
theorem m6 {N:List Str}{qual:Str}{cdv:Value}{outer:List Env}{s':Shared}{H':Hp}{C:Addr}
  (fl:N0 (io (ik P w) P w K mg base N qual scope f cdv A outer s H E) H' a C s') (hE:E (.ref C) (some a) H'):(io (ik P w) P w K mg base N qual scope f cdv A outer s H E).xe (.ref a) s':=by
 show wpAny (model P w) (A.deeper (envOfC qual scope s.heap.objs.size f cdv)) (leaving (envOfC qual scope s.heap.objs.size f cdv) (.ref a)) (fun _ s''=>ik P w outer H s E (.ref a) s'') (fun e' s''=>ik P w outer H s E e' s'') s'
 obtain⟨ah,σ,fl⟩:=fl
 have key:∀(B:Heap) (a0:Value) (h':Heap) (I:L2.Inv (io (ik P w) P w K mg base N qual scope f cdv A outer s H E) ah σ H' s'),B.StaysIn s'.heap→Jn (io (ik P w) P w K mg base N qual scope f cdv A outer s H E) ah H' B→H' a=none→
   Heap.FlyingW B outer a (.ref C) a0 h'→s'.heap.UpToSlots h'→ik P w outer H s E (.ref a) {s' with heap:=h'}:=fun B a0 h' I hB gE hn fl' up=>by
  have I':=lW I gE hB fl'.1 up
  refine⟨a,C,H',B,a0,rfl,I'.os,I'.bare,I'.base,I'.hok,hn,fl',gE.trk,fun b o e nf=>?_,hE⟩
  exact gE.old b o e (by show b∉([]:List Addr);simp) (p5 I e nf)
 rcases fl with⟨h,vs,I,m⟩|⟨I,hn,B,a0,fl,gE⟩|⟨I,hn,B,a0,L,hL,held,gE⟩
 ·have gE:=wj I
  have hid:∀b o,(W.hideAll h (rM (io (ik P w) P w K mg base N qual scope f cdv A outer s H E).stack)).get? b=some o→h.get? b=some o:=fun b o q=>W.of_hideAll _ q
  refine wpAny_leaves_madeW (env:=envOfC qual scope s.heap.objs.size f cdv) (outer:=outer) I.ok.frames rfl hid (pe I) m fun h' t x1 x2 x3 x4=>?_
  exact key _ _ h' (I.kept (t':=s'.toks) (h':=s'.heap) m.keeps) (fun b o q=>m.keeps b o (hid b o q)) gE (tJ I m) x1 x4
 ·refine wpAny_leaves_onW (env:=envOfC qual scope s.heap.objs.size f cdv) (outer:=outer) I.ok.frames rfl fl fun h' x1 x2=>?_
  exact key B a0 h' I fl.1 gE hn x1 x2
 ·unfold leaving
  refine wpAny_bind (wpAny_noteFrame_againW hL held.2.2.2 ?_)
  refine wpAny_landsW held fun h' x1 x2=>?_
  obtain⟨k1,k2,⟨_,_,k3⟩,k4⟩:=x1
  exact key B a0 h' I held.1 gE hn ⟨k1,k2,k3,k4⟩ x2
variable{ah:List (Addr×Obj)}{σ:L2.St}
theorem z9 {X:Cx}{e:Value}{s':Shared}(I:L2.Inv X ah σ H s)(h:ik X.prog X.w X.stack H s E e s'):∃a C H',e=.ref a∧N0 X H' a C s'∧E (.ref C) (some a) H':=by
 obtain⟨a,C,H',B,a0,rfl,os,bare,un,hok,hn,fl,trk,old,hE⟩:=h
 refine⟨a,C,H',rfl,⟨ah,σ,.inr (.inl ⟨I.call' os un hok bare (fun b z=>absurd z (by simp)),hn,B,a0,fl,trk,fun p hp=>?_,fun b o eb nx nf=>?_⟩)⟩,hE⟩
 ·obtain⟨eb,n,ne,nf,d⟩:=I.pin p hp
  exact old p.1 p.2 eb fun z=>by
   rcases List.mem_cons.mp (I.stkSub _ z) with q|q
   ·exact ne q
   ·exact nf q
 ·obtain⟨o',e'⟩:=I.base.there b o eb nx
  exact old b o' e' nf
inductive D where
 | non|bl (b:Bool)|int (i:Int)|str (x:Str)|tup (xs:List D)|lst (xs:List D)|ro (xs:List D)|mr (i:Nat)|exc (c:Str)|any
instance:Inhabited D:=⟨.non⟩
inductive MO where
 | lst (xs:List D)|obj (c:Str) (fs:List (Str×D))|dK (kvs:List (dH×D))|dT (kvs:List (List dH×D))
instance:Inhabited MO:=⟨.lst []⟩
abbrev aA:=List MO
abbrev cr:=List (Option D)
inductive bn (α:Type) where
 | ok (a:α) (M:aA)
 | err (c:Str) (M:aA)
 | bad
def bn.bind {α β:Type}(o:bn α)(f:α→aA→bn β):bn β:=
 match o with
 | .ok a M=>f a M
 | .err c M=>.err c M
 | .bad=>.bad
@[simp] theorem ao {α β:Type} (a:α) (M:aA) (f:α→aA→bn β):(bn.ok a M).bind f=f a M:=by rw[bn.bind]
@[simp] theorem Mm {α β:Type} (c:Str) (M:aA) (f:α→aA→bn β):(bn.err c M:bn α).bind f=.err c M:=by rw[bn.bind]
@[simp] theorem Kr {α β:Type} (f:α→aA→bn β):(bn.bad:bn α).bind f=.bad:=by rw[bn.bind]
def Ox (K:W.Frag)(a:Addr)(xs:List V):Prop:=∃(o:Obj) (its:Array Value) (n:Nat),K.lookup a=some o∧o.cls=.type "tuple"∧o.data=.seq its n∧its.size≤sizeLine∧aZ xs its.toList
def KL (K:W.Frag)(a:Addr)(xs:List V):Prop:=∃(o:Obj) (its:Array Value) (n:Nat),K.lookup a=some o∧o.cls=.type "list"∧o.dict=none∧o.data=.seq its n∧its.size≤sizeLine∧aZ xs its.toList
def nC (K:W.Frag)(θ:List Addr)(H:Hp)(a:Addr)(xs:List V):Prop:=H a=some (.tup xs)∧a∉θ
def tQ (θ:List Addr)(H:Hp)(a:Addr)(xs:List V):Prop:=H a=some (.lst xs)∧a∉θ
def rS (K:W.Frag)(θ:List Addr)(H:Hp)(a:Addr)(xs:List V):Prop:=(Rd H a (.lst xs)∧a∉θ)∨KL K a xs
variable{θ:List Addr}{xs:List V}
theorem nC.sq (h:nC K θ H a xs):pV K H a xs:=.inl (.inl h.1)
theorem tQ.sq (h:tQ θ H a xs):mE K H a xs:=.inl (.inl h.1)
theorem rS.sq (h:rS K θ H a xs):mE K H a xs:=by
 rcases h with⟨h,_⟩|h
 ·exact .inl h
 ·exact .inr h
def Dv (a C:Addr):HO:=.ext fun h=>∃o,h.get? a=some o∧o.cls=.ref C
mutual
def dq (K:W.Frag)(θ:List Addr)(H:Hp):D→V→Prop
 | .non,v=>v=.non
 | .bl b,v=>v=.bl b
 | .int i,v=>v=.int i
 | .str x,v=>v=.str x
 | .tup ds,v=>∃a vs,v=.ref a∧nC K θ H a vs∧bA K θ H ds vs
 | .lst ds,v=>∃a vs,v=.ref a∧tQ θ H a vs∧bA K θ H ds vs
 | .ro ds,v=>∃a vs,v=.ref a∧rS K θ H a vs∧bA K θ H ds vs
 | .mr i,v=>∃a,v=.ref a∧θ[i]?=some a
 | .exc c,v=>∃a C,v=.ref a∧dm K c C∧H a=some (Dv a C)∧a∉θ
 | .any,_=>True
def bA (K:W.Frag)(θ:List Addr)(H:Hp):List D→List V→Prop
 | [],vs=>vs=[]
 | d::ds,vs=>∃v r,vs=v::r∧dq K θ H d v∧bA K θ H ds r
end
def nO (K:W.Frag)(θ:List Addr)(H:Hp):List (Str×D)→List (Str×V)→Prop
 | [],vs=>vs=[]
 | (f,d)::fs,vs=>∃v r,vs=(f,v)::r∧dq K θ H d v∧nO K θ H fs r
def rA {κ:Type}(K:W.Frag)(θ:List Addr)(H:Hp):List (κ×D)→List (κ×V)→Prop
 | [],vs=>vs=[]
 | (k,d)::fs,vs=>∃v r,vs=(k,v)::r∧dq K θ H d v∧rA K θ H fs r
def rP (K:W.Frag)(θ:List Addr)(H:Hp):MO→Addr→Prop
 | .lst ds,a=>∃vs,H a=some (.lst vs)∧bA K θ H ds vs
 | .obj c fs,a=>∃C dx vs,dm K c C∧H a=some (.ins C dx vs)∧nO K θ H fs vs
 | .dK kvs,a=>∃vs,H a=some (.dK vs)∧rA K θ H kvs vs
 | .dT kvs,a=>∃vs,H a=some (.dT vs)∧rA K θ H kvs vs
def cy:List Str:=["ink_shown","table_within","slots_given","cast_on_slots"]
def cp (x:Str):Str:=x++(".<locals>.<lambda>":Str)
def jx (c:Addr)(q:Str):HO:=.ext fun h=>h.CodeRec (.ref c) q
def NY (ob:Obj):HO:=.frz ob (.ext fun _=>True)
structure mL (K:W.Frag)(H:Hp):Prop where
 tab:∀x,x∈cy→∀c P,W.tabIn K x=some (c,P)→∃ps,H P=some (.tbl ps)∧TriplesOk ps.toList∧∀pos cv,codeAmong pos ps.toList=some cv→∃c',cv=.ref c'∧H c'=some (jx c' (cp x))
 bm:∀x,x∈cy→∀c P,W.tabIn K x=some (c,P)→∃bm ob,W.nsIn K mainGlobals "__builtins__"=some (some (.ref bm))∧H bm=some (NY ob)∧ob.cls=.type "module"∧ob.dict=some builtinsNs∧ob.data=.plain∧bm≠builtinsNs∧bm≠mainGlobals
theorem mL.of {H':Hp}(t:mL K H)(k1:∀b ps,H b=some (.tbl ps)→H' b=some (.tbl ps))(k2:∀b φ,H b=some (.ext φ)→H' b=some (.ext φ))(k3:∀b o u,H b=some (.frz o u)→H' b=some (.frz o u)):mL K H':=
 ⟨fun x hx c P e=>by
  obtain⟨ps,h1,h2,h3⟩:=t.tab x hx c P e
  refine⟨ps,k1 _ _ h1,h2,fun pos cv q=>?_⟩
  obtain⟨c',e1,e2⟩:=h3 pos cv q
  exact⟨c',e1,k2 _ _ e2⟩,fun x hx c P e=>by
  obtain⟨bm,ob,e1,e2,r⟩:=t.bm x hx c P e
  exact⟨bm,ob,e1,k3 _ _ _ e2,r⟩⟩
theorem mL.new {p:Addr}(t:mL K H)(hp:H p=none):mL K (cj H p o):=
 t.of (fun b ps e=>by rw[az (bN e hp)];exact e) (fun b φ e=>by rw[az (bN e hp)];exact e) fun b o u e=>by rw[az (bN e hp)];exact e
def xx:HO→Bool
 | .tbl _=>false
 | .ext _=>false
 | .frz _ _=>false
 | _=>true
theorem mL.at_ {u:HO}(t:mL K H)(ha:H a=some u)(hu:xx u=true):mL K (cj H a o):=
 t.of (fun b ps e=>by rw[az (wa e ha (by intro z;subst z;cases hu))];exact e) (fun b φ e=>by rw[az (wa e ha (by intro z;subst z;cases hu))];exact e) fun b o u e=>by rw[az (wa e ha (by intro z;subst z;cases hu))];exact e
structure Wr (K:W.Frag)(θ:List Addr)(H:Hp)(M:aA):Prop where
 len:θ.length=M.length
 nd:θ.Nodup
 at_:∀(i:Nat) a m,θ[i]?=some a→M[i]?=some m→rP K θ H m a
 tb:mL K H
structure jP (K:W.Frag)(θ:List Addr)(H:Hp)(σ:L2.St)(ρ:cr):Prop where
 len:ρ.length=σ.length
 at_:∀(i:Nat) d,ρ[i]?=some (some d)→∃v,σ[i]?=some (some v)∧dq K θ H d v
structure Grow (θ:List Addr)(H:Hp)(θ':List Addr)(H':Hp):Prop where
 ext:∃more,θ'=θ++more∧∀a∈more,H a=none
 keep:∀b o,H b=some o→b∉θ→(∀ps,o≠.tbl ps)→H' b=some o
 tkeep:∀b ps,H b=some (.tbl ps)→∃ps',H' b=some (.tbl ps')
structure Go (K:W.Frag)(θ:List Addr)(H:Hp)(θ':List Addr)(H':Hp)(M':aA):Prop extends Grow θ H θ' H' where
 wr:Wr K θ' H' M'
variable{m:MO}{i:Nat}{d:D}{v:V}{ds:List D}{vs:List V}
section
variable {K:W.Frag}{θ θ' θ1 θ2:List Addr}{H H' H1 H2:Hp}{M M' M1 M2:aA}{a p:Addr}{σ:L2.St}{ρ:cr}
theorem Wr.tracked (w:Wr K θ H M)(h:a∈θ):H a≠none:=by
 obtain⟨i,hi,e⟩:=List.mem_iff_getElem.mp h
 have h1:θ[i]?=some a:=by rw[List.getElem?_eq_getElem hi,e]
 have h2:i<M.length:=by rw[←w.len];exact hi
 have h3:=w.at_ i a _ h1 (List.getElem?_eq_getElem h2)
 cases q:M[i] with
 | lst ds=>
  rw[q] at h3
  obtain⟨vs,e,_⟩:=h3
  rw[e];simp
 | obj c fs=>
  rw[q] at h3
  obtain⟨C,dx,vs,_,e,_⟩:=h3
  rw[e];simp
 | dK kvs=>
  rw[q] at h3
  obtain⟨vs,e,_⟩:=h3
  rw[e];simp
 | dT kvs=>
  rw[q] at h3
  obtain⟨vs,e,_⟩:=h3
  rw[e];simp
theorem rP.plain (h:rP K θ H m a):∃o,H a=some o∧xx o=true:=by
 cases m with
 | lst ds=>obtain⟨vs,e,_⟩:=h;exact⟨_,e,rfl⟩
 | obj c fs=>obtain⟨C,dx,vs,_,e,_⟩:=h;exact⟨_,e,rfl⟩
 | dK kvs=>obtain⟨vs,e,_⟩:=h;exact⟨_,e,rfl⟩
 | dT kvs=>obtain⟨vs,e,_⟩:=h;exact⟨_,e,rfl⟩
theorem Wr.plain (w:Wr K θ H M)(h:θ[i]?=some a):∃o,H a=some o∧xx o=true:=by
 have h2:i<M.length:=by rw[←w.len];exact(List.getElem?_eq_some_iff.mp h).1
 exact(w.at_ i a _ h (List.getElem?_eq_getElem h2)).plain
theorem Wr.fresh (w:Wr K θ H M)(h:H p=none):p∉θ:=fun z=>w.tracked z h
theorem Grow.refl (θ:List Addr)(H:Hp):Grow θ H θ H:=⟨⟨[],by simp,fun _ z=>by cases z⟩,fun _ _ h _ _=>h,fun b ps e=>⟨ps,e⟩⟩
theorem Go.refl (w:Wr K θ H M):Go K θ H θ H M:=⟨.refl θ H,w⟩
theorem Go.trans (a:Go K θ H θ1 H1 M1)(b:Go K θ1 H1 θ2 H2 M2):Go K θ H θ2 H2 M2:=by
 obtain⟨m1,e1,f1⟩:=a.ext
 obtain⟨m2,e2,f2⟩:=b.ext
 refine⟨⟨⟨m1++m2,by rw[e2,e1,List.append_assoc],fun x hx=>?_⟩,fun x o hx nx nt=>?_,fun x ps e=>?_⟩,b.wr⟩
 ·rcases List.mem_append.mp hx with z|z
  ·exact f1 x z
  ·cases q:H x with
   | none=>rfl
   | some o=>
    have nx:x∉θ:=by
     intro y
     have nd:=b.wr.nd
     rw[e2] at nd
     have y1:x∈θ1:=by rw[e1];exact List.mem_append_left _ y
     exact(List.nodup_append.mp nd).2.2 x y1 x z rfl
    exfalso
    by_cases nt:∃ps,o=.tbl ps
    ·obtain⟨ps,rfl⟩:=nt
     obtain⟨ps',e'⟩:=a.tkeep x ps q
     rw[f2 x z] at e';cases e'
    ·have:=a.keep x o q nx fun ps e'=>nt ⟨ps,e'⟩
     rw[f2 x z] at this;cases this
 ·have h1:=a.keep x o hx nx nt
  refine b.keep x o h1 ?_ nt
  rw[e1]
  intro z
  rcases List.mem_append.mp z with z|z
  ·exact nx z
  ·rw[f1 x z] at hx;cases hx
 ·obtain⟨ps',e'⟩:=a.tkeep x ps e
  exact b.tkeep x ps' e'
theorem Grow.notin (g:Grow θ H θ' H')(h:H a=some o)(n:a∉θ):a∉θ':=by
 obtain⟨m,e,f⟩:=g.ext
 rw[e]
 intro z
 rcases List.mem_append.mp z with z|z
 ·exact n z
 ·rw[f a z] at h;cases h
theorem nC.grow (g:Grow θ H θ' H')(h:nC K θ H a xs):nC K θ' H' a xs:=⟨g.keep _ _ h.1 h.2 (by intro _ z;cases z),g.notin h.1 h.2⟩
theorem tQ.grow (g:Grow θ H θ' H')(h:tQ θ H a xs):tQ θ' H' a xs:=⟨g.keep _ _ h.1 h.2 (by intro _ z;cases z),g.notin h.1 h.2⟩
theorem rS.grow (g:Grow θ H θ' H')(h:rS K θ H a xs):rS K θ' H' a xs:=by
 rcases h with⟨h|⟨o,h⟩,n⟩|h
 ·exact .inl ⟨.inl (g.keep _ _ h n (by intro _ z;cases z)),g.notin h n⟩
 ·exact .inl ⟨.inr ⟨o,g.keep _ _ h n (by intro _ z;cases z)⟩,g.notin h n⟩
 ·exact .inr h
mutual
theorem nR (g:Grow θ H θ' H'):∀(d:D) (v:V),dq K θ H d v→dq K θ' H' d v
 | .non,v,h=>h
 | .bl b,v,h=>h
 | .int i,v,h=>h
 | .str x,v,h=>h
 | .tup ds,v,h=>by
  obtain⟨a,vs,e,t,r⟩:=h
  exact⟨a,vs,e,t.grow g,dO g ds vs r⟩
 | .lst ds,v,h=>by
  obtain⟨a,vs,e,t,r⟩:=h
  exact⟨a,vs,e,t.grow g,dO g ds vs r⟩
 | .ro ds,v,h=>by
  obtain⟨a,vs,e,t,r⟩:=h
  exact⟨a,vs,e,t.grow g,dO g ds vs r⟩
 | .mr i,v,h=>by
  obtain⟨a,e,t⟩:=h
  obtain⟨m,em,_⟩:=g.ext
  refine⟨a,e,?_⟩
  rw[em,List.getElem?_append_left (List.getElem?_eq_some_iff.mp t).1]
  exact t
 | .exc c,v,h=>by
  obtain⟨a,C,e,k,t,n⟩:=h
  exact⟨a,C,e,k,g.keep _ _ t n (by intro _ z;cases z),g.notin t n⟩
 | .any,v,h=>h
theorem dO (g:Grow θ H θ' H'):∀(ds:List D) (vs:List V),bA K θ H ds vs→bA K θ' H' ds vs
 | [],vs,h=>h
 | d::ds,vs,h=>by
  obtain⟨v,r,e,h1,h2⟩:=h
  exact⟨v,r,e,nR g d v h1,dO g ds r h2⟩
end
theorem dq.go (h:dq K θ H d v)(g:Go K θ H θ' H' M'):dq K θ' H' d v:=nR g.toGrow d v h
theorem bA.go (h:bA K θ H ds vs)(g:Go K θ H θ' H' M'):bA K θ' H' ds vs:=dO g.toGrow ds vs h
theorem jP.go (h:jP K θ H σ ρ)(g:Go K θ H θ' H' M'):jP K θ' H' σ ρ:=⟨h.len,fun i d e=>let ⟨v,e1,e2⟩:=h.at_ i d e;⟨v,e1,e2.go g⟩⟩
theorem av:∀{ds:List D} {vs:List V},bA K θ H ds vs→ds.length=vs.length
 | [],vs,h=>by cases (show vs=[] from h);rfl
 | d::ds,vs,h=>by
  obtain⟨v,r,e,_,h2⟩:=h
  subst e
  rw[List.length_cons,List.length_cons,av h2]
theorem dn:∀{ds es:List D} {vs us:List V},bA K θ H ds vs→bA K θ H es us→bA K θ H (ds++es) (vs++us)
 | [],es,vs,us,h,k=>by cases (show vs=[] from h);exact k
 | d::ds,es,vs,us,h,k=>by
  obtain⟨v,r,e,h1,h2⟩:=h
  subst e
  exact⟨v,r++us,rfl,h1,dn h2 k⟩
theorem fZ:∀{ds:List D} {vs:List V} {i:Nat} {d:D},bA K θ H ds vs→ds[i]?=some d→∃v,vs[i]?=some v∧dq K θ H d v
 | [],vs,i,d,h,e=>by simp at e
 | x::ds,vs,0,d,h,e=>by
  obtain⟨v,r,e1,h1,h2⟩:=h
  subst e1
  simp at e;subst e
  exact⟨v,rfl,h1⟩
 | x::ds,vs,i+1,d,h,e=>by
  obtain⟨v,r,e1,h1,h2⟩:=h
  subst e1
  obtain⟨u,e2,h3⟩:=fZ (i:=i) h2 (by simpa using e)
  exact⟨u,by simpa using e2,h3⟩
theorem sN:∀{ds:List D} {vs:List V} (n:Nat),bA K θ H ds vs→bA K θ H (ds.take n) (vs.take n)
 | ds,vs,0,h=>by rw[List.take_zero,List.take_zero];exact rfl
 | [],vs,n+1,h=>by cases (show vs=[] from h);exact rfl
 | d::ds,vs,n+1,h=>by
  obtain⟨v,r,e,h1,h2⟩:=h
  subst e
  exact⟨v,r.take n,rfl,h1,sN n h2⟩
theorem tw:∀{ds:List D} {vs:List V} (n:Nat),bA K θ H ds vs→bA K θ H (ds.drop n) (vs.drop n)
 | ds,vs,0,h=>h
 | [],vs,n+1,h=>by cases (show vs=[] from h);exact rfl
 | d::ds,vs,n+1,h=>by
  obtain⟨v,r,e,h1,h2⟩:=h
  subst e
  exact tw n h2
theorem vF {d:D}{v:V}(hd:dq K θ H d v):∀{ds:List D} {vs:List V} (i:Nat),bA K θ H ds vs→bA K θ H (ds.set i d) (vs.set i v)
 | [],vs,i,h=>by cases (show vs=[] from h);exact rfl
 | x::ds,vs,0,h=>by
  obtain⟨u,r,e,h1,h2⟩:=h
  subst e
  exact⟨v,r,rfl,hd,h2⟩
 | x::ds,vs,i+1,h=>by
  obtain⟨u,r,e,h1,h2⟩:=h
  subst e
  exact⟨u,r.set i v,rfl,h1,vF hd i h2⟩
theorem nM (w:Wr K θ H M)(hp:H p=none):Grow θ H θ (cj H p o):=
 ⟨⟨[],by simp,fun _ z=>by cases z⟩,fun b u h _ _=>by rw[az (bN h hp)];exact h,fun b ps h=>⟨ps,by rw[az (bN h hp)];exact h⟩⟩
theorem oT (g:Grow θ H θ' H'):∀{fs:List (Str×D)} {vs:List (Str×V)},nO K θ H fs vs→nO K θ' H' fs vs
 | [],vs,h=>h
 | (f,d)::fs,vs,h=>by
  obtain⟨v,r,e,h1,h2⟩:=h
  exact⟨v,r,e,nR g d v h1,oT g h2⟩
theorem jS {κ:Type}(g:Grow θ H θ' H'):∀{fs:List (κ×D)} {vs:List (κ×V)},rA K θ H fs vs→rA K θ' H' fs vs
 | [],vs,h=>h
 | (f,d)::fs,vs,h=>by
  obtain⟨v,r,e,h1,h2⟩:=h
  exact⟨v,r,e,nR g d v h1,jS g h2⟩
theorem rP.grow (g:Grow θ H θ' H')(hs:H' a=H a)(h:rP K θ H m a):rP K θ' H' m a:=by
 cases m with
 | lst ds=>
  obtain⟨vs,e,r⟩:=h
  exact⟨vs,by rw[hs];exact e,dO g ds vs r⟩
 | obj c fs=>
  obtain⟨C,dx,vs,k,e,r⟩:=h
  exact⟨C,dx,vs,k,by rw[hs];exact e,oT g r⟩
 | dK kvs=>
  obtain⟨vs,e,r⟩:=h
  exact⟨vs,by rw[hs];exact e,jS g r⟩
 | dT kvs=>
  obtain⟨vs,e,r⟩:=h
  exact⟨vs,by rw[hs];exact e,jS g r⟩
theorem dR (w:Wr K θ H M)(hp:H p=none):Go K θ H θ (cj H p o) M:=
 ⟨nM w hp,w.len,w.nd,fun i a m h1 h2=>by
  have ha:a≠p:=fun e=>w.fresh hp (by rw[←e];exact List.mem_of_getElem? h1)
  exact(w.at_ i a m h1 h2).grow (nM w hp) (az ha),w.tb.new hp⟩
theorem iI (w:Wr K θ H M)(hp:H p=none)(r:bA K θ H ds vs):dq K θ (cj H p (.tup vs)) (.tup ds) (.ref p):=
 ⟨p,vs,rfl,⟨bE,w.fresh hp⟩,dO (nM w hp) ds vs r⟩
theorem kI (w:Wr K θ H M)(hp:H p=none)(r:bA K θ H ds vs):dq K θ (cj H p (.lst vs)) (.lst ds) (.ref p):=
 ⟨p,vs,rfl,⟨bE,w.fresh hp⟩,dO (nM w hp) ds vs r⟩
theorem sV (hp:H p=none):Grow θ H (θ++[p]) (cj H p o):=
 ⟨⟨[p],rfl,fun a ha=>by rw[List.mem_singleton.mp ha];exact hp⟩,fun b u h _ _=>by rw[az (bN h hp)];exact h,fun b ps h=>⟨ps,by rw[az (bN h hp)];exact h⟩⟩
theorem u4 (w:Wr K θ H M)(hp:H p=none)(hm:rP K (θ++[p]) (cj H p o) m p):Go K θ H (θ++[p]) (cj H p o) (M++[m]):=by
 have np:=w.fresh hp
 have g:Grow θ H (θ++[p]) (cj H p o):=sV hp
 refine⟨g,by rw[List.length_append,List.length_append,w.len];rfl,?_,fun i a m' h1 h2=>?_,w.tb.new hp⟩
 ·rw[List.nodup_append]
  exact⟨w.nd,by simp,fun x hx y hy e=>np (by rw[List.mem_singleton.mp hy] at e;rw[←e];exact hx)⟩
 ·by_cases hi:i<θ.length
  ·rw[List.getElem?_append_left hi] at h1
   rw[List.getElem?_append_left (by rw[←w.len];exact hi)] at h2
   have ha:a≠p:=fun e=>np (by rw[←e];exact List.mem_of_getElem? h1)
   exact(w.at_ i a m' h1 h2).grow g (az ha)
  ·have hi':i=θ.length:=by
    have:=(List.getElem?_eq_some_iff.mp h1).1
    rw[List.length_append,List.length_singleton] at this
    omega
   subst hi'
   rw[List.getElem?_append_right (Nat.le_refl _)] at h1
   rw[List.getElem?_append_right (by rw[w.len];exact Nat.le_refl _)] at h2
   simp only[Nat.sub_self,w.len,List.getElem?_cons_zero,Option.some.injEq] at h1 h2
   subst h1;subst h2
   exact hm
theorem BZ (w:Wr K θ H M)(hp:H p=none)(r:bA K θ H ds vs):Go K θ H (θ++[p]) (cj H p (.lst vs)) (M++[.lst ds]):=
 u4 w hp ⟨vs,bE,dO (sV hp) ds vs r⟩
theorem nL (w:Wr K θ H M)(hi:θ[i]?=some a):Grow θ H θ (cj H a o):=by
 have ha:a∈θ:=List.mem_of_getElem? hi
 obtain⟨u,hu,pu⟩:=w.plain hi
 exact⟨⟨[],by simp,fun _ z=>by cases z⟩,fun b u h n _=>by rw[az (fun e=>n (by rw[e];exact ha))];exact h,fun b ps h=>⟨ps,by rw[az (wa h hu (by intro z;subst z;cases pu))];exact h⟩⟩
theorem pX (w:Wr K θ H M)(hi:θ[i]?=some a)(hm:rP K θ (cj H a o) m a):Go K θ H θ (cj H a o) (M.set i m):=by
 have g:Grow θ H θ (cj H a o):=nL w hi
 obtain⟨u,hu,pu⟩:=w.plain hi
 refine⟨g,by rw[List.length_set];exact w.len,w.nd,fun j b m' h1 h2=>?_,w.tb.at_ hu pu⟩
 by_cases hj:j=i
 ·subst hj
  rw[hi] at h1;cases h1
  have hl:j<M.length:=by rw[←w.len];exact(List.getElem?_eq_some_iff.mp hi).1
  rw[List.getElem?_set_self hl] at h2
  cases h2
  exact hm
 ·rw[List.getElem?_set_ne (Ne.symm hj)] at h2
  have hb:b≠a:=fun e=>by
   subst e
   obtain⟨h3,e3⟩:=List.getElem?_eq_some_iff.mp h1
   obtain⟨h4,e4⟩:=List.getElem?_eq_some_iff.mp hi
   exact hj ((List.getElem_inj w.nd).mp (e3.trans e4.symm))
  exact(w.at_ j b m' h1 h2).grow g (az hb)
theorem xt {ds ds':List D}{vs':List V}(w:Wr K θ H M)(hi:θ[i]?=some a)(r:bA K θ H ds' vs'):Go K θ H θ (cj H a (.lst vs')) (M.set i (.lst ds')):=
 pX w hi ⟨vs',bE,dO (nL w hi) ds' vs' r⟩
end
abbrev GE:=cr→aA→bn D
abbrev GT:=cr→aA→bn Bool
abbrev GA:=cr→aA→bn (List D)
inductive Fl where
 | nx (ρ:cr)|rt (d:D)|bk (ρ:cr)|ct (ρ:cr)
abbrev GS:=cr→aA→bn Fl
def ft (X:Cx)(θ:List Addr)(H:Hp)(c:Str)(M:aA):Prop:=∀C θ' H' a s',dm X.K c C→Go X.K θ H θ' H' M→N0 X H' a C s'→X.xe (.ref a) s'
def aN (X:Cx)(θ:List Addr)(H:Hp)(Q:VK):bn D→Prop
 | .ok d M'=>∀v θ' H',Go X.K θ H θ' H' M'→dq X.K θ' H' d v→Q v H'
 | .err c M'=>ft X θ H c M'
 | .bad=>False
def oW (X:Cx)(θ:List Addr)(H:Hp)(Q:Bool→Hp→Prop):bn Bool→Prop
 | .ok b M'=>∀θ' H',Go X.K θ H θ' H' M'→Q b H'
 | .err c M'=>ft X θ H c M'
 | .bad=>False
def zU (X:Cx)(θ:List Addr)(H:Hp)(Q:List V→Hp→Prop):bn (List D)→Prop
 | .ok ds M'=>∀vs θ' H',Go X.K θ H θ' H' M'→bA X.K θ' H' ds vs→Q vs H'
 | .err c M'=>ft X θ H c M'
 | .bad=>False
def cS (X:Cx)(θ:List Addr)(H:Hp)(D:Ab):bn Fl→Prop
 | .ok (.nx ρ) M'=>∀σ θ' H',Go X.K θ H θ' H' M'→jP X.K θ' H' σ ρ→D.nx σ H'
 | .ok (.bk ρ) M'=>∀σ θ' H',Go X.K θ H θ' H' M'→jP X.K θ' H' σ ρ→D.bk σ H'
 | .ok (.ct ρ) M'=>∀σ θ' H',Go X.K θ H θ' H' M'→jP X.K θ' H' σ ρ→D.ct σ H'
 | .ok (.rt d) M'=>∀v θ' H',Go X.K θ H θ' H' M'→dq X.K θ' H' d v→D.rt v H'
 | .err c M'=>ft X θ H c M'
 | .bad=>False
def tE (X:Cx)(g:GE):TE:=fun σ H Q=>∃ρ θ M,jP X.K θ H σ ρ∧Wr X.K θ H M∧aN X θ H Q (g ρ M)
def tT (X:Cx)(g:GT):TT:=fun σ H Q=>∃ρ θ M,jP X.K θ H σ ρ∧Wr X.K θ H M∧oW X θ H Q (g ρ M)
def tA (X:Cx)(g:GA):TA:=fun σ H Q=>∃ρ θ M,jP X.K θ H σ ρ∧Wr X.K θ H M∧zU X θ H Q (g ρ M)
def tS (X:Cx)(g:GS):TS:=fun D σ H=>∃ρ θ M,jP X.K θ H σ ρ∧Wr X.K θ H M∧cS X θ H D (g ρ M)
variable{M:aA}{Q:Bool→Hp→Prop}
section
variable {X:Cx}{θ θ':List Addr}{H H':Hp}{M':aA}
theorem ft.go {c:Str}(g:Go X.K θ H θ' H' M')(h:ft X θ H c M):ft X θ' H' c M:=fun C θ2 H2 a s' k g2 fl=>h C θ2 H2 a s' k (g.trans g2) fl
theorem aN.go {Q:VK}{o:bn D}(g:Go X.K θ H θ' H' M')(h:aN X θ H Q o):aN X θ' H' Q o:=by
 cases o with
 | ok d M=>exact fun v θ2 H2 g2=>h v θ2 H2 (g.trans g2)
 | err c M=>exact ft.go (c:=c) (M:=M) g h
 | bad=>exact h
theorem oW.go {o:bn Bool}(g:Go X.K θ H θ' H' M')(h:oW X θ H Q o):oW X θ' H' Q o:=by
 cases o with
 | ok d M=>exact fun θ2 H2 g2=>h θ2 H2 (g.trans g2)
 | err c M=>exact ft.go (c:=c) (M:=M) g h
 | bad=>exact h
theorem zU.go {Q:List V→Hp→Prop}{o:bn (List D)}(g:Go X.K θ H θ' H' M')(h:zU X θ H Q o):zU X θ' H' Q o:=by
 cases o with
 | ok d M=>exact fun v θ2 H2 g2=>h v θ2 H2 (g.trans g2)
 | err c M=>exact ft.go (c:=c) (M:=M) g h
 | bad=>exact h
theorem cS.go {D:Ab}{o:bn Fl}(g:Go X.K θ H θ' H' M')(h:cS X θ H D o):cS X θ' H' D o:=by
 cases o with
 | ok f M=>cases f <;> exact fun v θ2 H2 g2=>h v θ2 H2 (g.trans g2)
 | err c M=>exact ft.go (c:=c) (M:=M) g h
 | bad=>exact h
end
variable{c:Expr}{es:List Expr}{g ga gb:GE}{ρ:cr}{pos:Pos}{op:CmpOp}
section
variable {X:Cx}{e:Expr}
theorem _root_.L2.PE.of {t t':TE}(h:PE X e t)(w:∀σ H Q,t' σ H Q→t σ H Q):PE X e t':=fun ah s σ H Q I q=>h ah s σ H Q I (w σ H Q q)
theorem _root_.L2.PT.of {t t':TT}(h:PT X e t)(w:∀σ H Q,t' σ H Q→t σ H Q):PT X e t':=fun ah s σ H Q I q=>h ah s σ H Q I (w σ H Q q)
theorem _root_.L2.PW.of {t t':TT}(h:PW X e t)(w:∀σ H Q,t' σ H Q→t σ H Q):PW X e t':=fun wh ah s σ H Q I q=>h wh ah s σ H Q I (w σ H Q q)
theorem _root_.L2.PA.of {t t':TA}(h:PA X es t)(w:∀σ H Q,t' σ H Q→t σ H Q):PA X es t':=fun pos ah s σ H Q I q=>h pos ah s σ H Q I (w σ H Q q)
theorem _root_.L2.PS.of {st:Stmt}{t t':TS}(h:PS X st t)(w:∀D σ H,t' D σ H→t D σ H):PS X st t':=fun ah s σ H D I q=>h ah s σ H D I (w D σ H q)
theorem _root_.L2.PSs.of {st:List Stmt}{t t':TS}(h:PSs X st t)(w:∀D σ H,t' D σ H→t D σ H):PSs X st t':=fun ah s σ H D I q=>h ah s σ H D I (w D σ H q)
theorem bL {Q:VK}{α:Type}(hd:jP X.K θ H σ ρ)(hw:Wr X.K θ H M)(F:bn α→Prop)(Fe:∀c M',F (.err c M')→ft X θ H c M')(Fb:F .bad→False)
  {f:D→aA→bn α} (h:F ((g ρ M).bind f))
  (k:∀d M1 v θ1 H1,Go X.K θ H θ1 H1 M1→dq X.K θ1 H1 d v→F (f d M1)→Q v H1):tE X g σ H Q:=by
 refine⟨ρ,θ,M,hd,hw,?_⟩
 cases q:g ρ M with
 | ok d M1=>
  rw[q] at h
  exact fun v θ1 H1 g1 r1=>k d M1 v θ1 H1 g1 r1 h
 | err c M1=>rw[q] at h;exact Fe c M1 h
 | bad=>rw[q] at h;exact(Fb h).elim
def ae (i:Nat):GE:=fun ρ M=>match ρ[i]? with
 | some (some d)=>.ok d M
 | _=>.bad
def gC (d:D):GE:=fun _ M=>.ok d M
theorem GH (h:PE X e (Kx i)):PE X e (tE X (ae i)):=h.of fun σ H Q ⟨ρ,θ,M,hd,hw,f⟩=>by
 unfold ae at f
 split at f
 ·rename_i d q
  obtain⟨v,e1,r⟩:=hd.at_ i d q
  exact⟨v,e1,f v θ H (.refl hw) r⟩
 ·exact f.elim
theorem IT {i j pos}:PE X (.Constant (.int i) j pos) (tE X (gC (.int i))):=CV.of fun σ H Q ⟨ρ,θ,M,hd,hw,f⟩=>f _ θ H (.refl hw) rfl
theorem Lo {b j pos}:PE X (.Constant (.bool b) j pos) (tE X (gC (.bl b))):=K4.of fun σ H Q ⟨ρ,θ,M,hd,hw,f⟩=>f _ θ H (.refl hw) rfl
theorem Jj {j pos}:PE X (.Constant .none j pos) (tE X (gC .non)):=HD.of fun σ H Q ⟨ρ,θ,M,hd,hw,f⟩=>f _ θ H (.refl hw) rfl
theorem G4 {x j pos}:PE X (.Constant (.str x) j pos) (tE X (gC (.str x))):=Gx.of fun σ H Q ⟨ρ,θ,M,hd,hw,f⟩=>f _ θ H (.refl hw) rfl
abbrev F2:=D→D→aA→bn D
def g2 (f:F2)(ga gb:GE):GE:=fun ρ M=>(ga ρ M).bind fun x M1=>(gb ρ M1).bind fun y M2=>f x y M2
def rD (X:Cx)(f:F2):R2:=fun x y H Q=>∃θ M dx dy,Wr X.K θ H M∧dq X.K θ H dx x∧dq X.K θ H dy y∧aN X θ H Q (f dx dy M)
theorem yH {f:F2}{Q:VK}(h:tE X (g2 f ga gb) σ H Q):JU (rD X f) (tE X ga) (tE X gb) σ H Q:=by
 obtain⟨ρ,θ,M,hd,hw,h⟩:=h
 refine bL hd hw (aN X θ H Q) (fun c M' h=>h) (fun h=>h) h fun dx M1 x θ1 H1 g1 r1 h1=>?_
 refine bL (hd.go g1) g1.wr (aN X θ1 H1 Q) (fun c M' h=>h) (fun h=>h) (h1.go g1) fun dy M2 y θ2 H2 g2 r2 h2=>?_
 exact⟨θ2,M2,dx,dy,g2.wr,r1.go g2,r2,h2.go g2⟩
theorem Mi {a b:Expr}{op:Operator}{f:F2}(ho:iO X (binaryOp op) (rD X f))(ha:PE X a (tE X ga))(hb:PE X b (tE X gb)):PE X (.BinOp a op b pos) (tE X (g2 f ga gb)):=
 (Ll ho ha hb).of fun _ _ _ h=>yH h
theorem Gn {a b:Expr}{f:F2}(ho:iO X (compareOp op) (rD X f))(ha:PE X a (tE X ga))(hb:PE X b (tE X gb))(hm:behindInMarks op b=false):PE X (.Compare a [op] [b] pos) (tE X (g2 f ga gb)):=
 (EV ho ha hb hm).of fun _ _ _ h=>yH h
def F6:D→aA→bn Bool
 | .bl b,M=>.ok b M
 | _,_=>.bad
def aH (g:GE):GT:=fun ρ M=>(g ρ M).bind F6
theorem B4 {o:bn D}(h:oW X θ H Q (o.bind F6)):aN X θ H (fun x H'=>∃k,x=.bl k∧Q k H') o:=by
 cases o with
 | ok d M=>
  cases d with
  | bl b=>exact fun v θ1 H1 g1 r1=>⟨b,r1,h θ1 H1 g1⟩
  | _=>exact h.elim
 | err c M=>exact h
 | bad=>exact h
theorem Bb (h:tT X (aH g) σ H Q):tE X g σ H fun x H'=>∃k,x=.bl k∧Q k H':=by
 obtain⟨ρ,θ,M,hd,hw,h⟩:=h
 exact⟨ρ,θ,M,hd,hw,B4 h⟩
theorem Bz {a b:Expr}{f:F2}(ho:iO X (compareOp op) (rD X f))(ha:PE X a (tE X ga))(hb:PE X b (tE X gb))(hm:behindInMarks op b=false):PT X (.Compare a [op] [b] pos) (tT X (aH (g2 f ga gb))):=
 (Fh ho ha hb hm).of fun σ H Q h=>yH (Bb h)
def nu (f f':F2)(ga gb gc:GE):GE:=fun ρ M=>(ga ρ M).bind fun x M1=>(gb ρ M1).bind fun y M2=>(f x y M2).bind fun z M3=>match z with
 | .bl true=>(gc ρ M3).bind fun w M4=>f' y w M4
 | .bl false=>.ok (.bl false) M3
 | _=>.bad
theorem FY {f f':F2}{gc:GE}{Q:VK}(h:tE X (nu f f' ga gb gc) σ H Q):xF (rD X f) (rD X f') (tE X ga) (tE X gb) (tE X gc) σ H Q:=by
 obtain⟨ρ,θ,M,hd,hw,h⟩:=h
 refine bL hd hw (aN X θ H Q) (fun c M' h=>h) (fun h=>h) h fun dx M1 x θ1 H1 g1 r1 h1=>?_
 refine bL (hd.go g1) g1.wr (aN X θ1 H1 Q) (fun c M' h=>h) (fun h=>h) (h1.go g1) fun dy M2 y θ2 H2 g2 r2 h2=>?_
 refine⟨θ2,M2,dx,dy,g2.wr,r1.go g2,r2,?_⟩
 have h3:=h2.go g2
 cases q:f dx dy M2 with
 | ok z M3=>
  rw[q] at h3
  intro v θ3 H3 g3 r3
  cases z with
  | bl k=>
   refine⟨k,r3,?_⟩
   cases k with
   | true=>
    rw[if_pos rfl]
    refine bL ((hd.go g1).go (g2.trans g3)) g3.wr (aN X θ3 H3 Q) (fun c M' h=>h) (fun h=>h) (h3.go g3) fun dw M4 w θ4 H4 g4 r4 h4=>?_
    exact⟨θ4,M4,dy,dw,g4.wr,r2.go (g3.trans g4),r4,h4.go g4⟩
   | false=>
    rw[if_neg Bool.false_ne_true]
    exact h3 _ θ3 H3 g3 rfl
  | _=>exact h3.elim
 | err c M3=>rw[q] at h3;exact h3
 | bad=>rw[q] at h3;exact h3
theorem A9 {a b:Expr}{op':CmpOp}{pos:Pos}{f f':F2}{gc:GE}(ho:iO X (compareOp op) (rD X f))(ho':iO X (compareOp op') (rD X f'))(ha:PE X a (tE X ga))(hb:PE X b (tE X gb))(hc:PE X c (tE X gc))
  (hm:lastMarks [op,op'] [b,c]=false:=by with_unfolding_all rfl):PE X (.Compare a [op,op'] [b,c] pos) (tE X (nu f f' ga gb gc)):=(AX ho ho' ha hb hc hm).of fun _ _ _ h=>FY h
theorem C6 {a b:Expr}{op':CmpOp}{pos:Pos}{f f':F2}{gc:GE}(ho:iO X (compareOp op) (rD X f))(ho':iO X (compareOp op') (rD X f'))(ha:PE X a (tE X ga))(hb:PE X b (tE X gb))(hc:PE X c (tE X gc))
  (hm:lastMarks [op,op'] [b,c]=false:=by with_unfolding_all rfl):PT X (.Compare a [op,op'] [b,c] pos) (tT X (aH (nu f f' ga gb gc))):=(BO ho ho' ha hb hc hm).of fun σ H Q h=>FY (Bb h)
def cx (a b:GT):GT:=fun ρ M=>(a ρ M).bind fun c M1=>if c then b ρ M1 else .ok false M1
def dh (a b:GT):GT:=fun ρ M=>(a ρ M).bind fun c M1=>if c then .ok true M1 else b ρ M1
def bj (a:GT):GT:=fun ρ M=>(a ρ M).bind fun c M1=>.ok (!c) M1
theorem sY {g:GT}{α:Type}(hd:jP X.K θ H σ ρ)(hw:Wr X.K θ H M)(F:bn α→Prop)(Fe:∀c M',F (.err c M')→ft X θ H c M')(Fb:F .bad→False)
  {f:Bool→aA→bn α} (h:F ((g ρ M).bind f)) (k:∀d M1 θ1 H1,Go X.K θ H θ1 H1 M1→F (f d M1)→Q d H1):tT X g σ H Q:=by
 refine⟨ρ,θ,M,hd,hw,?_⟩
 cases q:g ρ M with
 | ok d M1=>
  rw[q] at h
  exact fun θ1 H1 g1=>k d M1 θ1 H1 g1 h
 | err c M1=>rw[q] at h;exact Fe c M1 h
 | bad=>rw[q] at h;exact(Fb h).elim
variable {a b:Expr}{pos:Pos}{rest:List Expr}{ta tb:GT}{ga gb:GE}
theorem Dt (ha:PT X a (tT X ta)):PW X (.BoolOp .And [a] pos) (tT X ta):=DD ha
theorem G7 (ha:PT X a (tT X ta)):PW X (.BoolOp .Or [a] pos) (tT X ta):=HM ha
theorem HR (ha:PT X a (tT X ta))(hb:PW X (.BoolOp .And (b::rest) pos) (tT X tb)):PW X (.BoolOp .And (a::b::rest) pos) (tT X (cx ta tb)):=(Ir ha hb).of fun σ H Q ⟨ρ,θ,M,hd,hw,h⟩=>by
 refine sY hd hw (oW X θ H Q) (fun c M' h=>h) (fun h=>h) h fun c M1 θ1 H1 g1 h1=>?_
 cases c with
 | true=>exact⟨ρ,θ1,M1,hd.go g1,g1.wr,oW.go g1 h1⟩
 | false=>exact h1 θ1 H1 g1
theorem JY (ha:PT X a (tT X ta))(hb:PW X (.BoolOp .Or (b::rest) pos) (tT X tb)):PW X (.BoolOp .Or (a::b::rest) pos) (tT X (dh ta tb)):=(Mt ha hb).of fun σ H Q ⟨ρ,θ,M,hd,hw,h⟩=>by
 refine sY hd hw (oW X θ H Q) (fun c M' h=>h) (fun h=>h) h fun c M1 θ1 H1 g1 h1=>?_
 cases c with
 | true=>exact h1 θ1 H1 g1
 | false=>exact⟨ρ,θ1,M1,hd.go g1,g1.wr,oW.go g1 h1⟩
theorem Jl (ha:PT X a (tT X ta)):PT X (.UnaryOp .Not a pos) (tT X (bj ta)):=(Ij ha).of fun σ H Q ⟨ρ,θ,M,hd,hw,h⟩=>by
 exact sY hd hw (oW X θ H Q) (fun c M' h=>h) (fun h=>h) h fun c M1 θ1 H1 g1 h1=>h1 θ1 H1 g1
def fz (a b:GE):GE:=fun ρ M=>(a ρ M).bind fun x M1=>match x with
 | .bl true=>b ρ M1
 | .bl false=>.ok (.bl false) M1
 | _=>.bad
def JJ (a b:GE):GE:=fun ρ M=>(a ρ M).bind fun x M1=>match x with
 | .bl true=>.ok (.bl true) M1
 | .bl false=>b ρ M1
 | _=>.bad
def ul (a:GT):GE:=fun ρ M=>(a ρ M).bind fun c M1=>.ok (.bl (!c)) M1
theorem Jw {op}(h:PE X a (tE X g)):PE X (.BoolOp op [a] pos) (tE X g):=II h
theorem Iv (ha:PE X a (tE X ga))(hb:PE X (.BoolOp .And (b::rest) pos) (tE X gb)):PE X (.BoolOp .And (a::b::rest) pos) (tE X (fz ga gb)):=(Im ha hb).of fun σ H Q ⟨ρ,θ,M,hd,hw,h⟩=>by
 refine bL hd hw (aN X θ H Q) (fun c M' h=>h) (fun h=>h) h fun d M1 v θ1 H1 g1 r1 h1=>?_
 cases d with
 | bl c=>
  refine⟨c,r1,?_⟩
  cases c with
  | true=>rw[if_pos rfl];exact⟨ρ,θ1,M1,hd.go g1,g1.wr,aN.go g1 h1⟩
  | false=>rw[if_neg Bool.false_ne_true];exact h1 _ θ1 H1 g1 rfl
 | _=>exact h1.elim
theorem Lp (ha:PE X a (tE X ga))(hb:PE X (.BoolOp .Or (b::rest) pos) (tE X gb)):PE X (.BoolOp .Or (a::b::rest) pos) (tE X (JJ ga gb)):=(Lj ha hb).of fun σ H Q ⟨ρ,θ,M,hd,hw,h⟩=>by
 refine bL hd hw (aN X θ H Q) (fun c M' h=>h) (fun h=>h) h fun d M1 v θ1 H1 g1 r1 h1=>?_
 cases d with
 | bl c=>
  refine⟨c,r1,?_⟩
  cases c with
  | true=>rw[if_pos rfl];exact h1 _ θ1 H1 g1 rfl
  | false=>rw[if_neg Bool.false_ne_true];exact⟨ρ,θ1,M1,hd.go g1,g1.wr,aN.go g1 h1⟩
 | _=>exact h1.elim
def vj (t:GT)(a b:GE):GE:=fun ρ M=>(t ρ M).bind fun c M1=>if c then a ρ M1 else b ρ M1
theorem JT (hc:PT X c (tT X ta))(ha:PE X a (tE X ga))(hb:PE X b (tE X gb)):PE X (.IfExp c a b pos) (tE X (vj ta ga gb)):=(CT hc ha hb).of fun σ H Q ⟨ρ,θ,M,hd,hw,h⟩=>by
 refine sY hd hw (aN X θ H Q) (fun c M' h=>h) (fun h=>h) h fun c M1 θ1 H1 g1 h1=>?_
 cases c with
 | true=>rw[if_pos rfl];exact⟨ρ,θ1,M1,hd.go g1,g1.wr,aN.go g1 h1⟩
 | false=>rw[if_neg Bool.false_ne_true];exact⟨ρ,θ1,M1,hd.go g1,g1.wr,aN.go g1 h1⟩
def ag:GA:=fun _ M=>.ok [] M
def aa (g:GE)(r:GA):GA:=fun ρ M=>(g ρ M).bind fun d M1=>(r ρ M1).bind fun ds M2=>.ok (d::ds) M2
theorem mB {g:GA}{Q:List V→Hp→Prop}{α:Type}(hd:jP X.K θ H σ ρ)(hw:Wr X.K θ H M)(F:bn α→Prop)(Fe:∀c M',F (.err c M')→ft X θ H c M')(Fb:F .bad→False)
  {f:List D→aA→bn α} (h:F ((g ρ M).bind f)) (k:∀ds M1 vs θ1 H1,Go X.K θ H θ1 H1 M1→bA X.K θ1 H1 ds vs→F (f ds M1)→Q vs H1):tA X g σ H Q:=by
 refine⟨ρ,θ,M,hd,hw,?_⟩
 cases q:g ρ M with
 | ok d M1=>
  rw[q] at h
  exact fun v θ1 H1 g1 r1=>k d M1 v θ1 H1 g1 r1 h
 | err c M1=>rw[q] at h;exact Fe c M1 h
 | bad=>rw[q] at h;exact(Fb h).elim
theorem IQ:PA X [] (tA X ag):=kE.of fun σ H Q ⟨ρ,θ,M,hd,hw,f⟩=>f [] θ H (.refl hw) rfl
theorem Ex {gr:GA}(ha:PE X e (tE X ga))(hr:PA X es (tA X gr))(hs:starEach (e::es) X.env=(false,eval e X.env)::starEach es X.env:=by rfl):PA X (e::es) (tA X (aa ga gr)):=
 (fJ ha hr hs).of fun σ H Q ⟨ρ,θ,M,hd,hw,h⟩=>by
  refine bL hd hw (zU X θ H Q) (fun c M' h=>h) (fun h=>h) h fun d M1 v θ1 H1 g1 r1 h1=>?_
  refine mB (hd.go g1) g1.wr (zU X θ1 H1 Q) (fun c M' h=>h) (fun h=>h) (h1.go g1) fun ds M2 vs θ2 H2 g2 r2 h2=>?_
  exact h2 (v::vs) θ2 H2 g2 ⟨v,vs,rfl,r1.go g2,r2⟩
def qR (ds:List D)(M:aA):bn D:=if ds.length≤sizeLine then .ok (.tup ds) M else .bad
def aL (ds:List D)(M:aA):bn D:=if ds.length≤sizeLine then .ok (.lst ds) M else .bad
def fe (ds:List D)(M:aA):bn D:=if ds.length≤sizeLine then .ok (.mr M.length) (M++[.lst ds]) else .bad
def aP (g:GA):GE:=fun ρ M=>(g ρ M).bind qR
def dM (g:GA):GE:=fun ρ M=>(g ρ M).bind aL
def jX (g:GA):GE:=fun ρ M=>(g ρ M).bind fe
theorem aN.tup {Q:VK}(h:aN X θ H Q (qR ds M))(hw:Wr X.K θ H M)(r:bA X.K θ H ds vs):vs.length≤sizeLine∧∀p,H p=none→Q (.ref p) (cj H p (.tup vs)):=by
 unfold qR at h
 by_cases hl:ds.length≤sizeLine
 ·rw[if_pos hl] at h
  exact⟨by rw[←av r];exact hl,fun p hp=>h _ θ _ (dR hw hp) (iI hw hp r)⟩
 ·rw[if_neg hl] at h;exact h.elim
theorem aN.lst {Q:VK}(h:aN X θ H Q (aL ds M))(hw:Wr X.K θ H M)(r:bA X.K θ H ds vs):vs.length≤sizeLine∧∀p,H p=none→Q (.ref p) (cj H p (.lst vs)):=by
 unfold aL at h
 by_cases hl:ds.length≤sizeLine
 ·rw[if_pos hl] at h
  exact⟨by rw[←av r];exact hl,fun p hp=>h _ θ _ (dR hw hp) (kI hw hp r)⟩
 ·rw[if_neg hl] at h;exact h.elim
theorem aN.mut {Q:VK}(h:aN X θ H Q (fe ds M))(hw:Wr X.K θ H M)(r:bA X.K θ H ds vs):vs.length≤sizeLine∧∀p,H p=none→Q (.ref p) (cj H p (.lst vs)):=by
 unfold fe at h
 by_cases hl:ds.length≤sizeLine
 ·rw[if_pos hl] at h
  refine⟨by rw[←av r];exact hl,fun p hp=>h _ (θ++[p]) _ (BZ hw hp r) ⟨p,rfl,?_⟩⟩
  rw[←hw.len,List.getElem?_append_right (Nat.le_refl _)]
  simp
 ·rw[if_neg hl] at h;exact h.elim
theorem HF {x1}{g:GA}(h:PA X es (tA X g)):PE X (.Tuple es x1 pos) (tE X (aP g)):=(Ji h).of fun σ H Q ⟨ρ,θ,M,hd,hw,h⟩=>
 mB hd hw (aN X θ H Q) (fun c M' h=>h) (fun h=>h) h fun ds M1 vs θ1 H1 g1 r1 h1=>aN.tup (aN.go g1 h1) g1.wr r1
theorem HA {g:GA}(h:PA X es (tA X g)):PE X (.List es pos) (tE X (dM g)):=(Cc h).of fun σ H Q ⟨ρ,θ,M,hd,hw,h⟩=>
 mB hd hw (aN X θ H Q) (fun c M' h=>h) (fun h=>h) h fun ds M1 vs θ1 H1 g1 r1 h1=>aN.lst (aN.go g1 h1) g1.wr r1
theorem Ik {g:GA}(h:PA X es (tA X g)):PE X (.List es pos) (tE X (jX g)):=(Cc h).of fun σ H Q ⟨ρ,θ,M,hd,hw,h⟩=>
 mB hd hw (aN X θ H Q) (fun c M' h=>h) (fun h=>h) h fun ds M1 vs θ1 H1 g1 r1 h1=>aN.mut (aN.go g1 h1) g1.wr r1
end
section
variable {K:W.Frag}{θ:List Addr}{H:Hp}{σ:L2.St}{ρ:cr}
theorem jP.set (h:jP K θ H σ ρ)(r:dq K θ H d v)(i:Nat):jP K θ H (σ.set i (some v)) (ρ.set i (some d)):=by
 refine⟨by rw[List.length_set,List.length_set];exact h.len,fun j d' e=>?_⟩
 by_cases hj:j=i
 ·subst hj
  have hl:j<ρ.length:=by
   have:=(List.getElem?_eq_some_iff.mp e).1
   rw[List.length_set] at this;exact this
  rw[List.getElem?_set_self hl] at e
  have e':d=d':=by simpa using e
  subst e'
  exact⟨v,List.getElem?_set_self (by rw[←h.len];exact hl),r⟩
 ·rw[List.getElem?_set_ne (Ne.symm hj)] at e
  obtain⟨u,e1,r1⟩:=h.at_ j d' e
  exact⟨u,by rw[List.getElem?_set_ne (Ne.symm hj)];exact e1,r1⟩
end
def aD:GS:=fun ρ M=>.ok (.nx ρ) M
def ar (a b:GS):GS:=fun ρ M=>(a ρ M).bind fun f M1=>match f with
 | .nx ρ1=>b ρ1 M1
 | .rt d=>.ok (.rt d) M1
 | .bk ρ1=>.ok (.bk ρ1) M1
 | .ct ρ1=>.ok (.ct ρ1) M1
def aI (i:Nat)(g:GE):GS:=fun ρ M=>(g ρ M).bind fun d M1=>.ok (.nx (ρ.set i (some d))) M1
def aJ (g:GE):GS:=fun ρ M=>(g ρ M).bind fun d M1=>.ok (.rt d) M1
def bo (g:GE):GS:=fun ρ M=>(g ρ M).bind fun _ M1=>.ok (.nx ρ) M1
def cJ (t:GT)(a b:GS):GS:=fun ρ M=>(t ρ M).bind fun c M1=>if c then a ρ M1 else b ρ M1
variable{x:Str}{is:List Nat}{n:Nat}
section
variable {X:Cx}{st:Stmt}{rest:List Stmt}{e:Expr}{g:GE}{t u:GS}{pos:Pos}
theorem Gr:PSs X [] (tS X aD):=EW.of fun D σ H ⟨ρ,θ,M,hd,hw,f⟩=>f σ θ H (.refl hw) hd
theorem D6 (h1:PS X st (tS X t))(h2:PSs X rest (tS X u)):PSs X (st::rest) (tS X (ar t u)):=(B3 h1 h2).of fun D σ H ⟨ρ,θ,M,hd,hw,h⟩=>by
 refine⟨ρ,θ,M,hd,hw,?_⟩
 unfold ar at h
 cases q:t ρ M with
 | ok f M1=>
  rw[q] at h
  cases f with
  | nx ρ1=>exact fun σ1 θ1 H1 g1 d1=>⟨ρ1,θ1,M1,d1,g1.wr,cS.go g1 h⟩
  | rt d=>exact h
  | bk ρ1=>exact h
  | ct ρ1=>exact h
 | err c M1=>rw[q] at h;exact h
 | bad=>rw[q] at h;exact h
theorem GY (h1:PS X st (tS X t)):PSs X [st] (tS X t):=E2 h1
theorem IW {pos':Pos}(hN:X.N.Nodup)(hi:X.N[i]?=some x)(hx:Dn X.env.scope x)(he:PE X e (tE X g))(hs:swapsWith e (some (.Name x pos')) pos.line X.env=pure false:=by rfl)(hf:X.fn x=true∨X.env.scope.names.lookup x=some .local:=by first|exact .inl rfl|exact .inr rfl|assumption) :
  PS X (.Assign [.Name x pos'] e pos) (tS X (aI i g)):=(Ge hN hi hx he hs hf).of fun D σ H ⟨ρ,θ,M,hd,hw,h⟩=>
 bL hd hw (cS X θ H D) (fun c M' h=>h) (fun h=>h) h fun d M1 v θ1 H1 g1 r1 h1=>h1 _ θ1 H1 g1 ((hd.go g1).set r1 i)
theorem Ju (he:PE X e (tE X g)):PS X (.Return (some e) pos) (tS X (aJ g)):=(JB he).of fun D σ H ⟨ρ,θ,M,hd,hw,h⟩=>
 bL hd hw (cS X θ H D) (fun c M' h=>h) (fun h=>h) h fun d M1 v θ1 H1 g1 r1 h1=>h1 v θ1 H1 g1 r1
theorem DY (he:PE X e (tE X g))(hs:swapsWith e none pos.line X.env=pure false:=by rfl):PS X (.Expr e pos) (tS X (bo g)):=(Fp he hs).of fun D σ H ⟨ρ,θ,M,hd,hw,h⟩=>
 bL hd hw (cS X θ H D) (fun c M' h=>h) (fun h=>h) h fun d M1 v θ1 H1 g1 r1 h1=>h1 σ θ1 H1 g1 (hd.go g1)
theorem Ka {a b:List Stmt}{tc:GT}(hc:PT X c (tT X tc))(ha:PSs X a (tS X t))(hb:PSs X b (tS X u)):PS X (.If c a b pos) (tS X (cJ tc t u)):=(J4 hc ha hb).of fun D σ H ⟨ρ,θ,M,hd,hw,h⟩=>by
 refine sY hd hw (cS X θ H D) (fun c M' h=>h) (fun h=>h) h fun c M1 θ1 H1 g1 h1=>?_
 cases c with
 | true=>rw[if_pos rfl];exact⟨ρ,θ1,M1,hd.go g1,g1.wr,cS.go g1 h1⟩
 | false=>rw[if_neg Bool.false_ne_true];exact⟨ρ,θ1,M1,hd.go g1,g1.wr,cS.go g1 h1⟩
abbrev GG:=D→cr→Option cr
def tG (X:Cx)(s:GG):TG:=fun v σ H Q=>∃ρ θ M d,jP X.K θ H σ ρ∧Wr X.K θ H M∧dq X.K θ H d v∧∃ρ',s d ρ=some ρ'∧∀σ',jP X.K θ H σ' ρ'→Q σ' H
def ej (i:Nat):GG:=fun d ρ=>some (ρ.set i (some d))
def k9:List Nat→List D→cr→Option cr
 | [],[],ρ=>some ρ
 | i::is,d::ds,ρ=>k9 is ds (ρ.set i (some d))
 | _,_,_=>none
def bO (is:List Nat):GG:=fun d ρ=>match d with
 | .tup ds=>k9 is ds ρ
 | _=>none
theorem ux (hN:X.N.Nodup)(hi:X.N[i]?=some x)(hx:Dn X.env.scope x)(hf:X.fn x=true∨X.env.scope.names.lookup x=some .local:=by first|exact .inl rfl|exact .inr rfl|assumption):PG X (.Name x pos) (tG X (ej i)):=by
 intro ah s σ H v u Q I r h
 obtain⟨ρ,θ,M,d,hd,hw,rd,ρ',e,h⟩:=h
 cases e
 exact DQ hN hi hx hf ah s σ H v u Q I r (h _ (hd.set rd i))
def LX (X:Cx)(is:List Nat):DJ:=fun vs σ H Q=>∃ρ θ M ds,jP X.K θ H σ ρ∧Wr X.K θ H M∧bA X.K θ H ds vs∧∃ρ',k9 is ds ρ=some ρ'∧∀σ',jP X.K θ H σ' ρ'→Q σ' H
theorem Ea:yL X [] (LX X []):=by
 intro ah s σ H vs us Q I r h
 obtain⟨ρ,θ,M,ds,hd,hw,rd,ρ',e,h⟩:=h
 cases ds with
 | cons d ds=>cases e
 | nil=>
  have e2:vs=[]:=rd
  subst e2
  cases e
  exact yT ah s σ H [] us Q I r ⟨rfl,h σ hd⟩
theorem A4 (h1:PG X e (tG X (ej i)))(h2:yL X es (LX X is))
  (hs:(assignEach (e::es) X.env).map (·.2)=assign e X.env::(assignEach es X.env).map (·.2):=by rfl):yL X (e::es) (LX X (i::is)):=by
 intro ah s σ H vs us Q I r h
 obtain⟨ρ,θ,M,ds,hd,hw,rd,ρ',e1,h⟩:=h
 cases ds with
 | nil=>cases e1
 | cons d ds=>
  obtain⟨v,vr,e2,rv,rr⟩:=rd
  subst e2
  refine vE h1 h2 hs ah s σ H _ us Q I r ⟨v,vr,rfl,ρ,θ,M,d,hd,hw,rv,_,rfl,fun σ1 d1=>?_⟩
  exact⟨_,θ,M,ds,d1,hw,rr,ρ',e1,h⟩
theorem Hj {k:Nat}(hc:X.calm=true)(h:yL X es (LX X is))(hl:is.length=n:=by rfl)
  (hn:(assignEach es X.env).length=n:=by rfl) (hst:(assignEach es X.env).findIdx? (·.1)=none:=by rfl):PG X (.Tuple es k pos) (tG X (bO is)):=by
 intro ah s σ H v u Q I r hw
 obtain⟨ρ,θ,M,d,hd,hwr,rd,ρ',e1,hw⟩:=hw
 cases d with
 | tup ds=>
  obtain⟨a,vs,e2,ta,rs⟩:=rd
  have hlen:ds.length=is.length:=by
   have e1:k9 is ds ρ=some ρ':=e1
   clear hw hd hwr rs hn hst h hl
   induction is generalizing ds ρ with
   | nil=>
    cases ds with
    | nil=>rfl
    | cons _ _=>cases e1
   | cons i is ih=>
    cases ds with
    | nil=>cases e1
    | cons d ds=>rw[List.length_cons,List.length_cons,ih _ ds e1 e1]
  refine A8 (n:=n) hc h hn hst ah s σ H v u Q I r ⟨a,vs,e2,ta.sq,by rw[←av rs,hlen,hl],?_⟩
  exact⟨ρ,θ,M,ds,hd,hwr,rs,ρ',e1,hw⟩
 | _=>cases e1
def mG:List GG→List D→cr→Option cr
 | [],[],ρ=>some ρ
 | s::ss,d::ds,ρ=>match s d ρ with
  | some ρ1=>mG ss ds ρ1
  | none=>none
 | _,_,_=>none
def pS (ss:List GG):GG:=fun d ρ=>match d with
 | .tup ds=>mG ss ds ρ
 | _=>none
theorem sQ:∀{ss:List GG} {ds:List D} {ρ ρ':cr},mG ss ds ρ=some ρ'→ds.length=ss.length
 | [],[],_,_,_=>rfl
 | [],_::_,_,_,h=>by cases h
 | _::_,[],_,_,h=>by cases h
 | s::ss,d::ds,ρ,ρ',h=>by
  unfold mG at h
  split at h
  ·rw[List.length_cons,List.length_cons,sQ h]
  ·cases h
def Bv (X:Cx)(ss:List GG):DJ:=fun vs σ H Q=>∃ρ θ M ds,jP X.K θ H σ ρ∧Wr X.K θ H M∧bA X.K θ H ds vs∧∃ρ',mG ss ds ρ=some ρ'∧∀σ',jP X.K θ H σ' ρ'→Q σ' H
theorem BA:yL X [] (Bv X []):=by
 intro ah s σ H vs us Q I r h
 obtain⟨ρ,θ,M,ds,hd,hw,rd,ρ',e,h⟩:=h
 cases ds with
 | cons d ds=>cases e
 | nil=>
  have e2:vs=[]:=rd
  subst e2
  cases e
  exact yT ah s σ H [] us Q I r ⟨rfl,h σ hd⟩
theorem Ag {sg:GG}{ss:List GG}(h1:PG X e (tG X sg))(h2:yL X es (Bv X ss))
  (hs:(assignEach (e::es) X.env).map (·.2)=assign e X.env::(assignEach es X.env).map (·.2):=by rfl):yL X (e::es) (Bv X (sg::ss)):=by
 intro ah s σ H vs us Q I r h
 obtain⟨ρ,θ,M,ds,hd,hw,rd,ρ',e1,h⟩:=h
 cases ds with
 | nil=>cases e1
 | cons d ds=>
  obtain⟨v,vr,e2,rv,rr⟩:=rd
  subst e2
  unfold mG at e1
  split at e1
  ·rename_i ρ1 q1
   refine vE h1 h2 hs ah s σ H _ us Q I r ⟨v,vr,rfl,ρ,θ,M,d,hd,hw,rv,ρ1,q1,fun σ1 d1=>?_⟩
   exact⟨ρ1,θ,M,ds,d1,hw,rr,ρ',e1,h⟩
  ·cases e1
theorem E7 {ss:List GG}{k:Nat}(hc:X.calm=true)(h:yL X es (Bv X ss))(hl:ss.length=n:=by rfl)
  (hn:(assignEach es X.env).length=n:=by rfl) (hst:(assignEach es X.env).findIdx? (·.1)=none:=by rfl):PG X (.Tuple es k pos) (tG X (pS ss)):=by
 intro ah s σ H v u Q I r hw
 obtain⟨ρ,θ,M,d,hd,hwr,rd,ρ',e1,hw⟩:=hw
 cases d with
 | tup ds=>
  obtain⟨a,vs,e2,ta,rs⟩:=rd
  have hlen:ds.length=ss.length:=sQ e1
  refine A8 (n:=n) hc h hn hst ah s σ H v u Q I r ⟨a,vs,e2,ta.sq,by rw[←av rs,hlen,hl],?_⟩
  exact⟨ρ,θ,M,ds,hd,hwr,rs,ρ',e1,hw⟩
 | _=>cases e1
def en (s:GG)(g:GE):GS:=fun ρ M=>(g ρ M).bind fun d M1=>match s d ρ with
 | some ρ1=>.ok (.nx ρ1) M1
 | none=>.bad
theorem Jp {tg:Expr}{s:GG}(he:PE X e (tE X g))(hg:PG X tg (tG X s))(hs:swapsWithSole [tg] e pos.line X.env=pure false:=by rfl)(hw:swappedStores [tg] e X.env=pure none:=by rfl)
  (h1:(assignEach [tg] X.env).map (·.2)=[assign tg X.env]:=by rfl):PS X (.Assign [tg] e pos) (tS X (en s g)):=(AV he hg hs hw h1).of fun D σ H ⟨ρ,θ,M,hd,hwr,h⟩=>by
 refine bL hd hwr (cS X θ H D) (fun c M' h=>h) (fun h=>h) h fun d M1 v θ1 H1 g1 r1 h1=>?_
 cases q:s d ρ with
 | some ρ1=>
  rw[q] at h1
  exact⟨ρ,θ1,M1,d,hd.go g1,g1.wr,r1,ρ1,q,fun σ' d'=>h1 σ' θ1 H1 g1 d'⟩
 | none=>rw[q] at h1;exact h1.elim
def uj (o i x:D)(M:aA):bn Unit:=match o,i with
 | .mr k,.int j=>match M[k]? with
  | some (.lst xs)=>match Do xs.length j with
   | some n=>.ok () (M.set k (.lst (xs.set n x)))
   | none=>.bad
  | _=>.bad
 | _,_=>.bad
def mx (go gi g:GE):GS:=fun ρ M=>(g ρ M).bind fun x M1=>(go ρ M1).bind fun o M2=>(gi ρ M2).bind fun i M3=>(uj o i x M3).bind fun _ M4=>.ok (.nx ρ) M4
theorem He {o i:Expr}{ip:Pos}{go gi:GE}(he:PE X e (tE X g))(ho:PE X o (tE X go))(hi:PE X i (tE X gi))
  (ha:∀v,assign (.Subscript o i ip) X.env v=(do
   let ov ←holding [v] (eval o X.env)
   let iv ←holding [v,ov] (eval i X.env)
   standAt ip
   holding [v,ov,iv] (setItem ov iv v)
   release [v,ov,iv] []):=by intro _;rfl)
  (hs:swapsWithSole [.Subscript o i ip] e pos.line X.env=pure false:=by rfl) (hw:swappedStores [.Subscript o i ip] e X.env=pure none:=by rfl)
  (h1:(assignEach [.Subscript o i ip] X.env).map (·.2)=[assign (.Subscript o i ip) X.env]:=by rfl):PS X (.Assign [.Subscript o i ip] e pos) (tS X (mx go gi g)):=
 (AV he (HK ho hi BP ha) hs hw h1).of fun D σ H ⟨ρ,θ,M,hd,hwr,h⟩=>by
  refine bL hd hwr (cS X θ H D) (fun c M' h=>h) (fun h=>h) h fun dx M1 vx θ1 H1 g1 r1 h1=>?_
  refine bL (hd.go g1) g1.wr (cS X θ1 H1 D) (fun c M' h=>h) (fun h=>h) (h1.go g1) fun dob M2 vo θ2 H2 g2 r2 h2=>?_
  refine bL ((hd.go g1).go g2) g2.wr (cS X θ2 H2 D) (fun c M' h=>h) (fun h=>h) (h2.go g2) fun di M3 vi θ3 H3 g3 r3 h3=>?_
  have h4:=h3.go g3
  unfold uj at h4
  split at h4
  ·rename_i k j
   split at h4
   ·rename_i xs q
    split at h4
    ·rename_i n hn
     obtain⟨a,ea,ta⟩:=r2.go g3
     obtain⟨vs,ev,rv⟩:=g3.wr.at_ k a _ ta q
     have ei:vi=.int j:=r3
     refine⟨a,vs,j,n,ea,ei,ev,by rw[←av rv];exact hn,?_⟩
     have gs:=xt (ds:=xs) g3.wr ta (vF (r1.go (g2.trans g3)) n rv)
     exact h4 σ θ3 _ gs ((((hd.go g1).go g2).go g3).go gs)
    ·exact h4.elim
   ·exact h4.elim
  ·exact h4.elim
end
mutual
def iA:D→D→Bool
 | .non,.non=>true
 | .bl a,.bl b=>a==b
 | .int a,.int b=>a==b
 | .str a,.str b=>a==b
 | .tup a,.tup b=>jR a b
 | .lst a,.lst b=>jR a b
 | .ro a,.ro b=>jR a b
 | .mr a,.mr b=>a==b
 | .exc a,.exc b=>a==b
 | .any,.any=>true
 | _,_=>false
def jR:List D→List D→Bool
 | [],[]=>true
 | a::as,b::bs=>iA a b&&jR as bs
 | _,_=>false
end
mutual
theorem DU:∀(a b:D),iA a b=true→a=b
 | .non,b,h=>by cases b <;> simp_all [iA]
 | .bl x,b,h=>by cases b <;> simp_all [iA]
 | .int x,b,h=>by cases b <;> simp_all [iA]
 | .str x,b,h=>by cases b <;> simp_all [iA]
 | .tup x,b,h=>by
  cases b with
  | tup y=>rw[lV x y (by simpa[iA] using h)]
  | _=>simp[iA] at h
 | .lst x,b,h=>by
  cases b with
  | lst y=>rw[lV x y (by simpa[iA] using h)]
  | _=>simp[iA] at h
 | .ro x,b,h=>by
  cases b with
  | ro y=>rw[lV x y (by simpa[iA] using h)]
  | _=>simp[iA] at h
 | .mr x,b,h=>by cases b <;> simp_all [iA]
 | .exc x,b,h=>by cases b <;> simp_all [iA]
 | .any,b,h=>by cases b <;> simp_all [iA]
theorem lV:∀(a b:List D),jR a b=true→a=b
 | [],b,h=>by
  cases b with
  | nil=>rfl
  | cons _ _=>simp[jR] at h
 | x::xs,b,h=>by
  cases b with
  | nil=>simp[jR] at h
  | cons y ys=>
   simp only[jR,Bool.and_eq_true] at h
   rw[DU x y h.1,lV xs ys h.2]
end
mutual
theorem zv:∀(a:D),iA a a=true
 | .non=>rfl
 | .bl x=>by simp[iA]
 | .int x=>by simp[iA]
 | .str x=>by simp[iA]
 | .tup x=>by rw[iA];exact iS x
 | .lst x=>by rw[iA];exact iS x
 | .ro x=>by rw[iA];exact iS x
 | .mr x=>by simp[iA]
 | .exc x=>by simp[iA]
 | .any=>rfl
theorem iS:∀(a:List D),jR a a=true
 | []=>rfl
 | x::xs=>by rw[jR,zv x,iS xs];rfl
end
structure vf where
 ds:List D
 m:Option Nat
def vf.ok (t:vf)(M:aA):Bool:=match t.m with
 | none=>true
 | some i=>match M[i]? with
  | some (.lst xs)=>jR xs t.ds
  | _=>false
abbrev GI:=cr→aA→bn vf
def Dz (K:W.Frag)(J:It)(θ:List Addr)(H:Hp)(t:vf):Prop:=∀θ1 H1 M1,Go K θ H θ1 H1 M1→t.ok M1=true→∀i:Nat,
 (∀d,t.ds[i]?=some d→J.go i H1∧∀x H2,J.yld i H1 x H2→Go K θ1 H1 θ1 H2 M1∧dq K θ1 H2 d x)∧(t.ds.length≤i→J.stop i H1)
def BM (X:Cx)(θ:List Addr)(H:Hp)(R:It→Hp→Prop):bn vf→Prop
 | .ok t M'=>∀J θ' H',Go X.K θ H θ' H' M'→Dz X.K J θ' H' t→R J H'
 | .err c M'=>ft X θ H c M'
 | .bad=>False
def tI (X:Cx)(g:GI):TI:=fun σ H R=>∃ρ θ M,jP X.K θ H σ ρ∧Wr X.K θ H M∧BM X θ H R (g ρ M)
def vL (d:D)(M:aA):bn vf:=match d with
 | .lst ds=>.ok ⟨ds,none⟩ M
 | .ro ds=>.ok ⟨ds,none⟩ M
 | .tup ds=>.ok ⟨ds,none⟩ M
 | .mr k=>match M[k]? with
  | some (.lst ds)=>.ok ⟨ds,some k⟩ M
  | _=>.bad
 | _=>.bad
def bJ (g:GE):GI:=fun ρ M=>(g ρ M).bind vL
variable{body:List Stmt}
section
variable {X:Cx}{tg:Expr}
theorem KZ {l:Expr}{tl:TE}(hl:PE X l tl):PI X tg l (fun σ H R=>tl σ H fun x H1=>∃a,x=.ref a∧(((∃xs,mE X.K H1 a xs)∧R (My X.K a) H1)∨((∃xs,pV X.K H1 a xs)∧R (MV X.K a) H1))):=by
 intro ah s σ H R I h
 refine cF (hl ah s σ H _ I h) fun v s1 ⟨x,H1,I1,r1,q1⟩=>?_
 obtain⟨a,e,q1⟩:=q1
 subst e
 cases r1
 rcases q1 with⟨⟨xs,hq⟩,q⟩|⟨⟨xs,hq⟩,q⟩
 ·obtain⟨its,rv,p,hz⟩:=I1.list hq
  refine wpAny_pyIter_list p.isList ?_
  refine⟨s1.heap.objs.size,[s1.heap.objs.size],_,_,H1,rfl,I1.kept (t':=s1.toks) fun b o e=>Heap.get?_push_of_some _ e,Aq a _,⟨_,Heap.get?_push_size _ rfl,rfl,rfl⟩,fun b hb=>?_,q⟩
  have e:b=s1.heap.objs.size:=by simpa using hb
  subst e
  exact I1.fpOk (Nat.le_refl _) (I1.hok.fresh (Nat.le_refl _))
 ·obtain⟨its,rv,p,hz⟩:=I1.tuple hq
  refine wpAny_pyIter_tuple (show s1.heap.IsTuple a its.toArray from p) ?_
  refine⟨s1.heap.objs.size,[s1.heap.objs.size],_,_,H1,rfl,I1.kept (t':=s1.toks) fun b o e=>Heap.get?_push_of_some _ e,wR a _,⟨_,Heap.get?_push_size _ rfl,rfl,rfl⟩,fun b hb=>?_,q⟩
  have e:b=s1.heap.objs.size:=by simpa using hb
  subst e
  exact I1.fpOk (Nat.le_refl _) (I1.hok.fresh (Nat.le_refl _))
theorem yo (ta:rS K θ H a vs)(r:bA K θ H ds vs):Dz K (My K a) θ H ⟨ds,none⟩:=by
 intro θ1 H1 M1 g _ i
 have t1:=(ta.grow g.toGrow).sq
 have r1:=r.go g
 refine⟨fun d e=>?_,fun hl=>⟨vs,t1,by rw[←av r1];exact hl⟩⟩
 obtain⟨v,e1,rv⟩:=fZ r1 e
 refine⟨⟨vs,v,t1,e1⟩,fun x H2 y=>?_⟩
 obtain⟨eH,y⟩:=y
 subst eH
 have e2:=y vs t1
 rw[e1] at e2;cases e2
 exact⟨.refl g.wr,rv⟩
theorem DW (ta:nC K θ H a vs)(r:bA K θ H ds vs):Dz K (MV K a) θ H ⟨ds,none⟩:=by
 intro θ1 H1 M1 g _ i
 have t1:=(ta.grow g.toGrow).sq
 have r1:=r.go g
 refine⟨fun d e=>?_,fun hl=>⟨vs,t1,by rw[←av r1];exact hl⟩⟩
 obtain⟨v,e1,rv⟩:=fZ r1 e
 refine⟨⟨vs,v,t1,e1⟩,fun x H2 y=>?_⟩
 obtain⟨eH,y⟩:=y
 subst eH
 have e2:=y vs t1
 rw[e1] at e2;cases e2
 exact⟨.refl g.wr,rv⟩
theorem D0 {k:Nat}(ta:θ[k]?=some a):Dz K (My K a) θ H ⟨ds,some k⟩:=by
 intro θ1 H1 M1 g hok i
 have t1:θ1[k]?=some a:=by
  obtain⟨m,em,_⟩:=g.ext
  rw[em,List.getElem?_append_left (List.getElem?_eq_some_iff.mp ta).1]
  exact ta
 have hok':(match M1[k]? with|some (.lst xs)=>jR xs ds|_=>false)=true:=hok
 cases q:M1[k]? with
 | none=>rw[q] at hok';cases hok'
 | some m=>
  cases m with
  | lst xs=>
   rw[q] at hok'
   have e:xs=ds:=lV xs ds hok'
   subst e
   obtain⟨vs,hv,r1⟩:=g.wr.at_ k a _ t1 q
   have s1:mE K H1 a vs:=.inl (.inl hv)
   refine⟨fun d e=>?_,fun hl=>⟨vs,s1,by rw[←av r1];exact hl⟩⟩
   obtain⟨v,e1,rv⟩:=fZ r1 e
   refine⟨⟨vs,v,s1,e1⟩,fun x H2 y=>?_⟩
   obtain⟨eH,y⟩:=y
   subst eH
   have e2:=y vs s1
   rw[e1] at e2;cases e2
   exact⟨.refl g.wr,rv⟩
  | _=>rw[q] at hok';cases hok'
theorem IA {l:Expr}(hl:PE X l (tE X g)):PI X tg l (tI X (bJ g)):=by
 intro ah s σ H R I h
 refine KZ hl ah s σ H R I ?_
 obtain⟨ρ,θ,M,hd,hw,h⟩:=h
 refine bL hd hw (BM X θ H R) (fun c M' h=>h) (fun h=>h) h fun d M1 v θ1 H1 g1 r1 h1=>?_
 cases d with
 | lst ds=>
  obtain⟨a,vs,e,ta,r⟩:=r1
  exact⟨a,e,.inl ⟨⟨vs,ta.sq⟩,h1 _ θ1 H1 g1 (yo (.inl ⟨.inl ta.1,ta.2⟩) r)⟩⟩
 | ro ds=>
  obtain⟨a,vs,e,ta,r⟩:=r1
  exact⟨a,e,.inl ⟨⟨vs,ta.sq⟩,h1 _ θ1 H1 g1 (yo ta r)⟩⟩
 | tup ds=>
  obtain⟨a,vs,e,ta,r⟩:=r1
  exact⟨a,e,.inr ⟨⟨vs,ta.sq⟩,h1 _ θ1 H1 g1 (DW ta r)⟩⟩
 | mr k=>
  obtain⟨a,e,ta⟩:=r1
  have h2:BM X θ H R (match M1[k]? with|some (.lst ds)=>.ok ⟨ds,some k⟩ M1|_=>.bad):=h1
  cases q:M1[k]? with
  | none=>rw[q] at h2;exact h2.elim
  | some m=>
   cases m with
   | lst ds=>
    rw[q] at h2
    obtain⟨vs,hv,r⟩:=g1.wr.at_ k a _ ta q
    exact⟨a,e,.inl ⟨⟨vs,.inl (.inl hv)⟩,h2 _ θ1 H1 g1 (D0 ta)⟩⟩
   | _=>rw[q] at h2;exact h2.elim
 | _=>exact h1.elim
def bD (lo:Int)(n:Nat):List D:=(List.range n).map fun(k:Nat)=>D.int (lo+(k:Int))
theorem ET (lo:Int)(n:Nat):Dz K (MA lo n) θ H ⟨bD lo n,none⟩:=by
 intro θ1 H1 M1 g _ i
 refine⟨fun d e=>?_,fun hl=>?_⟩
 ·have hi:i<n:=by
   have:=(List.getElem?_eq_some_iff.mp e).1
   simpa[bD] using this
  refine⟨hi,fun x H2 y=>?_⟩
  obtain⟨eH,y⟩:=y
  subst eH
  refine⟨.refl g.wr,?_⟩
  have e':D.int (lo+(i:Int))=d:=by
   have:(bD lo n)[i]?=some (D.int (lo+(i:Int))):=by simp[bD,hi]
   rw[this] at e;exact Option.some.inj e
  subst e'
  exact y
 ·have h2:(bD lo n).length≤i:=hl
  have h3:n≤i:=by simpa[bD] using h2
  exact h3
def Bn (ds:List D)(M:aA):bn vf:=match ds with
 | [.int j]=>if -(2 ^ 62)≤j∧j<2 ^ 62 then .ok ⟨bD 0 j.toNat,none⟩ M else .bad
 | _=>.bad
def gH (g:GA):GI:=fun ρ M=>(g ρ M).bind Bn
theorem Aj {a:Expr}{g:GA}{p pos:Pos}(hg:Gl X "range")(hm:X.mg "range"=none)(ha:PA X [a] (tA X g))(hs:starEach [a] X.env=[(false,eval a X.env)]:=by rfl):PI X tg (.Call (.Name "range" p) [a] [] pos) (tI X (gH g)):=by
 intro ah s σ H R I h
 refine Ae hg hm ha hs ah s σ H R I ?_
 obtain⟨ρ,θ,M,hd,hw,h⟩:=h
 refine mB hd hw (BM X θ H R) (fun c M' h=>h) (fun h=>h) h fun ds M1 vs θ1 H1 g1 r1 h1=>?_
 unfold Bn at h1
 split at h1
 ·rename_i j
  obtain⟨v,r,e,rv,rr⟩:=r1
  have e2:r=[]:=rr
  have e3:v=.int j:=rv
  subst e2;subst e3
  split at h1
  ·rename_i hj
   exact⟨j,e,hj.1,hj.2,h1 _ θ1 H1 g1 (ET 0 j.toNat)⟩
  ·exact h1.elim
 ·exact h1.elim
def gJ (t:vf)(s:GG)(body:GS):List D→cr→aA→bn Fl
 | [],ρ,M=>if t.ok M then .ok (.nx ρ) M else .bad
 | d::r,ρ,M=>if t.ok M then
   match s d ρ with
   | none=>.bad
   | some ρ1=>(body ρ1 M).bind fun f M1=>match f with
    | .nx ρ2=>gJ t s body r ρ2 M1
    | .ct ρ2=>gJ t s body r ρ2 M1
    | .bk ρ2=>.ok (.nx ρ2) M1
    | .rt d=>.ok (.rt d) M1
  else .bad
def jb (gi:GI)(s:GG)(body:GS):GS:=fun ρ M=>(gi ρ M).bind fun t M1=>gJ t s body t.ds ρ M1
theorem Ha {iter:Expr}{gi:GI}{sg:GG}{gb:GS}{pos:Pos}(hp:PassesOwn (model X.prog X.w) X.A X.env X.xe)(hc:X.calm=true)(hi:PI X tg iter (tI X gi))(hg:PG X tg (tG X sg))(hb:PSs X body (tS X gb))
  (hs:∀x,foldedSetIterable iter X.env x=pure x:=by intro _;rfl):PS X (.For tg iter body [] pos) (tS X (jb gi sg gb)):=(ID hp hc hi hg hb hs).of fun D σ H ⟨ρ,θ,M,hd,hw,h⟩=>by
 refine⟨ρ,θ,M,hd,hw,?_⟩
 unfold jb at h
 cases q:gi ρ M with
 | err c M1=>rw[q] at h;exact h
 | bad=>rw[q] at h;exact h
 | ok t M1=>
  rw[q] at h
  intro J θ1 H1 g1 hJ
  have h:cS X θ H D (gJ t sg gb t.ds ρ M1):=h
  refine⟨fun i m σ' H'=>m=t.ds.length-i∧i≤t.ds.length∧∃ρ' θ' M',Go X.K θ1 H1 θ' H' M'∧jP X.K θ' H' σ' ρ'∧cS X θ' H' D (gJ t sg gb (t.ds.drop i) ρ' M'),
   ⟨t.ds.length,by simp,Nat.zero_le _,ρ,θ1,M1,.refl g1.wr,hd.go g1,cS.go g1 h⟩,?_⟩
  rintro i m σ' H' ⟨rfl,hil,ρ',θ',M',g',hd',h'⟩
  by_cases hok:t.ok M'=true
  ·obtain⟨hy,hst⟩:=hJ θ' H' M' g' hok i
   by_cases hlt:i<t.ds.length
   ·refine .inr ?_
    have e1:t.ds[i]?=some t.ds[i]:=List.getElem?_eq_getElem hlt
    obtain⟨hgo,hyl⟩:=hy _ e1
    rw[List.drop_eq_getElem_cons hlt,gJ,if_pos hok] at h'
    refine⟨hgo,fun σ2 H2=>∃ρ2 θ2 M2,Go X.K θ' H' θ2 H2 M2∧jP X.K θ2 H2 σ2 ρ2∧cS X θ2 H2 D (gJ t sg gb (t.ds.drop (i+1)) ρ2 M2),fun σ2 H2 ⟨ρ2,θ2,M2,g2,d2,h2⟩=>?_,fun x H2 y=>?_⟩
    ·exact⟨t.ds.length-(i+1),by omega,rfl,hlt,ρ2,θ2,M2,g'.trans g2,d2,h2⟩
    ·obtain⟨gy,rx⟩:=hyl x H2 y
     cases qs:sg t.ds[i] ρ' with
     | none=>rw[qs] at h';exact h'.elim
     | some ρ1=>
      rw[qs] at h'
      refine⟨ρ',θ',M',_,hd'.go gy,gy.wr,rx,ρ1,qs,fun σ1 d1=>⟨ρ1,θ',M',d1,gy.wr,?_⟩⟩
      have h':cS X θ' H2 D ((gb ρ1 M').bind _):=cS.go gy h'
      cases qb:gb ρ1 M' with
      | err c M2=>rw[qb] at h';exact h'
      | bad=>rw[qb] at h';exact h'
      | ok f M2=>
       rw[qb] at h'
       cases f with
       | nx ρ2=>exact fun σ2 θ2 H3 g2 d2=>⟨ρ2,θ2,M2,gy.trans g2,d2,cS.go g2 h'⟩
       | ct ρ2=>exact fun σ2 θ2 H3 g2 d2=>⟨ρ2,θ2,M2,gy.trans g2,d2,cS.go g2 h'⟩
       | bk ρ2=>exact h'
       | rt d=>exact h'
   ·have e:i=t.ds.length:=by omega
    subst e
    rw[List.drop_length,gJ,if_pos hok] at h'
    exact .inl ⟨hst (Nat.le_refl _),h' σ' θ' H' (.refl g'.wr) hd'⟩
  ·have hz:cS X θ' H' D .bad:=by
    cases hdr:t.ds.drop i with
    | nil=>rw[hdr,gJ,if_neg hok] at h';exact h'
    | cons d r=>rw[hdr,gJ,if_neg hok] at h';exact h'
   exact hz.elim
end
def BQ (K:W.Frag)(θ:List Addr)(H:Hp)(E:XK)(c:Str)(M:aA):Prop:=∀C θ' H' a,dm K c C→Go K θ H θ' H' M→E (.ref C) (some a) H'
def xX (K:W.Frag)(θ:List Addr)(H:Hp)(Q:VK)(E:XK):bn D→Prop
 | .ok d M'=>∀v θ' H',Go K θ H θ' H' M'→dq K θ' H' d v→Q v H'
 | .err c M'=>BQ K θ H E c M'
 | .bad=>False
abbrev FD:=List D→aA→bn D
def ng (K:W.Frag)(n:Nat)(F:FD):Sp:=fun vs H Q E=>∃θ M ds,ds.length=n∧bA K θ H ds vs∧Wr K θ H M∧xX K θ H Q E (F ds M)
variable{F:FD}{ps:List Str}
theorem n8 (hn:ps.length=n):∀vs H Q E,ng K n F vs H Q E→vs.length=ps.length:=fun vs H Q E ⟨θ,M,ds,hl,r,_⟩=>by rw[hn,←hl,av r]
def ka (k:Nat)(ds:List D):cr:=ds.map some++List.replicate k none
def aQ (o:bn Fl):bn D:=o.bind fun f M=>match f with
 | .rt d=>.ok d M
 | .nx _=>.ok .non M
 | _=>.bad
def aX (k:Nat)(g:GS):FD:=fun ds M=>aQ (g (ka k ds) M)
theorem Hf (r:bA K θ H ds vs)(N:List Str):jP K θ H (L2.start N vs) (ka (N.length-vs.length) ds):=by
 have hl:=av r
 refine⟨by simp[L2.start,ka,hl],fun i d e=>?_⟩
 unfold ka at e
 by_cases hi:i<ds.length
 ·rw[List.getElem?_append_left (by simpa using hi),List.getElem?_map] at e
  cases q:ds[i]? with
  | none=>rw[q] at e;cases e
  | some d'=>
   rw[q] at e
   have e':d'=d:=by simpa using e
   subst e'
   obtain⟨v,e1,rv⟩:=fZ r q
   refine⟨v,?_,rv⟩
   unfold L2.start
   rw[List.getElem?_append_left (by rw[List.length_map,←hl];exact hi),List.getElem?_map,e1]
   rfl
 ·rw[List.getElem?_append_right (by simpa using hi),List.getElem?_replicate] at e
  split at e <;> cases e
variable{fd:FuncData}
section
variable {P:Program}{w:World}{K:W.Frag}{mg:Str→Option Value}{base:Heap}
theorem Nv {qual:Str}{st:Stmt}{N:List Str}{k:Nat}{g:GS}(F:FA K x qual st f fd)(S:eR N ps (aO st))(hn:ps.length=n)
  (hbody:∀(cdv:Value) (A:Around) (outer:List Env) (s:Shared) (H:Hp) (E:XK),bI k (A.deeper (envOfC qual (aO st) s.heap.objs.size f cdv))→
   PSs (io (ik P w) P w K mg base N qual (aO st) f cdv A outer s H E) (cB st) (tS (io (ik P w) P w K mg base N qual (aO st) f cdv A outer s H E) g)) :
  dN P w K mg base (ik P w) (k+1) f fd ps (ng K n (aX (N.length-n) g)):=by
 obtain⟨oc,od,kV,doc,pm,an,cdv,ct,osl,rfl,lk,hcd⟩:=F.ex
 refine FZ lk hcd S (n8 hn) fun A outer s H vs Q E hr h=>⟨_,hbody cdv A outer s H E hr,?_⟩
 obtain⟨θ,M,ds,hl,r,hw,h⟩:=h
 have hv:vs.length=n:=by rw[←av r];exact hl
 refine⟨ka (N.length-n) ds,θ,M,by rw[←hv];exact Hf r N,hw,?_⟩
 have h:xX K θ H Q E (aQ (g (ka (N.length-n) ds) M)):=h
 unfold aQ at h
 cases q:g (ka (N.length-n) ds) M with
 | bad=>rw[q] at h;exact h
 | err c M1=>
  rw[q] at h
  have h:BQ K θ H E c M1:=h
  exact fun C θ' H' a s' kC g1 fl=>m6 fl (h C θ' H' a kC g1)
 | ok fl M1=>
  rw[q] at h
  cases fl with
  | rt d=>exact h
  | nx ρ1=>exact fun σ1 θ1 H1 g1 _=>h .non θ1 H1 g1 rfl
  | bk ρ1=>exact h.elim
  | ct ρ1=>exact h.elim
end
variable{T:String}
section
variable {X:Cx}{e:Expr}{es:List Expr}{x:Str}{p pos:Pos}{k n:Nat}{f:Addr}{fd:FuncData}{ps:List Str}{F:FD}{ga:GA}
def aj (n:Nat)(F:FD)(ga:GA):GE:=fun ρ M=>(ga ρ M).bind fun ds M1=>if ds.length=n then F ds M1 else .bad
def DE (X:Cx):XK:=fun cls oa H'=>∃a C c θ M,oa=some a∧cls=.ref C∧dm X.K c C∧Wr X.K θ H' M∧ft X θ H' c M
theorem jz:mI (ik X.prog X.w) X (DE X):=fun ah σ H s e s' I h=>by
 obtain⟨a,C,H',rfl,fl,a',C',c,θ,M,e1,e2,kC,hw,ok⟩:=z9 I h
 cases e1;cases e2
 exact ok C θ H' a s' kC (.refl hw) fl
theorem uf {c:Str}(h:ft X θ H c M):BQ X.K θ H (DE X) c M:=fun C θ' H' a kC g=>⟨a,C,c,θ',M,rfl,rfl,kC,g.wr,h.go g⟩
theorem FK (Fn:dN X.prog X.w X.K X.mg X.base (ik X.prog X.w) k f fd ps (ng X.K n F))(hr:bI k X.A)(hg:Gl X x)(hm:X.mg x=some (.ref f))(hk:W.keepIn X.K (.ref f)=true)(hb:fg X.K fd ps [])
  (ha:PA X (e::es) (tA X ga)) (hdb:(x==("__debug__":Str))=false:=by decide) (he:starEach (e::es) X.env=(false,eval e X.env)::starEach es X.env:=by rfl) (hpl:(backTo pos (starEach es X.env)).any (·.1)=false:=by rfl) :
  PE X (.Call (.Name x p) (e::es) [] pos) (tE X (aj n F ga)):=(Fj Fn hr hg hm hk hb .nil jz ha hdb he hpl).of fun σ H Q ⟨ρ,θ,M,hd,hw,h⟩=>by
 refine mB hd hw (aN X θ H Q) (fun c M' h=>h) (fun h=>h) h fun ds M1 vs θ1 H1 g1 r1 h1=>?_
 by_cases hl:ds.length=n
 ·rw[if_pos hl] at h1
  refine⟨θ1,M1,ds,hl,by rw[List.append_nil];exact r1,g1.wr,?_⟩
  have h2:=aN.go g1 h1
  cases q:F ds M1 with
  | ok d M2=>rw[q] at h2;exact h2
  | err c M2=>rw[q] at h2;exact uf h2
  | bad=>rw[q] at h2;exact h2
 ·rw[if_neg hl] at h1;exact h1.elim
def rC (X:Cx)(F:FD):List V→Hp→VK→Prop:=fun xs H Q=>∃θ M ds,Wr X.K θ H M∧bA X.K θ H ds xs∧aN X θ H Q (F ds M)
def aC (F:FD)(ga:GA):GE:=fun ρ M=>(ga ρ M).bind F
theorem Au {Q:VK}(h:tE X (aC F ga) σ H Q):Mz (rC X F) (tA X ga) σ H Q:=by
 obtain⟨ρ,θ,M,hd,hw,h⟩:=h
 exact mB hd hw (aN X θ H Q) (fun c M' h=>h) (fun h=>h) h fun ds M1 vs θ1 H1 g1 r1 h1=>⟨θ1,M1,ds,g1.wr,r1,aN.go g1 h1⟩
theorem AO {id:String}(hc:dY X (.builtin id) (rC X F))(hg:Gl X x)(hm:X.mg x=none)(hv:bootBuiltins x=some (.builtin id))(ha:PA X (e::es) (tA X ga))(hn:x≠"__name__":=by decide)(hdb:(x==("__debug__":Str))=false:=by decide)
  (he:starEach (e::es) X.env=(false,eval e X.env)::starEach es X.env:=by rfl) (hpl:(backTo pos (starEach es X.env)).any (·.1)=false:=by rfl):PE X (.Call (.Name x p) (e::es) [] pos) (tE X (aC F ga)):=
 (nT hc hg hm hv ha hn hdb he hpl).of fun σ H Q h=>Au h
theorem Am (hc:dY X (.type T) (rC X F))(hg:Gl X x)(hm:X.mg x=none)(hv:bootBuiltins x=some (.type T))(ha:PA X (e::es) (tA X ga))(hn:x≠"__name__":=by decide)(hdb:(x==("__debug__":Str))=false:=by decide)
  (he:starEach (e::es) X.env=(false,eval e X.env)::starEach es X.env:=by rfl) (hpl:(backTo pos (starEach es X.env)).any (·.1)=false:=by rfl):PE X (.Call (.Name x p) (e::es) [] pos) (tE X (aC F ga)):=
 (zj hc hg hm hv ha hn hdb he hpl).of fun σ H Q h=>Au h
end
variable{items:Array Value}
section
variable {prog:Program}{w:World}{A:Around}{E:Value→Shared→Prop}{s:Shared}
theorem Cs {t b:Addr}{ws:List Value}{Q:Value→Shared→Prop}(ht:IsTup s.heap t #[])(hb:IsTup s.heap b ws.toArray)
  (h:Q (.ref b) s):wpAny (model prog w) A (binaryOp .Add (.ref t) (.ref b)) Q E s:=by
 obtain⟨⟨cls,dd,data,sl⟩,ho,hc,n,hd⟩:=id ht
 obtain⟨⟨cls2,dd2,data2,sl2⟩,ho2,hc2,n2,hd2⟩:=id hb
 simp only at hc hd hc2 hd2
 subst hc hd hc2 hd2
 exact concat_meets ⟨_,ho,rfl⟩ ⟨_,ho2,rfl⟩ noFill_tuple_add seq_tuple_add PySem.F.slot_tuple_add PySem.F.entry_tuple_add (PySem.F.args_tuple_add_2 _ _)
   (tuple_addW0 t b #[] ws.toArray n n2 dd dd2 sl sl2 (by simp)) ⟨ho,ho2,h⟩
theorem mz {t sl:Addr}{vl vu:Value}{lo hi:Option Int}{Q:Value→Shared→Prop}(ht:IsTup s.heap t items)(hs:s.heap.IsSliceOf sl vl vu .none)(pl:IsPart vl lo)(pu:IsPart vu hi)
  (hw:HT.sIx items.size 0 lo=0∧HT.sIx items.size items.size hi=items.size) (h:Q (.ref t) s):wpAny (model prog w) A (getItem (.ref t) (.ref sl)) Q E s:=by
 obtain⟨os,hos,hcs,hds⟩:=id hs
 have hTs:s.TypeIs (.ref sl) "slice":=⟨os,hos,hcs⟩
 unfold getItem
 try with_reducible refine wpAny_holding ?_
 first|refine wpAny_bind (wpAny_pure ?_)|skip
 refine wpAny_bind (wpAny_sequenceKey ht.typeIs (by decide) ?_)
 refine wpAny_bind (wpAny_callSpecial?_slot (name:=Str.ofString "__getitem__") ht.typeIs PyProof.Rows.slot_tuple_getitem
  (wpAny_call_entry PyProof.Rows.slot_tuple_getitem ht.typeIs entry_tuple_getitem ?_ (args_tuple_getitem _ _)))
 show wpAny _ _ (Builtin.Tuple.tupleItemsOf (.ref t) >>= _) _ _ s
 refine wpAny_bind (tupleItemsOf_ ht ?_)
 refine wpAny_bind (wpAny_typeOf hTs ?_)
 rw[if_pos (by decide)]
 refine wpAny_bind (HT.sliceApplied_gen hs pl pu ?_)
 have hyes:(((HT.sIx items.size 0 lo:Nat):Int)==0&&(1:Int)==1&&(HT.sIx items.size items.size hi-HT.sIx items.size 0 lo)==items.size)=true:=by
  rw[hw.1,hw.2];simp
 show wpAny _ _ (if(((HT.sIx items.size 0 lo:Nat):Int)==0&&(1:Int)==1&&(HT.sIx items.size items.size hi-HT.sIx items.size 0 lo)==items.size)=true then _ else _) _ _ s
 rw[if_pos hyes]
 unfold Builtin.Tuple.tupleIsExact
 refine wpAny_bind (wpAny_bind (wpAny_typeOf ht.typeIs (wpAny_pure ?_)))
 rw[if_pos (by decide)]
 first
  | exact wpAny_bind (wpAny_rule (wpAny_bind (wpAny_pure ⟨_,rfl,wpAny_pure h⟩)))
  | exact wpAny_bind (wpAny_rule (wpAny_pure ⟨_,rfl,wpAny_pure h⟩))
  | exact wpAny_bind (wpAny_rule (wpAny_bind (wpAny_pure (wpAny_pure ⟨_,rfl,wpAny_pure h⟩))))
end
def pR (d:D)(M:aA):Option (List D):=match d with
 | .lst xs=>some xs
 | .mr k=>match M[k]? with
  | some (.lst xs)=>some xs
  | _=>none
 | _=>none
def bS:F2:=fun x y M=>match x,y with
 | .int i,.int j=>.ok (.int (i+j)) M
 | .str a,.str b=>if a.length+b.length≤sizeLine then .ok (.str (a++b)) M else .bad
 | .tup a,.tup b=>if a.length+b.length≤sizeLine then .ok (.tup (a++b)) M else .bad
 | .bl a,.int j=>.ok (.int ((if a=true then 1 else 0)+j)) M
 | x,y=>match pR x M,pR y M with
  | some a,some b=>if a.length+b.length≤sizeLine then .ok (.lst (a++b)) M else .bad
  | _,_=>.bad
def wC:F2:=fun x y M=>match pR x M,pR y M with
 | some a,some b=>if a.length+b.length≤sizeLine then .ok (.mr M.length) (M++[.lst (a++b)]) else .bad
 | _,_=>.bad
theorem sC {xs:List D}(hw:Wr K θ H M)(r:dq K θ H d v)(e:pR d M=some xs):∃a vs,v=.ref a∧H a=some (.lst vs)∧bA K θ H xs vs:=by
 cases d with
 | lst ys=>cases e;obtain⟨a,vs,ea,ta,ra⟩:=r;exact⟨a,vs,ea,ta.1,ra⟩
 | mr k=>
  obtain⟨a,ea,ta⟩:=r
  have e:(match M[k]? with|some (.lst xs)=>some xs|_=>none)=some xs:=e
  cases q:M[k]? with
  | none=>rw[q] at e;cases e
  | some m=>
   cases m with
   | lst ys=>
    rw[q] at e
    cases e
    obtain⟨vs,hv,ra⟩:=hw.at_ k a _ ta q
    exact⟨a,vs,ea,hv,ra⟩
   | _=>rw[q] at e;cases e
 | _=>cases e
def iF:F2:=fun x y M=>match x,y with
 | .int i,.int j=>.ok (.int (i-j)) M
 | _,_=>.bad
def gT:F2:=fun x y M=>match x,y with
 | .int i,.int j=>if(-(2 ^ 64)<i∧i<2 ^ 64)∨(-(2 ^ 64)<j∧j<2 ^ 64) then .ok (.int (i*j)) M else .bad
 | _,_=>.bad
def jv:F2:=fun x y M=>match x,y with
 | .int i,.int j=>if 0<j∧j.natAbs.log2<9000 then .ok (.int (i / j)) M else .bad
 | _,_=>.bad
def ij:F2:=fun x y M=>match x,y with
 | .int i,.int j=>if 0<j then .ok (.int (i % j)) M else .bad
 | _,_=>.bad
def pT:F2:=fun x y M=>match x,y with
 | .int i,.int j=>if 0≤j∧j≤1000000∧i.natAbs<2 ^ 64 then .ok (.int (i ^ j.toNat)) M else .bad
 | _,_=>.bad
variable{u:Value}{e:Expr}
section
variable {X:Cx}
theorem Jh:iO X (binaryOp .Add) (rD X bS):=by
 intro ah s σ H x y v u Q I rx ry h
 obtain⟨θ,M,dx,dy,hw,r1,r2,h⟩:=h
 unfold bS at h
 split at h
 ·rename_i i j
  exact Jq ah s σ H x y v u Q I rx ry ⟨i,j,r1,r2,h _ θ H (.refl hw) rfl⟩
 ·rename_i a b
  split at h
  ·rename_i hl
   exact wW ah s σ H x y v u Q I rx ry ⟨a,b,r1,r2,hl,h _ θ H (.refl hw) rfl⟩
  ·exact h.elim
 ·rename_i as bs
  split at h
  ·rename_i hl
   obtain⟨a,vs,ea,ta,ra⟩:=r1
   obtain⟨b,us,eb,tb,rb⟩:=r2
   by_cases hv:vs=[]
   ·subst hv
    have e0:as=[]:=List.length_eq_zero_iff.mp (av ra)
    subst e0
    subst ea;subst eb
    cases rx;cases ry
    obtain⟨its,q1,p1,_⟩:=I.tuple ta.sq
    obtain⟨its2,q2,p2,_⟩:=I.tuple tb.sq
    cases q1
    exact Cs p1 p2 ⟨.ref b,H,I,rfl,h _ θ H (.refl hw) ⟨b,us,rfl,tb,rb⟩⟩
   ·refine Ej ah s σ H x y v u Q I rx ry ⟨a,b,vs,us,ea,eb,ta.sq,tb.sq,hv,by rw[←av ra,←av rb];exact hl,fun hu=>?_,fun _ p hp=>h _ θ _ (dR hw hp) (iI hw hp (dn ra rb))⟩
    subst hu
    have e0:bs=[]:=List.length_eq_zero_iff.mp (av rb)
    subst e0
    exact h _ θ H (.refl hw) ⟨a,vs,rfl,ta,by rw[List.append_nil];exact ra⟩
  ·exact h.elim
 ·rename_i a j
  have e1:x=.bl a:=r1
  have e2:y=.int j:=r2
  subst e1;subst e2
  cases rx
  obtain⟨t',rfl⟩:=ry
  exact IntBool.add_bool_int ⟨.int _,H,I.tok _,⟨_,rfl⟩,h _ θ H (.refl hw) rfl⟩
 ·split at h
  ·rename_i as bs q1 q2
   split at h
   ·rename_i hl
    obtain⟨a,vs,ea,ta,ra⟩:=sC hw r1 q1
    obtain⟨b,us,eb,tb,rb⟩:=sC hw r2 q2
    exact AD ah s σ H x y v u Q I rx ry ⟨a,b,vs,us,ea,eb,ta,tb,by rw[←av ra,←av rb];exact hl,fun p hp=>h _ θ _ (dR hw hp) (kI hw hp (dn ra rb))⟩
   ·exact h.elim
  ·exact h.elim
theorem nN {H':Hp}{p:Addr}(hw:Wr K θ H M):dq K (θ++[p]) H' (.mr M.length) (.ref p):=by
 refine⟨p,rfl,?_⟩
 rw[←hw.len,List.getElem?_append_right (Nat.le_refl _)]
 simp
theorem Dw:iO X (binaryOp .Add) (rD X wC):=by
 intro ah s σ H x y v u Q I rx ry h
 obtain⟨θ,M,dx,dy,hw,r1,r2,h⟩:=h
 unfold wC at h
 split at h
 ·rename_i as bs q1 q2
  split at h
  ·rename_i hl
   obtain⟨a,vs,ea,ta,ra⟩:=sC hw r1 q1
   obtain⟨b,us,eb,tb,rb⟩:=sC hw r2 q2
   exact AD ah s σ H x y v u Q I rx ry ⟨a,b,vs,us,ea,eb,ta,tb,by rw[←av ra,←av rb];exact hl,fun p hp=>h _ _ _ (BZ hw hp (dn ra rb)) (nN hw)⟩
  ·exact h.elim
 ·exact h.elim
theorem HY:iO X (binaryOp .Sub) (rD X iF):=by
 intro ah s σ H x y v u Q I rx ry h
 obtain⟨θ,M,dx,dy,hw,r1,r2,h⟩:=h
 unfold iF at h
 split at h
 ·rename_i i j
  exact IP ah s σ H x y v u Q I rx ry ⟨i,j,r1,r2,h _ θ H (.refl hw) rfl⟩
 ·exact h.elim
theorem Iy:iO X (binaryOp .Mult) (rD X gT):=by
 intro ah s σ H x y v u Q I rx ry h
 obtain⟨θ,M,dx,dy,hw,r1,r2,h⟩:=h
 unfold gT at h
 split at h
 ·rename_i i j
  split at h
  ·rename_i hc
   exact Jc ah s σ H x y v u Q I rx ry ⟨i,j,r1,r2,hc,h _ θ H (.refl hw) rfl⟩
  ·exact h.elim
 ·exact h.elim
theorem EE:iO X (binaryOp .FloorDiv) (rD X jv):=by
 intro ah s σ H x y v u Q I rx ry h
 obtain⟨θ,M,dx,dy,hw,r1,r2,h⟩:=h
 unfold jv at h
 split at h
 ·rename_i i j
  split at h
  ·rename_i hc
   have e1:x=.int i:=r1
   have e2:y=.int j:=r2
   subst e1;subst e2
   obtain⟨t,rfl⟩:=rx
   obtain⟨t',rfl⟩:=ry
   have h1:(0:Int)<j:=hc.1
   exact floordiv_int (by omega) (by rw[Int.fdiv_eq_ediv_of_nonneg i (by omega)];exact⟨.int (i / j),H,I.tok _,⟨_,rfl⟩,h _ θ H (.refl hw) rfl⟩) (.inl (PyProof.noPylong_of_log2 hc.2))
  ·exact h.elim
 ·exact h.elim
theorem Gw:iO X (binaryOp .Mod) (rD X ij):=by
 intro ah s σ H x y v u Q I rx ry h
 obtain⟨θ,M,dx,dy,hw,r1,r2,h⟩:=h
 unfold ij at h
 split at h
 ·rename_i i j
  split at h
  ·rename_i hc
   exact GW ah s σ H x y v u Q I rx ry ⟨i,j,r1,r2,hc,h _ θ H (.refl hw) rfl⟩
  ·exact h.elim
 ·exact h.elim
theorem Gf:iO X (binaryOp .Pow) (rD X pT):=by
 intro ah s σ H x y v u Q I rx ry h
 obtain⟨θ,M,dx,dy,hw,r1,r2,h⟩:=h
 unfold pT at h
 split at h
 ·rename_i i j
  split at h
  ·rename_i hc
   exact IF ah s σ H x y v u Q I rx ry ⟨i,j,r1,r2,hc,h _ θ H (.refl hw) rfl⟩
  ·exact h.elim
 ·exact h.elim
def iU (g:GE):GE:=fun ρ M=>(g ρ M).bind fun x M1=>match x with
 | .int i=>.ok (.int (-i)) M1
 | _=>.bad
theorem JA {a:Expr}(ha:PE X a (tE X g)):PE X (.UnaryOp .USub a pos) (tE X (iU g)):=(F7 Bh ha).of fun σ H Q ⟨ρ,θ,M,hd,hw,h⟩=>by
 refine bL hd hw (aN X θ H Q) (fun c M' h=>h) (fun h=>h) h fun d M1 v θ1 H1 g1 r1 h1=>?_
 split at h1
 ·rename_i i
  exact⟨i,r1,h1 _ θ1 H1 g1 rfl⟩
 ·exact h1.elim
theorem IH {a:Expr}(ha:PE X a (tE X g)):PE X (.UnaryOp .Not a pos) (tE X (ul (aH g))):=(Iu ha).of fun σ H Q ⟨ρ,θ,M,hd,hw,h⟩=>by
 refine⟨ρ,θ,M,hd,hw,?_⟩
 unfold ul aH at h
 cases q:g ρ M with
 | ok d M1=>
  rw[q] at h
  cases d with
  | bl b=>exact fun v θ1 H1 g1 r1=>⟨b,r1,h _ θ1 H1 g1 rfl⟩
  | _=>exact h.elim
 | err c M1=>rw[q] at h;exact h
 | bad=>rw[q] at h;exact h
def rN:F2:=fun x y M=>match x,y with
 | .int i,.int j=>.ok (.bl (decide (i<j))) M
 | _,_=>.bad
def lq:F2:=fun x y M=>match x,y with
 | .int i,.int j=>.ok (.bl (decide (i≤j))) M
 | _,_=>.bad
def nr:F2:=fun x y M=>match x,y with
 | .int i,.int j=>.ok (.bl (decide (j<i))) M
 | _,_=>.bad
def wO:F2:=fun x y M=>match x,y with
 | .int i,.int j=>.ok (.bl (decide (j≤i))) M
 | _,_=>.bad
theorem Kj:iO X (compareOp .Lt) (rD X rN):=by
 intro ah s σ H x y v u Q I rx ry h
 obtain⟨θ,M,dx,dy,hw,r1,r2,h⟩:=h
 unfold rN at h
 split at h
 ·rename_i i j
  exact Kp ah s σ H x y v u Q I rx ry ⟨i,j,r1,r2,h _ θ H (.refl hw) rfl⟩
 ·exact h.elim
theorem JV:iO X (compareOp .LtE) (rD X lq):=by
 intro ah s σ H x y v u Q I rx ry h
 obtain⟨θ,M,dx,dy,hw,r1,r2,h⟩:=h
 unfold lq at h
 split at h
 ·rename_i i j
  exact LP ah s σ H x y v u Q I rx ry ⟨i,j,r1,r2,h _ θ H (.refl hw) rfl⟩
 ·exact h.elim
theorem KU:iO X (compareOp .Gt) (rD X nr):=by
 intro ah s σ H x y v u Q I rx ry h
 obtain⟨θ,M,dx,dy,hw,r1,r2,h⟩:=h
 unfold nr at h
 split at h
 ·rename_i i j
  exact LK ah s σ H x y v u Q I rx ry ⟨i,j,r1,r2,h _ θ H (.refl hw) rfl⟩
 ·exact h.elim
theorem Lk:iO X (compareOp .GtE) (rD X wO):=by
 intro ah s σ H x y v u Q I rx ry h
 obtain⟨θ,M,dx,dy,hw,r1,r2,h⟩:=h
 unfold wO at h
 split at h
 ·rename_i i j
  exact LL ah s σ H x y v u Q I rx ry ⟨i,j,r1,r2,h _ θ H (.refl hw) rfl⟩
 ·exact h.elim
def LY (d c:D):Option Bool:=match c,d with
 | .non,.non=>some true
 | .non,.any=>none
 | .non,_=>some false
 | .bl b,.bl b'=>some (b'==b)
 | .bl _,.non=>some false
 | .bl _,.int _=>some false
 | .bl _,.str _=>some false
 | .bl _,.tup _=>some false
 | .bl _,.lst _=>some false
 | .bl _,.ro _=>some false
 | .bl _,.mr _=>some false
 | _,_=>none
def jB (neg:Bool):F2:=fun x y M=>match LY x y with
 | some b=>.ok (.bl (b != neg)) M
 | none=>.bad
theorem Bl {dx dy:D}{x y:V}{v:Value}{b:Bool}(r1:dq K θ H dx x)(r2:dq K θ H dy y)(rx:RelV x v)(ry:RelV y u)(h:LY dx dy=some b) :
  plainIs v u=true∧(v==u)=b:=by
 cases dy with
 | non=>
  have e:y=.non:=r2
  subst e
  cases ry
  cases dx with
  | non=>have e:x=.non:=r1;subst e;cases rx;cases h;exact⟨rfl,rfl⟩
  | bl b=>have e:x=.bl b:=r1;subst e;cases rx;cases h;exact⟨rfl,rfl⟩
  | int i=>have e:x=.int i:=r1;subst e;obtain⟨t,rfl⟩:=rx;cases h;exact⟨rfl,rfl⟩
  | str i=>have e:x=.str i:=r1;subst e;obtain⟨t,rfl⟩:=rx;cases h;exact⟨rfl,rfl⟩
  | tup ds=>obtain⟨a,vs,e,_⟩:=r1;subst e;cases rx;cases h;exact⟨rfl,rfl⟩
  | lst ds=>obtain⟨a,vs,e,_⟩:=r1;subst e;cases rx;cases h;exact⟨rfl,rfl⟩
  | ro ds=>obtain⟨a,vs,e,_⟩:=r1;subst e;cases rx;cases h;exact⟨rfl,rfl⟩
  | mr k=>obtain⟨a,e,_⟩:=r1;subst e;cases rx;cases h;exact⟨rfl,rfl⟩
  | exc c=>first|(obtain⟨a,C,e,_⟩:=r1;subst e;cases rx;cases h;exact⟨rfl,rfl⟩)|cases h
  | any=>cases h
 | bl c=>
  have e:y=.bl c:=r2
  subst e
  cases ry
  cases dx with
  | non=>have e:x=.non:=r1;subst e;cases rx;cases h;exact⟨rfl,rfl⟩
  | bl b=>
   have e:x=.bl b:=r1;subst e;cases rx;cases h
   refine⟨rfl,?_⟩
   cases b <;> cases c <;> rfl
  | int i=>have e:x=.int i:=r1;subst e;obtain⟨t,rfl⟩:=rx;cases h;exact⟨rfl,rfl⟩
  | str i=>have e:x=.str i:=r1;subst e;obtain⟨t,rfl⟩:=rx;cases h;exact⟨rfl,rfl⟩
  | tup ds=>obtain⟨a,vs,e,_⟩:=r1;subst e;cases rx;cases h;exact⟨rfl,rfl⟩
  | lst ds=>obtain⟨a,vs,e,_⟩:=r1;subst e;cases rx;cases h;exact⟨rfl,rfl⟩
  | ro ds=>obtain⟨a,vs,e,_⟩:=r1;subst e;cases rx;cases h;exact⟨rfl,rfl⟩
  | mr k=>obtain⟨a,e,_⟩:=r1;subst e;cases rx;cases h;exact⟨rfl,rfl⟩
  | exc c=>first|(obtain⟨a,C,e,_⟩:=r1;subst e;cases rx;cases h;exact⟨rfl,rfl⟩)|cases h
  | any=>cases h
 | _=>cases dx <;> cases h
theorem Lc:iO X (compareOp .Is) (rD X (jB false)):=by
 intro ah s σ H x y v u Q I rx ry h
 obtain⟨θ,M,dx,dy,hw,r1,r2,h⟩:=h
 unfold jB at h
 split at h
 ·rename_i b q
  obtain⟨hp,e⟩:=Bl r1 r2 rx ry q
  refine wpAny_is_plain hp ?_
  rw[e]
  refine⟨.bl b,H,I,rfl,?_⟩
  have:=h (.bl (b != false)) θ H (.refl hw) rfl
  rw[Bool.bne_false] at this
  exact this
 ·exact h.elim
theorem BK:iO X (compareOp .IsNot) (rD X (jB true)):=by
 intro ah s σ H x y v u Q I rx ry h
 obtain⟨θ,M,dx,dy,hw,r1,r2,h⟩:=h
 unfold jB at h
 split at h
 ·rename_i b q
  obtain⟨hp,e⟩:=Bl r1 r2 rx ry q
  refine wpAny_isNot_plain hp ?_
  rw[e]
  refine⟨.bl (!b),H,I,rfl,?_⟩
  have:=h (.bl (b != true)) θ H (.refl hw) rfl
  rw[Bool.bne_true] at this
  exact this
 ·exact h.elim
mutual
def mF:D→PyData
 | .non=>.none
 | .bl b=>.bool b
 | .int i=>.int i
 | .str x=>.str x
 | .tup ds=>.tuple (nP ds)
 | .lst ds=>.list (nP ds)
 | .ro ds=>.list (nP ds)
 | .mr _=>.dict []
 | .exc _=>.dict []
 | .any=>.dict []
def nP:List D→List PyData
 | []=>[]
 | d::ds=>mF d::nP ds
end
mutual
def aF:Nat→D→Bool
 | _,.non=>true
 | _,.bl _=>true
 | _,.int _=>true
 | _,.str x=>PyData.strOk x
 | n+1,.tup ds=>cq n ds
 | n+1,.lst ds=>cq n ds
 | n+1,.ro ds=>cq n ds
 | _,_=>false
def cq:Nat→List D→Bool
 | _,[]=>true
 | n,d::ds=>aF n d&&cq n ds
end
mutual
def jd:D→D→Bool
 | .non,.non=>true
 | .bl a,.bl b=>a==b
 | .bl a,.int j=>(if a then 1 else 0)==j
 | .int i,.bl b=>i==(if b then 1 else 0)
 | .int i,.int j=>i==j
 | .str x,.str y=>x==y
 | .lst xs,.lst ys=>jI xs ys
 | .lst xs,.ro ys=>jI xs ys
 | .ro xs,.lst ys=>jI xs ys
 | .ro xs,.ro ys=>jI xs ys
 | .tup xs,.tup ys=>jI xs ys
 | _,_=>false
def jI:List D→List D→Bool
 | [],[]=>true
 | x::xs,y::ys=>jd x y&&jI xs ys
 | _,_=>false
end
mutual
theorem uH:∀(x y:D) (n m:Nat),aF n x=true→aF m y=true→PyData.eqv (mF x) (mF y)=jd x y
 | .non,y,n,m,hx,hy=>by cases y <;> simp_all [mF,jd,PyData.eqv,aF]
 | .bl a,y,n,m,hx,hy=>by cases y <;> simp_all [mF,jd,PyData.eqv,aF]
 | .int a,y,n,m,hx,hy=>by cases y <;> simp_all [mF,jd,PyData.eqv,aF]
 | .str a,y,n,m,hx,hy=>by cases y <;> simp_all [mF,jd,PyData.eqv,aF]
 | .tup xs,y,n,m,hx,hy=>by
  cases n with
  | zero=>simp[aF] at hx
  | succ n=>
   cases y with
   | tup ys=>
    cases m with
    | zero=>simp[aF] at hy
    | succ m=>
     simp only[mF,PyData.eqv,jd]
     exact jT xs ys n m (by simpa[aF] using hx) (by simpa[aF] using hy)
   | _=>simp_all [mF,jd,PyData.eqv,aF]
 | .lst xs,y,n,m,hx,hy=>by
  cases n with
  | zero=>simp[aF] at hx
  | succ n=>
   cases y with
   | lst ys=>
    cases m with
    | zero=>simp[aF] at hy
    | succ m=>
     simp only[mF,PyData.eqv,jd]
     exact jT xs ys n m (by simpa[aF] using hx) (by simpa[aF] using hy)
   | ro ys=>
    cases m with
    | zero=>simp[aF] at hy
    | succ m=>
     simp only[mF,PyData.eqv,jd]
     exact jT xs ys n m (by simpa[aF] using hx) (by simpa[aF] using hy)
   | _=>simp_all [mF,jd,PyData.eqv,aF]
 | .ro xs,y,n,m,hx,hy=>by
  cases n with
  | zero=>simp[aF] at hx
  | succ n=>
   cases y with
   | lst ys=>
    cases m with
    | zero=>simp[aF] at hy
    | succ m=>
     simp only[mF,PyData.eqv,jd]
     exact jT xs ys n m (by simpa[aF] using hx) (by simpa[aF] using hy)
   | ro ys=>
    cases m with
    | zero=>simp[aF] at hy
    | succ m=>
     simp only[mF,PyData.eqv,jd]
     exact jT xs ys n m (by simpa[aF] using hx) (by simpa[aF] using hy)
   | _=>simp_all [mF,jd,PyData.eqv,aF]
 | .mr a,y,n,m,hx,hy=>by simp[aF] at hx
 | .exc a,y,n,m,hx,hy=>by simp[aF] at hx
 | .any,y,n,m,hx,hy=>by simp[aF] at hx
theorem jT:∀(x y:List D) (n m:Nat),cq n x=true→cq m y=true→PyData.eqvAll (nP x) (nP y)=jI x y
 | [],y,n,m,hx,hy=>by cases y <;> simp[nP,PyData.eqvAll,jI]
 | x::xs,y,n,m,hx,hy=>by
  cases y with
  | nil=>simp[nP,PyData.eqvAll,jI]
  | cons y ys=>
   simp only[cq,Bool.and_eq_true] at hx hy
   simp only[nP,PyData.eqvAll,jI]
   rw[uH x y n m hx.1 hy.1,jT xs ys n m hx.2 hy.2]
end
mutual
theorem oo:∀(d:D) (n:Nat),aF n d=true→(mF d).canLay0=true∧(mF d).depth≤n
 | .non,n,h=>by simp[mF,PyData.canLay0,PyData.depth]
 | .bl a,n,h=>by simp[mF,PyData.canLay0,PyData.depth]
 | .int a,n,h=>by simp[mF,PyData.canLay0,PyData.depth]
 | .str a,n,h=>by
  have:PyData.strOk a=true:=by cases n <;> simpa[aF] using h
  simp[mF,PyData.canLay0,PyData.depth,this]
 | .tup xs,n,h=>by
  cases n with
  | zero=>simp[aF] at h
  | succ n=>
   have:=nS xs n (by simpa[aF] using h)
   simp only[mF,PyData.canLay0,PyData.depth]
   exact⟨this.1,by omega⟩
 | .lst xs,n,h=>by
  cases n with
  | zero=>simp[aF] at h
  | succ n=>
   have:=nS xs n (by simpa[aF] using h)
   simp only[mF,PyData.canLay0,PyData.depth]
   exact⟨this.1,by omega⟩
 | .ro xs,n,h=>by
  cases n with
  | zero=>simp[aF] at h
  | succ n=>
   have:=nS xs n (by simpa[aF] using h)
   simp only[mF,PyData.canLay0,PyData.depth]
   exact⟨this.1,by omega⟩
 | .mr a,n,h=>by simp[aF] at h
 | .exc a,n,h=>by simp[aF] at h
 | .any,n,h=>by simp[aF] at h
theorem nS:∀(ds:List D) (n:Nat),cq n ds=true→PyData.canLayAll0 (nP ds)=true∧PyData.depthAll (nP ds)≤n
 | [],n,h=>by simp[nP,PyData.canLayAll0,PyData.depthAll]
 | d::ds,n,h=>by
  simp only[cq,Bool.and_eq_true] at h
  have h1:=oo d n h.1
  have h2:=nS ds n h.2
  simp only[nP,PyData.canLayAll0,PyData.depthAll,Bool.and_eq_true]
  exact⟨⟨h1.1,h2.1⟩,by omega⟩
end
mutual
theorem wF {ah:List (Addr×Obj)}{s:Shared}{σ:L2.St}{H:Hp}{θ:List Addr}(I:Inv X ah σ H s):∀(d:D) (n:Nat) (v:V) (u:Value),aF n d=true→dq X.K θ H d v→RelV v u→∃as,Reads s.heap u (mF d) as
 | .non,n,v,u,h,r,q=>by have e:v=.non:=r;subst e;cases q;exact⟨_,.none⟩
 | .bl a,n,v,u,h,r,q=>by have e:v=.bl a:=r;subst e;cases q;exact⟨_,.bool a⟩
 | .int a,n,v,u,h,r,q=>by have e:v=.int a:=r;subst e;obtain⟨t,rfl⟩:=q;exact⟨_,.int a t⟩
 | .str a,n,v,u,h,r,q=>by have e:v=.str a:=r;subst e;obtain⟨t,rfl⟩:=q;exact⟨_,.str a t⟩
 | .tup xs,n,v,u,h,r,q=>by
  cases n with
  | zero=>simp[aF] at h
  | succ n=>
   obtain⟨a,vs,e,ta,ra⟩:=r
   subst e;cases q
   obtain⟨its,rv,⟨o,h1,h2,m,h3⟩,_⟩:=I.tuple ta.sq
   obtain⟨as,R⟩:=jY I xs n vs its (by simpa[aF] using h) ra rv
   exact⟨_,.tuple h1 h2 h3 (by simpa using R)⟩
 | .lst xs,n,v,u,h,r,q=>by
  cases n with
  | zero=>simp[aF] at h
  | succ n=>
   obtain⟨a,vs,e,ta,ra⟩:=r
   subst e;cases q
   obtain⟨its,rv,⟨o,m,h1,h2,_,h3⟩,_⟩:=I.list (ta.sq (K:=X.K))
   obtain⟨as,R⟩:=jY I xs n vs its (by simpa[aF] using h) ra rv
   exact⟨_,.list h1 h2 h3 (by simpa using R)⟩
 | .ro xs,n,v,u,h,r,q=>by
  cases n with
  | zero=>simp[aF] at h
  | succ n=>
   obtain⟨a,vs,e,ta,ra⟩:=r
   subst e;cases q
   obtain⟨its,rv,⟨o,m,h1,h2,_,h3⟩,_⟩:=I.list ta.sq
   obtain⟨as,R⟩:=jY I xs n vs its (by simpa[aF] using h) ra rv
   exact⟨_,.list h1 h2 h3 (by simpa using R)⟩
 | .mr a,n,v,u,h,r,q=>by simp[aF] at h
 | .exc a,n,v,u,h,r,q=>by simp[aF] at h
 | .any,n,v,u,h,r,q=>by simp[aF] at h
theorem jY {ah:List (Addr×Obj)}{s:Shared}{σ:L2.St}{H:Hp}{θ:List Addr}(I:Inv X ah σ H s):∀(ds:List D) (n:Nat) (vs:List V) (us:List Value),cq n ds=true→bA X.K θ H ds vs→aZ vs us→∃as,ReadsAll s.heap us (nP ds) as
 | [],n,vs,us,h,r,q=>by have e:vs=[]:=r;subst e;cases q;exact⟨_,.nil⟩
 | d::ds,n,vs,us,h,r,q=>by
  simp only[cq,Bool.and_eq_true] at h
  obtain⟨v,rr,e,r1,r2⟩:=r
  subst e
  cases q with
  | cons q1 q2=>
   obtain⟨as,R1⟩:=wF I d n v _ h.1 r1 q1
   obtain⟨bs,R2⟩:=jY I ds n rr _ h.2 r2 q2
   exact⟨_,.cons R1 R2⟩
end
def now (d:D)(M:aA):D:=match d with
 | .mr k=>match M[k]? with
  | some (.lst xs)=>.lst xs
  | _=>.mr k
 | d=>d
def a9 (neg:Bool):F2:=fun x y M=>if aF 40 (now x M)&&aF 40 (now y M) then .ok (.bl (jd (now x M) (now y M) != neg)) M else .bad
theorem mn (I:Inv X ah σ H s)(hw:Wr X.K θ H M)(h:aF n (now d M)=true)(r:dq X.K θ H d v)(q:RelV v u):∃as,Reads s.heap u (mF (now d M)) as:=by
 cases d with
 | mr k=>
  obtain⟨a,e,ta⟩:=r
  subst e;cases q
  cases qm:M[k]? with
  | none=>
   have e:now (.mr k) M=.mr k:=by simp[now,qm]
   rw[e] at h;simp[aF] at h
  | some m=>
   cases m with
   | lst xs=>
    have e:now (.mr k) M=.lst xs:=by simp[now,qm]
    rw[e] at h ⊢
    cases n with
    | zero=>simp[aF] at h
    | succ n=>
     obtain⟨vs,hv,ra⟩:=hw.at_ k a _ ta qm
     obtain⟨its,rv,⟨o,m,h1,h2,_,h3⟩,_⟩:=I.list (X:=X) (xs:=vs) (.inl (.inl hv))
     obtain⟨as,R⟩:=jY I xs n vs its (by simpa[aF] using h) ra rv
     exact⟨_,.list h1 h2 h3 (by simpa using R)⟩
   | _=>
    have e:now (.mr k) M=.mr k:=by simp[now,qm]
    rw[e] at h;simp[aF] at h
 | _=>exact wF I _ n v u h r q
theorem LH (hu:X.A.units+64<cLine):iO X (compareOp .Eq) (rD X (a9 false)):=by
 intro ah s σ H x y v u Q I rx ry h
 obtain⟨θ,M,dx,dy,hw,r1,r2,h⟩:=h
 unfold a9 at h
 split at h
 ·rename_i hc
  rw[Bool.and_eq_true] at hc
  obtain⟨as,R1⟩:=mn I hw hc.1 r1 rx
  obtain⟨bs,R2⟩:=mn I hw hc.2 r2 ry
  have l1:=oo _ _ hc.1
  have l2:=oo _ _ hc.2
  refine SeqAt.compareEq_reads R1 R2 l1.1 l2.1 (by have:=l1.2;have:min (mF (now dx M)).depth (mF (now dy M)).depth≤(mF (now dx M)).depth:=Nat.min_le_left _ _;omega) ?_
  rw[uH _ _ _ _ hc.1 hc.2]
  refine⟨.bl _,H,I,rfl,?_⟩
  have:=h _ θ H (.refl hw) rfl
  rw[Bool.bne_false] at this
  exact this
 ·exact h.elim
theorem LR (hu:X.A.units+64<cLine):iO X (compareOp .NotEq) (rD X (a9 true)):=by
 intro ah s σ H x y v u Q I rx ry h
 obtain⟨θ,M,dx,dy,hw,r1,r2,h⟩:=h
 unfold a9 at h
 split at h
 ·rename_i hc
  rw[Bool.and_eq_true] at hc
  obtain⟨as,R1⟩:=mn I hw hc.1 r1 rx
  obtain⟨bs,R2⟩:=mn I hw hc.2 r2 ry
  have l1:=oo _ _ hc.1
  have l2:=oo _ _ hc.2
  refine SeqAt.compareNe_reads R1 R2 l1.1 l2.1 (by have:=l1.2;have:min (mF (now dx M)).depth (mF (now dy M)).depth≤(mF (now dx M)).depth:=Nat.min_le_left _ _;omega) ?_
  rw[uH _ _ _ _ hc.1 hc.2]
  refine⟨.bl _,H,I,rfl,?_⟩
  have:=h _ θ H (.refl hw) rfl
  rw[Bool.bne_true] at this
  exact this
 ·exact h.elim
def cC (d:D)(M:aA):Option (List D):=match d with
 | .tup xs=>some xs
 | .lst xs=>some xs
 | .ro xs=>some xs
 | .mr k=>match M[k]? with
  | some (.lst xs)=>some xs
  | _=>none
 | _=>none
def bi:F2:=fun x y M=>match cC x M,y with
 | some xs,.int i=>match jL xs i with
  | some d=>.ok d M
  | none=>.bad
 | _,_=>.bad
theorem Cq {i:Int}(r:bA K θ H ds vs)(e:jL ds i=some d):∃v,jL vs i=some v∧dq K θ H d v:=by
 unfold jL at e ⊢
 rw[←av r]
 cases q:Do ds.length i with
 | none=>rw[q] at e;cases e
 | some j=>
  rw[q] at e
  exact fZ r e
theorem p7 {xs:List D}(hw:Wr K θ H M)(r:dq K θ H d v)(e:cC d M=some xs):∃a vs,v=.ref a∧(mE K H a vs∨pV K H a vs)∧bA K θ H xs vs:=by
 cases d with
 | tup ds=>obtain⟨a,vs,e1,ta,ra⟩:=r;cases e;exact⟨a,vs,e1,.inr ta.sq,ra⟩
 | lst ds=>obtain⟨a,vs,e1,ta,ra⟩:=r;cases e;exact⟨a,vs,e1,.inl ta.sq,ra⟩
 | ro ds=>obtain⟨a,vs,e1,ta,ra⟩:=r;cases e;exact⟨a,vs,e1,.inl ta.sq,ra⟩
 | mr k=>
  obtain⟨a,e1,ta⟩:=r
  have e:(match M[k]? with|some (.lst xs)=>some xs|_=>none)=some xs:=e
  cases qm:M[k]? with
  | none=>rw[qm] at e;cases e
  | some m=>
   cases m with
   | lst ys=>
    rw[qm] at e
    cases e
    obtain⟨vs,hv,ra⟩:=hw.at_ k a _ ta qm
    exact⟨a,vs,e1,.inl (.inl (.inl hv)),ra⟩
   | _=>rw[qm] at e;cases e
 | _=>cases e
theorem KR:MB X (rD X bi):=by
 intro value slice ah s σ H x y v u Q I rx ry h hs
 obtain⟨θ,M,dx,dy,hw,r1,r2,h⟩:=h
 unfold bi at h
 split at h
 ·rename_i xs i q
  split at h
  ·rename_i d qd
   obtain⟨a,vs,ea,sq,ra⟩:=p7 hw r1 q
   obtain⟨z,ez,rz⟩:=Cq ra qd
   have hq:=h z θ H (.refl hw) rz
   rcases sq with sq|sq
   ·exact FC value slice ah s σ H x y v u Q I rx ry ⟨a,vs,i,z,ea,r2,sq,ez,hq⟩ hs
   ·exact Je value slice ah s σ H x y v u Q I rx ry ⟨a,vs,i,z,ea,r2,sq,ez,hq⟩ hs
  ·exact h.elim
 ·exact h.elim
theorem Kt {a b:Expr}{pos:Pos}(ha:PE X a (tE X ga))(hb:PE X b (tE X gb))(hs:ut b:=by intro _ _;rfl):PE X (.Subscript a b pos) (tE X (g2 bi ga gb)):=
 (Kh KR ha hb hs).of fun _ _ _ h=>yH h
def gG (xs:List D)(lo hi:Option Int):List D:=(xs.drop (HT.sIx xs.length 0 lo)).take (HT.sIx xs.length xs.length hi-HT.sIx xs.length 0 lo)
def rq (x:D)(lo hi:Option Int)(M:aA):bn D:=match x with
 | .tup xs=>.ok (.tup (gG xs lo hi)) M
 | .lst xs=>.ok (.lst (gG xs lo hi)) M
 | .ro xs=>.ok (.lst (gG xs lo hi)) M
 | .mr k=>match M[k]? with
  | some (.lst xs)=>.ok (.lst (gG xs lo hi)) M
  | _=>.bad
 | _=>.bad
abbrev GO:=cr→aA→bn (Option Int)
def bQ:GO:=fun _ M=>.ok none M
def eI (g:GE):GO:=fun ρ M=>(g ρ M).bind fun d M1=>match d with
 | .int i=>.ok (some i) M1
 | _=>.bad
def KP (X:Cx)(θ:List Addr)(H:Hp)(Q:Option Int→Hp→Prop):bn (Option Int)→Prop
 | .ok b M'=>∀θ' H',Go X.K θ H θ' H' M'→Q b H'
 | .err c M'=>ft X θ H c M'
 | .bad=>False
def tO (X:Cx)(g:GO):TO:=fun σ H Q=>∃ρ θ M,jP X.K θ H σ ρ∧Wr X.K θ H M∧KP X θ H Q (g ρ M)
theorem _root_.L2.PO.of {e:Option Expr}{t t':TO}(h:PO X e t)(w:∀σ H Q,t' σ H Q→t σ H Q):PO X e t':=fun ah s σ H Q I q=>h ah s σ H Q I (w σ H Q q)
theorem Fi:PO X none (tO X bQ):=DK.of fun σ H Q ⟨ρ,θ,M,hd,hw,f⟩=>f θ H (.refl hw)
theorem Ei (h:PE X e (tE X g)):PO X (some e) (tO X (eI g)):=(Dr h).of fun σ H Q ⟨ρ,θ,M,hd,hw,h⟩=>by
 refine bL hd hw (KP X θ H Q) (fun c M' h=>h) (fun h=>h) h fun d M1 v θ1 H1 g1 r1 h1=>?_
 split at h1
 ·rename_i i
  exact⟨i,r1,h1 θ1 H1 g1⟩
 ·exact h1.elim
theorem F0 {g:GO}{Q:Option Int→Hp→Prop}{α:Type}(hd:jP X.K θ H σ ρ)(hw:Wr X.K θ H M)(F:bn α→Prop)(Fe:∀c M',F (.err c M')→ft X θ H c M')(Fb:F .bad→False)
  {f:Option Int→aA→bn α} (h:F ((g ρ M).bind f)) (k:∀d M1 θ1 H1,Go X.K θ H θ1 H1 M1→F (f d M1)→Q d H1):tO X g σ H Q:=by
 refine⟨ρ,θ,M,hd,hw,?_⟩
 cases q:g ρ M with
 | ok d M1=>
  rw[q] at h
  exact fun θ1 H1 g1=>k d M1 θ1 H1 g1 h
 | err c M1=>rw[q] at h;exact Fe c M1 h
 | bad=>rw[q] at h;exact(Fb h).elim
def pZ (g:GE)(gl gh:GO):GE:=fun ρ M=>(g ρ M).bind fun x M1=>(gl ρ M1).bind fun lo M2=>(gh ρ M2).bind fun hi M3=>rq x lo hi M3
def Og (X:Cx):V→Option Int→Option Int→Hp→VK→Prop:=fun x lo hi H Q=>∃θ M d,Wr X.K θ H M∧dq X.K θ H d x∧aN X θ H Q (rq d lo hi M)
theorem nD (r:bA K θ H ds vs)(lo hi:Option Int):bA K θ H (gG ds lo hi) (we vs lo hi):=by
 unfold gG we
 rw[←av r]
 exact sN _ (tw _ r)
theorem Na:Mw X (Og X):=by
 intro ah s σ H x v vl vu lo hi sl Q I rx hs pl pu h
 obtain⟨θ,M,d,hw,r,h⟩:=h
 cases d with
 | tup ds=>
  obtain⟨a,vs,e,ta,ra⟩:=r
  by_cases hc:HT.sIx vs.length 0 lo=0∧HT.sIx vs.length vs.length hi=vs.length
  ·subst e;cases rx
   obtain⟨its,rv,ht,hz⟩:=I.tuple ta.sq
   have hlen:its.toArray.size=vs.length:=by rw[List.size_toArray];exact rv.length.symm
   refine⟨"tuple",_,PyProof.Rows.slot_tuple_getitem.lookup,ht.typeIs,?_⟩
   refine mz ht hs pl pu (by rw[hlen];exact hc) ⟨.ref a,H,I,rfl,h _ θ H (.refl hw) ⟨a,vs,rfl,ta,?_⟩⟩
   have e:gG ds lo hi=ds:=by
    unfold gG
    rw[av ra,hc.1,hc.2,List.drop_zero,Nat.sub_zero,←av ra,List.take_length]
   rw[e];exact ra
  ·exact Il ah s σ H x v vl vu lo hi sl Q I rx hs pl pu ⟨a,vs,e,ta.sq,hc,fun p hp=>h _ θ _ (dR hw hp) (iI hw hp (nD ra lo hi))⟩
 | lst ds=>
  obtain⟨a,vs,e,ta,ra⟩:=r
  exact uW ah s σ H x v vl vu lo hi sl Q I rx hs pl pu ⟨a,vs,e,ta.sq,fun p hp=>h _ θ _ (dR hw hp) (kI hw hp (nD ra lo hi))⟩
 | ro ds=>
  obtain⟨a,vs,e,ta,ra⟩:=r
  exact uW ah s σ H x v vl vu lo hi sl Q I rx hs pl pu ⟨a,vs,e,ta.sq,fun p hp=>h _ θ _ (dR hw hp) (kI hw hp (nD ra lo hi))⟩
 | mr k=>
  obtain⟨a,e,ta⟩:=r
  have h:aN X θ H Q (match M[k]? with|some (.lst xs)=>.ok (.lst (gG xs lo hi)) M|_=>.bad):=h
  cases qm:M[k]? with
  | none=>rw[qm] at h;exact h.elim
  | some m=>
   cases m with
   | lst ys=>
    rw[qm] at h
    obtain⟨vs,hv,ra⟩:=hw.at_ k a _ ta qm
    exact uW ah s σ H x v vl vu lo hi sl Q I rx hs pl pu ⟨a,vs,e,.inl (.inl hv),fun p hp=>h _ θ _ (dR hw hp) (kI hw hp (nD ra lo hi))⟩
   | _=>rw[qm] at h;exact h.elim
 | _=>exact h.elim
theorem B7 {lo hi:Option Expr}{gl gh:GO}{p2:Pos}(he:PE X e (tE X g))(hl:PO X lo (tO X gl))(hh:PO X hi (tO X gh)):PE X (.Subscript e (.Slice lo hi none p2) pos) (tE X (pZ g gl gh)):=
 (Ay Na he hl hh).of fun σ H Q ⟨ρ,θ,M,hd,hw,h⟩=>by
  refine bL hd hw (aN X θ H Q) (fun c M' h=>h) (fun h=>h) h fun d M1 v θ1 H1 g1 r1 h1=>?_
  refine F0 (hd.go g1) g1.wr (aN X θ1 H1 Q) (fun c M' h=>h) (fun h=>h) (h1.go g1) fun l M2 θ2 H2 g2 h2=>?_
  refine F0 ((hd.go g1).go g2) g2.wr (aN X θ2 H2 Q) (fun c M' h=>h) (fun h=>h) (h2.go g2) fun u M3 θ3 H3 g3 h3=>?_
  exact⟨θ3,M3,d,g3.wr,r1.go (g2.trans g3),h3.go g3⟩
def xD (d:D)(M:aA):bn Bool:=match d with
 | .non=>.ok false M
 | .bl b=>.ok b M
 | .int i=>.ok (i != 0) M
 | .str x=>if x.length≤sizeLine then .ok ((x.length:Int) != 0) M else .bad
 | .tup xs=>.ok (!xs.isEmpty) M
 | .lst xs=>.ok (!xs.isEmpty) M
 | .ro xs=>.ok (!xs.isEmpty) M
 | .mr k=>match M[k]? with
  | some (.lst xs)=>.ok (!xs.isEmpty) M
  | _=>.bad
 | .exc _=>.bad
 | .any=>.bad
def bF (g:GE):GT:=fun ρ M=>(g ρ M).bind xD
theorem km (r:bA K θ H ds vs):(!vs.isEmpty)=!ds.isEmpty:=by
 have:=av r
 cases ds <;> cases vs <;> simp_all
theorem Gg {a:Expr}(ha:PE X a (tE X g))(he:∀whole,isTrue a X.env whole=(do let v ←whole;standAt a.pos;holding [v] (truthy v)):=by intro _;rfl):PT X a (tT X (bF g)):=
 (Bw ha he).of fun σ H Q ⟨ρ,θ,M,hd,hw,h⟩=>by
  refine bL hd hw (oW X θ H Q) (fun c M' h=>h) (fun h=>h) h fun d M1 v θ1 H1 g1 r1 h1=>?_
  cases d with
  | non=>have e:v=.non:=r1;subst e;exact⟨false,rfl,h1 θ1 H1 g1⟩
  | bl b=>have e:v=.bl b:=r1;subst e;exact⟨b,rfl,h1 θ1 H1 g1⟩
  | int i=>have e:v=.int i:=r1;subst e;exact⟨i != 0,rfl,h1 θ1 H1 g1⟩
  | str x=>
   have e:v=.str x:=r1;subst e
   have h1:oW X θ H Q (if x.length≤sizeLine then .ok ((x.length:Int) != 0) M1 else .bad):=h1
   split at h1
   ·rename_i hl;exact⟨_,⟨hl,rfl⟩,h1 θ1 H1 g1⟩
   ·exact h1.elim
  | tup xs=>
   obtain⟨a,vs,e,ta,ra⟩:=r1;subst e
   exact⟨_,.inr (.inl ⟨vs,ta.sq,(km ra).symm⟩),h1 θ1 H1 g1⟩
  | lst xs=>
   obtain⟨a,vs,e,ta,ra⟩:=r1;subst e
   exact⟨_,.inl ⟨vs,ta.sq,(km ra).symm⟩,h1 θ1 H1 g1⟩
  | ro xs=>
   obtain⟨a,vs,e,ta,ra⟩:=r1;subst e
   exact⟨_,.inl ⟨vs,ta.sq,(km ra).symm⟩,h1 θ1 H1 g1⟩
  | mr k=>
   obtain⟨a,e,ta⟩:=r1;subst e
   have h1:oW X θ H Q (match M1[k]? with|some (.lst xs)=>.ok (!xs.isEmpty) M1|_=>.bad):=h1
   cases qm:M1[k]? with
   | none=>rw[qm] at h1;exact h1.elim
   | some m=>
    cases m with
    | lst ys=>
     rw[qm] at h1
     obtain⟨vs,hv,ra⟩:=g1.wr.at_ k a _ ta qm
     exact⟨_,.inl ⟨vs,.inl (.inl hv),(km ra).symm⟩,h1 θ1 H1 g1⟩
    | _=>rw[qm] at h1;exact h1.elim
  | exc c=>exact h1.elim
  | any=>exact h1.elim
def a7:FD:=fun ds M=>match ds with
 | [.str x]=>if x.length≤sizeLine then .ok (.int x.length) M else .bad
 | [d]=>match cC d M with
  | some xs=>.ok (.int xs.length) M
  | none=>.bad
 | _=>.bad
def xM:FD:=fun ds M=>match ds with
 | [.int i,.int j]=>.ok (.int (if j<i then j else i)) M
 | _=>.bad
def uM:FD:=fun ds M=>match ds with
 | [.int i]=>.ok (.int i) M
 | [.bl b]=>.ok (.int (if b then 1 else 0)) M
 | _=>.bad
def kZ:FD:=fun ds M=>match ds with
 | [d]=>match cC d M with
  | some xs=>.ok (.lst xs) M
  | none=>.bad
 | _=>.bad
def gL:FD:=fun ds M=>match ds with
 | [d]=>match cC d M with
  | some xs=>.ok (.tup xs) M
  | none=>.bad
 | _=>.bad
theorem kr (r:bA K θ H [d] xs):∃v,xs=[v]∧dq K θ H d v:=by
 obtain⟨v,rr,e,h1,h2⟩:=r
 have e2:rr=[]:=h2
 subst e2
 exact⟨v,e,h1⟩
theorem BV {d':D}(r:bA K θ H [d,d'] xs):∃v v',xs=[v,v']∧dq K θ H d v∧dq K θ H d' v':=by
 obtain⟨v,rr,e,h1,h2⟩:=r
 obtain⟨v',e2,h3⟩:=kr h2
 subst e2
 exact⟨v,v',e,h1,h3⟩
theorem Gu:dY X (.builtin "len") (rC X a7):=by
 intro ah s σ H xs us Q I r h
 obtain⟨θ,M,ds,hw,rd,h⟩:=h
 unfold a7 at h
 split at h
 ·rename_i x
  split at h
  ·rename_i hl
   obtain⟨v,e,rv⟩:=kr rd
   exact u6 ah s σ H xs us Q I r ⟨x,by rw[e,show v=.str x from rv],hl,h _ θ H (.refl hw) rfl⟩
  ·exact h.elim
 ·rename_i d _
  split at h
  ·rename_i ys q
   obtain⟨v,e,rv⟩:=kr rd
   obtain⟨a,vs,ea,sq,ra⟩:=p7 hw rv q
   refine uE ah s σ H xs us Q I r ⟨a,vs,by rw[e,ea],sq,?_⟩
   rw[←av ra]
   exact h _ θ H (.refl hw) rfl
  ·exact h.elim
 ·exact h.elim
theorem HW (hc:X.calm=true):dY X (.builtin "min") (rC X xM):=by
 intro ah s σ H xs us Q I r h
 obtain⟨θ,M,ds,hw,rd,h⟩:=h
 unfold xM at h
 split at h
 ·rename_i i j
  obtain⟨v,v',e,rv,rv'⟩:=BV rd
  exact zk hc ah s σ H xs us Q I r ⟨i,j,by rw[e,show v=.int i from rv,show v'=.int j from rv'],h _ θ H (.refl hw) rfl⟩
 ·exact h.elim
theorem IR:dY X (.type "int") (rC X uM):=by
 intro ah s σ H xs us Q I r h
 obtain⟨θ,M,ds,hw,rd,h⟩:=h
 unfold uM at h
 split at h
 ·rename_i i
  obtain⟨v,e,rv⟩:=kr rd
  exact tH ah s σ H xs us Q I r (.inl ⟨i,by rw[e,show v=.int i from rv],h _ θ H (.refl hw) rfl⟩)
 ·rename_i b
  obtain⟨v,e,rv⟩:=kr rd
  exact tH ah s σ H xs us Q I r (.inr ⟨b,by rw[e,show v=.bl b from rv],h _ θ H (.refl hw) rfl⟩)
 ·exact h.elim
theorem D4:dY X (.type "list") (rC X kZ):=by
 intro ah s σ H xs us Q I r h
 obtain⟨θ,M,ds,hw,rd,h⟩:=h
 unfold kZ at h
 split at h
 ·rename_i d
  split at h
  ·rename_i ys q
   obtain⟨v,e,rv⟩:=kr rd
   obtain⟨a,vs,ea,sq,ra⟩:=p7 hw rv q
   exact uX ah s σ H xs us Q I r ⟨a,vs,by rw[e,ea],sq,fun l hl=>h _ θ _ (dR hw hl) (kI hw hl ra)⟩
  ·exact h.elim
 ·exact h.elim
theorem B6:dY X (.type "tuple") (rC X gL):=by
 intro ah s σ H xs us Q I r h
 obtain⟨θ,M,ds,hw,rd,h⟩:=h
 unfold gL at h
 split at h
 ·rename_i d
  obtain⟨v,e,rv⟩:=kr rd
  cases d with
  | tup ys=>
   obtain⟨a,vs,ea,ta,ra⟩:=rv
   exact g6 ah s σ H xs us Q I r ⟨a,vs,by rw[e,ea],.inr ⟨ta.sq,h _ θ H (.refl hw) ⟨a,vs,rfl,ta,ra⟩⟩⟩
  | lst ys=>
   obtain⟨a,vs,ea,ta,ra⟩:=rv
   exact g6 ah s σ H xs us Q I r ⟨a,vs,by rw[e,ea],.inl ⟨ta.sq,fun l hl=>h _ θ _ (dR hw hl) (iI hw hl ra)⟩⟩
  | ro ys=>
   obtain⟨a,vs,ea,ta,ra⟩:=rv
   exact g6 ah s σ H xs us Q I r ⟨a,vs,by rw[e,ea],.inl ⟨ta.sq,fun l hl=>h _ θ _ (dR hw hl) (iI hw hl ra)⟩⟩
  | mr k=>
   obtain⟨a,ea,ta⟩:=rv
   cases qm:M[k]? with
   | none=>simp[cC,qm] at h;exact h.elim
   | some m=>
    cases m with
    | lst ys=>
     simp only[cC,qm] at h
     obtain⟨vs,hv,ra⟩:=hw.at_ k a _ ta qm
     exact g6 ah s σ H xs us Q I r ⟨a,vs,by rw[e,ea],.inl ⟨.inl (.inl hv),fun l hl=>h _ θ _ (dR hw hl) (iI hw hl ra)⟩⟩
    | _=>simp[cC,qm] at h;exact h.elim
  | _=>exact h.elim
 ·exact h.elim
end
def fq (cells:List (Str×Addr)):List (Str×NameKind)→List (Str×Addr)→List (Str×Addr)
 | [],acc=>acc
 | (n,k)::r,acc=>if k==.free then fq cells r ((n,(cells.lookup n).getD 0)::acc) else fq cells r acc
theorem rp {env:Env}:∀(l:List (Str×NameKind)) (cs:List (Str×Addr)),(∀p∈l,p.2=.free→∃c,env.cells.lookup p.1=some c)→
  (forIn (m:=Sem) l cs fun x r=>match x with
   | (name,kind)=>if(kind==NameKind.free)=true then do let __do_lift ←cellOf env name;pure (ForInStep.yield ((name,__do_lift)::r)) else pure (ForInStep.yield r))=pure (fq env.cells l cs)
 | [],cs,h=>rfl
 | (n,k)::r,cs,h=>by
  have ih:=fun cs=>rp (env:=env) r cs fun p hp=>h p (List.mem_cons_of_mem _ hp)
  rw[List.forIn_cons]
  by_cases hk:(k==NameKind.free)=true
  ·obtain⟨c,hc⟩:=h (n,k) List.mem_cons_self (by simpa using hk)
   have e:cellOf env n=pure c:=by unfold cellOf;rw[show List.lookup n env.cells=some c from hc]
   simp only[hk,if_true,fq,e,pure_bind]
   rw[ih,show List.lookup n env.cells=some c from hc];rfl
  ·simp only[hk,if_false,fq,pure_bind,Bool.false_eq_true]
   exact ih cs
theorem n9 {env:Env}(h:∀p∈scope.names,p.2=.free→∃c,env.cells.lookup p.1=some c):closureFor scope env=pure (fq env.cells scope.names []):=by
 have:=rp (env:=env) scope.names [] h
 unfold closureFor
 simp only[bind_pure_comp] at this ⊢
 first
  | (rw[this];rfl)
  | (simp[this])
  | exact this
theorem qW {cells:List (Str×Addr)}:∀(l:List (Str×NameKind)) (acc:List (Str×Addr)),(∀p∈acc,cells.lookup p.1=some p.2)→(∀p∈l,p.2=.free→∃c,cells.lookup p.1=some c)→
  ∀p∈fq cells l acc,cells.lookup p.1=some p.2
 | [],acc,ha,h=>ha
 | (n,k)::r,acc,ha,h=>by
  have hr:∀p∈r,p.2=.free→∃c,cells.lookup p.1=some c:=fun p hp=>h p (List.mem_cons_of_mem _ hp)
  unfold fq
  by_cases hk:(k==NameKind.free)=true
  ·rw[if_pos hk]
   refine qW r _ (fun p hp=>?_) hr
   rcases List.mem_cons.mp hp with e|hp
   ·subst e
    obtain⟨c,hc⟩:=h (n,k) List.mem_cons_self (by simpa using hk)
    have hc':cells.lookup n=some c:=hc
    show cells.lookup n=some ((cells.lookup n).getD 0)
    rw[hc'];rfl
   ·exact ha p hp
  ·rw[if_neg hk]
   exact qW r acc ha hr
theorem qx {cells:List (Str×Addr)}:∀(l:List (Str×NameKind)) (acc:List (Str×Addr)),∀p∈acc,p∈fq cells l acc
 | [],acc,p,h=>h
 | (n,k)::r,acc,p,h=>by
  unfold fq
  by_cases hk:(k==NameKind.free)=true
  ·rw[if_pos hk];exact qx r _ p (List.mem_cons_of_mem _ h)
  ·rw[if_neg hk];exact qx r acc p h
theorem qG {cells:List (Str×Addr)}:∀(l:List (Str×NameKind)) (acc:List (Str×Addr)) (n:Str),(n,NameKind.free)∈l→∃c,(n,c)∈fq cells l acc
 | [],acc,n,h=>by cases h
 | (m,k)::r,acc,n,h=>by
  unfold fq
  rcases List.mem_cons.mp h with e|h
  ·cases e
   rw[if_pos (by rfl)]
   exact⟨_,qx r _ _ List.mem_cons_self⟩
  ·by_cases hk:(k==NameKind.free)=true
   ·rw[if_pos hk];exact qG r _ n h
   ·rw[if_neg hk];exact qG r acc n h
theorem m4 {l:List (Str×Addr)}{n:Str}{c:Addr}(h:(n,c)∈l):∃c',l.lookup n=some c':=by
 induction l with
 | nil=>cases h
 | cons p r ih=>
  obtain⟨m,d⟩:=p
  by_cases e:(n==m)=true
  ·exact⟨d,by simp[List.lookup,e]⟩
  ·have e':(n==m)=false:=by simpa using e
   rcases List.mem_cons.mp h with q|q
   ·cases q;simp at e
   ·obtain⟨c',hc⟩:=ih q
    exact⟨c',by simp only[List.lookup,e'];exact hc⟩
theorem i9 {env:Env}:∀{names:List (Str×NameKind)} {x:Str} {k:NameKind},
  (names.map fun(n,k)=>if(k==NameKind.free&&env.scope.kind==.function&&env.kindOf n==some .cell) then(n,NameKind.cell) else(n,k)).lookup x=some k→
   names.lookup x=some k∨(k=.cell∧names.lookup x=some .free)
 | [],_,_,h=>by simp at h
 | (n,k')::r,x,k,h=>by
  have ih:=@i9 env r x k
  have h:List.lookup x ((if(k'==NameKind.free&&env.scope.kind==.function&&env.kindOf n==some .cell)=true then(n,NameKind.cell) else(n,k'))::_)=some k:=h
  by_cases hc:(k'==NameKind.free&&env.scope.kind==.function&&env.kindOf n==some .cell)=true
  ·rw[if_pos hc] at h
   cases hx:x==n with
   | true=>
    simp only[List.lookup_cons,hx] at h ⊢
    cases h
    have:k'=.free:=by
     rw[Bool.and_eq_true,Bool.and_eq_true] at hc
     simpa using hc.1.1
    subst this
    exact .inr ⟨rfl,rfl⟩
   | false=>
    simp only[List.lookup_cons,hx] at h ⊢
    exact ih h
  ·rw[if_neg hc] at h
   cases hx:x==n with
   | true=>
    simp only[List.lookup_cons,hx] at h ⊢
    exact .inl h
   | false=>
    simp only[List.lookup_cons,hx] at h ⊢
    exact ih h
def cM (sc:Scope)(fk:Str→Option NameKind)(xs:List Str)(R N:List Str):Bool:=
 decide (sc.kind=.function)&&xs.all (fun x=>sc.names.lookup x==some .local) &&
 sc.names.all (fun p=>match p.2 with
  | .cell=>false
  | .local=>(xs.contains p.1||p.1==(".0":Str))&&sc.names.lookup p.1==some .local
  | .free=>fk p.1==some .cell||fk p.1==some .free
  | _=>true) &&
 decide ((xs++R).Nodup)&&!(R.contains (".0":Str))&&R.length==N.length &&
 (R.zip N).all (fun p=>p.1==p.2||sc.names.lookup p.1 != some .free)
structure cH (sc:Scope)(fk:Str→Option NameKind)(xs:List Str)(R N:List Str):Prop where
 kind:sc.kind=.function
 own:∀x∈xs,sc.names.lookup x=some .local
 nocell:∀p∈sc.names,p.2≠.cell
 locs:∀p∈sc.names,p.2=.local→p.1∈xs∨p.1=(".0":Str)
 lnames:∀p∈sc.names,p.2=.local→sc.names.lookup p.1=some .local
 free:∀p∈sc.names,p.2=.free→fk p.1=some .cell∨fk p.1=some .free
 nd:(xs++R).Nodup
 no0:(".0":Str)∉R
 len:R.length=N.length
 same:∀(i:Nat) y,R[i]?=some y→sc.names.lookup y=some .free→N[i]?=some y
theorem cH.of {sc:Scope}{fk:Str→Option NameKind}{xs:List Str}{R N:List Str}(h:cM sc fk xs R N=true):cH sc fk xs R N:=by
 unfold cM at h
 simp only[Bool.and_eq_true,decide_eq_true_eq,List.all_eq_true,Bool.not_eq_true',beq_iff_eq] at h
 obtain⟨⟨⟨⟨⟨⟨h1,h2⟩,h3⟩,h4⟩,h5⟩,h6⟩,h7⟩:=h
 refine⟨h1,h2,fun p hp e=>?_,fun p hp e=>?_,fun p hp e=>?_,fun p hp e=>?_,h4,?_,h6,fun i y hy hf=>?_⟩
 ·have:=h3 p hp;rw[e] at this;simp at this
 ·have:=h3 p hp;rw[e] at this;simp at this;exact this.1
 ·have:=h3 p hp;rw[e] at this;simp at this;exact this.2
 ·have:=h3 p hp;rw[e] at this;simp at this;exact this
 ·intro hm
  have:R.contains (".0":Str)=true:=by simpa using hm
  rw[this] at h5;cases h5
 ·obtain⟨hi,e⟩:=List.getElem?_eq_some_iff.mp hy
  have hn:i<N.length:=by rw[←h6];exact hi
  have hz:(R[i],N[i])∈R.zip N:=by
   rw[List.mem_iff_getElem]
   exact⟨i,by simp;omega,by simp⟩
  have:=h7 _ hz
  simp only[Bool.or_eq_true,beq_iff_eq,bne_iff_ne,ne_eq] at this
  rcases this with q|q
  ·rw[List.getElem?_eq_getElem hn,←q,e]
  ·rw[e] at q;exact absurd hf q
def aK (X:Cx)(scope:Scope)(xs:List Str)(R:List Str)(fp:List Addr)(s:Shared)(H:Hp)(C:Addr):Cx where
 prog:=X.prog
 w:=X.w
 K:=X.K
 mg:=X.mg
 base:=X.base
 A:=X.A
 N:=xs++R
 s₀:=s
 H₀:=H
 env:=compEnvC scope (fq X.env.cells scope.names []) C X.env
 outer:=X.stack
 stack:=X.stack
 ex:=fp
 fn:=fun _=>false
 calm:=X.calm
 pn:=[]
 xe:=fun _ _=>False
variable{y:Str}
section
variable {X:Cx}{ah:List (Addr×Obj)}{σ:L2.St}{H:Hp}{s:Shared}{scope:Scope}{xs:List Str}{R:List Str}{fp:List Addr}{C:Addr}
theorem cH.cells (S:cH scope X.env.kindOf xs R X.N)(I:L2.Inv X ah σ H s):∀p∈scope.names,p.2=.free→∃c,X.env.cells.lookup p.1=some c:=fun p hp e=>I.ok.has p.1 (S.free p hp e)
theorem du (S:cH scope X.env.kindOf xs R X.N)(I:L2.Inv X ah σ H s){c:Addr}(h:(fq X.env.cells scope.names []).lookup y=some c):X.env.cells.lookup y=some c:=
 qW scope.names [] (fun _ z=>by cases z) (S.cells I) (y,c) (PySem.mem_of_lookup h)
theorem C1 {h4:Heap}{m:Str→Option Value}{tk:Nat}(S:cH scope X.env.kindOf xs R X.N)(I:L2.Inv X ah σ H s)(hC:s.heap.objs.size≤C)(k:∀b o,s.heap.get? b=some o→h4.get? b=some o)(hn:h4.Ns C m)
  (hf:∀b∈fp,j9 X ah H b) (hfl:∀b∈fp,b<s.heap.objs.size):L2.Inv (aK X scope xs R fp s H C) [] (List.replicate xs.length none++σ) H {s with heap:=h4,toks:=tk}:=by
 have hkn:∀y kk,(relabel scope X.env).names.lookup y=some kk→(kk=.cell∨kk=.free)→scope.names.lookup y=some .free:=fun y kk e hk=>by
  rcases i9 e with q|q
  ·rcases hk with z|z
   ·subst z;exact absurd rfl (S.nocell _ (PySem.mem_of_lookup q))
   ·subst z;exact q
  ·exact q.2
 have hasc:∀y,scope.names.lookup y=some .free→∃c,(fq X.env.cells scope.names []).lookup y=some c:=fun y e=>by
  obtain⟨c,hc⟩:=qG (cells:=X.env.cells) scope.names [] y (PySem.mem_of_lookup e)
  exact m4 hc
 refine⟨⟨I.ok.mod,S.kind,I.ok.glob,I.ok.blt,hC,fun y z c h1 h2=>I.ok.inj y z c (du S I h1) (du S I h2),fun y hy=>?_,fun y c z=>absurd (show false=true from z) Bool.false_ne_true,I.ok.hd,I.ok.frames,.inl rfl,fun b hb=>⟨?_,fun y c e=>?_⟩,I.bs,Nat.le_trans I.ok.bsz I.sz,fun b o e hb=>?_,fun b hb z=>?_,I.stack,I.stkFree⟩,
  rfl,I.bare,Un.kept k,⟨m,hn,fun i y v h1 h2 h3=>?_⟩,fun y c e=>?_,I.hok.fresh hC,fun y c e=>I.freeC y c (du S I e),fun p hp=>absurd (show p∈([]:List (Addr×Obj)) from hp) (by simp),I.hok.kept k,?_⟩
 ·rcases hy with e|e
  ·exact hasc y (hkn y _ e (.inl rfl))
  ·exact hasc y (hkn y _ e (.inr rfl))
 ·exact Nat.ne_of_lt (Nat.lt_of_lt_of_le (hfl b hb) hC)
 ·exact(hf b hb).2.2.2.2.1 y c (du S I e)
 ·rcases(hf b hb).2.2.2.1 with z|z
  ·exact I.ok.noex b o e z
  ·exact absurd (Nat.lt_of_lt_of_le (Heap.lt_size e) (Nat.le_trans I.ok.bsz z)) (Nat.lt_irrefl _)
 ·rcases List.mem_cons.mp (I.stkSub b z) with e|e
  ·exact(hf b hb).2.1 e
  ·exact(hf b hb).2.2.1 e
 ·by_cases hi:i<xs.length
  ·exfalso
   rw[List.getElem?_append_left (by rw[List.length_replicate];exact hi),List.getElem?_replicate,if_pos hi] at h2
   cases h2
  ·obtain⟨i,rfl⟩:∃j,i=xs.length+j:=⟨i-xs.length,by omega⟩
   have h1:R[i]?=some y:=by
    have h1:(xs++R)[xs.length+i]?=some y:=h1
    rw[List.getElem?_append_right (by omega)] at h1
    simpa using h1
   have h2:σ[i]?=some (some v):=by
    rw[List.getElem?_append_right (by rw[List.length_replicate];omega)] at h2
    simpa using h2
   have hyR:y∈R:=List.mem_of_getElem? h1
   have hf':scope.names.lookup y=some .free∧((relabel scope X.env).names.lookup y=some .cell∨(relabel scope X.env).names.lookup y=some .free):=by
    have h3:(relabel scope X.env).names.lookup y=some .local∨(relabel scope X.env).names.lookup y=some .cell∨(relabel scope X.env).names.lookup y=some .free:=h3
    rcases h3 with e|e|e
    ·rcases i9 e with q|q
     ·exfalso
      rcases S.locs _ (PySem.mem_of_lookup q) rfl with z|z
      ·exact(List.nodup_append.mp S.nd).2.2 y z y hyR rfl
      ·have z:y=(".0":Str):=z
       rw[z] at hyR
       exact S.no0 hyR
     ·exact absurd q.1 (by intro z;cases z)
    ·exact⟨hkn y _ e (.inl rfl),.inl e⟩
    ·exact⟨hkn y _ e (.inr rfl),.inr e⟩
   have hN:=S.same i y h1 hf'.1
   have hk:=S.free (y,.free) (PySem.mem_of_lookup hf'.1) rfl
   obtain⟨mX,hnX,hl⟩:=I.loc
   have vis:Kf X.env.scope y:=by
    rcases hk with z|z
    ·exact .inr (.inl z)
    ·exact .inr (.inr z)
   obtain⟨u,r,l⟩:=hl i y v hN h2 vis
   refine⟨u,r,.inr ⟨hf'.2,?_⟩⟩
   rcases l with⟨z,_⟩|⟨_,c,hc,o,ho,hod⟩
   ·exfalso
    rcases hk with q|q
    ·have q:X.env.kindOf y=some .cell:=q
     rw[z] at q;cases q
    ·have q:X.env.kindOf y=some .free:=q
     rw[z] at q;cases q
   ·obtain⟨c',hc'⟩:=hasc y hf'.1
    have:c'=c:=by
     have:=du S I hc'
     rw[hc] at this;exact(Option.some.inj this).symm
    subst this
    exact⟨c',hc',o,k _ _ ho,hod⟩
 ·obtain⟨v,o,ho,hd⟩:=I.cell y c (du S I e)
  exact⟨v,o,k _ _ ho,hd⟩
 ·show(List.replicate xs.length none++σ).length=(xs++R).length
  rw[List.length_append,List.length_append,List.length_replicate,I.len,S.len]
end
def iq (t:vf)(gc:GT)(ge:GE):List D→cr→aA→bn (List D)
 | [],ρ,M=>if t.ok M then .ok [] M else .bad
 | d::r,ρ,M=>if t.ok M then
   match gc (some d::ρ) M with
   | .ok true M1=>match ge (some d::ρ) M1 with
    | .ok e M2=>(iq t gc ge r ρ M2).bind fun es M3=>.ok (e::es) M3
    | _=>.bad
   | .ok false M1=>iq t gc ge r ρ M1
   | _=>.bad
  else .bad
def bU:GT:=fun _ M=>.ok true M
def bC (t:vf)(n:Nat)(sg:GG)(gc:GT)(ge:GE):List D→cr→aA→bn (List D)
 | [],ρ,M=>if t.ok M then .ok [] M else .bad
 | d::r,ρ,M=>if t.ok M then
   match sg d (List.replicate n none++ρ) with
   | none=>.bad
   | some ρ1=>match gc ρ1 M with
    | .ok true M1=>match ge ρ1 M1 with
     | .ok e M2=>(bC t n sg gc ge r ρ M2).bind fun es M3=>.ok (e::es) M3
     | _=>.bad
    | .ok false M1=>bC t n sg gc ge r ρ M1
    | _=>.bad
  else .bad
def cA (gi:GI)(n:Nat)(sg:GG)(gc:GT)(ge:GE)(mk:List D→aA→bn D):GE:=fun ρ M=>(gi ρ M).bind fun t M1=>(bC t n sg gc ge t.ds ρ M1).bind mk
theorem wf (t:vf)(gc:GT)(ge:GE):∀(ds:List D) (ρ:cr) (M:aA),iq t gc ge ds ρ M=bC t 1 (ej 0) gc ge ds ρ M
 | [],ρ,M=>rfl
 | d::r,ρ,M=>by
  have ih:=wf t gc ge r
  unfold iq bC
  show _=(if t.ok M=true then(match gc (some d::ρ) M with
    | .ok true M1=>match ge (some d::ρ) M1 with
     | .ok e M2=>(bC t 1 (ej 0) gc ge r ρ M2).bind fun es M3=>.ok (e::es) M3
     | _=>.bad
    | .ok false M1=>bC t 1 (ej 0) gc ge r ρ M1
    | _=>.bad) else .bad)
  simp only[ih]
def wg (n:Nat)(sg:GG):Prop:=∀d ρ ρ',sg d ρ=some ρ'→ρ'.length=ρ.length∧∀i:Nat,n≤i→ρ'[i]?=ρ[i]?
theorem yR (h:i<n):wg n (ej i):=fun d ρ ρ' e=>by
 have e:some (ρ.set i (some d))=some ρ':=e
 cases e
 exact⟨by rw[List.length_set],fun j hj=>by rw[List.getElem?_set_ne (by omega)]⟩
theorem wJ {n:Nat}:∀{is:List Nat} {ds:List D} {ρ ρ':cr},is.all (fun i=>decide (i<n))=true→k9 is ds ρ=some ρ'→ρ'.length=ρ.length∧∀i:Nat,n≤i→ρ'[i]?=ρ[i]?
 | [],[],ρ,ρ',_,e=>by cases e;exact⟨rfl,fun _ _=>rfl⟩
 | [],_::_,_,_,_,e=>by cases e
 | _::_,[],_,_,_,e=>by cases e
 | i::is,d::ds,ρ,ρ',h,e=>by
  rw[List.all_cons,Bool.and_eq_true] at h
  have hi:i<n:=by simpa using h.1
  obtain⟨a,b⟩:=wJ h.2 (show k9 is ds (ρ.set i (some d))=some ρ' from e)
  exact⟨by rw[a,List.length_set],fun j hj=>by rw[b j hj,List.getElem?_set_ne (by omega)]⟩
theorem DR (h:is.all (fun i=>decide (i<n))=true):wg n (bO is):=fun d ρ ρ' e=>by
 cases d with
 | tup ds=>exact wJ h e
 | _=>cases e
theorem wg.back {sg:GG}{τ:L2.St}{ρ1:cr}(o:wg n sg)(e:sg d (List.replicate n none++ρ)=some ρ1)(h:jP K θ H τ ρ1):jP K θ H τ (List.replicate n none++ρ):=by
 obtain⟨a,b⟩:=o _ _ _ e
 refine⟨by rw[←a];exact h.len,fun i d' q=>?_⟩
 by_cases hi:i<n
 ·rw[List.getElem?_append_left (by rw[List.length_replicate];exact hi),List.getElem?_replicate,if_pos hi] at q
  cases q
 ·rw[←b i (by omega)] at q
  exact h.at_ i d' q
def aW (gi:GI)(gc:GT)(ge:GE)(mk:List D→aA→bn D):GE:=fun ρ M=>(gi ρ M).bind fun t M1=>(iq t gc ge t.ds ρ M1).bind mk
theorem vM (elt target iter:Expr)(ifs:List Expr)(scope:Scope)(pos:Pos)(it acc:Value)(env:Env)(cond:Sem Bool)
  (hc:(forIn (m:=Sem) ifs true fun c r=>if r=true then do let ok ←isTrue c env (eval c env);pure (ForInStep.yield ok) else pure (ForInStep.yield r))=cond) :
  compTurn (.ListComp elt [⟨target,iter,ifs,0⟩] scope pos) 0 it acc env=(standAt iter.pos >>= fun _=>pyNext it >>= fun r=>match r with
   | none=>pure (.done .next)
   | some v=>letOwnedTupleGo target it v >>= fun _=>assign target env v >>= fun _=>cond >>= fun ok=>
    if ok=true then((eval elt env >>= fun x=>call (.builtin "list.append") [acc,x] >>= fun _=>pure ()) >>= fun _=>
     again (.compLoop (.ListComp elt [⟨target,iter,ifs,0⟩] scope pos) 0 it acc env)) else again (.compLoop (.ListComp elt [⟨target,iter,ifs,0⟩] scope pos) 0 it acc env)):=by
 subst hc
 rfl
section
variable {prog:Program}{w:World}{A:Around}{R:Result→Shared→Prop}{s:Shared}
theorem lD {elt target iter:Expr}{ifs:List Expr}{scope:Scope}{pos:Pos}{it acc:Value}{env:Env}{cond:Sem Bool}
  (hc:(forIn (m:=Sem) ifs true fun c r=>if r=true then do let ok ←isTrue c env (eval c env);pure (ForInStep.yield ok) else pure (ForInStep.yield r))=cond) (I:Nat→Shared→Prop)
  (turn:∀n s,I n s→wpAny (model prog w) A (pyNext it) (fun r s₁=>match r with
   | none=>R (.ok .next) s₁
   | some v=>wpAny (model prog w) A (letOwnedTupleGo target it v) (fun _ s₂=>wpAny (model prog w) A (assign target env v) (fun _ s₃=>wpAny (model prog w) A cond (fun ok s₄=>if ok=true then
     wpAny (model prog w) A (eval elt env) (fun x s₅=>wpAny (model prog w) A (call (.builtin "list.append") [acc,x]) (fun _ s₆=>∃m,m<n∧I m s₆) (fun _ _=>False) s₅) (fun _ _=>False) s₄
     else∃m,m<n∧I m s₄) (fun _ _=>False) s₃) (fun _ _=>False) s₂) (fun _ _=>False) s₁) (fun _ _=>False) s)
  (n:Nat) (h:I n s):codeAny (model prog w) A (.compLoop (.ListComp elt [⟨target,iter,ifs,0⟩] scope pos) 0 it acc env) R s:=by
 refine codeAny_loop rfl I (fun n s hI=>?_) n h
 show wpAny _ _ ((compTurn (.ListComp elt [⟨target,iter,ifs,0⟩] scope pos) 0 it acc env).onRaise (fun x=>do noteFrame x env;theTreesLotGoes x)) _ _ s
 refine wpAny_noted ?_
 rw[vM _ _ _ _ _ _ _ _ _ _ hc]
 refine wpAny_bind (wpAny_standAt (wpAny_bind (wpAny_mono (turn n s hI) (fun r s₁ h₁=>?_) fun _ _ z=>z.elim)))
 cases r with
 | none=>exact wpAny_pure h₁
 | some v=>
  refine wpAny_bind (wpAny_mono h₁ (fun _ s₂ h₂=>?_) fun _ _ z=>z.elim)
  refine wpAny_bind (wpAny_mono h₂ (fun _ s₃ h₃=>?_) fun _ _ z=>z.elim)
  refine wpAny_bind (wpAny_mono h₃ (fun ok s₄ h₄=>?_) fun _ _ z=>z.elim)
  cases ok with
  | true=>
   rw[if_pos rfl] at h₄
   rw[if_pos rfl]
   exact wpAny_bind (wpAny_bind (wpAny_mono h₄ (fun x s₅ h₅=>wpAny_bind (wpAny_mono h₅ (fun _ s₆ h₆=>wpAny_pure (wpAny_pure ⟨rfl,h₆⟩)) fun _ _ z=>z.elim)) fun _ _ z=>z.elim))
  | false=>
   rw[if_neg Bool.false_ne_true] at h₄
   rw[if_neg Bool.false_ne_true]
   exact wpAny_pure ⟨rfl,h₄⟩
theorem xK {env:Env}:(forIn (m:=Sem) ([]:List Expr) true fun c r=>if r=true then do let ok ←isTrue c env (eval c env);pure (ForInStep.yield ok) else pure (ForInStep.yield r))=pure true:=rfl
end
theorem Fs {b a c:Nat}(h:b<a)(e:c=a+1):b≠c:=by omega
theorem Ci {b a c:Nat}(h:b<c)(e:c=a):a≠b:=by omega
theorem ur {b a c:Nat}(h:b<c)(e:c=a):b≠a:=by omega
abbrev iZ (its:List Value)(n:Nat):Obj:={cls:=.type "list",data:=.seq its.toArray n}
section
variable {X:Cx}{ah:List (Addr×Obj)}{σ:L2.St}{s:Shared}{scope:Scope}{xs:List Str}{tg:Expr}{sg:GG}{R:List Str}{elt iter:Expr}{ifs:List Expr}{pos:Pos}{E:Value→Shared→Prop}
theorem Ef {σ:L2.St}(h:jP K θ H σ ρ):jP K θ H (List.replicate n none++σ) (List.replicate n none++ρ):=by
 refine⟨by rw[List.length_append,List.length_append,List.length_replicate,List.length_replicate,h.len],fun i d e=>?_⟩
 by_cases hi:i<n
 ·rw[List.getElem?_append_left (by rw[List.length_replicate];exact hi),List.getElem?_replicate,if_pos hi] at e
  cases e
 ·rw[List.getElem?_append_right (by rw[List.length_replicate];omega),List.length_replicate] at e ⊢
  exact h.at_ _ d e
theorem qT {fp:List Addr}{it:Addr}{tn:Nat→Heap→Prop}{J:It}{H2:Hp}{s2:Shared}{t:vf}{M1:aA}{θ1:List Addr}{gc:GT}{ge:GE}{es:List D}{Mend:aA}{RR:Value→Addr→Result→Shared→Prop}
  (S:cH scope X.env.kindOf xs R X.N) (hc:X.calm=true) (I2:L2.Inv X ah σ H2 s2) (T:Ap X.prog X.w X.K tg J fp it tn) (st2:tn 0 s2.heap) (f2:∀b∈fp,j9 X ah H2 b)
  (hw1:Wr X.K θ1 H2 M1) (hd1:jP X.K θ1 H2 σ ρ) (hJ:Dz X.K J θ1 H2 t) (hgo:bC t xs.length sg gc ge t.ds ρ M1=.ok es Mend) (hlen:es.length≤sizeLine)
  (hcd:∀C,∃cond,(forIn (m:=Sem) ifs true fun c r=>if r=true then do let ok ←isTrue c (aK X scope xs R fp s2 H2 C).env (eval c (aK X scope xs R fp s2 H2 C).env);pure (ForInStep.yield ok) else pure (ForInStep.yield r))=cond∧
   ∀(ah:List (Addr×Obj)) (s:Shared) (σ:L2.St) (H:Hp) (Q:Bool→Hp→Prop),L2.Inv (aK X scope xs R fp s2 H2 C) ah σ H s→tT (aK X scope xs R fp s2 H2 C) gc σ H Q→wpAny (model X.prog X.w) X.A cond (TP (aK X scope xs R fp s2 H2 C) ah σ Q) (fun _ _=>False) s)
  (own:wg xs.length sg) (hg:∀C,PG (aK X scope xs R fp s2 H2 C) tg (tG (aK X scope xs R fp s2 H2 C) sg))
  (he:∀C,PE (aK X scope xs R fp s2 H2 C) elt (tE (aK X scope xs R fp s2 H2 C) ge))
  (fin:∀(acc C:Addr) (s':Shared) (H':Hp) (θ':List Addr) (vs:List V) (m:Str→Option Value),L2.Inv X ah σ (cj H' acc (.lst vs)) s'→s'.heap.Ns C m→j9 X ah (cj H' acc (.lst vs)) C→Go X.K θ1 H2 θ' H' Mend→H' acc=none→bA X.K θ' H' es vs→RR (.ref acc) C (.ok .next) s') :
  wpAny (model X.prog X.w) X.A (newList []) (fun acc s₃=>wpAny (model X.prog X.w) X.A (newFunctionEnv scope X.env.globals (fq X.env.cells scope.names []) [] X.env.qual none .none (some X.env)) (fun cenv s₄=>
   codeAny (model X.prog X.w) X.A (.compStart (.ListComp elt [⟨tg,iter,ifs,0⟩] scope pos) 0 (.ref it) acc {cenv with scope:=relabel scope X.env}) (RR acc cenv.locals) s₄) E s₃) E s2:=by
 refine wpAny_newObj_type (wpAny_newFunctionEnv S.nocell (by intro y hy;simp at hy) (fun h₁ hns₁ hsb₁=>?_) S.kind)
 dsimp only at hns₁ hsb₁ ⊢
 generalize hHp:s2.heap.push {cls:=.type "list",dict:=none,data:=.seq ([]:List Value).toArray}=Hp2 at hns₁ hsb₁ ⊢
 have hCe:Hp2.objs.size=s2.heap.objs.size+1:=by rw[←hHp,Heap.size_push]
 generalize hCd:Hp2.objs.size=C at hns₁ hsb₁ hCe ⊢
 generalize hAd:s2.heap.objs.size=acc at hCe ⊢
 have hDC:acc≠C:=by rw[hCe];exact Nat.ne_of_lt (Nat.lt_succ_self _)
 have old:∀b o,s2.heap.get? b=some o→h₁.get? b=some o:=fun b o e=>by
  have hb:b<acc:=by rw[←hAd];exact Heap.lt_size e
  refine hsb₁.extBut b o (Fs hb hCe) (Heap.get?_push_of_some _ ?_)
  rw[←hHp];exact Heap.get?_push_of_some _ e
 have hacc0:h₁.get? acc=some (iZ [] 0):=by
  refine hsb₁.extBut acc _ hDC (Heap.get?_push_of_some _ ?_)
  rw[←hHp,←hAd];exact Heap.get?_push_size _ rfl
 have hfl:∀b∈fp,b<s2.heap.objs.size:=fun b hb=>by
  obtain⟨o,e,_⟩:=T.obj 0 _ st2 b hb
  exact Heap.lt_size e
 have hCs:s2.heap.objs.size≤C:=by omega
 have IY0:L2.Inv (aK X scope xs R fp s2 H2 C) [] (List.replicate xs.length none++σ) H2 {s2 with heap:=h₁,toks:=s2.toks+([]:List (Str×Value)).length}:=C1 S I2 hCs old hns₁ f2 hfl
 obtain⟨cond,hcond,hct⟩:=hcd C
 have fpY:∀{H':Hp} {p:Obj},(∀b∈fp,H' b=none)→∀b∈fp,j9 (aK X scope xs R fp s2 H2 C) [(acc,p)] H' b:=fun {H' p} hn b hb=>by
  refine⟨hn b hb,?_,fun z=>?_,.inl hb,fun y c e=>?_,fun q hq=>?_⟩
  ·exact Nat.ne_of_lt (Nat.lt_of_lt_of_le (hfl b hb) hCs)
  ·rcases List.mem_cons.mp (I2.stkSub b z) with e|e
   ·exact(f2 b hb).2.1 e
   ·exact(f2 b hb).2.2.1 e
  ·exact(f2 b hb).2.2.2.2.1 y c (du S I2 e)
  ·have hq:q∈([]:List (Addr×Obj))++[(acc,p)]:=hq
   have e:q=(acc,p):=by simpa using hq
   rw[e]
   exact Ci (hfl b hb) hAd
 have accF:∀b∈rM X.stack,acc≠b:=fun b hb e=>by
  have:acc∉X.env.locals::X.fs:=by
   intro z
   rcases List.mem_cons.mp z with z|z
   ·exact Ci I2.lt hAd z
   ·exact I2.nofs (Nat.le_of_eq hAd) z
  exact this (e▸I2.stkSub b hb)
 have loop:∀s₃:Shared,s₃={s2 with heap:=h₁,toks:=s2.toks+([]:List (Str×Value)).length}→
   codeAny (model X.prog X.w) X.A (.compLoop (.ListComp elt [⟨tg,iter,ifs,0⟩] scope pos) 0 (.ref it) (.ref acc) (aK X scope xs R fp s2 H2 C).env) (RR (.ref acc) C) s₃:=by
  rintro s₃ rfl
  have pin0:∀{σ':L2.St} {H':Hp} {s':Shared} {its:List Value} {n:Nat},L2.Inv (aK X scope xs R fp s2 H2 C) [] σ' H' s'→s'.heap.get? acc=some (iZ its n)→H' acc=none→L2.Inv (aK X scope xs R fp s2 H2 C) [(acc,iZ its n)] σ' H' s':=fun {σ' H' s' its n} I' e hn=>
   I'.pins_of fun p hp=>by
    have ep:p=(acc,iZ its n):=by simpa using hp
    subst ep
    exact⟨e,hn,hDC,fun z=>accF acc z rfl,fun v z=>by cases z⟩
  refine lD hcond (fun n s'=>∃(i:Nat) (τ:L2.St) (H':Hp) (θ':List Addr) (M':aA) (ds rest:List D) (vs:List V) (its:List Value) (na:Nat),n=t.ds.length-i∧i≤t.ds.length∧
   L2.Inv (aK X scope xs R fp s2 H2 C) [(acc,iZ its na)] τ H' s'∧jP X.K θ' H' τ (List.replicate xs.length none++ρ)∧tn i s'.heap∧(∀b∈fp,H' b=none)∧Go X.K θ1 H2 θ' H' M'∧bA X.K θ' H' ds vs∧aZ vs its∧
   bC t xs.length sg gc ge (t.ds.drop i) ρ M'=.ok rest Mend∧ds++rest=es) ?_ t.ds.length
   ⟨0,_,H2,θ1,M1,[],es,[],[],0,rfl,Nat.zero_le _,pin0 IY0 hacc0 (I2.hok.fresh (Nat.le_of_eq hAd)),Ef hd1,T.keep 0 _ _ st2 (fun b hb o e=>old b o e),fun b hb=>(f2 b hb).1,.refl hw1,rfl,.nil,hgo,rfl⟩
  rintro n s' ⟨i,τ,H',θ',M',ds,rest,vs,its,na,rfl,hil,I',dn',st',fr',g',rd',rv',hrest,hes⟩
  have hok:t.ok M'=true:=by
   cases hq:t.ok M' with
   | true=>rfl
   | false=>
    exfalso
    cases hdr:t.ds.drop i with
    | nil=>rw[hdr,bC,if_neg (by rw[hq];exact Bool.false_ne_true)] at hrest;cases hrest
    | cons d r=>rw[hdr,bC,if_neg (by rw[hq];exact Bool.false_ne_true)] at hrest;cases hrest
  obtain⟨hy,hst⟩:=hJ θ' H' M' g' hok i
  by_cases hlt:i<t.ds.length
  ·have e1:t.ds[i]?=some t.ds[i]:=List.getElem?_eq_getElem hlt
   obtain⟨hgo',hyl⟩:=hy _ e1
   rw[List.drop_eq_getElem_cons hlt,bC,if_pos hok] at hrest
   refine cF (T.item (aK X scope xs R fp s2 H2 C) rfl rfl rfl hc i _ s' _ H' _ I' (fpY fr') st' hgo') fun r s4 ⟨u,hr,h4⟩=>?_
   subst hr
   refine cF h4 fun _ s5 ⟨v,H5,I5,r5,y5,st5,Hr⟩=>?_
   obtain⟨gy,rx⟩:=hyl v H5 y5
   have I5':=I5.pinned (fpY Hr) (T.obj _ _ st5)
   cases qs:sg t.ds[i] (List.replicate xs.length none++ρ) with
   | none=>rw[qs] at hrest;cases hrest
   | some ρ1=>
   rw[qs] at hrest
   dsimp only at hrest
   refine cF (hg C _ s5 _ H5 v u (fun σ6 H6=>jP X.K θ' H6 σ6 ρ1∧H6=H5) I5' r5 ⟨_,θ',M',t.ds[i],dn'.go gy,gy.wr,rx,ρ1,qs,fun σ6 d6=>⟨d6,rfl⟩⟩) fun _ s6 ⟨σ6,H6,I6,hdY,eH6⟩=>?_
   subst eH6
   cases qc:gc ρ1 M' with
   | bad=>rw[qc] at hrest;cases hrest
   | err c Mx=>rw[qc] at hrest;cases hrest
   | ok b Mb=>
    refine cF (hct _ s6 _ H6 (fun b' H7=>b'=b∧∃θ7,Go X.K θ' H6 θ7 H7 Mb) I6 ⟨_,θ',M',hdY,gy.wr,?_⟩) fun ok s7 ⟨H7,I7,eb,θ7,g7⟩=>?_
    ·rw[qc];exact fun θ7 H7 g7=>⟨rfl,θ7,g7⟩
    subst eb
    have fpk:∀{s8:Shared} {σ8:L2.St} {H8:Hp},L2.Inv (aK X scope xs R fp s2 H2 C) ([(acc,iZ its na)]++qj fp s5.heap) σ8 H8 s8→(∀b∈fp,H8 b=none)∧(∀b∈fp,∀o,s5.heap.get? b=some o→s8.heap.get? b=some o)∧s8.heap.get? acc=some (iZ its na)∧H8 acc=none:=fun {s8 σ8 H8} I8=>by
     have pa:=I8.pin (acc,iZ its na) (List.mem_append_right _ (List.mem_append_left _ (by simp)))
     refine⟨fun b hb=>?_,fun b hb o e=>(I8.pin (b,o) (List.mem_append_right _ (List.mem_append_right _ (ko hb e)))).1,pa.1,pa.2.1⟩
     obtain⟨o,e,d⟩:=T.obj _ _ st5 b hb
     exact(I8.pin (b,o) (List.mem_append_right _ (List.mem_append_right _ (ko hb e)))).2.1
    cases ok with
    | false=>
     rw[if_neg Bool.false_ne_true]
     rw[qc] at hrest
     obtain⟨k1,k2,k3,k4⟩:=fpk I7
     exact⟨t.ds.length-(i+1),by omega,i+1,σ6,H7,θ7,Mb,ds,rest,vs,its,na,rfl,hlt,I7.unpinned,own.back qs (hdY.go g7),T.keep _ _ _ st5 k2,k1,g'.trans (gy.trans g7),rd'.go (gy.trans g7),rv',hrest,hes⟩
    | true=>
     rw[if_pos rfl]
     rw[qc] at hrest
     have hrest:(match ge ρ1 Mb with
      | .ok e M2=>(bC t xs.length sg gc ge (t.ds.drop (i+1)) ρ M2).bind fun es M3=>.ok (e::es) M3
      | _=>.bad)=bn.ok rest Mend:=hrest
     cases qe:ge ρ1 Mb with
     | bad=>rw[qe] at hrest;cases hrest
     | err c Mx=>rw[qe] at hrest;cases hrest
     | ok dv Mv=>
      rw[qe] at hrest
      have hrest:((bC t xs.length sg gc ge (t.ds.drop (i+1)) ρ Mv).bind fun es M3=>bn.ok (dv::es) M3)=bn.ok rest Mend:=hrest
      refine cF (he C _ s7 _ H7 (fun w H8=>∃θ8,Go X.K θ7 H7 θ8 H8 Mv∧dq X.K θ8 H8 dv w) I7 ⟨_,θ7,Mb,hdY.go g7,g7.wr,?_⟩) fun uv s8 ⟨w,H8,I8,rw8,θ8,g8,rd8⟩=>?_
      ·rw[qe];exact fun w θ8 H8 g8 rd8=>⟨θ8,g8,rd8⟩
      obtain⟨k1,k2,k3,k4⟩:=fpk I8
      cases qr:bC t xs.length sg gc ge (t.ds.drop (i+1)) ρ Mv with
      | bad=>rw[qr] at hrest;cases hrest
      | err c Mx=>rw[qr] at hrest;cases hrest
      | ok rest' Mr=>
       rw[qr] at hrest
       have hrest:bn.ok (dv::rest') Mr=bn.ok rest Mend:=hrest
       cases hrest
       have hsz:its.length<sizeLine:=by
        have e2:(ds++dv::rest').length≤sizeLine:=by rw[hes];exact hlen
        rw[List.length_append,List.length_cons,av rd',rv'.length] at e2
        omega
       refine call_meets F.slot_list_append ⟨_,k3,rfl⟩ F.entry_list_append (F.args_list_append_2 _ _) (PySem.list_append acc its.toArray na uv (by rw[List.size_toArray];omega)) ⟨k3,?_⟩
       have qup:=PySem.IsL.update k3 (fun a=>a.push uv)
       have eup:(its.toArray.push uv)=(its++[uv]).toArray:=by simp
       have keepb:∀b o,b≠acc→s8.heap.get? b=some o→(s8.heap.update acc (Obj.mapSeq fun a=>a.push uv)).get? b=some o:=fun b o hb e=>(Heap.get?_update_other s8.heap _ (Ne.symm hb)).trans e
       have I9:L2.Inv (aK X scope xs R fp s2 H2 C) [] σ6 H8 {s8 with heap:=s8.heap.update acc (Obj.mapSeq fun a=>a.push uv),toks:=s8.toks}:=by
        refine Inv.turned (it:=acc) (I8.pins_of (pins':=[]) fun p hp=>absurd hp (by simp)) keepb k4 hDC (.inr (Nat.le_of_eq hAd)) (fun y c e z=>?_) fun p hp=>absurd (show p∈([]:List (Addr×Obj)) from hp) (by simp)
        obtain⟨v',o,ho,hdd⟩:=I2.cell y c (du S I2 e)
        exact ur (Heap.lt_size ho) hAd z
       obtain⟨n',eq'⟩:∃n',(s8.heap.update acc (Obj.mapSeq fun a=>a.push uv)).get? acc=some (iZ (its++[uv]) n'):=by
        have q2:=qup
        rw[eup] at q2
        exact⟨_,q2⟩
       exact⟨t.ds.length-(i+1),by omega,i+1,σ6,H8,θ8,Mv,ds++[dv],rest',vs++[w],its++[uv],n',rfl,hlt,pin0 I9 eq' k4,own.back qs (hdY.go (g7.trans g8)),T.keep _ _ _ st5 (fun b hb o e=>keepb b o (ur (hfl b hb) hAd) (k2 b hb o e)),k1,g'.trans (gy.trans (g7.trans g8)),dn (rd'.go (gy.trans (g7.trans g8))) ⟨w,[],rfl,rd8,rfl⟩,rv'.append (.cons rw8 .nil),qr,by rw[←hes];simp⟩
  ·have e:i=t.ds.length:=by omega
   subst e
   rw[List.drop_length,bC,if_pos hok] at hrest
   cases hrest
   have hes:ds=es:=by rw[←hes];simp
   subst hes
   refine cF (T.done (aK X scope xs R fp s2 H2 C) rfl rfl rfl hc _ _ s' _ H' _ I' (fpY fr') st' (hst (Nat.le_refl _))) fun r s4 ⟨hr,I4⟩=>?_
   subst hr
   have pa:=I4.pin (acc,iZ its na) (List.mem_append_right _ (by simp))
   have e4:s4.heap.get? acc=some (iZ its na):=pa.1
   have n4:H' acc=none:=pa.2.1
   have lv:vs.length≤sizeLine:=by rw[←av rd'];exact hlen
   obtain⟨mC,hnC,_⟩:=I4.loc
   have hHC:H' C=none:=I4.free
   have Aa:Un (rM X.stack) fp H2 H' s2.heap s4.heap:=I4.base
   have neA:∀{b:Addr} {o:Obj},s2.heap.get? b=some o→b≠acc:=fun {b o} e=>ur (Heap.lt_size e) hAd
   have neH:∀{b:Addr} {u:HO},H' b=some u→b≠acc:=fun {b u} e z=>by rw[z,n4] at e;cases e
   have un4:Un (rM X.stack) fp H2 (cj H' acc (.lst vs)) s2.heap s4.heap:=by
    refine⟨Aa.keep,Aa.slot,fun b o e n hx=>?_,Aa.there,fun b xs e=>?_,fun b o u e=>?_,fun b ps e=>?_⟩
    ·rw[az (neA e)];exact Aa.free b o e n hx
    ·have z:=Aa.tups b xs e
     rw[az (neH z)];exact z
    ·have z:=Aa.frzs b o u e
     rw[az (neH z)];exact z
    ·obtain⟨more,z⟩:=Aa.tbls b ps e
     exact⟨more,by rw[az (neH z)];exact z⟩
   have hok4:lN X.prog X.w (cj H' acc (.lst vs)) s4.heap:=fun b u e=>by
    by_cases hb:b=acc
    ·subst hb
     rw[bE] at e;cases e
     exact⟨lv,its,na,rv',e4⟩
    ·rw[az hb] at e
     exact(I4.hok b u e).stay (fun c v _ q=>q) (fun c q=>by rw[az (neH q)];exact q) fun c xs q=>by rw[az (neH q)];exact q
   have IX:L2.Inv X ah σ (cj H' acc (.lst vs)) s4:=I2.call' (ch:=fp) I4.os un4 hok4 I4.bare fun b hb=>⟨(f2 b hb).2.2.2.1,(f2 b hb).2.1,(f2 b hb).2.2.2.2.1,(f2 b hb).2.2.2.2.2⟩
   refine fin acc C s4 H' θ' vs mC IX hnC (I2.fpOk hCs ?_) g' n4 rd'
   rw[az (Ne.symm hDC)];exact hHC
 exact codeAny_compStart_list (loop _ rfl) (T.self _ 0 _ _ _ (T.keep 0 _ _ st2 fun b hb o e=>old b o e) (loop _ rfl))
end
variable{mk:List D→aA→bn D}
section
variable {X:Cx}{scope:Scope}{xs:List Str}{tg:Expr}{sg:GG}{x:Str}{px:Pos}{R:List Str}{elt iter:Expr}{ifs:List Expr}{pos:Pos}{gi:GI}{gc:GT}{ge:GE}
def IC (mk:List D→aA→bn D):Prop:=∀(X:Cx) (θ:List Addr) (H:Hp) (Q:VK) (ds:List D) (M:aA) (vs:List V),aN X θ H Q (mk ds M)→Wr X.K θ H M→bA X.K θ H ds vs→vs.length≤sizeLine∧∀p,H p=none→Q (.ref p) (cj H p (.lst vs))
theorem CP:IC aL:=fun X θ H Q ds M vs h hw r=>aN.lst h hw r
theorem Bi:IC fe:=fun X θ H Q ds M vs h hw r=>aN.mut h hw r
theorem AS (hm:mk=aL∨mk=fe){X:Cx}{Q:VK}(h:aN X θ H Q (mk ds M)):ds.length≤sizeLine:=by
 rcases hm with e|e <;> subst e
 ·unfold aL at h
  split at h
  ·assumption
  ·exact h.elim
 ·unfold fe at h
  split at h
  ·assumption
  ·exact h.elim
theorem F5 (hm:mk=aL∨mk=fe):IC mk:=by
 rcases hm with e|e <;> subst e
 ·exact CP
 ·exact Bi
def mh (X:Cx)(scope:Scope)(xs:List Str)(R:List Str)(ifs:List Expr)(gc:GT):Prop:=∀fp s2 H2 C,∃cond,(forIn (m:=Sem) ifs true fun c r=>if r=true then do let ok ←isTrue c (aK X scope xs R fp s2 H2 C).env (eval c (aK X scope xs R fp s2 H2 C).env);pure (ForInStep.yield ok) else pure (ForInStep.yield r))=cond∧
   ∀(ah:List (Addr×Obj)) (s:Shared) (σ:L2.St) (H:Hp) (Q:Bool→Hp→Prop),L2.Inv (aK X scope xs R fp s2 H2 C) ah σ H s→tT (aK X scope xs R fp s2 H2 C) gc σ H Q→wpAny (model X.prog X.w) X.A cond (TP (aK X scope xs R fp s2 H2 C) ah σ Q) (fun _ _=>False) s
theorem B5:mh X scope xs R [] bU:=fun fp s2 H2 C=>⟨_,xK,fun ah s σ H Q I ⟨ρ,θ,M,hd,hw,h⟩=>wpAny_pure ⟨H,I,h θ H (.refl hw)⟩⟩
theorem kL {t:vf}{n:Nat}{sg:GG}{gc:GT}{ge:GE}{ρ:cr}{c:Str}{M':aA}:∀(ds:List D) (M:aA),bC t n sg gc ge ds ρ M=.err c M'→False
 | [],M,h=>by
  unfold bC at h
  split at h <;> cases h
 | d::r,M,h=>by
  unfold bC at h
  split at h
  ·split at h
   ·cases h
   ·split at h
    ·rename_i M1 q1
     split at h
     ·rename_i e M2 q2
      cases q:bC t n sg gc ge r ρ M2 with
      | ok es M3=>rw[q] at h;cases h
      | err c2 M3=>exact kL r M2 q
      | bad=>rw[q] at h;cases h
     ·cases h
    ·rename_i M1 q1
     exact kL r M1 h
    ·cases h
  ·cases h
theorem wn (hS:cM scope X.env.kindOf xs R X.N=true)(hc:X.calm=true)(hm:mk=aL∨mk=fe)(hi:PI X tg iter (tI X gi))(own:wg xs.length sg)(hg:∀fp s H C,PG (aK X scope xs R fp s H C) tg (tG (aK X scope xs R fp s H C) sg))(hts:mh X scope xs R ifs gc)
  (he:∀fp s H C,PE (aK X scope xs R fp s H C) elt (tE (aK X scope xs R fp s H C) ge))
  (hs:∀x,foldedSetIterable iter X.env x=pure x:=by intro _;rfl):PE X (.ListComp elt [⟨tg,iter,ifs,0⟩] scope pos) (tE X (cA gi xs.length sg gc ge mk)):=by
 have S:=cH.of hS
 intro ah s σ H Q I h
 obtain⟨ρ,θ,M,hd,hw,h⟩:=h
 rw[eval_ListComp]
 refine wpAny_comprehension_free (use:=none) rfl hs (n9 (S.cells I)) S.kind S.lnames ?_
 refine cF (hi ah s σ H (fun J H2=>∃t M1 θ1,gi ρ M=.ok t M1∧Go X.K θ H θ1 H2 M1∧Dz X.K J θ1 H2 t) I ⟨ρ,θ,M,hd,hw,?_⟩) fun v s1 h1=>cF h1 fun itv s2 h2=>?_
 ·cases q:gi ρ M with
  | ok t M1=>exact fun J θ1 H1 g1 hJ=>⟨t,M1,θ1,rfl,g1,hJ⟩
  | err c M1=>unfold cA at h;rw[q] at h;exact h
  | bad=>unfold cA at h;rw[q] at h;exact h
 obtain⟨it,fp,tn,J,H2,rfl,I2,T,st2,f2,t,M1,θ1,eg,g1,hJ⟩:=h2
 unfold cA at h
 rw[eg] at h
 have h:aN X θ H Q ((bC t xs.length sg gc ge t.ds ρ M1).bind mk):=h
 cases q:bC t xs.length sg gc ge t.ds ρ M1 with
 | bad=>rw[q] at h;exact h.elim
 | err c Mx=>exact(kL _ _ q).elim
 | ok es Mend=>
  rw[q] at h
  have h:aN X θ H Q (mk es Mend):=h
  refine qT (RR:=fun acc C=>compPost (model X.prog X.w) X.A X.xe none (EP X ah σ Q) acc C) S hc I2 T st2 f2 g1.wr (hd.go g1) hJ q (AS hm h) (fun C=>hts fp s2 H2 C) own (fun C=>hg fp s2 H2 C) (fun C=>he fp s2 H2 C) ?_
  intro acc C s' H' θ' vs m IX hnC fC g' na rd
  refine⟨m,hnC,fun h' sb=>?_⟩
  have I3:L2.Inv X ah σ (cj H' acc (.lst vs)) {s' with heap:=h',toks:=s'.toks}:=IX.turned (it:=C) (fun b o hb e=>(sb.2 b hb).trans e) fC.1 fC.2.1 fC.2.2.2.1 fC.2.2.2.2.1 fC.2.2.2.2.2
  exact⟨.ref acc,_,I3,rfl,(F5 hm X θ' H' Q es Mend vs (aN.go (g1.trans g') h) g'.wr rd).2 acc na⟩
theorem pI {j:Nat}{py spos:Pos}(hS:cM scope X.env.kindOf xs R X.N=true)(hc:X.calm=true)(hm:mk=aL∨mk=fe)(hi:PI X tg iter (tI X gi))(own:wg xs.length sg)(hg:∀fp s H C,PG (aK X scope xs R fp s H C) tg (tG (aK X scope xs R fp s H C) sg))(hts:mh X scope xs R ifs gc)
  (he:∀fp s H C,PE (aK X scope xs R fp s H C) elt (tE (aK X scope xs R fp s H C) ge))
  (hN:X.N.Nodup) (hj:X.N[j]?=some y) (hy:X.env.scope.names.lookup y=some .local)
  (hsw:swapsWith (.ListComp elt [⟨tg,iter,ifs,0⟩] scope pos) (some (.Name y py)) spos.line X.env=pure true)
  (hs:∀x,foldedSetIterable iter X.env x=pure x:=by intro _;rfl):PS X (.Assign [.Name y py] (.ListComp elt [⟨tg,iter,ifs,0⟩] scope pos) spos) (tS X (aI j (cA gi xs.length sg gc ge mk))):=by
 have S:=cH.of hS
 intro ah s σ H Q I h
 obtain⟨ρ,θ,M,hd,hw,h⟩:=h
 rw[exec_Assign_Name_used _ _ _ _ hsw]
 refine wpAny_bind (wpAny_standAt (wpAny_bind ?_))
 show wpAny _ X.A (do let _ ←comprehension (.ListComp elt [⟨tg,iter,ifs,0⟩] scope pos) scope X.env _ (newList []) false (eval iter X.env) (some (assign (.Name y py) X.env))) _ _ s
 refine wpAny_bind (wpAny_mono (wpAny_comprehension_free (use:=some (assign (.Name y py) X.env)) (Q:=fun _ s'=>SP X ah Q .next s') rfl hs (n9 (S.cells I)) S.kind S.lnames ?_) (fun _ s' hq=>wpAny_pure (wpAny_pure hq)) fun _ _ e=>e)
 refine cF (hi ah s σ H (fun J H2=>∃t M1 θ1,gi ρ M=.ok t M1∧Go X.K θ H θ1 H2 M1∧Dz X.K J θ1 H2 t) I ⟨ρ,θ,M,hd,hw,?_⟩) fun v s1 h1=>cF h1 fun itv s2 h2=>?_
 ·cases q:gi ρ M with
  | ok t M1=>exact fun J θ1 H1 g1 hJ=>⟨t,M1,θ1,rfl,g1,hJ⟩
  | err c M1=>unfold aI cA at h;rw[q] at h;exact h
  | bad=>unfold aI cA at h;rw[q] at h;exact h
 obtain⟨it,fp,tn,J,H2,rfl,I2,T,st2,f2,t,M1,θ1,eg,g1,hJ⟩:=h2
 unfold aI cA at h
 rw[eg] at h
 have h:cS X θ H Q (((bC t xs.length sg gc ge t.ds ρ M1).bind mk).bind fun d M2=>.ok (.nx (ρ.set j (some d))) M2):=h
 cases q:bC t xs.length sg gc ge t.ds ρ M1 with
 | bad=>rw[q] at h;exact h.elim
 | err c Mx=>exact(kL _ _ q).elim
 | ok es Mend=>
  rw[q] at h
  have h:cS X θ H Q ((mk es Mend).bind fun d M2=>.ok (.nx (ρ.set j (some d))) M2):=h
  have hE:aN X θ H (fun v H'=>∃θ' M',Go X.K θ H θ' H' M'∧∃d,mk es Mend=.ok d M'∧dq X.K θ' H' d v) (mk es Mend):=by
   cases qm:mk es Mend with
   | ok d M2=>exact fun v θ' H' g' r=>⟨θ',M2,g',d,rfl,r⟩
   | err c M2=>rw[qm] at h;exact h
   | bad=>rw[qm] at h;exact h
  refine qT (RR:=fun acc C=>compPost (model X.prog X.w) X.A X.xe (some (assign (.Name y py) X.env)) (fun _ s'=>SP X ah Q .next s') acc C) S hc I2 T st2 f2 g1.wr (hd.go g1) hJ q (AS hm hE) (fun C=>hts fp s2 H2 C) own (fun C=>hg fp s2 H2 C) (fun C=>he fp s2 H2 C) ?_
  intro acc C s' H' θ' vs m IX hnC fC g' na rd
  obtain⟨θe,Me,ge',d,ed,rde⟩:=(F5 hm X θ' H' _ es Mend vs (aN.go (g1.trans g') hE) g'.wr rd).2 acc na
  show wpAny _ X.A (assign (.Name y py) X.env (.ref acc)) _ _ s'
  refine wpAny_assign_Name (sW IX hN hj (.inl hy) (v:=.ref acc) rfl (fun s3 I3 ⟨a,sa,ha⟩=>?_) (.inr hy))
  have hCa:C≠a:=by
   rcases ha with e|e
   ·rw[e];exact fC.2.1
   ·exact fun z=>fC.2.2.2.2.1 y a e z.symm
  refine⟨m,hnC.sameBut sa hCa,fun h' sb=>?_⟩
  have I4:L2.Inv X ah (σ.set j (some (.ref acc))) (cj H' acc (.lst vs)) {s3 with heap:=h',toks:=s3.toks}:=I3.turned (it:=C) (fun b o hb e=>(sb.2 b hb).trans e) fC.1 fC.2.1 fC.2.2.2.1 fC.2.2.2.2.1 fC.2.2.2.2.2
  rw[ed] at h
  exact⟨_,_,I4,h _ θe _ ge' ((hd.go ge').set rde j)⟩
theorem yG {px:Pos}(hS:cM scope X.env.kindOf [x] R X.N=true)(fp:List Addr)(s:Shared)(H:Hp)(C:Addr):PG (aK X scope [x] R fp s H C) (.Name x px) (tG (aK X scope [x] R fp s H C) (ej 0)):=
 have S:=cH.of hS
 ux (X:=aK X scope [x] R fp s H C) S.nd rfl (.inl (lookup_relabel_local (S.own x (by simp)))) (.inr (lookup_relabel_local (S.own x (by simp))))
theorem yq (mk:List D→aA→bn D):aW gi gc ge mk=cA gi 1 (ej 0) gc ge mk:=by
 funext ρ M
 unfold aW cA
 simp only[wf]
theorem Eb (hS:cM scope X.env.kindOf [x] R X.N=true)(hc:X.calm=true)(hm:mk=aL∨mk=fe)(hi:PI X (.Name x px) iter (tI X gi))(hts:mh X scope [x] R ifs gc)
  (he:∀fp s H C,PE (aK X scope [x] R fp s H C) elt (tE (aK X scope [x] R fp s H C) ge))
  (hs:∀x,foldedSetIterable iter X.env x=pure x:=by intro _;rfl):PE X (.ListComp elt [⟨.Name x px,iter,ifs,0⟩] scope pos) (tE X (aW gi gc ge mk)):=by
 rw[yq]
 exact wn (xs:=[x]) hS hc hm hi (yR (Nat.zero_lt_one)) (yG hS) hts he hs
theorem xa {j:Nat}{py spos:Pos}(hS:cM scope X.env.kindOf [x] R X.N=true)(hc:X.calm=true)(hm:mk=aL∨mk=fe)(hi:PI X (.Name x px) iter (tI X gi))(hts:mh X scope [x] R ifs gc)
  (he:∀fp s H C,PE (aK X scope [x] R fp s H C) elt (tE (aK X scope [x] R fp s H C) ge))
  (hN:X.N.Nodup) (hj:X.N[j]?=some y) (hy:X.env.scope.names.lookup y=some .local)
  (hsw:swapsWith (.ListComp elt [⟨.Name x px,iter,ifs,0⟩] scope pos) (some (.Name y py)) spos.line X.env=pure true)
  (hs:∀x,foldedSetIterable iter X.env x=pure x:=by intro _;rfl):PS X (.Assign [.Name y py] (.ListComp elt [⟨.Name x px,iter,ifs,0⟩] scope pos) spos) (tS X (aI j (aW gi gc ge mk))):=by
 rw[yq]
 exact pI (xs:=[x]) hS hc hm hi (yR (Nat.zero_lt_one)) (yG hS) hts he hN hj hy hsw hs
end
def d9:List D→Option (List Bool)
 | []=>some []
 | .bl b::r=>(d9 r).map (b::·)
 | _=>none
def fh:FD:=fun ds M=>match ds with
 | [d]=>match cC d M with
  | some xs=>match d9 xs with
   | some bs=>.ok (.bl (bs.all id)) M
   | none=>.bad
  | none=>.bad
 | _=>.bad
theorem m3 {K:W.Frag}{θ:List Addr}{H:Hp}:∀{ds:List D} {vs:List V} {us:List Value} {bs:List Bool},bA K θ H ds vs→aZ vs us→d9 ds=some bs→us=bs.map Value.bool
 | [],vs,us,bs,r,q,e=>by
  have e1:vs=[]:=r
  subst e1;cases q;cases e;rfl
 | d::ds,vs,us,bs,r,q,e=>by
  obtain⟨v,rr,e1,h1,h2⟩:=r
  subst e1
  cases d with
  | bl b=>
   cases qb:d9 ds with
   | none=>simp[d9,qb] at e
   | some bs'=>
    simp[d9,qb] at e
    subst e
    have e2:v=.bl b:=h1
    subst e2
    cases q with
    | cons q1 q2=>
     cases q1
     rw[List.map_cons,m3 h2 q2 qb]
  | _=>simp[d9] at e
theorem z7 (bs:List Bool):(List.range bs.length).all (fun i=>bs.getD i false)=bs.all id:=by
 rw[Bool.eq_iff_iff]
 simp only[List.all_eq_true,List.mem_range,id]
 constructor
 ·intro h b hb
  obtain⟨i,hi,e⟩:=List.mem_iff_getElem.mp hb
  have:=h i hi
  rw[List.getD_eq_getElem?_getD,List.getElem?_eq_getElem hi] at this
  rw[←e];exact this
 ·intro h i hi
  rw[List.getD_eq_getElem?_getD,List.getElem?_eq_getElem hi]
  exact h _ (List.getElem_mem hi)
section
variable {X:Cx}
theorem pv {prog:Program}(bs:List Bool):TruthOf prog w A (fun i v=>((bs.map Value.bool).toArray)[i]?=some v) (fun i=>bs.getD i false):=fun i v s Q E hP hQ=>by
 have hP:(bs.map Value.bool)[i]?=some v:=by simpa using hP
 rw[List.getElem?_map] at hP
 cases q:bs[i]? with
 | none=>rw[q] at hP;cases hP
 | some b=>
  rw[q] at hP
  cases hP
  have e:bs.getD i false=b:=by rw[List.getD_eq_getElem?_getD,q];rfl
  dsimp only at hQ
  rw[e] at hQ
  exact wpAny_truthy_bool hQ
theorem yl {xs:List D}{bs:List Bool}(hc:X.calm=true)(I:L2.Inv X ah σ H s)(hw:Wr X.K θ H M)(rv:dq X.K θ H d v)(ru:RelV v u)(q:cC d M=some xs)(qb:d9 xs=some bs){Q:Bool→Hp→Prop}{f:(Nat→Bool)→Nat→Bool}{E:Value→Shared→Prop}
  (h:∀h' tk,L2.Inv X ah σ H {s with heap:=h',toks:=tk}→Q (f (fun i=>bs.getD i false) bs.length) H) :
  wpAny (model X.prog X.w) X.A.in1 (pyIter u) (fun it s₂=>∃I fp wr n P St tr,it=.ref I∧Walks X.prog X.w X.A.in1 I fp wr n P St∧St 0 s₂.heap∧TruthOf X.prog X.w X.A.in1 P tr∧
   ∀h' tk,(∀b o,b∉wr→s₂.heap.get? b=some o→h'.get? b=some o)→EP X ah σ (fun v H=>∃b,v=.bl b∧Q b H) (.bool (f tr n)) {s₂ with heap:=h',toks:=tk}) E s:=by
 have hh:X.A.in1.handled=none:=I.ok.hd hc
 obtain⟨a,vs,ea,sq,ra⟩:=p7 hw rv q
 subst ea;cases ru
 rcases sq with sq|sq
 ·obtain⟨its,r1,p,hz⟩:=I.list sq
  have e:=m3 ra r1 qb
  subst e
  have hlt:a<s.heap.objs.size:=by obtain⟨o,n,e,_⟩:=p;exact Heap.lt_size e
  refine wpAny_pyIter_list p.isList ⟨s.heap.objs.size,_,_,_,_,_,_,rfl,Walks.list hh s.heap.objs.size a (Nat.ne_of_lt hlt) _,⟨⟨_,Heap.get?_push_size _ rfl,rfl,rfl⟩,p.isList.push _⟩,pv bs,fun h' tk k=>?_⟩
  have I':L2.Inv X ah σ H {s with heap:=h',toks:=tk}:=I.kept fun b o e=>k b o (by have:=Heap.lt_size e;simp;exact Nat.ne_of_lt this) (Heap.get?_push_of_some _ e)
  refine⟨.bl _,H,I',rfl,_,rfl,?_⟩
  have:=h h' tk I'
  simpa using this
 ·obtain⟨its,r1,p,hz⟩:=I.tuple sq
  have e:=m3 ra r1 qb
  subst e
  have hlt:a<s.heap.objs.size:=by obtain⟨o,e,_⟩:=p;exact Heap.lt_size e
  have pt:s.heap.IsTuple a (bs.map Value.bool).toArray:=p
  refine wpAny_pyIter_tuple pt ⟨s.heap.objs.size,_,_,_,_,_,_,rfl,Walks.tuple hh s.heap.objs.size a (Nat.ne_of_lt hlt) _,⟨⟨_,Heap.get?_push_size _ rfl,rfl,rfl⟩,?_⟩,pv bs,fun h' tk k=>?_⟩
  ·obtain⟨o,e,r⟩:=p
   exact⟨o,Heap.get?_push_of_some _ e,r⟩
  have I':L2.Inv X ah σ H {s with heap:=h',toks:=tk}:=I.kept fun b o e=>k b o (by have:=Heap.lt_size e;simp;exact Nat.ne_of_lt this) (Heap.get?_push_of_some _ e)
  refine⟨.bl _,H,I',rfl,_,rfl,?_⟩
  have:=h h' tk I'
  simpa using this
theorem Hs (hc:X.calm=true):dY X (.builtin "all") (rC X fh):=by
 intro ah s σ H xs us Q I r h
 obtain⟨θ,M,ds,hw,rd,h⟩:=h
 unfold fh at h
 split at h
 ·rename_i d
  obtain⟨v,e,rv⟩:=kr rd
  subst e
  obtain⟨u,rfl,ru⟩:=ou r
  split at h
  ·rename_i ys q
   split at h
   ·rename_i bs qb
    refine cF (call_all_walk (yl hc I hw rv ru q qb (Q:=fun b H=>Q (.bl b) H) (f:=fun tr n=>(List.range n).all tr) (fun h' tk I'=>?_))) fun u' s' ⟨v',H',I',r',b,eb,q'⟩=>⟨v',H',I',r',by rw[eb];exact q'⟩
    rw[z7]
    exact h _ θ H (.refl hw) rfl
   ·exact h.elim
  ·exact h.elim
 ·exact h.elim
def Jb:D→Option String
 | .non=>some "NoneType"
 | .bl _=>some "bool"
 | .int _=>some "int"
 | .str _=>some "str"
 | .tup _=>some "tuple"
 | .lst _=>some "list"
 | .ro _=>some "list"
 | _=>none
def Dm (d:D)(M:aA):Option String:=match d with
 | .mr k=>match M[k]? with
  | some (.lst _)=>some "list"
  | _=>none
 | d=>Jb d
def wk (t T:String):Bool:=t==T||(t=="bool"&&T=="int")
def cE (T:String)(g:GE):GE:=fun ρ M=>(g ρ M).bind fun d M1=>match Dm d M1 with
 | some t=>.ok (.bl (wk t T)) M1
 | none=>.bad
def n5 (T:String):Prop:=T="int"∨T="bool"∨T="str"∨T="tuple"∨T="list"
theorem fQ (K:W.Frag)(hT:n5 T):∀t∈["NoneType","bool","int","str","tuple","list"],W.kitOne K (.type t) (.type T)=some (wk t T):=by
 intro t ht
 simp only[List.mem_cons,List.mem_nil_iff,or_false] at ht
 rcases hT with rfl|rfl|rfl|rfl|rfl <;> rcases ht with rfl|rfl|rfl|rfl|rfl|rfl <;> rfl
theorem HS (hT:n5 T):dY X (.builtin "isinstance") (fun xs H Q=>∃θ M d v,Wr X.K θ H M∧dq X.K θ H d v∧xs=[v,.ty T]∧aN X θ H Q (match Dm d M with|some t=>.ok (.bl (wk t T)) M|none=>.bad)):=by
 intro ah s σ H xs us Q I r h
 obtain⟨θ,M,d,v,hw,rv,e,h⟩:=h
 subst e
 obtain⟨u,c,rfl,ru,rc⟩:=yn r
 cases rc
 have fin:∀t tk,Dm d M=some t→EP X ah σ Q (.bool (wk t T)) {s with toks:=tk}:=fun t tk e=>by
  rw[e] at h
  exact⟨.bl _,H,I.tok _,rfl,h _ θ H (.refl hw) rfl⟩
 cases d with
 | non=>have e:v=.non:=rv;subst e;cases ru;exact W.kia_one W.kitx_none I.kIn True.intro (fQ X.K hT "NoneType" (by simp)) (fun z=>nomatch z) fun tk=>fin _ tk rfl
 | bl b=>have e:v=.bl b:=rv;subst e;cases ru;exact W.kia_one W.kitx_bool I.kIn True.intro (fQ X.K hT "bool" (by simp)) (fun z=>nomatch z) fun tk=>fin _ tk rfl
 | int i=>have e:v=.int i:=rv;subst e;obtain⟨t,rfl⟩:=ru;exact W.kia_one W.kitx_int I.kIn True.intro (fQ X.K hT "int" (by simp)) (fun z=>nomatch z) fun tk=>fin _ tk rfl
 | str i=>have e:v=.str i:=rv;subst e;obtain⟨t,rfl⟩:=ru;exact W.kia_one W.kitx_str I.kIn True.intro (fQ X.K hT "str" (by simp)) (fun z=>nomatch z) fun tk=>fin _ tk rfl
 | tup ds=>
  obtain⟨a,vs,e,ta,ra⟩:=rv;subst e;cases ru
  obtain⟨its,_,⟨o,h1,h2,_⟩,_⟩:=I.tuple ta.sq
  exact W.kia_one W.kitx_tuple I.kIn ⟨o,h1,h2⟩ (fQ X.K hT "tuple" (by simp)) (fun z=>nomatch z) fun tk=>fin _ tk rfl
 | lst ds=>
  obtain⟨a,vs,e,ta,ra⟩:=rv;subst e;cases ru
  obtain⟨its,_,⟨o,n,h1,h2,_⟩,_⟩:=I.list (ta.sq (K:=X.K))
  exact W.kia_one W.kitx_list I.kIn ⟨o,h1,h2⟩ (fQ X.K hT "list" (by simp)) (fun z=>nomatch z) fun tk=>fin _ tk rfl
 | ro ds=>
  obtain⟨a,vs,e,ta,ra⟩:=rv;subst e;cases ru
  obtain⟨its,_,⟨o,n,h1,h2,_⟩,_⟩:=I.list ta.sq
  exact W.kia_one W.kitx_list I.kIn ⟨o,h1,h2⟩ (fQ X.K hT "list" (by simp)) (fun z=>nomatch z) fun tk=>fin _ tk rfl
 | mr k=>
  obtain⟨a,e,ta⟩:=rv;subst e;cases ru
  cases qm:M[k]? with
  | none=>simp only[Dm,qm] at h;exact h.elim
  | some m=>
   cases m with
   | lst ys=>
    obtain⟨vs,hv,_⟩:=hw.at_ k a _ ta qm
    obtain⟨its,_,⟨o,n,h1,h2,_⟩,_⟩:=I.list (X:=X) (xs:=vs) (.inl (.inl hv))
    exact W.kia_one W.kitx_list I.kIn ⟨o,h1,h2⟩ (fQ X.K hT "list" (by simp)) (fun z=>nomatch z) fun tk=>fin _ tk (by simp only[Dm,qm])
   | _=>simp only[Dm,qm] at h;exact h.elim
 | exc c=>exact h.elim
 | any=>exact h.elim
theorem Hk {p p2 pos:Pos}(hT:n5 T)(hv:bootBuiltins x=some (.type T))(hg:Gl X x)(hm:X.mg x=none)(hgi:Gl X "isinstance")(hmi:X.mg "isinstance"=none)(he:PE X e (tE X g))
  (hn:x≠"__name__":=by decide) (hd:(x==("__debug__":Str))=false:=by decide) (hbi:bootBuiltins "isinstance"=some (.builtin "isinstance"):=by kernel_rfl) (hs:starEach [e,.Name x p2] X.env=(false,eval e X.env)::starEach [.Name x p2] X.env:=by rfl)
  (hs2:starEach [.Name x p2] X.env=(false,eval (.Name x p2) X.env)::starEach [] X.env:=by rfl) (hpl:(backTo pos (starEach [.Name x p2] X.env)).any (·.1)=false:=by rfl) :
  PE X (.Call (.Name "isinstance" p) [e,.Name x p2] [] pos) (tE X (cE T g)):=
 (nT (HS hT) hgi hmi hbi (fJ he (fJ (yt hg hm hv (v:=.ty T) rfl hn hd) kE hs2) hs) (by decide) (by decide) hs hpl).of fun σ H Q ⟨ρ,θ,M,hd,hw,h⟩=>by
  refine bL hd hw (aN X θ H Q) (fun c M' h=>h) (fun h=>h) h fun d M1 v θ1 H1 g1 r1 h1=>?_
  exact⟨θ1,M1,d,v,g1.wr,r1,rfl,aN.go g1 h1⟩
end
def fM:D→Bool
 | .non=>true
 | .bl _=>true
 | .int _=>true
 | .str _=>true
 | _=>false
def Dh:D→V
 | .non=>.non
 | .bl b=>.bl b
 | .int i=>.int i
 | .str x=>.str x
 | _=>.non
theorem pY (r:dq K θ H d v)(f:fM d=true):v=Dh d∧iw v=true:=by
 cases d with
 | non=>have e:v=.non:=r;subst e;exact⟨rfl,rfl⟩
 | bl b=>have e:v=.bl b:=r;subst e;exact⟨rfl,rfl⟩
 | int b=>have e:v=.int b:=r;subst e;exact⟨rfl,rfl⟩
 | str b=>have e:v=.str b:=r;subst e;exact⟨rfl,rfl⟩
 | _=>cases f
theorem nX {K:W.Frag}{θ:List Addr}{H:Hp}:∀{ds:List D} {vs:List V},bA K θ H ds vs→ds.all fM=true→vs=ds.map Dh∧vs.all iw=true
 | [],vs,r,f=>by have e:vs=[]:=r;subst e;exact⟨rfl,rfl⟩
 | d::ds,vs,r,f=>by
  obtain⟨v,rr,e,h1,h2⟩:=r
  subst e
  rw[List.all_cons,Bool.and_eq_true] at f
  obtain⟨e1,f1⟩:=pY h1 f.1
  obtain⟨e2,f2⟩:=nX h2 f.2
  exact⟨by rw[List.map_cons,←e1,←e2],by rw[List.all_cons,f1,f2];rfl⟩
theorem vc {x y:D}(fx:fM x=true)(fy:fM y=true):wM (Dh x) (Dh y)=jd x y:=by
 cases x <;> cases y <;> simp_all [fM,Dh,wM,jd]
theorem yU {x:D}:∀{ds:List D},fM x=true→ds.all fM=true→MJ (Dh x) (ds.map Dh)=ds.any fun y=>jd y x
 | [],fx,fs=>rfl
 | d::ds,fx,fs=>by
  rw[List.all_cons,Bool.and_eq_true] at fs
  have ih:=yU (x:=x) (ds:=ds) fx fs.2
  unfold MJ at ih ⊢
  rw[List.map_cons,List.any_cons,List.any_cons,ih,vc fs.1 fx]
def wA (neg:Bool):F2:=fun x y M=>match cC y M with
 | some xs=>if fM x&&xs.all fM then .ok (.bl ((xs.any fun y=>jd y x) != neg)) M else .bad
 | none=>.bad
section
variable {X:Cx}
theorem Ml:iO X (compareOp .In) (rD X (wA false)):=by
 intro ah s σ H x y v u Q I rx ry h
 obtain⟨θ,M,dx,dy,hw,r1,r2,h⟩:=h
 unfold wA at h
 split at h
 ·rename_i xs q
  split at h
  ·rename_i hc
   rw[Bool.and_eq_true] at hc
   obtain⟨a,vs,ea,sq,ra⟩:=p7 hw r2 q
   obtain⟨e1,f1⟩:=pY r1 hc.1
   obtain⟨e2,f2⟩:=nX ra hc.2
   refine ze ah s σ H x y v u Q I rx ry ⟨a,vs,ea,sq,f1,f2,?_⟩
   have:=h _ θ H (.refl hw) rfl
   rw[Bool.bne_false] at this
   rw[if_neg (by decide),e1,e2,yU hc.1 hc.2]
   exact this
  ·exact h.elim
 ·exact h.elim
end
section
variable {prog:Program}{w:World}{A:Around}{E:Value→Shared→Prop}{s:Shared}
theorem mH {α β:Type}{f:α→Option β}{g:α→β}:∀(l:List α),(∀k∈l,f k=some (g k))→l.filterMap f=l.map g
 | [],_=>rfl
 | k::l,h=>by rw[List.filterMap_cons,h k List.mem_cons_self,List.map_cons,mH l fun k' hk=>h k' (List.mem_cons_of_mem _ hk)]
theorem BU (xs:Array Value):((List.range xs.size).filterMap fun(k:Nat)=>xs[(((xs.size:Int)-1)+(k:Int)*(-1)).toNat]?).toArray=xs.toList.reverse.toArray:=by
 congr 1
 have e:∀k∈List.range xs.size,xs[(((xs.size:Int)-1)+(k:Int)*(-1)).toNat]?=some (xs.toList.reverse.getD k .none):=fun k hk=>by
  have hk:=List.mem_range.mp hk
  have e1:(((xs.size:Int)-1)+(k:Int)*(-1)).toNat=xs.size-1-k:=by omega
  rw[e1,List.getD_eq_getElem?_getD,List.getElem?_reverse (by simpa using hk)]
  simp
  rw[Array.getElem?_eq_getElem (by omega)]
  rfl
 rw[mH _ e]
 apply List.ext_getElem
 ·simp
 ·intro i h1 h2
  simp at h1 h2 ⊢
  rw[List.getElem?_eq_getElem (by simpa using h2)]
  simp
theorem nG {t sl:Addr}{tk:Tok}{Q:Value→Shared→Prop}(ht:IsTup s.heap t items)(hs:s.heap.IsSliceOf sl .none .none (.int (-1) tk))
  (h:Q (.ref s.heap.objs.size) {s with heap:=s.heap.push {cls:=.type "tuple",data:=.seq items.toList.reverse.toArray}}) (hsz:items.size≤sizeLine):wpAny (model prog w) A (getItem (.ref t) (.ref sl)) Q E s:=by
 have hrev:sizeOk (.seq items.toList.reverse.toArray):=by
  show items.toList.reverse.toArray.size≤sizeLine
  simpa using hsz
 obtain⟨os,hos,hcs,hds⟩:=id hs
 have hTs:s.TypeIs (.ref sl) "slice":=⟨os,hos,hcs⟩
 unfold getItem
 try with_reducible refine wpAny_holding ?_
 first|refine wpAny_bind (wpAny_pure ?_)|skip
 refine wpAny_bind (wpAny_sequenceKey ht.typeIs (by decide) ?_)
 refine wpAny_bind (wpAny_callSpecial?_slot (name:=Str.ofString "__getitem__") ht.typeIs PyProof.Rows.slot_tuple_getitem
  (wpAny_call_entry PyProof.Rows.slot_tuple_getitem ht.typeIs entry_tuple_getitem ?_ (args_tuple_getitem _ _)))
 show wpAny _ _ (Builtin.Tuple.tupleItemsOf (.ref t) >>= _) _ _ s
 refine wpAny_bind (tupleItemsOf_ ht ?_)
 refine wpAny_bind (wpAny_typeOf hTs ?_)
 rw[if_pos (by decide)]
 refine wpAny_bind ?_
 unfold Builtin.Slice.sliceApplied Builtin.Slice.sliceFields
 refine wpAny_bind (wpAny_bind (wpAny_field hos hds (x:=.none) rfl (wpAny_bind (wpAny_field hos hds (x:=.none) rfl (wpAny_bind (wpAny_field hos hds (x:=.int (-1) tk) rfl (wpAny_pure ?_)))))))
 refine wpAny_bind (slicePart_int ?_)
 show wpAny _ _ (if((-1:Int)==0)=true then _ else _) _ _ s
 rw[if_neg (by decide)]
 refine wpAny_bind (slicePart_none (wpAny_bind (slicePart_none (wpAny_bind (wpAny_pure ?_)))))
 have ea:Builtin.Slice.sliceAdjust none none (-1) (items.size:Int)=((items.size:Int)-1,-1):=by
  unfold Builtin.Slice.sliceAdjust;simp
 have ep:Builtin.Slice.slicePlaces ((items.size:Int)-1) (-1) (-1)=items.size:=by
  unfold Builtin.Slice.slicePlaces
  simp only[show¬((-1:Int)>0) by decide,if_false]
  by_cases hz:items.size=0
  ·rw[hz];decide
  ·rw[if_pos (by omega)]
   simp
 show wpAny _ _ (match Builtin.Slice.sliceAdjust none none (-1) (items.size:Int) with|(lo,hi)=>pure (lo,(-1:Int),Builtin.Slice.slicePlaces lo hi (-1))) _ _ s
 rw[ea]
 show wpAny _ _ (pure ((items.size:Int)-1,(-1:Int),Builtin.Slice.slicePlaces ((items.size:Int)-1) (-1) (-1))) _ _ s
 rw[ep]
 refine wpAny_pure ?_
 have hno:¬((((items.size:Int)-1)==0&&(-1:Int)==1&&items.size==items.size)=true):=by
  intro q
  rw[Bool.and_eq_true,Bool.and_eq_true] at q
  exact absurd q.1.2 (by decide)
 show wpAny _ _ (if((((items.size:Int)-1)==0&&(-1:Int)==1&&items.size==items.size))=true then _ else _) _ _ s
 rw[if_neg hno,BU]
 first
  | exact wpAny_bind (m:=Builtin.Tuple.tupleExact _) (wpAny_newObj_type (wpAny_pure ⟨_,rfl,wpAny_pure h⟩) hrev)
  | exact wpAny_bind (m:=Builtin.Tuple.tupleExact _) (wpAny_newObj_type (wpAny_bind (wpAny_pure (wpAny_pure ⟨_,rfl,wpAny_pure h⟩))) hrev)
  | exact wpAny_bind (wpAny_bind (m:=Builtin.Tuple.tupleExact _) (wpAny_newObj_type (wpAny_pure (wpAny_pure ⟨_,rfl,wpAny_pure h⟩)) hrev))
  | exact wpAny_bind (wpAny_bind (m:=Builtin.Tuple.tupleExact _) (wpAny_newObj_type (wpAny_pure ⟨_,rfl,wpAny_pure h⟩) hrev))
end
def yd (g:GE):GE:=fun ρ M=>(g ρ M).bind fun x M1=>match x with
 | .tup xs=>.ok (.tup xs.reverse) M1
 | _=>.bad
theorem nU {K:W.Frag}{θ:List Addr}{H:Hp}:∀{ds:List D} {vs:List V},bA K θ H ds vs→bA K θ H ds.reverse vs.reverse
 | [],vs,r=>by have e:vs=[]:=r;subst e;exact rfl
 | d::ds,vs,r=>by
  obtain⟨v,rr,e,h1,h2⟩:=r
  subst e
  rw[List.reverse_cons,List.reverse_cons]
  exact dn (nU h2) ⟨v,[],rfl,h1,rfl⟩
section
variable {X:Cx}
theorem HB {i j p1 p2 p3 pos}(hi:i=1)(he:PE X e (tE X g)):PE X (.Subscript e (.Slice none none (some (.UnaryOp .USub (.Constant (.int i) j p1) p2)) p3) pos) (tE X (yd g)):=by
 subst hi
 intro ah s σ H Q I h
 obtain⟨ρ,θ,M,hd,hw,h⟩:=h
 have h2:tE X g σ H (fun x H1=>∃a vs,x=.ref a∧pV X.K H1 a vs∧∀p,H1 p=none→Q (.ref p) (cj H1 p (.tup vs.reverse))):=by
  refine bL hd hw (aN X θ H Q) (fun c M' h=>h) (fun h=>h) h fun d M1 v θ1 H1 g1 r1 h1=>?_
  split at h1
  ·rename_i xs
   obtain⟨a,vs,e1,ta,ra⟩:=r1
   exact⟨a,vs,e1,ta.sq,fun p hp=>h1 _ θ1 _ (g1.trans (dR g1.wr hp)) (iI g1.wr hp (nU ra))⟩
  ·exact h1.elim
 refine Subscript_ (cF (he ah s σ H _ I h2) fun v s1 ⟨x,H1,I1,r1,a,vs,ex,sq,q1⟩=>?_)
 subst ex
 cases r1
 refine wpAny_Slice ?_
 rw[evalPart_none]
 refine wpAny_pure (wpAny_pure ?_)
 rw[evalPart_some]
 refine cF ((F7 Bh CV) ah s1 σ H1 (fun y H'=>y=.int (-1)∧H'=H1) I1 ⟨1,rfl,rfl,rfl⟩) fun vst s3 ⟨y,H3,I3,r3,ey,eH⟩=>?_
 subst ey;subst eH
 obtain⟨tk,rfl⟩:=r3
 have I4:L2.Inv X ah σ H3 {s3 with heap:=s3.heap.push {cls:=.type "slice",data:=.fields #[.none,.none,.int (-1) tk]}}:=I3.kept (t':=s3.toks) fun b ob q=>Heap.get?_push_of_some _ q
 obtain⟨its,rv,ht,hz⟩:=I4.tuple sq
 have hlen:its.toArray.size=vs.length:=by rw[List.size_toArray];exact rv.length.symm
 refine tail_any (ops:=[.ref a,.ref s3.heap.objs.size]) ht.typeIs PyProof.Rows.slot_tuple_getitem.lookup (nG ht (Heap.IsSliceOf.new ..) ?_ (by rw[hlen];exact hz)) (by with_unfolding_all rfl)
 refine⟨.ref _,_,I4.laid (t':=s3.toks) (o:=.tup vs.reverse) (fun b ob q=>Heap.get?_push_of_some _ q) (Nat.le_refl _) ?_,rfl,q1 _ (I4.hok.fresh (Nat.le_refl _))⟩
 exact⟨by rw[List.length_reverse];exact hz,_,rv.reverse,IsTup.new _ _⟩
def v4 (k:Nat)(x:D)(M:aA):bn D:=match M[k]? with
 | some (.lst xs)=>if xs.length<sizeLine then .ok .non (M.set k (.lst (xs++[x]))) else .bad
 | _=>.bad
def li (go ge:GE):GE:=fun ρ M=>(go ρ M).bind fun o M1=>match o with
 | .mr k=>match M1[k]? with
  | some (.lst _)=>(ge ρ M1).bind (v4 k)
  | _=>.bad
 | _=>.bad
theorem zu {o:Expr}{go ge:GE}{apos cpos:Pos}(ho:PE X o (tE X go))(he:PE X e (tE X ge))
  (hbase:attributeBase o "append" X.env (eval o X.env)=eval o X.env:=by rfl)
  (hfew:((backTo cpos (starEach [e] X.env)).all (fun x=>!x.1)&&(backToKw cpos (keywordEach [] X.env)).all (fun x=>x.1.isSome)
   && decide ([e].length+([]:List Keyword).length+(if([]:List Keyword).isEmpty then 0 else 1)<30))=true:=by rfl)
  (hline:(apos.endLine==cpos.line)=true:=by rfl) (hs:starEach [e] X.env=(false,eval e X.env)::starEach [] X.env:=by rfl) (hplain:(backTo cpos (starEach [] X.env)).any (·.1)=false:=by rfl) :
  PE X (.Call (.Attribute o "append" apos) [e] [] cpos) (tE X (li go ge)):=
 (BB PySem.F.plainAttrs_list PySem.F.slot_list_append PySem.F.type_list_append Ak ho (fJ he kE hs) hbase hfew hline hs hplain).of fun σ H Q ⟨ρ,θ,M,hd,hw,h⟩=>by
  refine bL hd hw (aN X θ H Q) (fun c M' h=>h) (fun h=>h) h fun d M1 v θ1 H1 g1 r1 h1=>?_
  have h2:=aN.go g1 h1
  cases d with
  | mr k=>
   have h2:aN X θ1 H1 Q (match M1[k]? with|some (.lst _)=>(ge ρ M1).bind (v4 k)|_=>.bad):=h2
   cases qm1:M1[k]? with
   | none=>rw[qm1] at h2;exact h2.elim
   | some m1=>
    cases m1 with
    | obj _ _=>rw[qm1] at h2;exact h2.elim
    | dK _=>rw[qm1] at h2;exact h2.elim
    | dT _=>rw[qm1] at h2;exact h2.elim
    | lst ys1=>
     rw[qm1] at h2
     obtain⟨a1,ea1,ta1⟩:=id r1
     obtain⟨vs1,hv1,_⟩:=g1.wr.at_ k a1 _ ta1 qm1
     refine⟨by rw[ea1];exact .inl ⟨rfl,vs1,.inl (.inl hv1)⟩,?_⟩
     refine bL (hd.go g1) g1.wr (aN X θ1 H1 Q) (fun c M' h=>h) (fun h=>h) h2 fun dx M2 vx θ2 H2 g2 r2 h3=>?_
     have h3:aN X θ1 H1 Q (match M2[k]? with|some (.lst xs)=>if xs.length<sizeLine then .ok .non (M2.set k (.lst (xs++[dx]))) else .bad|_=>.bad):=h3
     obtain⟨a,ea,ta⟩:=r1.go g2
     cases qm:M2[k]? with
     | none=>rw[qm] at h3;exact h3.elim
     | some m=>
      cases m with
      | obj _ _=>rw[qm] at h3;exact h3.elim
      | dK _=>rw[qm] at h3;exact h3.elim
      | dT _=>rw[qm] at h3;exact h3.elim
      | lst ys=>
       rw[qm] at h3
       obtain⟨vs,hv,ra⟩:=g2.wr.at_ k a _ ta qm
       have h3:aN X θ1 H1 Q (if ys.length<sizeLine then .ok .non (M2.set k (.lst (ys++[dx]))) else .bad):=h3
       split at h3
       ·rename_i hl
        have gs:=xt (ds:=ys) g2.wr ta (dn ra (show bA X.K θ2 H2 [dx] [vx] from⟨vx,[],rfl,r2,rfl⟩))
        exact⟨a,vs,vx,ea,rfl,hv,by rw[←av ra];exact hl,h3 _ θ2 _ (g2.trans gs) rfl⟩
       ·exact h3.elim
  | _=>exact h2.elim
end
def bv (f:D→Option D):List D→Option (List D)
 | []=>some []
 | d::ds=>match f d,bv f ds with
  | some x,some xs=>some (x::xs)
  | _,_=>none
def frz (n:Nat)(M:aA):Nat→D→Option D
 | 0,_=>none
 | f+1,d=>match d with
  | .mr k=>if k<n then some (.mr k) else match M[k]? with
   | some (.lst xs)=>(bv (frz n M f) xs).map .lst
   | _=>none
  | .tup xs=>(bv (frz n M f) xs).map .tup
  | .lst xs=>(bv (frz n M f) xs).map .lst
  | .ro xs=>(bv (frz n M f) xs).map .ro
  | d=>some d
def wb (f:D→Option D):List (Str×D)→Option (List (Str×D))
 | []=>some []
 | (x,d)::r=>match f d,wb f r with
  | some e,some r'=>some ((x,e)::r')
  | _,_=>none
def sk {κ:Type}(f:D→Option D):List (κ×D)→Option (List (κ×D))
 | []=>some []
 | (x,d)::r=>match f d,sk f r with
  | some e,some r'=>some ((x,e)::r')
  | _,_=>none
def fT (n:Nat)(M:aA):List MO→Option (List MO)
 | []=>some []
 | .lst xs::r=>match bv (frz n M 30) xs,fT n M r with
  | some ys,some r'=>some (.lst ys::r')
  | _,_=>none
 | .obj c fs::r=>match wb (frz n M 30) fs,fT n M r with
  | some gs,some r'=>some (.obj c gs::r')
  | _,_=>none
 | .dK fs::r=>match sk (frz n M 30) fs,fT n M r with
  | some gs,some r'=>some (.dK gs::r')
  | _,_=>none
 | .dT fs::r=>match sk (frz n M 30) fs,fT n M r with
  | some gs,some r'=>some (.dT gs::r')
  | _,_=>none
def iQ (n:Nat)(o:bn D):bn D:=match o with
 | .ok d M=>if M.length=n then .ok d M else match frz n M 30 d,fT n M (M.take n) with
  | some d',some M'=>.ok d' M'
  | _,_=>.bad
 | .err c M=>if M.length=n then .err c M else match fT n M (M.take n) with
  | some M'=>.err c M'
  | none=>.bad
 | .bad=>.bad
section
variable {K:W.Frag}{θ more:List Addr}{H:Hp}{M:aA}{n:Nat}
theorem iL {f:D→Option D}{θ':List Addr}:∀{ds es:List D} {vs:List V},bv f ds=some es→bA K θ' H ds vs→(∀d∈ds,∀e v,f d=some e→dq K θ' H d v→dq K θ H e v)→bA K θ H es vs
 | [],es,vs,h,r,k=>by cases h;exact r
 | d::ds,es,vs,h,r,k=>by
  obtain⟨v,rr,e,h1,h2⟩:=r
  unfold bv at h
  cases q1:f d with
  | none=>rw[q1] at h;cases h
  | some x=>
   cases q2:bv f ds with
   | none=>rw[q1,q2] at h;cases h
   | some xs=>
    rw[q1,q2] at h
    cases h
    exact⟨v,rr,e,k d List.mem_cons_self x v q1 h1,iL q2 h2 fun d' hd=>k d' (List.mem_cons_of_mem _ hd)⟩
theorem oF (hw:Wr K (θ++more) H M)(hn:θ.length=n):∀(f:Nat) (d e:D) (v:V),frz n M f d=some e→dq K (θ++more) H d v→dq K θ H e v
 | 0,d,e,v,h,r=>by cases h
 | f+1,d,e,v,h,r=>by
  have ih:=oF hw hn f
  have sub:∀{a:Addr},a∉θ++more→a∉θ:=fun {a} z y=>z (List.mem_append_left _ y)
  cases d with
  | mr k=>
   obtain⟨a,ea,ta⟩:=r
   by_cases hk:k<n
   ·have h:(if k<n then some (D.mr k) else _)=some e:=h
    rw[if_pos hk] at h
    cases h
    exact⟨a,ea,by rw[List.getElem?_append_left (by rw[hn];exact hk)] at ta;exact ta⟩
   ·have h:(if k<n then some (D.mr k) else match M[k]? with|some (.lst xs)=>(bv (frz n M f) xs).map .lst|_=>none)=some e:=h
    rw[if_neg hk] at h
    cases qm:M[k]? with
    | none=>rw[qm] at h;cases h
    | some m=>
     cases m with
     | lst xs=>
      rw[qm] at h
      have h:(bv (frz n M f) xs).map D.lst=some e:=h
      obtain⟨vs,hv,ra⟩:=hw.at_ k a _ ta qm
      cases qo:bv (frz n M f) xs with
      | none=>rw[qo] at h;cases h
      | some ys=>
       rw[qo] at h
       cases h
       refine⟨a,vs,ea,⟨hv,fun z=>?_⟩,iL qo ra fun d _ e v=>ih d e v⟩
       rw[List.getElem?_append_right (by omega)] at ta
       have hm:=List.mem_of_getElem? ta
       exact(List.nodup_append.mp hw.nd).2.2 a z a hm rfl
     | _=>rw[qm] at h;cases h
  | tup xs=>
   have h:(bv (frz n M f) xs).map D.tup=some e:=h
   cases qo:bv (frz n M f) xs with
   | none=>rw[qo] at h;cases h
   | some ys=>
    rw[qo] at h;cases h
    obtain⟨a,vs,ea,ta,ra⟩:=r
    exact⟨a,vs,ea,⟨ta.1,sub ta.2⟩,iL qo ra fun d _ e v=>ih d e v⟩
  | lst xs=>
   have h:(bv (frz n M f) xs).map D.lst=some e:=h
   cases qo:bv (frz n M f) xs with
   | none=>rw[qo] at h;cases h
   | some ys=>
    rw[qo] at h;cases h
    obtain⟨a,vs,ea,ta,ra⟩:=r
    exact⟨a,vs,ea,⟨ta.1,sub ta.2⟩,iL qo ra fun d _ e v=>ih d e v⟩
  | ro xs=>
   have h:(bv (frz n M f) xs).map D.ro=some e:=h
   cases qo:bv (frz n M f) xs with
   | none=>rw[qo] at h;cases h
   | some ys=>
    rw[qo] at h;cases h
    obtain⟨a,vs,ea,ta,ra⟩:=r
    refine⟨a,vs,ea,?_,iL qo ra fun d _ e v=>ih d e v⟩
    rcases ta with⟨t1,t2⟩|t
    ·exact .inl ⟨t1,sub t2⟩
    ·exact .inr t
  | non=>cases h;exact r
  | bl b=>cases h;exact r
  | int b=>cases h;exact r
  | str b=>cases h;exact r
  | exc c=>
   cases h
   obtain⟨a,C,ea,kc,t1,t2⟩:=r
   exact⟨a,C,ea,kc,t1,sub t2⟩
  | any=>cases h;exact r
theorem yE {f:D→Option D}{θ':List Addr}:∀{fs gs:List (Str×D)} {vs:List (Str×V)},wb f fs=some gs→nO K θ' H fs vs→(∀d e v,f d=some e→dq K θ' H d v→dq K θ H e v)→nO K θ H gs vs
 | [],gs,vs,h,r,k=>by cases h;exact r
 | (x,d)::fs,gs,vs,h,r,k=>by
  obtain⟨v,rr,e,h1,h2⟩:=r
  unfold wb at h
  cases q1:f d with
  | none=>rw[q1] at h;cases h
  | some y=>
   cases q2:wb f fs with
   | none=>rw[q1,q2] at h;cases h
   | some ys=>
    rw[q1,q2] at h
    cases h
    exact⟨v,rr,e,k d y v q1 h1,yE q2 h2 k⟩
theorem tX {κ:Type}{f:D→Option D}{θ':List Addr}:∀{fs gs:List (κ×D)} {vs:List (κ×V)},sk f fs=some gs→rA K θ' H fs vs→(∀d e v,f d=some e→dq K θ' H d v→dq K θ H e v)→rA K θ H gs vs
 | [],gs,vs,h,r,k=>by cases h;exact r
 | (x,d)::fs,gs,vs,h,r,k=>by
  obtain⟨v,rr,e,h1,h2⟩:=r
  unfold sk at h
  cases q1:f d with
  | none=>rw[q1] at h;cases h
  | some y=>
   cases q2:sk f fs with
   | none=>rw[q1,q2] at h;cases h
   | some ys=>
    rw[q1,q2] at h
    cases h
    exact⟨v,rr,e,k d y v q1 h1,tX q2 h2 k⟩
theorem nE (hw:Wr K (θ++more) H M)(hn:θ.length=n):∀(l l':List MO),fT n M l=some l'→l'.length=l.length∧∀(i:Nat) m m' a,l[i]?=some m→l'[i]?=some m'→rP K (θ++more) H m a→rP K θ H m' a
 | [],l',h=>by cases h;exact⟨rfl,fun i m m' a e=>by simp at e⟩
 | .lst xs::r,l',h=>by
  unfold fT at h
  cases q1:bv (frz n M 30) xs with
  | none=>rw[q1] at h;cases h
  | some ys=>
   cases q2:fT n M r with
   | none=>rw[q1,q2] at h;cases h
   | some r'=>
    rw[q1,q2] at h
    cases h
    obtain⟨hl,hr⟩:=nE hw hn r r' q2
    refine⟨by rw[List.length_cons,List.length_cons,hl],fun i m m' a e1 e2 ok=>?_⟩
    cases i with
    | zero=>
     have e1:some (MO.lst xs)=some m:=e1
     have e2:some (MO.lst ys)=some m':=e2
     cases e1;cases e2
     obtain⟨vs,hv,ra⟩:=ok
     exact⟨vs,hv,iL q1 ra fun d _ e v=>oF hw hn 30 d e v⟩
    | succ i=>exact hr i m m' a e1 e2 ok
 | .obj c fs::r,l',h=>by
  unfold fT at h
  cases q1:wb (frz n M 30) fs with
  | none=>rw[q1] at h;cases h
  | some gs=>
   cases q2:fT n M r with
   | none=>rw[q1,q2] at h;cases h
   | some r'=>
    rw[q1,q2] at h
    cases h
    obtain⟨hl,hr⟩:=nE hw hn r r' q2
    refine⟨by rw[List.length_cons,List.length_cons,hl],fun i m m' a e1 e2 ok=>?_⟩
    cases i with
    | zero=>
     have e1:some (MO.obj c fs)=some m:=e1
     have e2:some (MO.obj c gs)=some m':=e2
     cases e1;cases e2
     obtain⟨C,dx,vs,kC,hv,ra⟩:=ok
     exact⟨C,dx,vs,kC,hv,yE q1 ra fun d e v=>oF hw hn 30 d e v⟩
    | succ i=>exact hr i m m' a e1 e2 ok
 | .dK fs::r,l',h=>by
  unfold fT at h
  cases q1:sk (frz n M 30) fs with
  | none=>rw[q1] at h;cases h
  | some gs=>
   cases q2:fT n M r with
   | none=>rw[q1,q2] at h;cases h
   | some r'=>
    rw[q1,q2] at h
    cases h
    obtain⟨hl,hr⟩:=nE hw hn r r' q2
    refine⟨by rw[List.length_cons,List.length_cons,hl],fun i m m' a e1 e2 ok=>?_⟩
    cases i with
    | zero=>
     have e1:some (MO.dK fs)=some m:=e1
     have e2:some (MO.dK gs)=some m':=e2
     cases e1;cases e2
     obtain⟨vs,hv,ra⟩:=ok
     exact⟨vs,hv,tX q1 ra fun d e v=>oF hw hn 30 d e v⟩
    | succ i=>exact hr i m m' a e1 e2 ok
 | .dT fs::r,l',h=>by
  unfold fT at h
  cases q1:sk (frz n M 30) fs with
  | none=>rw[q1] at h;cases h
  | some gs=>
   cases q2:fT n M r with
   | none=>rw[q1,q2] at h;cases h
   | some r'=>
    rw[q1,q2] at h
    cases h
    obtain⟨hl,hr⟩:=nE hw hn r r' q2
    refine⟨by rw[List.length_cons,List.length_cons,hl],fun i m m' a e1 e2 ok=>?_⟩
    cases i with
    | zero=>
     have e1:some (MO.dT fs)=some m:=e1
     have e2:some (MO.dT gs)=some m':=e2
     cases e1;cases e2
     obtain⟨vs,hv,ra⟩:=ok
     exact⟨vs,hv,tX q1 ra fun d e v=>oF hw hn 30 d e v⟩
    | succ i=>exact hr i m m' a e1 e2 ok
theorem BY {θ0:List Addr}{H0:Hp}{θ':List Addr}{H':Hp}{M' M2:aA}{n:Nat}(hn:θ0.length=n)(g:Go K θ0 H0 θ' H' M')(h:fT n M' (M'.take n)=some M2):Go K θ0 H0 θ0 H' M2:=by
 obtain⟨m,em,hm⟩:=g.ext
 have hw:=g.wr
 rw[em] at hw
 obtain⟨hl,hr⟩:=nE hw hn _ _ h
 have hlen:n≤M'.length:=by rw[←g.wr.len,em,List.length_append];omega
 refine⟨⟨⟨[],by simp,fun _ z=>by cases z⟩,g.keep,g.tkeep⟩,by rw[hl,List.length_take];omega,(List.nodup_append.mp hw.nd).1,fun i a mo e1 e2=>?_,g.wr.tb⟩
 have hi:i<n:=by rw[←hn];exact(List.getElem?_eq_some_iff.mp e1).1
 have hiM:i<M'.length:=by omega
 refine hr i M'[i] mo a (by rw[List.getElem?_take_of_lt hi];exact List.getElem?_eq_getElem hiM) e2 (hw.at_ i a _ ?_ (List.getElem?_eq_getElem hiM))
 rw[List.getElem?_append_left (by rw[hn];exact hi)]
 exact e1
end
theorem Jm {k:Nat}{CX:Ad}(h:dN P w K mg base CX k f fd ps (ng K n F)) :
  dN P w K mg base CX k f fd ps (ng K n fun ds M=>iQ M.length (F ds M)):=h.imp fun vs H Q E ⟨θ,M,ds,hl,r,hw,q⟩=>by
 refine⟨θ,M,ds,hl,r,hw,?_⟩
 have q:xX K θ H Q E (iQ M.length (F ds M)):=q
 cases e:F ds M with
 | bad=>rw[e] at q;exact q
 | err c M1=>
  rw[e] at q
  have q:xX K θ H Q E (if M1.length=M.length then .err c M1 else match fT M.length M1 (M1.take M.length) with|some M'=>.err c M'|none=>.bad):=q
  split at q
  ·exact q
  ·split at q
   ·rename_i M2 e2
    exact fun C θ' H' a kC g=>q C θ H' a kC (BY hw.len g e2)
   ·exact q.elim
 | ok d M1=>
  rw[e] at q
  have q:xX K θ H Q E (if M1.length=M.length then .ok d M1 else match frz M.length M1 30 d,fT M.length M1 (M1.take M.length) with|some d',some M'=>.ok d' M'|_,_=>.bad):=q
  split at q
  ·exact q
  ·split at q
   ·rename_i d' M2 e1 e2
    intro v θ' H' g rd
    refine q v θ H' (BY hw.len g e2) ?_
    obtain⟨m,em,_⟩:=g.ext
    have hw':=g.wr
    rw[em] at hw' rd
    exact oF hw' hw.len 30 d d' v e1 rd
   ·exact q.elim
structure Fn (K:W.Frag)(mg:Str→Option Value)(x:Str)(st:Stmt)(f:Addr)(fd:FuncData)(ps:List Str):Prop where
 F:FA K x x st f fd
 m:mg x=some (.ref f)
 b:fg K fd ps []
section
variable {X:Cx}
theorem vv (i:Nat){pos:Pos}(hN:X.N[i]?=some x:=by rfl)(hv:Kf X.env.scope x:=by first|exact Or.inl rfl|exact Or.inr (Or.inl rfl)|exact Or.inr (Or.inr rfl))(hd:(x==("__debug__":Str))=false:=by decide)
  (hcd:(x==("__classdict__":Str))=false:=by decide):PE X (.Name x pos) (tE X (ae i)):=GH (IJ hN hv hd hcd)
theorem ss (i:Nat){pos pos':Pos}(hN:X.N.Nodup)(he:PE X e (tE X g))(hi:X.N[i]?=some x:=by rfl)(hx:Dn X.env.scope x:=by first|exact Or.inl rfl|exact Or.inr rfl)
  (hs:swapsWith e (some (.Name x pos')) pos.line X.env=pure false:=by rfl) (hf:X.fn x=true∨X.env.scope.names.lookup x=some .local:=by first|exact .inl rfl|exact .inr rfl) :
  PS X (.Assign [.Name x pos'] e pos) (tS X (aI i g)):=IW hN hi hx he hs hf
theorem gg (i:Nat){pos:Pos}(hN:X.N.Nodup)(hi:X.N[i]?=some x:=by rfl)(hx:Dn X.env.scope x:=by first|exact Or.inl rfl|exact Or.inr rfl)(hf:X.fn x=true∨X.env.scope.names.lookup x=some .local:=by first|exact .inl rfl|exact .inr rfl):PG X (.Name x pos) (tG X (ej i)):=ux hN hi hx hf
end
theorem Ib {ns:List Int}(tb:mL K H)(hS:mE K H a (ns.map V.int))(h:∃M',F [.ro (ns.map D.int)] []=.ok (.bl true) M'):ng K 1 F [.ref a] H (fun v _=>v=.bl true) E:=by
 obtain⟨M',e⟩:=h
 refine⟨[],[],[.ro (ns.map D.int)],rfl,⟨_,[],rfl,⟨a,ns.map V.int,rfl,?_,?_⟩,rfl⟩,⟨rfl,List.nodup_nil,fun i a m e=>by simp at e,tb⟩,?_⟩
 ·rcases hS with h|h
  ·exact .inl ⟨h,by simp⟩
  ·exact .inr h
 ·clear e
  induction ns with
  | nil=>exact rfl
  | cons n ns ih=>
   refine⟨.int n,ns.map V.int,rfl,rfl,?_⟩
   have gen:∀l:List Int,bA K [] H (l.map D.int) (l.map V.int):=by
    intro l
    induction l with
    | nil=>exact rfl
    | cons m l ih=>exact⟨_,_,rfl,rfl,ih⟩
   exact gen ns
 ·rw[e]
  exact fun v θ' H' g r=>r
def dZ (t:GT)(b:GS):Nat→cr→aA→bn Fl
 | 0,_,_=>.bad
 | n+1,ρ,M=>(t ρ M).bind fun c M1=>if c then(b ρ M1).bind fun f M2=>match f with
   | .nx ρ2=>dZ t b n ρ2 M2
   | .ct ρ2=>dZ t b n ρ2 M2
   | .bk ρ2=>.ok (.nx ρ2) M2
   | .rt d=>.ok (.rt d) M2
  else .ok (.nx ρ) M1
def o0 (n:Nat)(t:GT)(b:GS):GS:=dZ t b n
theorem Cf {X:Cx}{tc:GT}{gb:GS}(hp:PassesOwn (model X.prog X.w) X.A X.env X.xe)(hc:PT X c (tT X tc))(hb:PSs X body (tS X gb)):PS X (.While c body [] pos) (tS X (o0 n tc gb)):=
 (BL hp hc hb).of fun D σ H ⟨ρ,θ,M,hd,hw,h⟩=>by
  refine⟨fun m σ' H'=>∃ρ' θ' M',jP X.K θ' H' σ' ρ'∧Wr X.K θ' H' M'∧cS X θ' H' D (dZ tc gb m ρ' M'),⟨n,ρ,θ,M,hd,hw,h⟩,?_⟩
  rintro m σ' H' ⟨ρ',θ',M',hd',hw',h'⟩
  cases m with
  | zero=>exact h'.elim
  | succ m=>
   have h':cS X θ' H' D ((tc ρ' M').bind _):=h'
   refine sY hd' hw' (cS X θ' H' D) (fun c M' h=>h) (fun h=>h) h' fun c M1 θ1 H1 g1 h1=>?_
   cases c with
   | false=>
    rw[if_neg Bool.false_ne_true]
    exact h1 σ' θ1 H1 g1 (hd'.go g1)
   | true=>
    rw[if_pos rfl]
    refine⟨fun σ2 H2=>∃ρ2 θ2 M2,jP X.K θ2 H2 σ2 ρ2∧Wr X.K θ2 H2 M2∧cS X θ2 H2 D (dZ tc gb m ρ2 M2),fun σ2 H2 q=>⟨m,Nat.lt_succ_self _,q⟩,ρ',θ1,M1,hd'.go g1,g1.wr,?_⟩
    have h2:=cS.go g1 h1
    have h2:cS X θ1 H1 D ((gb ρ' M1).bind _):=h2
    cases q:gb ρ' M1 with
    | bad=>rw[q] at h2;exact h2
    | err c M2=>rw[q] at h2;exact h2
    | ok f M2=>
     rw[q] at h2
     cases f with
     | nx ρ2=>exact fun σ2 θ2 H2 g2 d2=>⟨ρ2,θ2,M2,d2,g2.wr,cS.go g2 h2⟩
     | ct ρ2=>exact fun σ2 θ2 H2 g2 d2=>⟨ρ2,θ2,M2,d2,g2.wr,cS.go g2 h2⟩
     | bk ρ2=>exact h2
     | rt d=>exact h2
theorem HP {k:Nat}{CX:Ad}(hn:ps.length=n):dN P w K mg base CX k f fd ps (ng K n fun _ _=>.bad):=
 ⟨n8 hn,fun _ _ _ _ _ _ _ _ _ _ _ _ _ ⟨_,_,_,_,_,_,h⟩=>h.elim⟩
def aY:Expr→Bool
 | .Starred _ _=>false
 | _=>true
def cR (es:List Expr):Bool:=es.all aY
theorem sE {env:Env}(h:aY e=true):starEach (e::es) env=(false,eval e env)::starEach es env:=by
 cases e <;> first|rfl|(simp[aY] at h)
theorem sS {pos:Pos}{env:Env}:∀{es:List Expr},cR es=true→(backTo pos (starEach es env)).any (·.1)=false
 | [],_=>rfl
 | e::es,h=>by
  unfold cR at h
  rw[List.all_cons,Bool.and_eq_true] at h
  have ih:=sS (pos:=pos) (env:=env) (es:=es) h.2
  rw[sE h.1]
  unfold backTo at ih ⊢
  rw[List.map_cons,List.any_cons,ih]
  rfl
section
variable {X:Cx}{e:Expr}{es:List Expr}{x:Str}{p pos:Pos}{k n:Nat}{f:Addr}{fd:FuncData}{ps:List Str}{F:FD}{ga:GA}{g:GE}{tg:Expr}
theorem MZ {gr:GA}(ha:PE X e (tE X g))(hr:PA X es (tA X gr))(h:aY e=true:=by rfl):PA X (e::es) (tA X (aa g gr)):=Ex ha hr (sE h)
theorem Lz (Fn:dN X.prog X.w X.K X.mg X.base (ik X.prog X.w) k f fd ps (ng X.K n F))(hr:bI k X.A)(hg:Gl X x)(hm:X.mg x=some (.ref f))(hk:W.keepIn X.K (.ref f)=true)(hb:fg X.K fd ps [])
  (ha:PA X (e::es) (tA X ga)) (hdb:(x==("__debug__":Str))=false:=by decide) (h1:aY e=true:=by rfl) (h2:cR es=true:=by rfl) :
  PE X (.Call (.Name x p) (e::es) [] pos) (tE X (aj n F ga)):=FK Fn hr hg hm hk hb ha hdb (sE h1) (sS h2)
theorem LQ {id:String}(hc:dY X (.builtin id) (rC X F))(hg:Gl X x)(hm:X.mg x=none)(hv:bootBuiltins x=some (.builtin id))(ha:PA X (e::es) (tA X ga))(hn:x≠"__name__":=by decide)(hdb:(x==("__debug__":Str))=false:=by decide)
  (h1:aY e=true:=by rfl) (h2:cR es=true:=by rfl):PE X (.Call (.Name x p) (e::es) [] pos) (tE X (aC F ga)):=AO hc hg hm hv ha hn hdb (sE h1) (sS h2)
theorem K2 (hc:dY X (.type T) (rC X F))(hg:Gl X x)(hm:X.mg x=none)(hv:bootBuiltins x=some (.type T))(ha:PA X (e::es) (tA X ga))(hn:x≠"__name__":=by decide)(hdb:(x==("__debug__":Str))=false:=by decide)
  (h1:aY e=true:=by rfl) (h2:cR es=true:=by rfl):PE X (.Call (.Name x p) (e::es) [] pos) (tE X (aC F ga)):=Am hc hg hm hv ha hn hdb (sE h1) (sS h2)
theorem LM {p2:Pos}(hT:n5 T)(hv:bootBuiltins x=some (.type T))(hg:Gl X x)(hm:X.mg x=none)(hgi:Gl X "isinstance")(hmi:X.mg "isinstance"=none)(he:PE X e (tE X g))
  (h1:aY e=true:=by rfl) (hn:x≠"__name__":=by decide) (hd:(x==("__debug__":Str))=false:=by decide):PE X (.Call (.Name "isinstance" p) [e,.Name x p2] [] pos) (tE X (cE T g)):=
 Hk hT hv hg hm hgi hmi he hn hd boot_isinstance (sE h1) (sE rfl) (sS rfl)
theorem Lq {a:Expr}(hg:Gl X "range")(hm:X.mg "range"=none)(ha:PA X [a] (tA X ga))(h1:aY a=true:=by rfl):PI X tg (.Call (.Name "range" p) [a] [] pos) (tI X (gH ga)):=Aj hg hm ha (sE h1)
end
end DL
namespace DL
open PySem L2
theorem kq {j:Int}(h:-(2 ^ 62)≤j∧j<2 ^ 62)(M:aA):Bn [.int j] M=.ok ⟨bD 0 j.toNat,none⟩ M:=by
 unfold Bn;exact if_pos h
variable{n:Nat}
theorem Ca (h:n≤1000000)(M:aA):Bn [.int (n:Int)] M=.ok ⟨bD 0 n,none⟩ M:=by
 have:=kq (j:=(n:Int)) (by omega) M
 rw[this];rfl
variable{ds:List D}
theorem oN {M:aA}:vf.ok ⟨ds,none⟩ M=true:=rfl
theorem jV {ds0:List D}{ge:GE}{ρ:cr}{P:aA→Prop}{Q:D→Prop}:∀(ds:List D),(∀d∈ds,∀M,P M→∃e M',P M'∧Q e∧ge (some d::ρ) M=.ok e M')→∀M,P M→
  ∃es M',P M'∧es.length=ds.length∧(∀e∈es,Q e)∧iq ⟨ds0,none⟩ bU ge ds ρ M=.ok es M'
 | [],h,M,hM=>⟨[],M,hM,rfl,(fun e he=>by cases he),rfl⟩
 | d::ds,h,M,hM=>by
  obtain⟨e,M1,h1,q1,e1⟩:=h d List.mem_cons_self M hM
  obtain⟨es,M2,h2,l2,q2,e2⟩:=jV (ds0:=ds0) ds (fun d' hd=>h d' (List.mem_cons_of_mem _ hd)) M1 h1
  refine⟨e::es,M2,h2,by simp[l2],fun x hx=>?_,?_⟩
  ·rcases List.mem_cons.mp hx with z|z
   ·subst z;exact q1
   ·exact q2 x z
  ·simp[iq,oN,bU,e1,e2]
theorem kh {ds0:List D}{ge:GE}{ρ:cr}{f:D→D}{M:aA}:∀(ds:List D),(∀d∈ds,ge (some d::ρ) M=.ok (f d) M)→iq ⟨ds0,none⟩ bU ge ds ρ M=.ok (ds.map f) M
 | [],h=>rfl
 | d::ds,h=>by
  have e1:=h d List.mem_cons_self
  have e2:=kh (ds0:=ds0) ds fun d' hd=>h d' (List.mem_cons_of_mem _ hd)
  simp[iq,oN,bU,e1,e2]
theorem uO {ds0:List D}{s:GG}{body:GS}{W:cr→aA→Prop}:∀(ds:List D),(∀d∈ds,∀ρ M,W ρ M→∃ρ1 ρ2 M2,s d ρ=some ρ1∧body ρ1 M=.ok (.nx ρ2) M2∧W ρ2 M2)→∀ρ M,W ρ M→
  ∃ρ' M',W ρ' M'∧gJ ⟨ds0,none⟩ s body ds ρ M=.ok (.nx ρ') M'
 | [],h,ρ,M,hW=>⟨ρ,M,hW,rfl⟩
 | d::ds,h,ρ,M,hW=>by
  obtain⟨ρ1,ρ2,M2,e1,e2,h2⟩:=h d List.mem_cons_self ρ M hW
  obtain⟨ρ',M',h3,e3⟩:=uO (ds0:=ds0) ds (fun d' hd=>h d' (List.mem_cons_of_mem _ hd)) ρ2 M2 h2
  exact⟨ρ',M',h3,by simp[gJ,oN,e1,e2,e3]⟩
theorem mW {d:D}{lo:Int}(h:d∈bD lo n):∃k:Int,d=.int k∧lo≤k∧k<lo+n:=by
 unfold bD at h
 obtain⟨k,hk,e⟩:=List.mem_map.mp h
 have:=List.mem_range.mp hk
 exact⟨lo+k,e.symm,by omega,by omega⟩
theorem cu (lo:Int)(n:Nat):(bD lo n).length=n:=by simp[bD]
theorem Du {Q:Int→Prop}(h:∀d∈ds,∃k,d=.int k∧Q k):∃ks:List Int,ds=ks.map D.int∧∀k∈ks,Q k:=by
 induction ds with
 | nil=>exact⟨[],rfl,fun k hk=>by cases hk⟩
 | cons d ds ih=>
  obtain⟨k,e,q⟩:=h d List.mem_cons_self
  obtain⟨ks,e2,q2⟩:=ih fun d' hd=>h d' (List.mem_cons_of_mem _ hd)
  refine⟨k::ks,by rw[e,e2];rfl,fun x hx=>?_⟩
  rcases List.mem_cons.mp hx with z|z
  ·subst z;exact q
  ·exact q2 x z
theorem EJ {Q:List Int→Prop}(h:∀d∈ds,∃ks:List Int,d=.tup (ks.map D.int)∧Q ks):∃rs:List (List Int),ds=rs.map (fun r=>D.tup (r.map D.int))∧∀r∈rs,Q r:=by
 induction ds with
 | nil=>exact⟨[],rfl,fun k hk=>by cases hk⟩
 | cons d ds ih=>
  obtain⟨k,e,q⟩:=h d List.mem_cons_self
  obtain⟨ks,e2,q2⟩:=ih fun d' hd=>h d' (List.mem_cons_of_mem _ hd)
  refine⟨k::ks,by rw[e,e2];rfl,fun x hx=>?_⟩
  rcases List.mem_cons.mp hx with z|z
  ·subst z;exact q
  ·exact q2 x z
theorem aM (h:n≤1000000):n≤sizeLine:=Nat.le_trans h (by rw[sizeLine_eq];decide)
theorem pE (n:Nat):∀ks:List Int,cq n (ks.map D.int)=true
 | []=>by cases n <;> simp[cq]
 | k::ks=>by
  have ih:=pE n ks
  simp only[List.map_cons,cq,ih,Bool.and_true]
  cases n <;> simp[aF]
end DL
namespace DL
@[simp] theorem Nt (i j:Int):jd (.int i) (.int j)=(i==j):=by simp[jd]
@[simp] theorem Nu (i j:Bool):jd (.bl i) (.bl j)=(i==j):=by simp[jd]
@[simp] theorem Nb (i j:PySem.Str):jd (.str i) (.str j)=(i==j):=by simp[jd]
@[simp] theorem NM:jd .non .non=true:=by simp[jd]
@[simp] theorem NT (i:Int):jd (.int i) .non=false:=by simp[jd]
@[simp] theorem Ng (i:Int):jd .non (.int i)=false:=by simp[jd]
@[simp] theorem Nq (xs ys:List D):jd (.tup xs) (.tup ys)=jI xs ys:=by simp[jd]
@[simp] theorem Nd (xs ys:List D):jd (.lst xs) (.lst ys)=jI xs ys:=by simp[jd]
@[simp] theorem LC:jI [] []=true:=by simp[jI]
@[simp] theorem MC (y:D) (ys:List D):jI [] (y::ys)=false:=by simp[jI]
@[simp] theorem MD (y:D) (ys:List D):jI (y::ys) []=false:=by simp[jI]
@[simp] theorem ML (x y:D) (xs ys:List D):jI (x::xs) (y::ys)=(jd x y&&jI xs ys):=by simp[jI]
@[simp] theorem JL (n:Nat) (i:Int):aF n (.int i)=true:=by cases n <;> simp[aF]
@[simp] theorem Ms (n:Nat) (i:Bool):aF n (.bl i)=true:=by cases n <;> simp[aF]
@[simp] theorem JI (n:Nat):aF n .non=true:=by cases n <;> simp[aF]
@[simp] theorem JH (n:Nat) (x:PySem.Str):aF n (.str x)=PySem.PyData.strOk x:=by cases n <;> simp[aF]
@[simp] theorem zg (n:Nat) (xs:List D):aF (n+1) (.tup xs)=cq n xs:=by simp[aF]
@[simp] theorem Ar (n:Nat) (xs:List D):aF (n+1) (.lst xs)=cq n xs:=by simp[aF]
@[simp] theorem FR (xs:List D):aF 40 (.tup xs)=cq 39 xs:=zg 39 xs
@[simp] theorem F8 (xs:List D):aF 40 (.lst xs)=cq 39 xs:=Ar 39 xs
@[simp] theorem HX (n:Nat):cq n []=true:=by cases n <;> simp[cq]
@[simp] theorem F3 (n:Nat) (x:D) (xs:List D):cq n (x::xs)=(aF n x&&cq n xs):=by cases n <;> simp[cq]
@[simp] theorem MI (i:Int) (M:aA):now (.int i) M=.int i:=rfl
@[simp] theorem NW (i:Bool) (M:aA):now (.bl i) M=.bl i:=rfl
@[simp] theorem MH (M:aA):now .non M=.non:=rfl
@[simp] theorem MG (x:PySem.Str) (M:aA):now (.str x) M=.str x:=rfl
@[simp] theorem ME (xs:List D) (M:aA):now (.tup xs) M=.tup xs:=rfl
@[simp] theorem MK (xs:List D) (M:aA):now (.lst xs) M=.lst xs:=rfl
end DL
namespace DL
open PySem PySem.Spec PyProof.Rows L2 PySem.W PySem.Builtin PySem.Builtin.ObjectAttr PySem.Builtin.Getset_descriptor
structure mU (K:Frag)(C:Addr):Prop where
 cl:(clsIn K C).isSome=true
 ca:findIn K (.ref C) "__class__"=some (some (.builtin "object.__class__"))
 sp:specialIn K (.builtin "object.__class__") "__get__"=some (some (.builtin "getset_descriptor.__get__"))
 tk:takesIn K (.builtin "object.__class__")=some true
 ob:mroIn K C (.type "object")=some true
 ga:findIn K (.ref C) "__getattribute__"=some (some (.builtin "BaseException.__getattribute__"))
 gh:findIn K (.ref C) "__getattr__"=some none
 be:mroIn K C (.type "BaseException")=some true
def DH (a C:Addr)(h:Heap):Prop:=∃o,h.get? a=some o∧o.cls=.ref C
section
variable {prog:Program}{w:World}{A:Around}{E:Value→Shared→Prop}{K:Frag}{a C:Addr}{h:Heap}{g:Array GenState}{d:Drawn}{t:Nat}{os:OsState}
theorem DH.type {M:Model}(I:DH a C h):Looks M h (typeOf (.ref a)) (.ref C):=by
 obtain⟨o,e,c⟩:=I
 exact c▸(Looks.ld e).andThen .now
theorem ER {R:Result→Shared→Prop}{tp:Value}(X:K.In h)(I:DH a C h)(k:mU K C)(hq:R (.ok (.ret (.ref C))) ⟨h,g,d,t,os⟩) :
  codeAny (model prog w) A (.call (.builtin "getset_descriptor.__get__") ⟨[.builtin "object.__class__",.ref a,tp],[]⟩) R ⟨h,g,d,t,os⟩:=by
 have L0:=I.type (M:=model prog w)
 have L1:=looks_mroIn (M:=model prog w) X k.ob
 have go:=KF.slot_gs.check (model prog w) A.in1
 refine codeAny_call_builtin KF.slot_gs.plain KF.entry_gs ?_
 refine go _ _ _ _ _ _ KF.type_class (KF.args_gs _ _ _) ?_
 unfold Builtin.«getset_descriptor.__get__» descrGet
 rw[dga_obj]
 refine wpAny_bind (wpAny_pure ?_)
 unfold descrGetter descrCheckInstance descrNameAndClass isInstance
 simp only[KF.owner_class]
 repeat lk
 refine⟨Code.quiet_builtin _ (by decide +kernel),codeAny_builtin KF.entry_class ?_⟩
 unfold Builtin.«object.__class__» shownTypeOf
 repeat lk
 exact hq
theorem BD (X:K.In h)(I:DH a C h)(k:mU K C):Looks (model prog w) h (Builtin.ObjectAttr.find (.ref a) (.ref C) "__class__") (.bind (.builtin "getset_descriptor.__get__") (.builtin "object.__class__")):=by
 have L1:=looks_findIn (M:=model prog w) X k.ca
 have L2:Looks (model prog w) h (Builtin.ObjectAttr.getOf (some (.builtin "object.__class__"))) (some (.builtin "getset_descriptor.__get__")):=looks_specialIn X k.sp
 unfold Builtin.ObjectAttr.find
 refine L1.andThen (L2.andThen ?_)
 have L3:=looks_takesIn (M:=model prog w) X k.tk
 have L4:Looks (model prog w) h (Builtin.ObjectAttr.dataDescriptor? (some (.builtin "object.__class__")) (some (.builtin "getset_descriptor.__get__"))) (some (.builtin "getset_descriptor.__get__",.builtin "object.__class__")):=L3.andThen .now
 exact L4.andThen (Looks.tag .now)
theorem zo {tk:Tok}{Q:PySem.Fin→Shared→Prop}(X:K.In h)(I:DH a C h)(k:mU K C)(hq:Q (.done (.ret (.ref C))) ⟨h,g,d,t,os⟩) :
  wpAny (model prog w) A (Builtin.«object.__getattribute__» ⟨[.ref a,.str "__class__" tk],[]⟩) Q E ⟨h,g,d,t,os⟩:=by
 unfold Builtin.«object.__getattribute__»
 refine wpAny_bind (wpAny_pure ?_)
 refine wpAny_bind (wpAny_pure ?_)
 refine wpAny_bind (I.type.at ?_)
 refine wpAny_bind ((BD X I k).at ?_)
 show wpAny (model prog w) A (Builtin.ObjectAttr.bindTo _ _ _ _) Q E _
 unfold Builtin.ObjectAttr.bindTo
 refine wpAny_bind (wpAny_holding (wpAny_call (ER X I k ?_)))
 exact wpAny_pure hq
theorem Hm {tk:Tok}{Q:Value→Shared→Prop}(X:K.In h)(I:DH a C h)(k:mU K C)(hq:Q (.ref C) ⟨h,g,d,t,os⟩):wpAny (model prog w) A (getAttrBy (.ref a) (.str "__class__" tk) false) Q E ⟨h,g,d,t,os⟩:=by
 have L0:=I.type (M:=model prog w)
 have L1:=looks_findIn (M:=model prog w) X k.ga
 have L2:=looks_findIn (M:=model prog w) X k.gh
 have hkind:builtinKind "BaseException.__getattribute__"=some .slot:=by decide +kernel
 have hcut:splitId "BaseException.__getattribute__"=some ("BaseException","__getattribute__"):=by decide +kernel
 have hargs:=F.args_bexc_ga (.ref a) (.str "__class__" tk)
 have LB:=looks_mroIn (M:=model prog w) X k.be
 have chk:∀{A':Around} {E':Value→Shared→Prop} {Q':Unit→Shared→Prop},Q' () ⟨h,g,d,t,os⟩→wpAny (model prog w) A' (checkBuiltinCall "BaseException.__getattribute__" ⟨[.ref a,.str "__class__" tk],[]⟩) Q' E' ⟨h,g,d,t,os⟩:=fun hq'=>by
  simp only[checkBuiltinCall,hkind,hcut]
  refine wpAny_bind ?_
  unfold isInstance
  refine wpAny_bind (L0.at (LB.at ?_))
  repeat (first|wp_step)
  exact hq'
 have f3:=PySem.F.attr_ValueError.ga.bind (.ref a)
 unfold getAttrBy
 refine wpAny_holding (wpAny_bind (L0.at (wpAny_bind (L1.at ?_))))
 show wpAny _ _ (getAttrByItsOwn _ _ _ _ _ _) _ _ _
 unfold getAttrByItsOwn hookBefore
 refine wpAny_bind ?_
 rw[if_pos (show onTheHeap (Value.ref C)=true from rfl)]
 refine L2.at ?_
 refine wpAny_bind (wpAny_attempt (wpAny_holding ?_))
 unfold callGetattribute
 rw[if_neg (by simp)]
 unfold boundAndCalled
 rw[f3]
 refine wpAny_bind (wpAny_pure ?_)
 refine wpAny_call (codeAny_call_builtin PySem.F.attr_ValueError.ga.plain F.entry_bexc_ga (chk (zo X I k ?_)))
 exact wpAny_pure hq
theorem Be {Q:Option Value→Shared→Prop}(X:K.In h)(I:DH a C h)(k:mU K C)(hq:Q (some (.ref C)) ⟨h,g,d,t+1,os⟩):wpAny (model prog w) A (getAttr? (.ref a) "__class__") Q E ⟨h,g,d,t,os⟩:=by
 unfold getAttr? getAttrBy?
 refine wpAny_bind (wpAny_mkText ?_)
 refine wpAny_bind (wpAny_attempt (Hm X I k ?_))
 exact wpAny_pure hq
theorem CF (k:mU K C):KitX K (.ref a) (.ref C) (DH a C) where
 ty:=fun M h _ I=>I.type
 it:=fun M h X I=>by
  have hc:=k.cl
  obtain⟨cd,hc⟩:=Option.isSome_iff_exists.mp hc
  unfold clsIn at hc
  split at hc
  ·rename_i ho
   intro A' Q' E' s' k' q
   unfold isType loadHead
   exact wpAny_bind (wpAny_loadPart (k' _ _ (X _ _ ho)) (wpAny_pure q))
  ·cases hc
 ne:=fun h tp dd its n sl X htp=>by
  refine Bool.eq_false_iff.mpr fun q=>?_
  obtain⟨cd,hc⟩:=Option.isSome_iff_exists.mp k.cl
  have e:C=tp:=Value.ref.inj (beq_iff_eq.mp q)
  subst e
  unfold clsIn at hc
  split at hc
  ·rename_i ho
   have z:=(X _ _ ho).symm.trans htp
   cases z
  ·cases hc
 ca:=fun {prog w A E Q s} X I hq=>by
  obtain⟨h,g,d,t,os⟩:=s
  exact Be X I k hq
end
end DL
namespace DL
open PySem PySem.Spec PyProof.Rows L2
abbrev J1:List Value:=[.type "ValueError",.type "Exception",.type "BaseException",.type "object"]
structure Ec (K:W.Frag)(mg:Str→Option Value)(c:Str)(C:Addr):Prop where
 at_:dm K c C
 m:mg c=some (.ref C)
 k:mU K C
 ex:W.excIn K C J1 "ValueError.__new__"=true
 ty:W.typeIn K (.ref C)=some (.type "type")
 sf:W.mroIn K C (.ref C)=some true
variable{K:W.Frag}{C:Addr}
theorem Hl {h:Heap}{bmB:List Value}{newId:String}(X:K.In h)(q:W.excIn K C bmB newId=true) :
  ∃bm N nm qn bs hdct sn sub ab col dd k0 k1 k2 k3 k5 mN,h.get? C=some (excClassObj nm qn C N bs bm hdct sn sub ab col dd k0 k1 k2 k3 k5 newId)∧h.Ns N mN∧mN "__init__"=none∧OwnTail h bmB bm:=by
 unfold W.excIn at q
 split at q
 ·rename_i d1 cd s1 at1
  split at q
  ·rename_i C2 rest j0 j1 j2 j3 nn j5 e1 e2
   simp only[Bool.and_eq_true,beq_iff_eq,Bool.not_eq_true'] at q
   obtain⟨⟨⟨⟨⟨r1,r2⟩,r3⟩,r4⟩,r5⟩,r6⟩:=q
   subst r1;subst r2
   cases cd with
   | mk c1 c2 c3 c4 c5 c6 c7 c8 c9 c10 c11=>
    dsimp only at e1 r3 r5 r6
    subst e1;subst r3
    have e3:s1=#[j0,j1,j2,j3,some (.builtin nn),j5]:=by
     cases s1 with
     | mk l=>
      have e4:l=_:=e2
      rw[e4]
    subst e3
    refine⟨rest,c4,c1,c5,c2,c6,c7,c8,c9,c10,d1,j0,j1,j2,j3,j5,h.nsMap c4,X _ _ at1,?_,W.nsMap_none_of_in X r5 r6,W.tail_of_in X r4⟩
    exact Heap.Ns.of_isNs (W.isNs_of_in X r5)
  ·cases q
 ·cases q
def gO (c:Str)(g:GE):GS:=fun ρ M=>(g ρ M).bind fun _ M1=>.err c M1
theorem CG {X:Cx}{c:Str}{e:Expr}{g:GE}{np cpos pos:Pos}(k:Ec X.K X.mg c C)(hc:X.calm=true)(hg:Gl X c)(he:PE X e (tE X g))(h1:aY e=true:=by rfl)(hd:(c==("__debug__":Str))=false:=by decide) :
  PS X (.Raise (some (.Call (.Name c np) [e] [] cpos)) none pos) (tS X (gO c g)):=by
 intro ah s σ H D I h
 obtain⟨ρ,θ,M,hdn,hw,h⟩:=h
 obtain⟨bm,N,nm,qn,bs,hdct,sn,sub,ab,col,dd,k0,k1,k2,k3,k5,mN,hC,hN,hni,T⟩:=Hl I.ok.mod.kin k.ex
 have hs:starEach [e] X.env=(false,eval e X.env)::starEach [] X.env:=sE h1
 have hplain:(backTo cpos (starEach [e] X.env)).any (·.1)=false:=sS (by unfold cR;simp[h1])
 refine wpAny_Raise_call_subT (C:=C) (nm:=nm) (q:=qn) (N:=N) (bs:=bs) (bm:=bm) (hdct:=hdct) (sn:=sn) (sub:=sub) (ab:=ab) (col:=col) (dd:=dd) (k0:=k0) (k1:=k1) (k2:=k2) (k3:=k3) (k5:=k5)
  PySem.F.excBase_ValueError (mN:=mN) (T.hasType PySem.F.excBase_ValueError.hasBase) (I.ok.hd hc) hplain hni (nV I hg k.m ⟨rfl,?_⟩ hd)
 have hv:=fJ he kE hs cpos ah s σ H (fun vs H1=>vs.length=1∧∃θ1 M1,Go X.K θ H θ1 H1 M1∧ft X θ1 H1 c M1) I (by
  refine bL hdn hw (cS X θ H D) (fun c M' h=>h) (fun h=>h) h fun d M1 v θ1 H1 g1 r1 h2=>?_
  exact⟨rfl,θ1,M1,g1,ft.go g1 h2⟩)
 rw[hs] at hv ⊢
 refine Calls.evalArgs_plain (wpAny_mono hv (fun us s2 hq=>⟨rfl,?_⟩) fun _ _ y=>y)
 obtain⟨vs,H1,I1,rv,hl,θ1,M1,g1,ok⟩:=hq
 refine⟨by show us.length≤sizeLine;rw[←rv.length,hl];exact Nat.le_trans (by decide:1≤1000000) (by rw[sizeLine_eq];decide),I1.bk _ _ hC,hN.keeps I1.bk,T.keeps I1.bk,fun h' e' hm=>?_⟩
 exact ok C θ1 H1 e' _ k.at_ (.refl g1.wr) ⟨ah,σ,.inl ⟨s2.heap,us,I1,hm⟩⟩
variable{b:Bool}
section
variable {M:Model}{A:Around}{E:Value→Shared→Prop}{K:W.Frag}{a C G:Addr}{h:Heap}{g:Array GenState}{d:Drawn}{t:Nat}{os:OsState}
theorem uL (X:K.In h)(k:(W.clsIn K G).isSome=true):W.Looks M h (isType (.ref G)) true:=by
 obtain⟨cd,hc⟩:=Option.isSome_iff_exists.mp k
 unfold W.clsIn at hc
 split at hc
 ·rename_i ho
  intro A' Q' E' s' k' q
  unfold isType loadHead
  exact wpAny_bind (wpAny_loadPart (k' _ _ (X _ _ ho)) (wpAny_pure q))
 ·cases hc
theorem vH {Q:Bool→Shared→Prop}(X:K.In h)(I:DH a C h)(kG:mU K G)(tG:W.typeIn K (.ref G)=some (.type "type"))(hm:W.mroIn K C (.ref G)=some b)
  (hq:Q b ⟨h,g,d,t,os⟩):wpAny M A (excMatches (.ref a) (.ref G)) Q E ⟨h,g,d,t,os⟩:=by
 have L0:W.Looks M h (typeOf (.ref a)) (.ref C):=I.type
 have L1:=W.looks_typeIn (M:=M) X tG
 have L2:W.Looks M h (isSubtype (.type "type") (.type "tuple")) false:=W.Looks.of_pure tc_notTuple
 have L3:=W.looks_mroIn (M:=M) X kG.be
 have L4:=W.looks_mroIn (M:=M) X hm
 have L5:W.Looks M h (isInstance (.ref G) (.type "tuple")) false:=L1.andThen L2
 have L6:W.Looks M h (isType (.ref G)) true:=uL X kG.cl
 unfold excMatches
 refine wpAny_bind (L5.at ?_)
 simp only[Bool.false_eq_true,if_false]
 refine wpAny_bind (wpAny_pure ?_)
 simp only[List.forIn_cons,List.forIn_nil]
 unfold isExcClass
 refine wpAny_bind (wpAny_bind (wpAny_bind (wpAny_bind (L6.at ?_))))
 simp only[if_true]
 refine L3.at ?_
 simp only[Bool.not_true,Bool.false_eq_true,if_false]
 refine wpAny_pure ?_
 refine wpAny_pure ?_
 refine wpAny_bind (L0.at ?_)
 refine wpAny_bind (wpAny_bind (wpAny_bind (L4.at ?_)))
 cases b with
 | true=>
  simp only[if_true]
  exact wpAny_pure (wpAny_pure (wpAny_pure hq))
 | false=>
  simp only[Bool.false_eq_true,if_false]
  exact wpAny_pure (wpAny_pure (wpAny_pure hq))
end
variable{A:Around}{Q:Unit→Shared→Prop}
section
variable {X:Cx}{ah:List (Addr×Obj)}{σ:L2.St}{H:Hp}{s:Shared}{B:Heap}{a C:Addr}{a0:Value}
theorem zy (I:L2.Inv X ah σ H s)(gE:Jn X ah H B)(fl:Heap.FlyingW B X.stack a (.ref C) a0 s.heap)(hn:H a=none):L2.Inv X ah σ (cj H a (Dv a C)) s:=by
 obtain⟨oe,vs,he,hcl,hd,_⟩:=fl.first
 have hBa:B.get? a=none:=fl.2.1
 have nfld:∀b o,s.heap.get? b=some o→(∀ws,o.data≠.fields ws)→b≠a:=fun b o e n z=>by
  subst z
  rw[he] at e;cases e
  exact n vs hd
 have nB:∀b o,B.get? b=some o→b≠a:=fun b o e z=>by rw[z,hBa] at e;cases e
 have nloc:X.env.locals≠a:=by
  obtain⟨m,⟨o,es,ep,ho,hdat,_⟩,_⟩:=I.loc
  exact nfld _ o ho fun ws q=>by rw[hdat] at q;cases q
 have nold:∀b o,X.s₀.heap.get? b=some o→b∉X.ex→b≠a:=fun b o e nx=>by
  by_cases hf:b∈X.fs
  ·obtain⟨_,ob,e2,nf⟩:=I.funs.mem hf
   exact nfld b ob e2 nf
  ·obtain⟨o',e'⟩:=gE.old b o e nx (p5 I e hf)
   exact nB b o' e'
 refine⟨I.ok,I.os,I.bare,⟨I.base.keep,I.base.slot,fun b o e n nx=>?_,I.base.there,fun b xs e=>?_,fun b o u e=>?_,fun b ps e=>?_⟩,I.loc,I.cell,?_,fun x c e=>?_,fun p hp=>?_,fun b o e=>?_,I.len⟩
 ·rw[az (nold b o e nx)];exact I.base.free b o e n nx
 ·have q:=I.base.tups b xs e
  rw[az (fun z=>by rw[z,hn] at q;cases q)];exact q
 ·have q:=I.base.frzs b o u e
  rw[az (fun z=>by rw[z,hn] at q;cases q)];exact q
 ·obtain⟨m,q⟩:=I.base.tbls b ps e
  exact⟨m,by rw[az (fun z=>by rw[z,hn] at q;cases q)];exact q⟩
 ·rw[az nloc];exact I.free
 ·obtain⟨v,o,ho,hdat⟩:=I.cell x c e
  rw[az (nfld c o ho fun ws q=>by rw[hdat] at q;cases q)]
  exact I.freeC x c e
 ·obtain⟨e,n,ne,nf,d⟩:=I.pin p hp
  obtain⟨o',e'⟩:=gE.pin p hp
  exact⟨e,by rw[az (nB _ _ e')];exact n,ne,nf,d⟩
 ·by_cases hb:b=a
  ·subst hb
   rw[bE] at e;cases e
   exact⟨⟨oe,he,hcl⟩,⟨oe,he⟩,fun h1 h2 ⟨o,e1,e2⟩ k=>⟨o,k o e1,e2⟩⟩
  ·rw[az hb] at e
   exact(I.hok b o e).stay (fun _ _ _ q=>q) (fun c q=>by rw[az (fun z=>by rw[z,hn] at q;cases q)];exact q) fun c xs q=>by rw[az (fun z=>by rw[z,hn] at q;cases q)];exact q
theorem l8 {M:Model}{E:Value→Shared→Prop}{i:Nat}{n:Str}{pos:Pos}(I:L2.Inv X ah σ H s)(hN:X.N.Nodup)(hi:X.N[i]?=some n)(hl:X.env.kindOf n=some .local)
  (h:∀s',L2.Inv X ah (σ.set i none) H s'→Q () s'):wpAny M A (do bindName X.env n .none;unbindBehindTheSuite X.env n pos) Q E s:=by
 obtain⟨m,hn,lk⟩:=I.loc
 have hcls:(X.env.scope.kind==.class||(X.env.scope.kind==.module&&X.env.locals != X.env.globals))=false:=by rw[I.ok.kind];rfl
 have hiσ:i<σ.length:=by rw[I.len];exact(List.getElem?_eq_some_iff.mp hi).1
 refine wpAny_nameGoes_keeps hl hn hcls fun h' v hn' hs=>h _ ?_
 have old:∀b o,X.s₀.heap.get? b=some o→b≠X.env.locals:=fun b o e=>Nat.ne_of_lt (Nat.lt_of_lt_of_le (Heap.lt_size e) I.ok.above)
 refine⟨I.ok,I.os,I.bare,⟨fun b o e n hb hx=>(hs.2 b (old b o e)).trans (I.base.keep b o e n hb hx),fun b o e n hb hx=>?_,I.base.free,fun b o e hx=>?_,I.base.tups,I.base.frzs,I.base.tbls⟩,⟨_,hn',fun j y v' e1 e2 e3=>?_⟩,fun y c e=>?_,I.free,I.freeC,fun p hp=>?_,fun b o e=>?_,?_⟩
 ·obtain⟨sl,e1⟩:=I.base.slot b o e n hb hx
  exact⟨sl,(hs.2 b (old b o e)).trans e1⟩
 ·obtain⟨o',e1⟩:=I.base.there b o e hx
  exact⟨o',(hs.2 b (old b o e)).trans e1⟩
 ·by_cases hj:j=i
  ·subst hj
   rw[List.getElem?_set_self hiσ] at e2
   cases e2
  ·rw[List.getElem?_set_ne (Ne.symm hj)] at e2
   obtain⟨u',r',q⟩:=lk j y v' e1 e2 e3
   refine⟨u',r',?_⟩
   rcases q with⟨k,e⟩|⟨k,c,e,z⟩
   ·have ny:y≠n:=fun e=>hj (qI hN e1 (e▸hi))
    exact .inl ⟨k,by show(if y=n then v else m y)=some u';rw[if_neg ny];exact e⟩
   ·exact .inr ⟨k,c,e,z.sameBut hs (I.cne y c e)⟩
 ·obtain⟨w',z⟩:=I.cell y c e
  exact⟨w',z.sameBut hs (I.cne y c e)⟩
 ·obtain⟨e,n,ne,nf,d⟩:=I.pin p hp
  exact⟨(hs.2 p.1 ne).trans e,n,ne,nf,d⟩
 ·refine(I.hok b o e).stay (fun c w' hc q=>(hs.2 c ?_).trans q) (fun _ q=>q) fun _ _ q=>q
  rintro z
  have hf:=I.free
  rw[←z] at hf
  rcases hc with hc|hc
  ·rw[←hc,hf] at e;cases e
  ·rw[hf] at hc;cases hc
 ·rw[List.length_set];exact I.len
theorem yb {M:Model}{E:Value→Shared→Prop}{env:Env}{outer:List Env}{L:Addr}{base h:Heap}{vs:List Value}
  (hfr:A.frames=some (env::outer)) (hf:env.frame=some L) (hkb:base.StaysIn h) (hl:h.FunFrames base (env::outer)) (m:Heap.MadeExcOf h s.heap a (.ref C) vs)
  (hQ:∀h' t,Heap.HeldW base (env::outer) a (.ref C) (.ref t) L h'→s.heap.UpToSlots h'→Q () {s with heap:=h'}):wpAny M A (noteFrame (.ref a) env) Q E s:=by
 obtain⟨t,he,htn,ht⟩:=m.there
 have fresh:base.get? a=none:=by
  cases hq:base.get? a with
  | none=>rfl
  | some o'=>have z:=hkb a o' hq;rw[m.new] at z;cases z
 unfold noteFrame
 simp only[hf]
 refine wpAny_bind (wpAny_field he rfl (x:=.none) rfl ?_)
 rw[if_neg (by decide)]
 refine wpAny_entryW (a0:=.ref t) hfr (hl.of_keeps fun b o hb _=>⟨o,m.keeps b o hb,rfl⟩) hf he (fun b o hb=>m.keeps b o (hkb b o hb)) fresh rfl (by show 1<6;decide) rfl fun h' hN=>?_
 obtain⟨x1,x2,x3,x4⟩:=hN
 exact hQ h' t ⟨x1,fresh,x2,x3⟩ x4
end
def Aa (i:Nat):Fl→Fl
 | .nx ρ=>.nx (ρ.set i none)
 | .bk ρ=>.bk (ρ.set i none)
 | .ct ρ=>.ct (ρ.set i none)
 | .rt d=>.rt d
def n6 (i:Nat)(ok:Str→Bool)(gb gh:GS):GS:=fun ρ M=>match gb ρ M with
 | .err c M1=>if ok c then match gh ((List.replicate ρ.length none).set i (some (.exc c))) M1 with
   | .ok f M2=>.ok (Aa i f) M2
   | _=>.bad
  else .bad
 | o=>o
abbrev qU (X:Cx)(pn:List (Addr×Obj))(E:Value→Shared→Prop):Cx:={X with pn:=pn,xe:=E}
abbrev mK (X:Cx)(pn:List (Addr×Obj))(a:Addr):Cx:={X with A:=X.A.mark (some (.ref a)),calm:=false,pn:=pn,xe:=fun _ _=>False}
section
variable {X:Cx}{ah pins' pn:List (Addr×Obj)}{σ:L2.St}{H:Hp}{s:Shared}{E:Value→Shared→Prop}{a:Addr}
theorem G3 (k:X.Ok):(qU X pn E).Ok:=⟨k.mod,k.kind,k.glob,k.blt,k.above,k.inj,k.has,k.cab,k.hd,k.frames,k.stk,k.exf,k.bs,k.bsz,k.noex,k.exfs,k.funs,k.frf⟩
theorem DI (k:X.Ok):(mK X pn a).Ok:=⟨k.mod,k.kind,k.glob,k.blt,k.above,k.inj,k.has,k.cab,(fun z=>by cases z),k.frames,k.stk,k.exf,k.bs,k.bsz,k.noex,k.exfs,k.funs,k.frf⟩
theorem v8 (k:(qU X pn E).Ok):X.Ok:=⟨k.mod,k.kind,k.glob,k.blt,k.above,k.inj,k.has,k.cab,k.hd,k.frames,k.stk,k.exf,k.bs,k.bsz,k.noex,k.exfs,k.funs,k.frf⟩
theorem D8 (I:L2.Inv X ah σ H s):L2.Inv (qU X (X.pn++ah) E) [] σ H s:=⟨G3 I.ok,I.os,I.bare,I.base,I.loc,I.cell,I.free,I.freeC,fun p hp=>I.pin p (by simpa using hp),I.hok,I.len⟩
theorem mq (I:L2.Inv (qU X (X.pn++ah) E) pins' σ H s):L2.Inv X ah σ H s:=⟨v8 I.ok,I.os,I.bare,I.base,I.loc,I.cell,I.free,I.freeC,fun p hp=>I.pin p (List.mem_append_left _ hp),I.hok,I.len⟩
theorem Aw (I:L2.Inv (qU X pn E) pins' σ H s):L2.Inv (mK X pn a) pins' σ H s:=⟨DI (v8 I.ok),I.os,I.bare,I.base,I.loc,I.cell,I.free,I.freeC,I.pin,I.hok,I.len⟩
theorem kQ (k:X.Ok)(I:L2.Inv (mK X (X.pn++ah) a) pins' σ H s):L2.Inv X ah σ H s:=⟨k,I.os,I.bare,I.base,I.loc,I.cell,I.free,I.freeC,fun p hp=>I.pin p (List.mem_append_left _ hp),I.hok,I.len⟩
end
variable{θ:List Addr}{H:Hp}{σ:L2.St}
theorem jP.clear {ρ:cr}(h:jP K θ H σ ρ)(i:Nat):jP K θ H (σ.set i none) (ρ.set i none):=by
 refine⟨by rw[List.length_set,List.length_set];exact h.len,fun j d e=>?_⟩
 by_cases hj:j=i
 ·subst hj
  have hl:j<ρ.length:=by have:=(List.getElem?_eq_some_iff.mp e).1;rw[List.length_set] at this;exact this
  rw[List.getElem?_set_self hl] at e
  cases e
 ·rw[List.getElem?_set_ne (Ne.symm hj)] at e
  obtain⟨u,e1,r1⟩:=h.at_ j d e
  exact⟨u,by rw[List.getElem?_set_ne (Ne.symm hj)];exact e1,r1⟩
theorem AR {n i:Nat}{d:D}{v:V}(hl:σ.length=n)(r:dq K θ H d v):jP K θ H (σ.set i (some v)) ((List.replicate n none).set i (some d)):=by
 refine⟨by rw[List.length_set,List.length_set,List.length_replicate,hl],fun j d' e=>?_⟩
 by_cases hj:j=i
 ·subst hj
  have hlt:j<n:=by have:=(List.getElem?_eq_some_iff.mp e).1;rw[List.length_set,List.length_replicate] at this;exact this
  rw[List.getElem?_set_self (by rw[List.length_replicate];exact hlt)] at e
  have e':d=d':=by simpa using e
  subst e'
  exact⟨v,List.getElem?_set_self (by rw[hl];exact hlt),r⟩
 ·rw[List.getElem?_set_ne (Ne.symm hj),List.getElem?_replicate] at e
  split at e <;> cases e
theorem IG {X:Cx}{G n:Str}{Ga:Addr}{i:Nat}{ok:Str→Bool}{gb gh:GS}{body suite:List Stmt}{b0:Stmt}{np hpos pos:Pos}(kG:Ec X.K X.mg G Ga)(hok:∀c C,ok c=true→dm X.K c C→W.mroIn X.K C (.ref Ga)=some true)
  (hg:Gl X G) (hst:X.stack=X.env::X.outer) (hf:X.env.frame=some X.env.locals) (hN:X.N.Nodup) (hi:X.N[i]?=some n) (hl:X.env.kindOf n=some .local) (hfn:X.fn n=true∨X.env.scope.names.lookup n=some .local)
  (hb:∀pn E,PSs (qU X pn E) body (tS (qU X pn E) gb)) (hh:∀pn a,PSs (mK X pn a) (b0::suite) (tS (mK X pn a) gh)) (hd:(G==("__debug__":Str))=false:=by decide) :
  PS X (.Try body [.ExceptHandler (some (.Name G np)) (some n) (b0::suite) hpos] [] [] pos) (tS X (n6 i ok gb gh)):=by
 intro ah s σ H D I h
 obtain⟨ρ,θ,M,hdn,hw,h⟩:=h
 have fin:∀(f:Flow) (s1:Shared) (E:Value→Shared→Prop),SP (qU X (X.pn++ah) E) [] D f s1→SP X ah D f s1:=fun f s1 E q=>by
  cases f with
  | next=>obtain⟨σ',H',I',q⟩:=q;exact⟨σ',H',mq I',q⟩
  | brk=>obtain⟨σ',H',I',q⟩:=q;exact⟨σ',H',mq I',q⟩
  | cont=>obtain⟨σ',H',I',q⟩:=q;exact⟨σ',H',mq I',q⟩
  | ret u=>obtain⟨v,σ',H',I',r,q⟩:=q;exact⟨v,σ',H',mq I',r,q⟩
 refine wpAny_Try_except ?_
 refine wpAny_mono (hb (X.pn++ah) (fun e s₁=>wpAny (model X.prog X.w) X.A (noteFrame e X.env) (fun _ s₂=>wpAny (model X.prog X.w) X.A (setFlight e none) (fun _ s₃=>wpAny (model X.prog X.w) X.A (handleBy e X.env [.ExceptHandler (some (.Name G np)) (some n) (b0::suite) hpos]) (SP X ah D) X.xe s₃) X.xe s₂) X.xe s₁) [] s σ H D (D8 I) ⟨ρ,θ,M,hdn,hw,?_⟩) (fun f s1 q=>?_) fun _ _ y=>y
 ·unfold n6 at h
  cases q:gb ρ M with
  | ok f M1=>rw[q] at h;cases f <;> exact h
  | bad=>rw[q] at h;exact h
  | err c M1=>
   rw[q] at h
   have h:cS X θ H D (if ok c=true then(match gh ((List.replicate ρ.length none).set i (some (.exc c))) M1 with | .ok f M2=>.ok (Aa i f) M2|_=>.bad) else .bad):=h
   by_cases hc:ok c=true
   ·rw[if_pos hc] at h
    intro C θ1 H1 a s1 kC g1 fl
    obtain⟨pins',σ',fl⟩:=fl
    have land:∀(B:Heap) (a0:Value) (s5:Shared),L2.Inv (qU X (X.pn++ah) (fun e s₁=>wpAny (model X.prog X.w) X.A (noteFrame e X.env) (fun _ s₂=>wpAny (model X.prog X.w) X.A (setFlight e none) (fun _ s₃=>wpAny (model X.prog X.w) X.A (handleBy e X.env [.ExceptHandler (some (.Name G np)) (some n) (b0::suite) hpos]) (SP X ah D) X.xe s₃) X.xe s₂) X.xe s₁)) pins' σ' H1 s5→H1 a=none→
      Heap.FlyingW B X.stack a (.ref C) a0 s5.heap→Jn (mK X (X.pn++ah) a) pins' H1 B→wpAny (model X.prog X.w) X.A (handleBy (.ref a) X.env [.ExceptHandler (some (.Name G np)) (some n) (b0::suite) hpos]) (SP X ah D) X.xe s5:=fun B a0 s5 I5 hn fl5 gE=>by
     have J5:L2.Inv (mK X (X.pn++ah) a) pins' σ' H1 s5:=Aw I5
     refine wpAny_handleBy_cons (codeAny_handlers_test (nV (X:=mK X (X.pn++ah) a) J5 hg kG.m ?_ hd)) (by intro q;cases q)
     obtain⟨hp5,gg5,dd5,tt5,os5⟩:=s5
     refine vH J5.kIn fl5.there kG.k kG.ty (hok c C hc kC) (codeAny_handlers_suite_as ?_)
     refine lands_againW fl5 fun h6 fl6 up6=>?_
     have J6:=lW J5 gE fl5.1 fl6.1 up6
     have J7:=zy J6 gE fl6 hn
     refine rH (X:=mK X (X.pn++ah) a) J7 hN hi (.inl hl) (v:=.ref a) rfl (fun s8 J8=>?_) hfn
     have g7:Go X.K θ1 H1 θ1 (cj H1 a (Dv a C)) M1:=dR g1.wr hn
     have ra:dq X.K θ1 (cj H1 a (Dv a C)) (.exc c) (.ref a):=⟨a,C,rfl,kC,bE,g1.wr.fresh hn⟩
     have hlen:σ'.length=ρ.length:=by rw[hdn.len,J7.len];exact I.len.symm
     refine wpAny_mono (hh (X.pn++ah) a pins' s8 _ _ {nx:=fun σ2 H2=>D.nx (σ2.set i none) H2,bk:=fun σ2 H2=>D.bk (σ2.set i none) H2,ct:=fun σ2 H2=>D.ct (σ2.set i none) H2,rt:=D.rt} J8 ⟨_,θ1,M1,AR hlen ra,g7.wr,?_⟩) (fun f s9 q9=>?_) fun _ _ z=>z.elim
     ·cases qg:gh ((List.replicate ρ.length none).set i (some (.exc c))) M1 with
      | bad=>rw[qg] at h;exact h
      | err c2 M2=>rw[qg] at h;exact h.elim
      | ok f M2=>
       rw[qg] at h
       have gg:=g1.trans g7
       cases f with
       | nx ρ2=>exact fun σ2 θ2 H2 g2 d2=>h (σ2.set i none) θ2 H2 (gg.trans g2) (d2.clear i)
       | bk ρ2=>exact fun σ2 θ2 H2 g2 d2=>h (σ2.set i none) θ2 H2 (gg.trans g2) (d2.clear i)
       | ct ρ2=>exact fun σ2 θ2 H2 g2 d2=>h (σ2.set i none) θ2 H2 (gg.trans g2) (d2.clear i)
       | rt d=>exact fun v θ2 H2 g2 r2=>h v θ2 H2 (gg.trans g2) r2
     ·cases f with
      | next=>
       obtain⟨σ9,H9,I9,q9⟩:=q9
       exact l8 (X:=mK X (X.pn++ah) a) I9 hN hi hl fun s' I'=>⟨_,H9,kQ I.ok I',q9⟩
      | brk=>
       obtain⟨σ9,H9,I9,q9⟩:=q9
       exact l8 (X:=mK X (X.pn++ah) a) I9 hN hi hl fun s' I'=>⟨_,H9,kQ I.ok I',q9⟩
      | cont=>
       obtain⟨σ9,H9,I9,q9⟩:=q9
       exact l8 (X:=mK X (X.pn++ah) a) I9 hN hi hl fun s' I'=>⟨_,H9,kQ I.ok I',q9⟩
      | ret u=>
       obtain⟨v9,σ9,H9,I9,r9,q9⟩:=q9
       exact l8 (X:=mK X (X.pn++ah) a) I9 hN hi hl fun s' I'=>⟨v9,_,H9,kQ I.ok I',r9,q9⟩
    have hfrm:X.A.frames=some (X.env::X.outer):=by rw[←hst];exact I.ok.frames
    rcases fl with⟨h0,vs,I0,m⟩|⟨I0,hn,B,a0,fl,gE⟩|⟨I0,hn,B,a0,L,hL,held,gE⟩
    ·have gE:=wj I0
     have hid:∀b o,(W.hideAll h0 (rM X.stack)).get? b=some o→h0.get? b=some o:=fun b o q=>W.of_hideAll _ q
     have ff:h0.FunFrames (W.hideAll h0 (rM X.stack)) (X.env::X.outer):=by rw[←hst];exact pe I0
     refine yb hfrm hf hid ff m fun h4 t held4 up4=>?_
     refine wpAny_landsW held4 fun h5 fl5 up5=>?_
     have I1:=I0.kept (t':=s1.toks) (h':=s1.heap) m.keeps
     have I5:=lW (s:=s1) (h':=h5) I1 gE (fun b o q=>m.keeps b o (hid b o q)) fl5.1 (up4.trans up5)
     have fl6:=fl5
     rw[←hst] at fl6
     exact land _ _ _ I5 (tJ I0 m) fl6 ⟨gE.trk,gE.pin,gE.old⟩
    ·have fl:Heap.FlyingW B (X.env::X.outer) a (.ref C) a0 s1.heap:=by rw[←hst];exact fl
     refine wpAny_looks_onW hfrm hf fl fun h4 held4 up4=>?_
     refine wpAny_landsW held4 fun h5 fl5 up5=>?_
     have I5:=lW (s:=s1) (h':=h5) I0 gE fl.1 fl5.1 (up4.trans up5)
     have fl6:=fl5
     rw[←hst] at fl6
     exact land B a0 _ I5 hn fl6 ⟨gE.trk,gE.pin,gE.old⟩
    ·refine wpAny_noteFrame_againW hL held.2.2.2 ?_
     refine wpAny_landsW held fun h5 fl5 up5=>?_
     have I5:=lW (s:=s1) (h':=h5) I0 gE held.1 fl5.1 up5
     exact land B a0 _ I5 hn fl5 ⟨gE.trk,gE.pin,gE.old⟩
   ·rw[if_neg hc] at h
    exact h.elim
 ·cases f with
  | next=>exact wpAny_execs_nil (fin .next s1 _ q)
  | brk=>exact fin .brk s1 _ q
  | cont=>exact fin .cont s1 _ q
  | ret u=>exact fin (.ret u) s1 _ q
variable{es:List Expr}{gs:List GE}{M:aA}{xs:List D}{c0:Value}{T:String}
section
variable {X:Cx}
def xT:FD:=fun ds M=>match ds with
 | [.int i,.int j]=>if 0<j∧j.natAbs.log2<9000 then .ok (.tup [.int (i / j),.int (i % j)]) M else .bad
 | _=>.bad
theorem zQ:dY X (.builtin "divmod") (rC X xT):=by
 intro ah s σ H xs us Q I r h
 obtain⟨θ,M,ds,hw,rd,h⟩:=h
 unfold xT at h
 split at h
 ·rename_i i j
  obtain⟨v,v',e,r1,r2⟩:=BV rd
  have e1:v=.int i:=r1
  have e2:v'=.int j:=r2
  subst e;subst e1;subst e2
  obtain⟨u,u',rfl,⟨t,rfl⟩,⟨t',rfl⟩⟩:=yn r
  split at h
  ·rename_i hc
   have h1:(0:Int)<j:=hc.1
   refine divmod_int (by omega) ?_ (.inl (PyProof.noPylong_of_log2 hc.2))
   rw[Int.fdiv_eq_ediv_of_nonneg i (by omega),Int.fmod_eq_emod_of_nonneg i (by omega)]
   have hp:H s.heap.objs.size=none:=I.hok.fresh (Nat.le_refl _)
   refine⟨.ref s.heap.objs.size,_,I.laid (t':=s.toks+1+1) (fun b o e=>Heap.get?_push_of_some _ e) (Nat.le_refl _) (show cP X.prog X.w _ _ _ (.tup [.int (i / j),.int (i % j)]) from⟨Nat.le_trans (by decide:2≤1000000) (by rw[sizeLine_eq];decide),[.int (i / j) s.toks,.int (i % j) (s.toks+1)],.cons ⟨_,rfl⟩ (.cons ⟨_,rfl⟩ .nil),IsTup.new _ _⟩),rfl,?_⟩
   exact h _ θ _ (dR hw hp) (iI hw hp (show bA X.K θ H [.int (i / j),.int (i % j)] [.int (i / j),.int (i % j)] from⟨_,_,rfl,rfl,_,_,rfl,rfl,rfl⟩))
  ·exact h.elim
 ·exact h.elim
def xy:D→Option Str
 | .int a=>if a.natAbs.log2<1920 then some (toString a) else none
 | .str x=>if x.length≤sizeLine then some x else none
 | _=>none
def xf (g:GE):GE:=fun ρ M=>(g ρ M).bind fun d M1=>match xy d with
 | some x=>.ok (.str x) M1
 | none=>.bad
theorem Hv {e:Expr}{g:GE}{pos:Pos}{i:Int}(he:PE X e (tE X g))(hi:i=-1:=by rfl):PE X (.FormattedValue e i none pos) (tE X (xf g)):=by
 subst hi
 intro ah s σ H Q I h
 obtain⟨ρ,θ,M,hd,hw,h⟩:=h
 refine FormattedValue_plain (wpAny_mono (he ah s σ H (fun v H1=>∃d M1 θ1,Go X.K θ H θ1 H1 M1∧dq X.K θ1 H1 d v∧aN X θ1 H1 Q (match xy d with|some x=>.ok (.str x) M1|none=>.bad)) I ?_) (fun u s1 hq=>?_) fun _ _ y=>y)
 ·exact bL hd hw (aN X θ H Q) (fun c M' h=>h) (fun h=>h) h fun d M1 v θ1 H1 g1 r1 h1=>⟨d,M1,θ1,g1,r1,aN.go g1 h1⟩
 ·obtain⟨v,H1,I1,rv,d,M1,θ1,g1,r1,h1⟩:=hq
  cases d with
  | int a=>
   have e:v=.int a:=r1
   subst e
   obtain⟨t,rfl⟩:=rv
   unfold xy at h1
   by_cases hc:a.natAbs.log2<1920
   ·simp only[if_pos hc] at h1
    exact formatField_int_small hc ⟨.str (toString a),H1,I1.tok _,⟨_,rfl⟩,h1 _ θ1 H1 (.refl g1.wr) rfl⟩
   ·simp only[if_neg hc] at h1
    exact h1.elim
  | str x=>
   have e:v=.str x:=r1
   subst e
   obtain⟨t,rfl⟩:=rv
   unfold xy at h1
   by_cases hc:x.length≤sizeLine
   ·simp only[if_pos hc] at h1
    exact formatField_str (fun t' tk=>⟨.str x,H1,I1.tok _,⟨_,rfl⟩,h1 _ θ1 H1 (.refl g1.wr) rfl⟩) hc
   ·simp only[if_neg hc] at h1
    exact h1.elim
  | _=>exact h1.elim
inductive JN (X:Cx):List Expr→List GE→Prop where
 | nil:JN X [] []
 | cons {e:Expr} {es:List Expr} {g:GE} {gs:List GE}:PE X e (tE X g)→JN X es gs→JN X (e::es) (g::gs)
def mD:List GE→Str→GE
 | [],acc=>fun _ M=>.ok (.str acc) M
 | g::gs,acc=>fun ρ M=>(g ρ M).bind fun d M1=>match d with
  | .str y=>if(acc++y).length≤sizeLine then mD gs (acc++y) ρ M1 else .bad
  | _=>.bad
theorem FH (h:JN X es gs):∀(acc:Str) (ah:List (Addr×Obj)) (s:Shared) (σ:L2.St) (H:Hp) (Q:VK),acc.length≤sizeLine→L2.Inv X ah σ H s→tE X (mD gs acc) σ H Q→wpAny (model X.prog X.w) X.A (joinParts acc (evalEach es X.env)) (EP X ah σ Q) X.xe s:=by
 induction h with
 | nil=>
  intro acc ah s σ H Q hl I h
  obtain⟨ρ,θ,M,hd,hw,h⟩:=h
  exact joinParts_nil ⟨.str acc,H,I.tok _,⟨_,rfl⟩,h _ θ H (.refl hw) rfl⟩ hl
 | @cons e es g gs he hes ih=>
  intro acc ah s σ H Q hl I h
  obtain⟨ρ,θ,M,hd,hw,h⟩:=h
  show wpAny _ _ (joinParts acc (eval e X.env::evalEach es X.env)) _ _ _
  refine joinParts_cons (wpAny_mono (he ah s σ H (fun v H1=>∃d M1 θ1,Go X.K θ H θ1 H1 M1∧dq X.K θ1 H1 d v∧aN X θ1 H1 Q (match d with | .str y=>if(acc++y).length≤sizeLine then mD gs (acc++y) ρ M1 else .bad|_=>.bad)) I ?_) (fun u s1 hq=>?_) fun _ _ y=>y)
  ·exact bL hd hw (aN X θ H Q) (fun c M' h=>h) (fun h=>h) h fun d M1 v θ1 H1 g1 r1 h1=>⟨d,M1,θ1,g1,r1,aN.go g1 h1⟩
  ·obtain⟨v,H1,I1,rv,d,M1,θ1,g1,r1,h1⟩:=hq
   cases d with
   | str y=>
    have e:v=.str y:=r1
    subst e
    obtain⟨t,rfl⟩:=rv
    by_cases hc:(acc++y).length≤sizeLine
    ·simp only[if_pos hc] at h1
     exact⟨hc,ih (acc++y) ah s1 σ H1 Q hc I1 ⟨ρ,θ1,M1,hd.go g1,g1.wr,h1⟩⟩
    ·simp only[if_neg hc] at h1
     exact h1.elim
   | _=>exact h1.elim
theorem DB {e1 e2:Expr}{pos:Pos}(h:JN X (e1::e2::es) gs):PE X (.JoinedStr (e1::e2::es) pos) (tE X (mD gs Str.empty)):=by
 intro ah s σ H Q I q
 exact JoinedStr_many (FH h Str.empty ah s σ H Q (Nat.zero_le _) I q)
theorem qw {x:V}:∀{xs:List V} {us:List Value},aZ xs us→xs.all iw=true→us.countP (zN x)=xs.countP fun y=>wM y x
 | _,_,.nil,_=>rfl
 | y::xs,u::us,.cons r t,f=>by
  rw[List.all_cons,Bool.and_eq_true] at f
  rw[List.countP_cons,List.countP_cons,u5 r f.1,qw t f.2]
theorem yF {x:V}:∀{xs:List V} {us:List Value},aZ xs us→xs.all iw=true→us.findIdx? (zN x)=xs.findIdx? fun y=>wM y x
 | _,_,.nil,_=>rfl
 | y::xs,u::us,.cons r t,f=>by
  rw[List.all_cons,Bool.and_eq_true] at f
  rw[List.findIdx?_cons,List.findIdx?_cons,u5 r f.1,yF t f.2]
def lH (d:D)(M:aA):Option (List D):=match d with
 | .lst xs=>some xs
 | .ro xs=>some xs
 | .mr k=>match M[k]? with
  | some (.lst xs)=>some xs
  | _=>none
 | _=>none
theorem xC {d:D}{v:V}(hw:Wr K θ H M)(r:dq K θ H d v)(e:lH d M=some xs):∃a vs,v=.ref a∧mE K H a vs∧bA K θ H xs vs:=by
 cases d with
 | lst ys=>cases e;obtain⟨a,vs,ea,ta,ra⟩:=r;exact⟨a,vs,ea,ta.sq,ra⟩
 | ro ys=>cases e;obtain⟨a,vs,ea,ta,ra⟩:=r;exact⟨a,vs,ea,ta.sq,ra⟩
 | mr k=>
  obtain⟨a,ea,ta⟩:=r
  have e:(match M[k]? with|some (.lst xs)=>some xs|_=>none)=some xs:=e
  cases q:M[k]? with
  | none=>rw[q] at e;cases e
  | some m=>
   cases m with
   | lst ys=>
    rw[q] at e
    cases e
    obtain⟨vs,hv,ra⟩:=hw.at_ k a _ ta q
    exact⟨a,vs,ea,.inl (.inl hv),ra⟩
   | _=>rw[q] at e;cases e
 | _=>cases e
def Df (K:W.Frag):V→List V→Hp→VK→Prop:=fun x vs H Q=>∃p xs y,x=.ref p∧vs=[y]∧mE K H p xs∧iw y=true∧xs.all iw=true∧Q (.int (xs.countP fun z=>wM z y)) H
theorem CK:NE X "list.count" (Df X.K):=by
 intro ah s σ H x vs v us Q I rx rv h
 obtain⟨p,xs,y,rfl,rfl,hq,fy,fs,q⟩:=h
 cases rx
 obtain⟨u,rfl,ru⟩:=rv.one
 obtain⟨its,r,⟨o,n,h1,h2,h3,h4⟩,hz⟩:=I.list hq
 obtain⟨c,dd,dat,sl⟩:=o
 have e1:c=.type "list":=h2
 have e2:dat=.seq its.toArray n:=h4
 subst e1;subst e2
 refine call_meets F.slot_list_count ⟨_,h1,rfl⟩ F.entry_list_count (F.args_list_count_2 _ _) (SeqAt.list_countAt p its.toArray n dd sl u (zN y)) ⟨h1,fun w hw=>lE ru fy r fs w (by simpa using hw),?_⟩
 refine⟨.int (xs.countP fun z=>wM z y),H,I.tok _,⟨s.toks,?_⟩,q⟩
 rw[←qw r fs]
def AH (K:W.Frag):V→List V→Hp→VK→Prop:=fun x vs H Q=>∃p xs y j,x=.ref p∧vs=[y]∧mE K H p xs∧iw y=true∧xs.all iw=true∧(xs.findIdx? fun z=>wM z y)=some j∧Q (.int (j:Nat)) H
theorem BX:NE X "list.index" (AH X.K):=by
 intro ah s σ H x vs v us Q I rx rv h
 obtain⟨p,xs,y,j,rfl,rfl,hq,fy,fs,hj,q⟩:=h
 cases rx
 obtain⟨u,rfl,ru⟩:=rv.one
 obtain⟨its,r,⟨o,n,h1,h2,h3,h4⟩,hz⟩:=I.list hq
 obtain⟨c,dd,dat,sl⟩:=o
 have e1:c=.type "list":=h2
 have e2:dat=.seq its.toArray n:=h4
 subst e1;subst e2
 rw[←yF r fs] at hj
 obtain⟨hlt,hhit,hno⟩:=List.findIdx?_eq_some_iff_getElem.mp hj
 have hsz:j<its.toArray.size:=by simpa using hlt
 have hsmall:(j:Int)<2 ^ 63-1:=by
  have l1:=r.length
  have l2:=mQ
  omega
 refine call_meets F.slot_list_index ⟨_,h1,rfl⟩ F.entry_list_index (F.args_list_index_2 _ _) (SeqAt.list_indexAt p its.toArray n dd sl u (zN y) j hsz hsmall (by simpa using hhit) (fun m hm hmj=>by have:=hno m hmj;simpa using this)) ⟨h1,fun w hw=>lE ru fy r fs w (by simpa using hw),?_⟩
 exact⟨.int j,H,I.tok _,⟨s.toks,rfl⟩,q⟩
def lR (F:List D→D→aA→bn D)(go ge:GE):GE:=fun ρ M=>(go ρ M).bind fun o M1=>match lH o M1 with
 | some _=>(ge ρ M1).bind fun x M2=>match lH o M2 with
  | some xs=>F xs x M2
  | none=>.bad
 | none=>.bad
def lO (xs:List D)(x:D)(M:aA):bn D:=if fM x&&xs.all fM then .ok (.int (xs.countP fun y=>jd y x)) M else .bad
def lT (xs:List D)(x:D)(M:aA):bn D:=if fM x&&xs.all fM then(match xs.findIdx? fun y=>jd y x with|some j=>.ok (.int (j:Nat)) M|none=>.bad) else .bad
theorem rF {x:D}:∀{ds:List D},fM x=true→ds.all fM=true→(ds.map Dh).countP (fun z=>wM z (Dh x))=ds.countP fun y=>jd y x
 | [],_,_=>rfl
 | d::ds,fx,f=>by
  rw[List.all_cons,Bool.and_eq_true] at f
  rw[List.map_cons,List.countP_cons,List.countP_cons,rF fx f.2,vc f.1 fx]
theorem yJ {x:D}:∀{ds:List D},fM x=true→ds.all fM=true→(ds.map Dh).findIdx? (fun z=>wM z (Dh x))=ds.findIdx? fun y=>jd y x
 | [],_,_=>rfl
 | d::ds,fx,f=>by
  rw[List.all_cons,Bool.and_eq_true] at f
  rw[List.map_cons,List.findIdx?_cons,List.findIdx?_cons,yJ fx f.2,vc f.1 fx]
section
variable {o e:Expr}{go ge:GE}{apos cpos:Pos}
theorem ym {F:List D→D→aA→bn D}{rr:V→List V→Hp→VK→Prop}{Q:VK}(hs:starEach [e] X.env=(false,eval e X.env)::starEach [] X.env)
  (hF:∀θ H M o x xs v y Q,Wr X.K θ H M→dq X.K θ H o v→lH o M=some xs→dq X.K θ H x y→aN X θ H Q (F xs x M)→rr v [y] H Q) (h:tE X (lR F go ge) σ H Q):Oa X.K "list" rr (tE X go) (wu (tE X ge) CU) σ H Q:=by
 obtain⟨ρ,θ,M,hd,hw,h⟩:=h
 refine bL hd hw (aN X θ H Q) (fun c M' h=>h) (fun h=>h) h fun d M1 v θ1 H1 g1 r1 h1=>?_
 have h2:=aN.go g1 h1
 cases ql:lH d M1 with
 | none=>rw[ql] at h2;exact h2.elim
 | some xs0=>
  rw[ql] at h2
  obtain⟨a,vs,ea,sq,ra⟩:=xC g1.wr r1 ql
  refine⟨by rw[ea];exact .inl ⟨rfl,vs,sq⟩,?_⟩
  refine bL (hd.go g1) g1.wr (aN X θ1 H1 Q) (fun c M' h=>h) (fun h=>h) h2 fun dx M2 vx θ2 H2 g2 r2 h3=>?_
  have h4:=aN.go g2 h3
  cases ql2:lH d M2 with
  | none=>rw[ql2] at h4;exact h4.elim
  | some xs=>
   rw[ql2] at h4
   exact hF θ2 H2 M2 d dx xs v vx Q g2.wr (r1.go g2) ql2 r2 h4
theorem BW {o x:D}{v y:V}{Q:VK}(hw:Wr X.K θ H M)(r:dq X.K θ H o v)(el:lH o M=some xs)(ry:dq X.K θ H x y)(h:aN X θ H Q (lO xs x M)):Df X.K v [y] H Q:=by
 obtain⟨a,vs,ea,sq,ra⟩:=xC hw r el
 unfold lO at h
 split at h
 ·rename_i hc
  rw[Bool.and_eq_true] at hc
  obtain⟨e1,f1⟩:=pY ry hc.1
  obtain⟨e2,f2⟩:=nX ra hc.2
  refine⟨a,vs,y,ea,rfl,sq,f1,f2,?_⟩
  rw[e1,e2,rF hc.1 hc.2]
  exact h _ θ H (.refl hw) rfl
 ·exact h.elim
theorem AU {o x:D}{v y:V}{Q:VK}(hw:Wr X.K θ H M)(r:dq X.K θ H o v)(el:lH o M=some xs)(ry:dq X.K θ H x y)(h:aN X θ H Q (lT xs x M)):AH X.K v [y] H Q:=by
 obtain⟨a,vs,ea,sq,ra⟩:=xC hw r el
 unfold lT at h
 split at h
 ·rename_i hc
  rw[Bool.and_eq_true] at hc
  obtain⟨e1,f1⟩:=pY ry hc.1
  obtain⟨e2,f2⟩:=nX ra hc.2
  split at h
  ·rename_i j hj
   exact⟨a,vs,y,j,ea,rfl,sq,f1,f2,by rw[e1,e2,yJ hc.1 hc.2];exact hj,h _ θ H (.refl hw) rfl⟩
  ·exact h.elim
 ·exact h.elim
theorem xW {env:Env}(h:aY e=true):((backTo cpos (starEach [e] env)).all (fun x=>!x.1)&&(backToKw cpos (keywordEach [] env)).all (fun x=>x.1.isSome)
   && decide ([e].length+([]:List Keyword).length+(if([]:List Keyword).isEmpty then 0 else 1)<30))=true:=by
 rw[sE h];rfl
theorem A5 (ho:PE X o (tE X go))(he:PE X e (tE X ge))(h1:aY e=true:=by rfl)(hbase:attributeBase o "count" X.env (eval o X.env)=eval o X.env:=by rfl)(hline:(apos.endLine==cpos.line)=true:=by rfl) :
  PE X (.Call (.Attribute o "count" apos) [e] [] cpos) (tE X (lR lO go ge)):=
 (BB PySem.F.plainAttrs_list PySem.F.slot_list_count PySem.F.type_list_count CK ho (fJ he kE (sE h1)) hbase (xW h1) hline (sE h1) rfl).of fun σ H Q h=>ym (sE h1) (fun θ H M o x xs v y Q=>BW) h
theorem BG (ho:PE X o (tE X go))(he:PE X e (tE X ge))(h1:aY e=true:=by rfl)(hbase:attributeBase o "index" X.env (eval o X.env)=eval o X.env:=by rfl)(hline:(apos.endLine==cpos.line)=true:=by rfl) :
  PE X (.Call (.Attribute o "index" apos) [e] [] cpos) (tE X (lR lT go ge)):=
 (BB PySem.F.plainAttrs_list PySem.F.slot_list_index PySem.F.type_list_index BX ho (fJ he kE (sE h1)) hbase (xW h1) hline (sE h1) rfl).of fun σ H Q h=>ym (sE h1) (fun θ H M o x xs v y Q=>AU) h
end
def jc (ok:Str→Option Bool)(g:GE):GE:=fun ρ M=>(g ρ M).bind fun d M1=>match d with
 | .exc c=>match ok c with
  | some b=>.ok (.bl b) M1
  | none=>.bad
 | _=>.bad
theorem C5 {v0:V}{ok:Str→Option Bool}(r0:∀c,L2.RelV v0 c→c=c0)(hk:∀c b C,ok c=some b→dm X.K c C→mU X.K C∧W.kitOne X.K (.ref C) c0=some b) :
  dY X (.builtin "isinstance") (fun xs H Q=>∃θ M d v,Wr X.K θ H M∧dq X.K θ H d v∧xs=[v,v0]∧aN X θ H Q (match d with | .exc c=>(match ok c with|some b=>.ok (.bl b) M|none=>.bad)|_=>.bad)):=by
 intro ah s σ H xs us Q I r h
 obtain⟨θ,M,d,v,hw,rv,e,h⟩:=h
 subst e
 obtain⟨u,c,rfl,ru,rc⟩:=yn r
 have ec:c=c0:=r0 c rc
 subst ec
 cases d with
 | exc c=>
  obtain⟨a,C,ea,kC,t,na⟩:=rv
  subst ea;cases ru
  cases q:ok c with
  | none=>simp only[q] at h;exact h.elim
  | some b=>
   simp only[q] at h
   obtain⟨kx,e1⟩:=hk c b C q kC
   obtain⟨p,_,_⟩:=I.hok a _ t
   exact W.kia_one (CF kx) I.kIn p e1 (fun z=>nomatch z) fun tk=>⟨.bl b,H,I.tok _,rfl,h _ θ H (.refl hw) rfl⟩
 | _=>exact h.elim
def wo (l:List (Str×Bool))(c:Str):Option Bool:=l.lookup c
theorem Cg {l:List (Str×Bool)}(h:∀p∈l,∃C,dm K p.1 C∧mU K C∧W.kitOne K (.ref C) c0=some p.2):∀c b C,wo l c=some b→dm K c C→mU K C∧W.kitOne K (.ref C) c0=some b:=fun c b C e kC=>by
 obtain⟨C',k1,k2,k3⟩:=h (c,b) (PySem.mem_of_lookup e)
 have:=k1.inj kC
 subst this
 exact⟨k2,k3⟩
theorem Ft {mg:Str→Option Value}{g:Str}{G:Addr}(kG:Ec K mg g G)(hm:W.mroIn K C (.ref G)=some b):W.kitOne K (.ref C) (.ref G)=some b:=by
 unfold W.kitOne
 split
 ·rename_i q
  have e:C=G:=Value.ref.inj (beq_iff_eq.mp q)
  subst e
  rw[kG.sf] at hm
  exact hm
 ·show(if((W.clsIn K G).isSome&&W.typeIn K (.ref G)==some (.type "type"))=true then W.subIn K (.ref C) (.ref G) else none)=some b
  rw[if_pos (by rw[kG.k.cl,kG.ty];rfl)]
  exact hm
theorem Cd (hT:W.kitMeta T=true)(hm:W.mroIn K C (.type T)=some b):W.kitOne K (.ref C) (.type T)=some b:=by
 unfold W.kitOne
 rw[if_neg (by intro q;cases beq_iff_eq.mp q)]
 show(if W.kitMeta T=true then W.subIn K (.ref C) (.type T) else none)=some b
 rw[if_pos hT]
 exact hm
section
variable {e:Expr}{g:GE}{p p2 pos:Pos}{x:Str}{ok:Str→Option Bool}
theorem Bm {v0:V}{Q:VK}(h:tE X (jc ok g) σ H Q):Mz (fun xs H Q=>∃θ M d v,Wr X.K θ H M∧dq X.K θ H d v∧xs=[v,v0]∧aN X θ H Q (match d with | .exc c=>(match ok c with|some b=>.ok (.bl b) M|none=>.bad)|_=>.bad)) (wu (tE X g) (wu (tC v0) CU)) σ H Q:=by
 obtain⟨ρ,θ,M,hd,hw,h⟩:=h
 refine bL hd hw (aN X θ H Q) (fun c M' h=>h) (fun h=>h) h fun d M1 v θ1 H1 g1 r1 h1=>?_
 exact⟨θ1,M1,d,v,g1.wr,r1,rfl,aN.go g1 h1⟩
theorem GX {G:Addr}(hm:X.mg x=some (.ref G))(hk:∀c b C,ok c=some b→dm X.K c C→mU X.K C∧W.kitOne X.K (.ref C) (.ref G)=some b)(hg:Gl X x)(hgi:Gl X "isinstance")(hmi:X.mg "isinstance"=none)(he:PE X e (tE X g))
  (h1:aY e=true:=by rfl) (hd:(x==("__debug__":Str))=false:=by decide):PE X (.Call (.Name "isinstance" p) [e,.Name x p2] [] pos) (tE X (jc ok g)):=
 (nT (C5 (v0:=.ref G) (fun c z=>z) hk) hgi hmi boot_isinstance (fJ he (fJ (EU hg hm (v:=.ref G) rfl hd) kE (sE rfl)) (sE h1)) (by decide) (by decide) (sE h1) (sS rfl)).of fun σ H Q h=>Bm h
theorem EB (hv:bootBuiltins x=some (.type T))(hm:X.mg x=none)(hk:∀c b C,ok c=some b→dm X.K c C→mU X.K C∧W.kitOne X.K (.ref C) (.type T)=some b)(hg:Gl X x)(hgi:Gl X "isinstance")(hmi:X.mg "isinstance"=none)(he:PE X e (tE X g))
  (h1:aY e=true:=by rfl) (hn:x≠"__name__":=by decide) (hd:(x==("__debug__":Str))=false:=by decide):PE X (.Call (.Name "isinstance" p) [e,.Name x p2] [] pos) (tE X (jc ok g)):=
 (nT (C5 (v0:=.ty T) (fun c z=>z) hk) hgi hmi boot_isinstance (fJ he (fJ (yt hg hm hv (v:=.ty T) rfl hn hd) kE (sE rfl)) (sE h1)) (by decide) (by decide) (sE h1) (sS rfl)).of fun σ H Q h=>Bm h
end
theorem Oq {l:List Str}{Ga:Addr}(h:∀c∈l,∃C,dm K c C∧W.mroIn K C (.ref Ga)=some true):∀c C,l.contains c=true→dm K c C→W.mroIn K C (.ref Ga)=some true:=fun c C e kC=>by
 obtain⟨C',k1,k2⟩:=h c (List.contains_iff_mem.mp e)
 have:=k1.inj kC
 subst this
 exact k2
end
end DL
namespace DL
open PySem L2
theorem J9 {P:Program}{w:World}{H:Hp}{s:Shared}{e:Value}{s':Shared}(z:ik P w [] H s (fun _ _ _=>False) e s'):False:=by
 obtain⟨_,_,_,_,_,_,_,_,_,_,_,_,_,_,h⟩:=z
 exact h
end DL
namespace DL
open PySem PySem.Spec PyProof.Rows L2
variable{fs:List (Str×D)}
section
variable {K:W.Frag}{θ:List Addr}{H:Hp}{M:aA}
def gn (f:Str)(d:D):List (Str×D)→List (Str×D)
 | []=>[(f,d)]
 | (g,x)::r=>if g=f then(g,d)::r else(g,x)::gn f d r
theorem xv {f:Str}{d:D}:∀{fs:List (Str×D)} {vs:List (Str×V)},nO K θ H fs vs→fs.lookup f=some d→∃v,vs.lookup f=some v∧dq K θ H d v
 | [],vs,h,e=>by cases e
 | (g,x)::fs,vs,h,e=>by
  obtain⟨v,r,rfl,h1,h2⟩:=h
  rw[List.lookup_cons] at e ⊢
  cases q:f==g with
  | true=>rw[q] at e;cases e;exact⟨v,rfl,h1⟩
  | false=>rw[q] at e;exact xv h2 e
theorem zb {f:Str}:∀{fs:List (Str×D)} {vs:List (Str×V)},nO K θ H fs vs→fs.lookup f=none→vs.lookup f=none
 | [],vs,h,e=>by cases (show vs=[] from h);rfl
 | (g,x)::fs,vs,h,e=>by
  obtain⟨v,r,rfl,h1,h2⟩:=h
  rw[List.lookup_cons] at e ⊢
  cases q:f==g with
  | true=>rw[q] at e;cases e
  | false=>rw[q] at e;exact zb h2 e
theorem yh:∀{fs:List (Str×D)} {vs:List (Str×V)},nO K θ H fs vs→fs.length=vs.length
 | [],vs,h=>by cases (show vs=[] from h);rfl
 | (g,x)::fs,vs,h=>by
  obtain⟨v,r,rfl,h1,h2⟩:=h
  rw[List.length_cons,List.length_cons,yh h2]
theorem CJ {f:Str}{d:D}{v:V}(hd:dq K θ H d v):∀{fs:List (Str×D)} {vs:List (Str×V)},nO K θ H fs vs→nO K θ H (gn f d fs) (ke f v vs)
 | [],vs,h=>by cases (show vs=[] from h);exact⟨v,[],rfl,hd,rfl⟩
 | (g,x)::fs,vs,h=>by
  obtain⟨u,r,rfl,h1,h2⟩:=h
  show nO K θ H (if g=f then(g,d)::fs else(g,x)::gn f d fs) (if g=f then(g,v)::r else(g,u)::ke f v r)
  by_cases q:g=f
  ·rw[if_pos q,if_pos q];exact⟨v,r,rfl,hd,h2⟩
  ·rw[if_neg q,if_neg q];exact⟨u,_,rfl,h1,CJ hd h2⟩
theorem yK {i:Nat}{a C dx:Addr}{c f:Str}{vs:List (Str×V)}{d:D}{v:V}(w:Wr K θ H M)(hi:θ[i]?=some a)(k:dm K c C)(r:nO K θ H fs vs)(hd:dq K θ H d v) :
  Go K θ H θ (cj H a (.ins C dx (ke f v vs))) (M.set i (.obj c (gn f d fs))):=
 pX w hi ⟨C,dx,_,k,bE,oT (nL w hi) (CJ hd r)⟩
theorem EI {x dx C:Addr}{c:Str}(w:Wr K θ H M)(hx:H x=none)(hdx:H dx=none)(ne:dx≠x)(k:dm K c C):Go K θ H (θ++[x]) (cj (cj H dx (.own x)) x (.ins C dx [])) (M++[.obj c []]):=by
 have np:=w.fresh hx
 have hx':∀b u,H b=some u→b≠x∧b≠dx:=fun b u h=>⟨bN h hx,bN h hdx⟩
 have g:Grow θ H (θ++[x]) (cj (cj H dx (.own x)) x (.ins C dx [])):=⟨⟨[x],rfl,fun a ha=>by rw[List.mem_singleton.mp ha];exact hx⟩,fun b u h _ _=>by rw[az (hx' b u h).1,az (hx' b u h).2];exact h,fun b ps h=>⟨ps,by rw[az (hx' b _ h).1,az (hx' b _ h).2];exact h⟩⟩
 refine⟨g,by rw[List.length_append,List.length_append,w.len];rfl,?_,fun i a m h1 h2=>?_,(w.tb.new hdx).new (by rw[az (Ne.symm ne)];exact hx)⟩
 ·rw[List.nodup_append]
  exact⟨w.nd,by simp,fun y hy z hz e=>np (by rw[List.mem_singleton.mp hz] at e;rw[←e];exact hy)⟩
 ·by_cases hi:i<θ.length
  ·rw[List.getElem?_append_left hi] at h1
   rw[List.getElem?_append_left (by rw[←w.len];exact hi)] at h2
   have hm:=List.mem_of_getElem? h1
   have ha:a≠x:=fun e=>np (by rw[←e];exact hm)
   have ha2:a≠dx:=fun e=>w.fresh hdx (by rw[←e];exact hm)
   exact(w.at_ i a m h1 h2).grow g (by rw[az ha,az ha2])
  ·have hi':i=θ.length:=by
    have:=(List.getElem?_eq_some_iff.mp h1).1
    rw[List.length_append,List.length_singleton] at this
    omega
   subst hi'
   rw[List.getElem?_append_right (Nat.le_refl _)] at h1
   rw[List.getElem?_append_right (by rw[w.len];exact Nat.le_refl _)] at h2
   simp only[Nat.sub_self,w.len,List.getElem?_cons_zero,Option.some.injEq] at h1 h2
   subst h1;subst h2
   exact⟨C,dx,[],k,bE,rfl⟩
end
structure Kc (K:W.Frag)(mg:Str→Option Value)(c:Str)(C:Addr):Prop where
 at_:dm K c C
 m:mg c=some (.ref C)
 cl:Av K C
def iV (c:Str)(o:D)(M:aA):Option (Nat×List (Str×D)):=match o with
 | .mr k=>match M[k]? with
  | some (.obj c' fs)=>if c'=c then some (k,fs) else none
  | _=>none
 | _=>none
variable{H:Hp}
theorem qA {K:W.Frag}{θ:List Addr}{M:aA}{c:Str}{C:Addr}{o:D}{v:V}{k:Nat}(hw:Wr K θ H M)(kC:dm K c C)(r:dq K θ H o v)(e:iV c o M=some (k,fs)) :
  ∃a dx vs,v=.ref a∧θ[k]?=some a∧H a=some (.ins C dx vs)∧nO K θ H fs vs∧M[k]?=some (.obj c fs):=by
 cases o with
 | mr j=>
  obtain⟨a,ea,ta⟩:=r
  have e:(match M[j]? with|some (.obj c' fs)=>if c'=c then some (j,fs) else none|_=>none)=some (k,fs):=e
  cases q:M[j]? with
  | none=>rw[q] at e;cases e
  | some m=>
   cases m with
   | lst ys=>rw[q] at e;cases e
   | dK _=>rw[q] at e;cases e
   | dT _=>rw[q] at e;cases e
   | obj c' gs=>
    rw[q] at e
    have e:(if c'=c then some (j,gs) else none)=some (k,fs):=e
    by_cases hc:c'=c
    ·rw[if_pos hc] at e
     cases e
     subst hc
     obtain⟨C',dx,vs,kC',hv,rf⟩:=hw.at_ _ a _ ta q
     have:=kC'.inj kC
     subst this
     exact⟨a,dx,vs,ea,ta,hv,rf,q⟩
    ·rw[if_neg hc] at e;cases e
 | _=>cases e
variable{σ:L2.St}
section
variable {X:Cx}{c f:Str}{C:Addr}{o e value:Expr}{g go gv:GE}{pos pos' apos p:Pos}
def eT (c f:Str)(g:GE):GE:=fun ρ M=>(g ρ M).bind fun o M1=>match iV c o M1 with
 | some (_,fs)=>match fs.lookup f with
  | some d=>.ok d M1
  | none=>.bad
 | none=>.bad
theorem Hh (k:Kc X.K X.mg c C)(n:f6 X.K C f)(he:PE X e (tE X g))(hb:attributeBase e f X.env (eval e X.env)=eval e X.env:=by rfl):PE X (.Attribute e f pos) (tE X (eT c f g)):=
 (GQ he hb).of fun σ H Q ⟨ρ,θ,M,hd,hw,h⟩=>by
  refine bL hd hw (aN X θ H Q) (fun c M' h=>h) (fun h=>h) h fun d M1 v θ1 H1 g1 r1 h1=>?_
  have h2:=aN.go g1 h1
  cases q:iV c d M1 with
  | none=>simp only[q] at h2;exact h2.elim
  | some p=>
   obtain⟨j,fs⟩:=p
   simp only[q] at h2
   obtain⟨a,dx,vs,ea,ta,hv,rf,_⟩:=qA g1.wr k.at_ r1 q
   cases ql:fs.lookup f with
   | none=>simp only[ql] at h2;exact h2.elim
   | some y=>
    simp only[ql] at h2
    obtain⟨u,eu,ru⟩:=xv rf ql
    exact⟨a,C,dx,vs,u,ea,hv,k.cl,n,eu,h2 u θ1 H1 (.refl g1.wr) ru⟩
def uN (c f:Str)(o y:D)(M:aA):bn Unit:=match iV c o M with
 | some (k,fs)=>if fs.length<1000 then .ok () (M.set k (.obj c (gn f y fs))) else .bad
 | none=>.bad
def fW (c f:Str)(go gv:GE):GS:=fun ρ M=>(gv ρ M).bind fun y M1=>(go ρ M1).bind fun o M2=>(uN c f o y M2).bind fun _ M3=>.ok (.nx ρ) M3
theorem Jz (k:Kc X.K X.mg c C)(n:f6 X.K C f)(ho:PE X o (tE X go))(hv:PE X value (tE X gv))(hs:swapsWith value (some (.Attribute o f pos')) pos.line X.env=pure false:=by rfl):PS X (.Assign [.Attribute o f pos'] value pos) (tS X (fW c f go gv)):=
 (G5 ho hv hs).of fun D σ H ⟨ρ,θ,M,hd,hw,h⟩=>by
  refine bL hd hw (cS X θ H D) (fun c M' h=>h) (fun h=>h) h fun y M1 vy θ1 H1 g1 r1 h1=>?_
  refine bL (hd.go g1) g1.wr (cS X θ1 H1 D) (fun c M' h=>h) (fun h=>h) (h1.go g1) fun d M2 v θ2 H2 g2 r2 h2=>?_
  have h3:=h2.go g2
  unfold uN at h3
  cases q:iV c d M2 with
  | none=>simp only[q] at h3;exact h3.elim
  | some p=>
   obtain⟨j,fs⟩:=p
   simp only[q] at h3
   by_cases hl:fs.length<1000
   ·simp only[if_pos hl] at h3
    obtain⟨a,dx,vs,ea,ta,hv,rf,_⟩:=qA g2.wr k.at_ r2 q
    have gs:=yK (f:=f) (dx:=dx) g2.wr ta k.at_ rf (r1.go g2)
    exact⟨a,C,dx,vs,ea,hv,k.cl,n,by rw[←yh rf];exact hl,h3 σ θ2 _ gs (((hd.go g1).go g2).go gs)⟩
   ·simp only[if_neg hl] at h3;exact h3.elim
def fA (c m:Str)(n:Nat)(F:FD)(go:GE)(ga:GA):GE:=fun ρ M=>(go ρ M).bind fun o M1=>match iV c o M1 with
 | some (_,fs)=>if fs.lookup m=none then(ga ρ M1).bind fun ds M2=>if ds.length+1=n then F (o::ds) M2 else .bad else .bad
 | none=>.bad
theorem CL {m:Str}{n:Nat}{F:FD}{ga:GA}{Q:VK}(k:Kc X.K X.mg c C)(h:tE X (fA c m n F go ga) σ H Q):Bd C m (ng X.K n F) [] (DE X) (tE X go) (tA X ga) σ H Q:=by
 obtain⟨ρ,θ,M,hd,hw,h⟩:=h
 refine bL hd hw (aN X θ H Q) (fun c M' h=>h) (fun h=>h) h fun d M1 v θ1 H1 g1 r1 h1=>?_
 have h2:=aN.go g1 h1
 cases q:iV c d M1 with
 | none=>simp only[q] at h2;exact h2.elim
 | some p=>
  obtain⟨j,fs⟩:=p
  simp only[q] at h2
  obtain⟨a,dx,vs,ea,ta,hv,rf,_⟩:=qA g1.wr k.at_ r1 q
  by_cases hl:fs.lookup m=none
  ·simp only[if_pos hl] at h2
   refine⟨a,dx,vs,ea,hv,zb rf hl,?_⟩
   refine mB (hd.go g1) g1.wr (aN X θ1 H1 Q) (fun c M' h=>h) (fun h=>h) h2 fun ds M2 us θ2 H2 g2 r2 h3=>?_
   by_cases hn:ds.length+1=n
   ·rw[if_pos hn] at h3
    have h4:=aN.go g2 h3
    refine⟨θ2,M2,d::ds,hn,⟨v,us++[],rfl,r1.go g2,by rw[List.append_nil];exact r2⟩,g2.wr,?_⟩
    cases qf:F (d::ds) M2 with
    | ok d2 M3=>rw[qf] at h4;exact h4
    | err c2 M3=>rw[qf] at h4;exact uf h4
    | bad=>rw[qf] at h4;exact h4
   ·rw[if_neg hn] at h3;exact h3.elim
  ·simp only[if_neg hl] at h2;exact h2.elim
section
variable {m:Str}{k n:Nat}{fa:Addr}{fd:FuncData}{ps:List Str}{F:FD}{ga:GA}{es:List Expr}{pl:Sem Bool}
theorem HI (kc:Kc X.K X.mg c C)(hm:tW X.K C m fa)(Fn:dN X.prog X.w X.K X.mg X.base (ik X.prog X.w) k fa fd ps (ng X.K n F))(hr:bI k X.A)(hb:fg X.K fd ps [])(ho:PE X o (tE X go))(ha:PA X (e::es) (tA X ga))
  (h1:aY e=true:=by rfl) (h2:cR es=true:=by rfl)
  (ht:eval (.Call (.Attribute o m apos) (e::es) [] pos) X.env=(do
   let ov ←eval o X.env
   standAt apos.atName
   let (f,first) ←holding [ov] (getMethod ov m pl)
   callWith pos f first (backTo pos (starEach (e::es) X.env)) (backToKw pos (keywordEach [] X.env))):=by rfl) :
  PE X (.Call (.Attribute o m apos) (e::es) [] pos) (tE X (fA c m n F go ga)):=
 (Ed (pl:=pl) ho kc.cl hm Fn hr hb .nil jz ha (sE h1) (sS h2) ht).of fun σ H Q h=>CL kc h
theorem EO (kc:Kc X.K X.mg c C)(hm:tW X.K C m fa)(Fn:dN X.prog X.w X.K X.mg X.base (ik X.prog X.w) k fa fd ps (ng X.K n F))(hr:bI k X.A)(hb:fg X.K fd ps [])(ho:PE X o (tE X go))
  (ht:eval (.Call (.Attribute o m apos) [] [] pos) X.env=(do
   let ov ←eval o X.env
   standAt apos.atName
   let (f,first) ←holding [ov] (getMethod ov m pl)
   callWith pos f first (backTo pos (starEach [] X.env)) (backToKw pos (keywordEach [] X.env))):=by rfl) :
  PE X (.Call (.Attribute o m apos) [] [] pos) (tE X (fA c m n F go ag)):=
 (AG (pl:=pl) ho kc.cl hm Fn hr hb .nil jz ht).of fun σ H Q h=>by
  obtain⟨ρ,θ,M,hd,hw,h⟩:=CL kc h
  refine⟨ρ,θ,M,hd,hw,?_⟩
  cases q:go ρ M with
  | ok d M1=>
   rw[q] at h
   intro v θ1 H1 g1 r1
   obtain⟨a,dx,fs,e1,e2,e3,h⟩:=h v θ1 H1 g1 r1
   refine⟨a,dx,fs,e1,e2,e3,?_⟩
   obtain⟨ρ',θ',M',hd',hw',h'⟩:=h
   exact h' [] θ' H1 (.refl hw') rfl
  | err c2 M1=>rw[q] at h;exact h
  | bad=>rw[q] at h;exact h
end
def ib (c:Str)(n:Nat)(F:FD)(ga:GA):GE:=fun ρ M=>(ga ρ M).bind fun ds M1=>if ds.length+1=n then(F (.mr M1.length::ds) (M1++[.obj c []])).bind fun d M2=>match d with
  | .non=>.ok (.mr M1.length) M2
  | _=>.bad
 else .bad
theorem EY {n:Nat}{F:FD}{ga:GA}{Q:VK}(k:dm X.K c C)(h:tE X (ib c n F ga) σ H Q):FQ C (ng X.K n F) [] (DE X) (tA X ga) σ H Q:=by
 obtain⟨ρ,θ,M,hd,hw,h⟩:=h
 refine mB hd hw (aN X θ H Q) (fun c M' h=>h) (fun h=>h) h fun ds M1 us θ1 H1 g1 r1 h1=>?_
 intro x dx hx hdx ne
 have h2:=aN.go g1 h1
 by_cases hn:ds.length+1=n
 ·simp only[if_pos hn] at h2
  have gm:=EI (C:=C) g1.wr hx hdx ne k
  have rx:dq X.K (θ1++[x]) (cj (cj H1 dx (.own x)) x (.ins C dx [])) (.mr M1.length) (.ref x):=nN g1.wr
  refine⟨θ1++[x],M1++[.obj c []],.mr M1.length::ds,hn,⟨.ref x,us++[],rfl,rx,by rw[List.append_nil];exact r1.go gm⟩,gm.wr,?_⟩
  have h3:=aN.go gm h2
  cases qf:F (.mr M1.length::ds) (M1++[.obj c []]) with
  | bad=>rw[qf] at h3;exact h3
  | err c2 M3=>rw[qf] at h3;exact uf h3
  | ok d2 M3=>
   rw[qf] at h3
   intro v θ2 H2 g2 r2
   cases d2 with
   | non=>exact⟨r2,h3 _ θ2 H2 g2 (rx.go g2)⟩
   | _=>exact h3.elim
 ·simp only[if_neg hn] at h2;exact h2.elim
section
variable {x:Str}{k n:Nat}{fa:Addr}{fd:FuncData}{ps:List Str}{F:FD}{ga:GA}{es:List Expr}
theorem Dx (kc:Kc X.K X.mg x C)(Mc:Mk X.K C fa)(Fn:dN X.prog X.w X.K X.mg X.base (ik X.prog X.w) k fa fd ps (ng X.K n F))(hr:bI (k+1) X.A)(hg:Gl X x)(hb:fg X.K fd ps [])(ha:PA X (e::es) (tA X ga))
  (hdb:(x==("__debug__":Str))=false:=by decide) (h1:aY e=true:=by rfl) (h2:cR es=true:=by rfl):PE X (.Call (.Name x p) (e::es) [] pos) (tE X (ib x n F ga)):=
 (Fa Mc Fn hr hg kc.m hb .nil jz ha hdb (sE h1) (sS h2)).of fun σ H Q h=>EY kc.at_ h
end
end
end DL
namespace DL
open PySem PySem.Spec PyProof.Rows L2
variable{a:Addr}{its:Array Value}{Q:Value→Shared→Prop}
section
variable {prog:Program}{w:World}{A:Around}{E:Value→Shared→Prop}{s:Shared}
theorem wX {I:Addr}{k:Nat}{x:Value}(st:s.heap.IsTupleIter I a k)(ta:s.heap.IsTuple a its)(hx:its[k]?=some x)
  (q:∀h',h'.IsTupleIter I a (k+1)→Heap.SameBut I s.heap h'→Q x {s with heap:=h'}):wpAny (model prog w) A (Builtin.SmallTypes.nextOf (.ref I)) Q E s:=by
 obtain⟨u,hu,uc,ud⟩:=id st
 obtain⟨oa,hoa,_,na,da⟩:=ta
 unfold Builtin.SmallTypes.nextOf
 refine wpAny_bind (wpAny_callSpecial?_slot (name:=Str.ofString "__next__") st.typeIs F.slot_tuple_iterator_next (wpAny_call_entry F.slot_tuple_iterator_next st.typeIs F.entry_tuple_iterator_next ?_ (F.args_tuple_iterator_next_1 _)))
 show wpAny _ _ (field (.ref I) 0 >>= _) _ _ s
 refine wpAny_bind (wpAny_field hu ud (x:=.ref a) rfl ?_)
 show wpAny _ _ (if(Value.ref a==Value.none)=true then _ else _) _ _ s
 rw[if_neg (show¬((Value.ref a==Value.none)=true) from Bool.false_ne_true)]
 show wpAny _ _ (field (.ref I) 1 >>= _) _ _ s
 refine wpAny_bind (wpAny_field hu ud (x:=.int k 0) rfl ?_)
 show wpAny _ _ (seqItems? (.ref a) >>= _) _ _ s
 refine wpAny_bind (wpAny_seqItems hoa da ?_)
 simp only[Int.toNat_natCast,hx]
 refine wpAny_bind (wpAny_setField hu ud (by simp) (wpAny_pure ⟨x,rfl,wpAny_pure (q _ ?_ (Heap.SameBut.update ..))⟩))
 exact⟨_,Heap.get?_update_self _ hu (Obj.isFreed_of_fields (Obj.data_mapFields ud _)),(Obj.cls_mapFields ..).trans uc,by rw[Obj.data_mapFields ud];simp[rawInt]⟩
theorem lC {I:Addr}{k:Nat}{Q:Value→Shared→Prop}(hh:A.handled=none)(st:s.heap.IsTupleIter I a k)(ta:s.heap.IsTuple a its)(hx:its[k]?=none)
  (q:∀h' e,Heap.ExtBut I s.heap h'→(∃o,h'.get? e=some o∧o.cls=.type "StopIteration")→E (.ref e) {s with heap:=h'}):wpAny (model prog w) A (Builtin.SmallTypes.nextOf (.ref I)) Q E s:=by
 obtain⟨u,hu,uc,ud⟩:=id st
 obtain⟨oa,hoa,_,na,da⟩:=ta
 unfold Builtin.SmallTypes.nextOf
 refine wpAny_bind (wpAny_callSpecial?_slot (name:=Str.ofString "__next__") st.typeIs F.slot_tuple_iterator_next (wpAny_call_entry F.slot_tuple_iterator_next st.typeIs F.entry_tuple_iterator_next ?_ (F.args_tuple_iterator_next_1 _)))
 show wpAny _ _ (field (.ref I) 0 >>= _) _ _ s
 refine wpAny_bind (wpAny_field hu ud (x:=.ref a) rfl ?_)
 show wpAny _ _ (if(Value.ref a==Value.none)=true then _ else _) _ _ s
 rw[if_neg (show¬((Value.ref a==Value.none)=true) from Bool.false_ne_true)]
 show wpAny _ _ (field (.ref I) 1 >>= _) _ _ s
 refine wpAny_bind (wpAny_field hu ud (x:=.int k 0) rfl ?_)
 show wpAny _ _ (seqItems? (.ref a) >>= _) _ _ s
 refine wpAny_bind (wpAny_seqItems hoa da ?_)
 simp only[Int.toNat_natCast,hx]
 refine wpAny_bind (wpAny_rule (wpAny_bind (wpAny_setField hu ud (by simp) ?_)))
 show wpAny _ _ (newExc (.type "StopIteration") [] >>= _) _ _ _
 refine wpAny_bind ?_
 simp only[newExc,newTuple]
 refine wpAny_bind (wpAny_newObj_type ?_ (by size_fits))
 refine wpAny_bind (m:=firstArgMember _ _) (wpAny_of_eq (a:=Value.none) (by first|rfl|(simp only[firstArgMember];rfl)) ?_)
 refine wpAny_newObj_type ?_ (by size_fits)
 simp only[raiseNew]
 refine wpAny_bind (wpAny_handled ?_)
 first|rw[show A.in1.handled=none from hh]|rw[hh]
 exact wpAny_bind (wpAny_pure (wpAny_throw (q _ _ (((Heap.SameBut.update ..).extBut.push _).push _) ⟨_,Heap.get?_push_size _ rfl,rfl⟩)))
end
theorem zZ {prog:Program}{w:World}{A:Around}(hh:A.handled=none)(I a:Addr)(hne:a≠I)(its:Array Value) :
  Draws prog w A I [I,a] its.size (fun i v=>its[i]?=some v) (fun i h=>h.IsTupleIter I a i∧h.IsTuple a its) where
 live:=fun _ _ st=>let ⟨o,ho,_⟩:=st.1;⟨o,ho⟩
 frame:=fun _ _ _ st hk=>⟨st.1.at fun o e=>hk I (by simp) o e,let ⟨o,ho,r⟩:=st.2;⟨o,hk a (by simp) o ho,r⟩⟩
 item:=fun i s Q E hi st hQ=>wX st.1 st.2 (x:=its[i]) (by simp[hi]) fun h' hit' hs'=>hQ _ h' s.toks (by simp[hi]) ⟨hit',st.2.extBut hs'.extBut hne⟩ hs'
 done:=fun s Q E st hE=>lC hh st.1 st.2 (by simp) hE
open AutoSeq1 (wpAny_loadPart') in
theorem u7 (a:Addr)(its:Array Value)(n:Nat)(dct:Option Addr)(sl:Array (Option Value)) :
  Meets (Builtin.«enumerate.__new__» ⟨[.type "enumerate",.ref a],[]⟩) (fun _ R s=>s.heap.get? a=some {cls:=.type "tuple",dict:=dct,data:=.seq its n,slots:=sl}∧
   R (.ok (.ret (.ref (s.heap.push {cls:=.type "tuple_iterator",data:=.fields #[.ref a,.int 0 0]}).objs.size)))
    {s with heap:=(s.heap.push {cls:=.type "tuple_iterator",data:=.fields #[.ref a,.int 0 0]}).push {cls:=.type "enumerate",data:=.fields #[.none,.bool false,.ref s.heap.objs.size,rawInt 0,.none,.none]}}):=
 .of_wp fun prog w A R s hh=>by
  obtain⟨hp,g,d,tk,os⟩:=s
  obtain⟨ha,hr⟩:=hh
  have hsub:=sub_enumerate
  have hT:Heap.IsTuple (Shared.heap ⟨hp,g,d,tk,os⟩) a its:=⟨_,ha,rfl,n,rfl⟩
  wp_walk using wpAny_loadPart' ha
  refine wpAny_stack_any fun st=>wpAny_pure ?_
  split
  ·rename_i c _ _ _ _ _
   cases (c==Value.type "enumerate")
   all_goals
    wp_walk using wpAny_loadPart' ha,wpAny_pyIter_tuple hT
    exact⟨_,rfl,hr⟩
  ·wp_walk using wpAny_loadPart' ha,wpAny_pyIter_tuple hT
   exact⟨_,rfl,hr⟩
theorem sw {prog:Program}{w:World}{A:Around}{E:Value→Shared→Prop}{s:Shared}(hT:s.heap.IsTuple a its)
  (q:∀h',IsEnum h' (s.heap.objs.size+1) s.heap.objs.size 0 .none→h'.IsTupleIter s.heap.objs.size a 0→h'.objs.size=s.heap.objs.size+2→
   (∀b o,s.heap.get? b=some o→h'.get? b=some o)→Q (.ref (s.heap.objs.size+1)) {s with heap:=h'}):wpAny (model prog w) A (call (.type "enumerate") [.ref a]) Q E s:=by
 obtain⟨⟨c,dct,dt,sl⟩,ha,hc,n,hd⟩:=hT
 have hc:c=.type "tuple":=hc
 have hd:dt=.seq its n:=hd
 subst hc hd
 refine callType_new F.called_enumerate (by decide) (F.typeCall_enumerate_1 _) (F.newCall_enumerate_1 _) (fun obj=>F.args_object_init_2 obj _) F.entry_enumerate_new (u7 a its n dct sl) ⟨ha,?_⟩
 have hz:(s.heap.push {cls:=.type "tuple_iterator",data:=.fields #[.ref a,.int 0 0]}).objs.size=s.heap.objs.size+1:=Heap.size_push ..
 show _∧_
 rw[hz]
 have he:IsEnum ((s.heap.push {cls:=.type "tuple_iterator",data:=.fields #[.ref a,.int 0 0]}).push {cls:=.type "enumerate",data:=.fields #[.none,.bool false,.ref s.heap.objs.size,rawInt 0,.none,.none]}) (s.heap.objs.size+1) s.heap.objs.size 0 .none:=by
  have z:=Heap.get?_push_size (s.heap.push {cls:=.type "tuple_iterator",data:=.fields #[.ref a,.int 0 0]}) (o:={cls:=.type "enumerate",data:=.fields #[.none,.bool false,.ref s.heap.objs.size,rawInt 0,.none,.none]}) rfl
  rw[hz] at z;exact z
 exact⟨⟨_,he,rfl⟩,q _ he ⟨_,Heap.get?_push_of_some _ (Heap.get?_push_size _ rfl),rfl,rfl⟩ (by rw[Heap.size_push,hz]) fun b o z=>Heap.get?_push_of_some _ (Heap.get?_push_of_some _ z)⟩
variable{ch:List Addr}{h':Heap}
section
variable {X:Cx}{ah:List (Addr×Obj)}{σ:L2.St}{H:Hp}{s:Shared}
theorem vg {o:HO}{t':Nat}(I:L2.Inv X ah σ H s)(hf:∀b∈ch,j9 X ah H b)(k:∀b u,b∉ch→s.heap.get? b=some u→h'.get? b=some u)
  (hp:s.heap.objs.size≤a) (new:cP X.prog X.w (cj H a o) h' a o):L2.Inv X ah σ (cj H a o) {s with heap:=h',toks:=t'}:=by
 have hn:H a=none:=I.hok.fresh hp
 have ne:∀{b:Addr} {u:HO},H b=some u→b≠a:=fun {b u} e z=>by rw[z,hn] at e;cases e
 have nch:∀b u,H b=some u→b∉ch:=fun b u e z=>by rw[(hf b z).1] at e;cases e
 refine I.step (g':=s.gens) (d':=s.drawn) (ch:=ch) (fun b hb=>⟨(hf b hb).2.2.2.1,(hf b hb).2.1,(hf b hb).2.2.2.2.1,(hf b hb).2.2.2.2.2⟩) (fun b u _ _ hc e _=>k b u hc e) (fun b u _ _ hc e _=>⟨u.slots,k b u hc e⟩)
  (fun b u _ e n=>by rw[az (Nat.ne_of_lt (Nat.lt_of_lt_of_le (Heap.lt_size e) hp))];exact n) (fun b u hc e=>⟨u,k b u hc e⟩) (fun b xs e=>by rw[az (ne e)];exact e) (fun b u v e=>by rw[az (ne e)];exact e)
  (fun b ps e=>⟨#[],by rw[az (ne e),e];simp⟩) (fun m hm=>?_) (fun b u e=>?_) I.bare
 ·obtain⟨u,es,ep,ho,r⟩:=hm
  exact⟨u,es,ep,k _ u (fun z=>(hf _ z).2.1 rfl) ho,r⟩
 ·by_cases hb:b=a
  ·subst hb
   rw[bE] at e;cases e
   exact new
  ·rw[az hb] at e
   refine(I.hok b u e).stay (fun c v hc q=>k c v ?_ q) (fun c q=>by rw[az (ne q)];exact q) fun c xs q=>by rw[az (ne q)];exact q
   rcases hc with z|z
   ·rw[z];exact nch b u e
   ·exact nch c _ z
theorem zY {t':Nat}(I:L2.Inv X ah σ H s)(hf:∀b∈ch,j9 X ah H b)(k:∀b u,b∉ch→s.heap.get? b=some u→h'.get? b=some u):L2.Inv X ah σ H {s with heap:=h',toks:=t'}:=by
 have nch:∀b u,H b=some u→b∉ch:=fun b u e z=>by rw[(hf b z).1] at e;cases e
 refine I.step (g':=s.gens) (d':=s.drawn) (ch:=ch) (fun b hb=>⟨(hf b hb).2.2.2.1,(hf b hb).2.1,(hf b hb).2.2.2.2.1,(hf b hb).2.2.2.2.2⟩) (fun b u _ _ hc e _=>k b u hc e) (fun b u _ _ hc e _=>⟨u.slots,k b u hc e⟩)
  (fun b u _ e n=>n) (fun b u hc e=>⟨u,k b u hc e⟩) (fun b xs e=>e) (fun b u v e=>e) (fun b ps e=>⟨#[],by rw[e];simp⟩) (fun m hm=>?_) (fun b u e=>?_) I.bare
 ·obtain⟨u,es,ep,ho,r⟩:=hm
  exact⟨u,es,ep,k _ u (fun z=>(hf _ z).2.1 rfl) ho,r⟩
 ·refine(I.hok b u e).stay (fun c v hc q=>k c v ?_ q) (fun c q=>q) fun c xs q=>q
  rcases hc with z|z
  ·rw[z];exact nch b u e
  ·exact nch c _ z
end
def LW (K:W.Frag)(b:Bool)(H:Hp)(a:Addr)(xs:List V):Prop:=match b with
 | true=>pV K H a xs
 | false=>mE K H a xs
def zT (K:W.Frag)(b:Bool)(a:Addr):It:=
 ⟨fun i H=>∃xs x,LW K b H a xs∧xs[i]?=some x,fun i H x H'=>∃p y,H p=none∧H'=cj H p (.tup [.int (i:Int),y])∧x=.ref p∧∀xs,LW K b H a xs→xs[i]?=some y,fun i H=>∃xs,LW K b H a xs∧xs.length≤i⟩
def iC (b:Bool)(h:Heap)(it a:Addr)(i:Nat):Prop:=match b with
 | true=>h.IsTupleIter it a i
 | false=>h.IsListIter it a i
variable{b:Bool}{i:Nat}
theorem iC.at {h:Heap}{it:Addr}(x:iC b h it a i)(e:∀o,h.get? it=some o→h'.get? it=some o):iC b h' it a i:=by
 cases b with
 | true=>exact Heap.IsTupleIter.at x e
 | false=>exact Heap.IsListIter.at x e
theorem iC.obj {h:Heap}{it:Addr}(x:iC b h it a i):∃o,h.get? it=some o∧(o.cls=.type "tuple_iterator"∨o.cls=.type "list_iterator")∧∃vs,o.data=.fields vs:=by
 cases b with
 | true=>obtain⟨o,e,c,d⟩:=x;exact⟨o,e,.inl c,_,d⟩
 | false=>obtain⟨o,e,c,d⟩:=x;exact⟨o,e,.inr c,_,d⟩
variable{K:W.Frag}
theorem zL {P:Program}{w:World}{es:List Expr}{kt:Nat}{pos:Pos}(b:Bool)(a e it:Addr):Ap P w K (.Tuple es kt pos) (zT K b a) [e,it] e (fun i h=>(∃old,IsEnum h e it (i:Int) old)∧iC b h it a i) where
 mem:=by simp
 obj:=fun i h st c hc=>by
  obtain⟨⟨old,he⟩,hs⟩:=st
  obtain⟨o,ho,_,vs,hd⟩:=hs.obj
  rcases List.mem_cons.mp hc with q|q
  ·subst q
   exact⟨_,he,fun v z=>by cases z⟩
  ·rw[List.mem_singleton.mp q]
   exact⟨o,ho,fun v z=>by rw[hd] at z;cases z⟩
 keep:=fun i h h' st k=>⟨st.1.imp fun old he=>k e (by simp) _ he,st.2.at fun o q=>k it (by simp) o q⟩
 item:=by
  intro X hP hw hK hc i ah s σ H E I hf st hg
  subst hP hw hK
  obtain⟨⟨old,he⟩,hs⟩:=st
  obtain⟨xs,x,hq,hx⟩:=hg
  have hei:e≠it:=fun z=>by
   obtain⟨o,ho,hcl,_⟩:=hs.obj
   rw[←z,he] at ho;cases ho
   rcases hcl with q|q <;> simp at q
  have main:∀(its:List Value) (fp:List Addr) (St:Nat→Heap→Prop),aZ xs its→Draws X.prog X.w X.A.in1 it fp its.length (fun i v=>its[i]?=some v) St→e∉fp→St i s.heap→(∀h,St (i+1) h→iC b h it a (i+1))→
    wpAny (model X.prog X.w) X.A (pyNext (.ref e)) (fun r s1=>∃u,r=some u∧
     wpAny (model X.prog X.w) X.A (letOwnedTupleGo (.Tuple es kt pos) (.ref e) u) (fun _ s2=>∃x H',L2.Inv X ah σ H' s2∧RelV x u∧(zT X.K b a).yld i H x H'∧((∃old,IsEnum s2.heap e it ((i+1:Nat):Int) old)∧iC b s2.heap it a (i+1))∧∀b∈[e,it],H' b=none) E s1) E s:=by
   intro its fp St rv D hef hst hback
   have hil:i<its.length:=by rw[←rv.length];exact(List.getElem?_eq_some_iff.mp hx).1
   obtain⟨u,hu,ru⟩:=rv.get hx
   refine wpAny_pyNext_enum_itemD D he hst hil hei hef fun y h' tk hP ho hs' hT hsz hk=>?_
   have ey:y=u:=by
    have hP:its[i]?=some y:=hP
    rw[hu] at hP;exact(Option.some.inj hP).symm
   subst ey
   have helt:e<s.heap.objs.size:=Heap.lt_size he
   refine⟨_,rfl,wpAny_letOwnedTupleGo_enum ho fun h2 he2 hs2=>?_⟩
   have hs2:Heap.SameBut e h' h2:=hs2
   have hT2:h2.get? s.heap.objs.size=some {cls:=.type "tuple",data:=.seq #[.int i tk,y]}:=(hs2.2 _ (Nat.ne_of_gt helt)).trans hT
   have fr:H s.heap.objs.size=none:=I.hok.fresh (Nat.le_refl _)
   have new:cP X.prog X.w (cj H s.heap.objs.size (.tup [.int (i:Int),x])) h2 s.heap.objs.size (.tup [.int (i:Int),x]):=
    ⟨Nat.le_trans (by decide:2≤1000) (by rw[sizeLine_eq];decide),[.int i tk,y],.cons ⟨tk,rfl⟩ (.cons ru .nil),⟨_,hT2,rfl,_,rfl⟩⟩
   have I2:=vg (t':=tk+1) I hf (fun c o hc q=>(hs2.2 c (fun z=>hc (by simp[z]))).trans (hk c o (fun z=>hc (by simp[z])) (fun z=>hc (by simp[z])) q)) (Nat.le_refl _) new
   have inj:∀ys,LW X.K b H a ys→ys[i]?=some x:=fun ys hy=>by
    cases b with
    | true=>rw[I.tuple_inj hy hq];exact hx
    | false=>rw[I.list_inj hy hq];exact hx
   refine⟨.ref s.heap.objs.size,_,I2,rfl,⟨_,x,fr,rfl,rfl,inj⟩,⟨⟨y,by simpa using he2⟩,(hback h' hs').at fun o q=>(hs2.2 it (Ne.symm hei)).trans q⟩,fun c hc=>?_⟩
   have:c≠s.heap.objs.size:=by
    obtain⟨o,ho2,_⟩:=hs.obj
    rcases List.mem_cons.mp hc with q|q
    ·rw[q];exact Nat.ne_of_lt helt
    ·rw[List.mem_singleton.mp q];exact Nat.ne_of_lt (Heap.lt_size ho2)
   rw[az this]
   exact(hf c hc).1
  cases b with
  | false=>
   obtain⟨its,rv,p,hz⟩:=I.list (show mE X.K H a xs from hq)
   have hli:a≠it:=fun z=>by
    obtain⟨o,ho,hcl,_⟩:=hs.obj
    obtain⟨ol,hol,hlc,_⟩:=p.isList
    rw[z,ho] at hol;cases hol
    rw[hlc] at hcl
    rcases hcl with q|q <;> simp at q
   have hle:e≠a:=fun z=>by
    obtain⟨ol,hol,hlc,_⟩:=p.isList
    rw[←z,he] at hol;cases hol
    simp at hlc
   have D:=Draws.list (prog:=X.prog) (w:=X.w) (A:=X.A.in1) (show X.A.in1.handled=none from I.ok.hd hc) it a hli its.toArray
   rw[List.size_toArray] at D
   exact main its [it,a] (fun i h=>h.IsListIter it a i∧h.IsList a its.toArray) rv (by simpa using D) (by simp[hei,hle]) (show s.heap.IsListIter it a i∧s.heap.IsList a its.toArray from⟨hs,p.isList⟩) fun h q=>q.1
  | true=>
   obtain⟨its,rv,p,hz⟩:=I.tuple (show pV X.K H a xs from hq)
   have p:s.heap.IsTuple a its.toArray:=p
   have hli:a≠it:=fun z=>by
    obtain⟨o,ho,hcl,_⟩:=hs.obj
    obtain⟨ol,hol,hlc,_⟩:=id p
    rw[z,ho] at hol;cases hol
    rw[hlc] at hcl
    rcases hcl with q|q <;> simp at q
   have hle:e≠a:=fun z=>by
    obtain⟨ol,hol,hlc,_⟩:=id p
    rw[←z,he] at hol;cases hol
    simp at hlc
   have D:=zZ (prog:=X.prog) (w:=X.w) (A:=X.A.in1) (show X.A.in1.handled=none from I.ok.hd hc) it a hli its.toArray
   rw[List.size_toArray] at D
   exact main its [it,a] (fun i h=>h.IsTupleIter it a i∧h.IsTuple a its.toArray) rv (by simpa using D) (by simp[hei,hle]) (show s.heap.IsTupleIter it a i∧s.heap.IsTuple a its.toArray from⟨hs,p⟩) fun h q=>q.1
 done:=by
  intro X hP hw hK hc i ah s σ H E I hf st hg
  subst hP hw hK
  obtain⟨⟨old,he⟩,hs⟩:=st
  obtain⟨xs,hq,hx⟩:=hg
  have hnx:∀h',Heap.ExtBut it s.heap h'→(none:Option Value)=none∧L2.Inv X ah σ H {s with heap:=h'}:=fun h' hb=>
   ⟨rfl,zY (t':=s.toks) I hf fun c o hc q=>hb c o (fun z=>hc (by simp[z])) q⟩
  have hT:s.TypeIs (.ref e) "enumerate":=⟨_,he,rfl⟩
  unfold pyNext
  refine wpAny_bind (wpAny_attempt (wpAny_callSpecial?_slot (name:=Str.ofString "__next__") hT F.slot_enumerate_next (wpAny_call_entry F.slot_enumerate_next hT F.entry_enumerate_next ?_ (F.args_enumerate_next_1 _))))
  show wpAny _ _ (field (.ref e) 2 >>= _) _ _ _
  refine wpAny_bind (wpAny_field he rfl (x:=.ref it) rfl (wpAny_bind ?_))
  have stp:∀h' x,Heap.ExtBut it s.heap h'→(∃o,h'.get? x=some o∧o.cls=.type "StopIteration")→wpAny (model X.prog X.w) X.A (isInstance (.ref x) (.type "StopIteration") >>= fun b=>if b=true then pure none else throw (Value.ref x)) (fun(r:Option Value) s1=>r=none∧L2.Inv X ah σ H s1) E {s with heap:=h'}:=fun h' x hb hx'=>by
   obtain⟨o,ho,hcl⟩:=hx'
   refine wpAny_bind (wpAny_isInstance (T:="StopIteration") (b:=true) ⟨o,ho,hcl⟩ isSubtype_stop ?_)
   exact wpAny_pure (hnx _ hb)
  cases b with
  | false=>
   obtain⟨its,rv,p,hz⟩:=I.list (show mE X.K H a xs from hq)
   have hl:=rv.length
   exact wpAny_nextOf_list_end (show X.A.in1.handled=none from I.ok.hd hc) hs p.isList (by simp;omega) stp
  | true=>
   obtain⟨its,rv,p,hz⟩:=I.tuple (show pV X.K H a xs from hq)
   have p:s.heap.IsTuple a its.toArray:=p
   have hl:=rv.length
   exact lC (show X.A.in1.handled=none from I.ok.hd hc) hs p (by simp;omega) stp
 self:=fun _ _ _ _ _ st h=>by
  obtain⟨⟨old,he⟩,_⟩:=st
  exact wpAny_pyIter_enum he h
theorem Ey {X:Cx}{es:List Expr}{kt:Nat}{tp:Pos}{l:Expr}{tl:TA}{p pos:Pos}(hg:Gl X "enumerate")(hm:X.mg "enumerate"=none)(hv:bootBuiltins "enumerate"=some (.type "enumerate"))(hl:PA X [l] tl)(hs:starEach [l] X.env=[(false,eval l X.env)]:=by rfl) :
  PI X (.Tuple es kt tp) (.Call (.Name "enumerate" p) [l] [] pos) (fun σ H R=>tl σ H fun xs H1=>∃a,xs=[.ref a]∧(((∃xs,mE X.K H1 a xs)∧R (zT X.K false a) H1)∨((∃xs,pV X.K H1 a xs)∧R (zT X.K true a) H1))):=by
 intro ah s σ H R I h
 refine Call_ (oO I hg hm hv (PyProof.Rows.callWith_type1 (cF (hl pos ah s σ H _ I h) fun us s1 ⟨vs,H1,I1,r1,q1⟩=>?_) hs rfl))
 obtain⟨a,e,q1⟩:=q1
 subst e
 cases r1 with
 | cons r rr=>
  cases rr
  have r:_=Value.ref a:=r
  subst r
  have fin:∀(b:Bool) (h':Heap),IsEnum h' (s1.heap.objs.size+1) s1.heap.objs.size 0 .none→iC b h' s1.heap.objs.size a 0→h'.objs.size=s1.heap.objs.size+2→(∀c o,s1.heap.get? c=some o→h'.get? c=some o)→R (zT X.K b a) H1→
    wpAny (model X.prog X.w) X.A (pyIter (.ref (s1.heap.objs.size+1))) (Nl X ah σ (.Tuple es kt tp) R) X.xe {s1 with heap:=h'}:=fun b h' he hi hz hk q=>by
   refine wpAny_pyIter_enum he ⟨_,[s1.heap.objs.size+1,s1.heap.objs.size],_,_,H1,rfl,I1.kept (t':=s1.toks) hk,zL b a _ _,⟨⟨_,he⟩,hi⟩,fun c hc=>?_,q⟩
   have hb:s1.heap.objs.size≤c:=by
    rcases List.mem_cons.mp hc with z|z
    ·rw[z];exact Nat.le_succ _
    ·rw[List.mem_singleton.mp z];exact Nat.le_refl _
   exact I1.fpOk hb (I1.hok.fresh hb)
  rcases q1 with⟨⟨xs,hq⟩,q⟩|⟨⟨xs,hq⟩,q⟩
  ·obtain⟨its,rv,p,hz⟩:=I1.list hq
   exact call_enumerate_list p.isList fun h' he hi hz hk=>fin false h' he hi hz hk q
  ·obtain⟨its,rv,p,hz⟩:=I1.tuple hq
   exact sw (show s1.heap.IsTuple a its.toArray from p) fun h' he hi hz hk=>fin true h' he hi hz hk q
def ju (ds:List D):List D:=(List.range ds.length).zipWith (fun(k:Nat) d=>D.tup [.int (k:Int),d]) ds
variable{ds:List D}
theorem o6 {d:D}(h:(ju ds)[i]?=some d):∃x,ds[i]?=some x∧d=.tup [.int (i:Int),x]:=by
 unfold ju at h
 rw[List.getElem?_zipWith] at h
 cases q:ds[i]? with
 | none=>rw[q] at h;simp at h
 | some x=>
  have hi:=(List.getElem?_eq_some_iff.mp q).1
  rw[q,List.getElem?_range hi] at h
  exact⟨x,rfl,(Option.some.inj h).symm⟩
theorem kP (ds:List D):(ju ds).length=ds.length:=by simp[ju]
def A6 (ds:List D)(M:aA):bn vf:=match ds with
 | [.lst xs]=>.ok ⟨ju xs,none⟩ M
 | [.ro xs]=>.ok ⟨ju xs,none⟩ M
 | [.tup xs]=>.ok ⟨ju xs,none⟩ M
 | _=>.bad
def kY (g:GA):GI:=fun ρ M=>(g ρ M).bind A6
theorem qq {θ:List Addr}{H:Hp}{vs:List V}(ta:∀θ1 H1,Grow θ H θ1 H1→LW K b H1 a vs)(r:bA K θ H ds vs):Dz K (zT K b a) θ H ⟨ju ds,none⟩:=by
 intro θ1 H1 M1 g _ i
 have t1:=ta θ1 H1 g.toGrow
 have r1:=r.go g
 refine⟨fun d e=>?_,fun hl=>⟨vs,t1,by rw[←av r1];rw[kP] at hl;exact hl⟩⟩
 obtain⟨x,ex,ed⟩:=o6 e
 subst ed
 obtain⟨v,e1,rv⟩:=fZ r1 ex
 refine⟨⟨vs,v,t1,e1⟩,fun x' H2 y=>?_⟩
 obtain⟨p,y',np,eH,exr,hy⟩:=y
 have e2:=hy vs t1
 rw[e1] at e2;cases e2
 subst eH exr
 exact⟨dR g.wr np,iI (ds:=[.int (i:Int),x]) g.wr np ⟨_,_,rfl,rfl,_,_,rfl,rv,rfl⟩⟩
theorem EN {X:Cx}{es:List Expr}{kt:Nat}{tp:Pos}{l:Expr}{g:GA}{p pos:Pos}(hg:Gl X "enumerate")(hm:X.mg "enumerate"=none)(hv:bootBuiltins "enumerate"=some (.type "enumerate"))(hl:PA X [l] (tA X g))(hs:starEach [l] X.env=[(false,eval l X.env)]:=by rfl) :
  PI X (.Tuple es kt tp) (.Call (.Name "enumerate" p) [l] [] pos) (tI X (kY g)):=by
 intro ah s σ H R I h
 refine Ey hg hm hv hl hs ah s σ H R I ?_
 obtain⟨ρ,θ,M,hd,hw,h⟩:=h
 refine mB hd hw (BM X θ H R) (fun c M' h=>h) (fun h=>h) h fun ds M1 vs θ1 H1 g1 r1 h1=>?_
 unfold A6 at h1
 split at h1
 ·obtain⟨v,r,e,⟨a,us,e2,ta,rs⟩,rr⟩:=r1
  have rr:r=[]:=rr
  subst rr e2
  exact⟨a,e,.inl ⟨⟨us,ta.sq⟩,h1 _ θ1 H1 g1 (qq (b:=false) (fun θ2 H2 g2=>(ta.grow g2).sq) rs)⟩⟩
 ·obtain⟨v,r,e,⟨a,us,e2,ta,rs⟩,rr⟩:=r1
  have rr:r=[]:=rr
  subst rr e2
  exact⟨a,e,.inl ⟨⟨us,ta.sq⟩,h1 _ θ1 H1 g1 (qq (b:=false) (fun θ2 H2 g2=>(ta.grow g2).sq) rs)⟩⟩
 ·obtain⟨v,r,e,⟨a,us,e2,ta,rs⟩,rr⟩:=r1
  have rr:r=[]:=rr
  subst rr e2
  exact⟨a,e,.inr ⟨⟨us,ta.sq⟩,h1 _ θ1 H1 g1 (qq (b:=true) (fun θ2 H2 g2=>(ta.grow g2).sq) rs)⟩⟩
 ·exact h1.elim
end DL
namespace DL
open PySem PySem.Spec PyProof.Rows L2
section
variable {X:Cx}{e o lo hi:Expr}{g go gl gh:GE}{pos ip sp:Pos}
def Bc:GE:=fun _ _=>.bad
theorem Ii:PE X e (tE X Bc):=fun ah s σ H Q I h=>by
 obtain⟨ρ,θ,M,hd,hw,h⟩:=h
 exact h.elim
end
def H0 (K:W.Frag)(a:Addr)(so:Obj)(xs:List V)(ts:List Addr)(bm:Addr)(ob:Obj):Hp:=fun b=>
 if b=a then(if K.lookup a=none then some (.frz so (.lst xs)) else none) else if b∈ts then some (.tbl #[]) else if b=bm then some (NY ob) else none
structure N2 (K:W.Frag)(h:Heap)(ts:List Addr)(bm:Addr)(ob:Obj):Prop where
 tab:∀P∈ts,h.get? P=some (W.tabObj #[])∧isCodeTable h P∧K.lookup P=none
 names:∀x,x∈cy→∀c P,W.tabIn K x=some (c,P)→P∈ts
 bmk:W.nsIn K mainGlobals "__builtins__"=some (some (.ref bm))
 bmh:h.get? bm=some ob
 bmc:ob.cls=.type "module"∧ob.dict=some builtinsNs∧ob.data=.plain
 bmn:bm≠builtinsNs∧bm≠mainGlobals
 bml:K.lookup bm=none
variable{K:W.Frag}{h:Heap}{a:Addr}
theorem Bg {so:Obj}{xs:List V}{ts:List Addr}{bm:Addr}{ob:Obj}(L:N2 K h ts bm ob)(ha:h.get? a=some so)(sc:so.cls=.type "list"):mL K (H0 K a so xs ts bm ob):=by
 have neT:∀P∈ts,P≠a:=fun P hP e=>by
  have:=(L.tab P hP).1
  rw[e,ha] at this
  cases this
  cases sc
 have neB:bm≠a:=fun e=>by
  have:=L.bmh
  rw[e,ha] at this
  cases this
  have:=L.bmc.1
  rw[sc] at this
  simp at this
 have nBT:bm∉ts:=fun hb=>by
  have:=(L.tab bm hb).1
  rw[L.bmh] at this
  cases this
  have:=L.bmc.1
  simp at this
 refine⟨fun x hx c P e=>?_,fun x hx c P e=>⟨bm,ob,L.bmk,?_,L.bmc.1,L.bmc.2.1,L.bmc.2.2,L.bmn⟩⟩
 ·have hP:=L.names x hx c P e
  refine⟨#[],?_,by simp[TriplesOk],fun pos cv q=>by simp[codeAmong] at q⟩
  unfold H0
  rw[if_neg (neT P hP),if_pos hP]
 ·unfold H0
  rw[if_neg neB,if_neg nBT,if_pos rfl]
variable{mg:Str→Option Value}{x:Str}
theorem zO {P:Program}{w:World}{mb:Str→Option Value}{CX:Ad}{k:Nat}{fa:Addr}{fd:FuncData}{sp:Sp}{s₁:Shared}{vs:List Value}{ns:List Int}{ts:List Addr}{bm:Addr}{ob:Obj}
  (KX:K.In s₁.heap) (hns:s₁.heap.Ns mainGlobals mg) (hb:s₁.heap.Ns builtinsNs mb) (hbb:∀x:Str,x≠"__name__"→mb x=bootBuiltins x) (hlim:s₁.heap.NoLimit) (hg:s₁.gens=#[])
  (ha:s₁.heap.get? a=some {cls:=.type "list",data:=.seq vs.toArray}) (hi:IntsAre vs ns) (hl:ns.length≤sizeLine) (hr:bI k callerA) (L:N2 K s₁.heap ts bm ob)
  (F:∀base:Heap,K.In base→base.Ns mainGlobals mg→dN P w K mg base CX k fa fd [x] sp) (hbind:∀(s:Shared) (u:Value),BindsTo s fd ⟨[u],[]⟩ [(x,u)])
  (hsp:∀H:Hp,mL K H→mE K H a (ns.map V.int)→sp [.ref a] H (fun v _=>v=.bl true) fun _ _ _=>False)
  (hCX:∀H e s',CX [] H s₁ (fun _ _ _=>False) e s'→False) :
  codeAny (model P w) callerA (.call (.ref fa) ⟨[.ref a],[]⟩) (fun r s'=>r=.ok (.ret (.bool true))∧OldK s₁.heap s'.heap∧s'.os=s₁.os∧AllBare s'.gens) s₁:=by
 have rv:=tq hi
 have lenV:=hi.length
 have hH:∃H:Hp,H=H0 K a {cls:=.type "list",data:=.seq vs.toArray} (ns.map V.int) ts bm ob:=⟨_,rfl⟩
 obtain⟨H,eH⟩:=hH
 have tb:mL K H:=by rw[eH];exact Bg L ha rfl
 have at_:∀b u,H b=some u→(b=a∧K.lookup a=none∧u=.frz {cls:=.type "list",data:=.seq vs.toArray} (.lst (ns.map V.int)))∨(b≠a∧b∈ts∧u=.tbl #[])∨(b=bm∧u=NY ob):=fun b u e=>by
  rw[eH] at e
  unfold H0 at e
  by_cases h1:b=a
  ·rw[if_pos h1] at e
   by_cases h2:K.lookup a=none
   ·rw[if_pos h2] at e;cases e;exact .inl ⟨h1,h2,rfl⟩
   ·rw[if_neg h2] at e;cases e
  ·rw[if_neg h1] at e
   by_cases h2:b∈ts
   ·rw[if_pos h2] at e;cases e;exact .inr (.inl ⟨h1,h2,rfl⟩)
   ·rw[if_neg h2] at e
    by_cases h3:b=bm
    ·rw[if_pos h3] at e;cases e;exact .inr (.inr ⟨h3,rfl⟩)
    ·rw[if_neg h3] at e;cases e
 have hok:lN P w H s₁.heap:=fun b u e=>by
  rcases at_ b u e with⟨h1,_,h3⟩|⟨_,h2,h3⟩|⟨h1,h3⟩
  ·subst h1 h3
   exact⟨ha,by rw[List.length_map];exact hl,vs,_,rv,ha⟩
  ·subst h3
   exact(L.tab b h2).1
  ·subst h1 h3
   exact⟨L.bmh,trivial,⟨_,L.bmh⟩,fun _ _ _ _=>trivial⟩
 have hS:mE K H a (ns.map V.int):=by
  cases hk:K.lookup a with
  | some o=>
   have e:=KX a o hk
   rw[ha] at e
   cases e
   exact .inr ⟨_,vs.toArray,_,hk,rfl,rfl,rfl,by rw[List.size_toArray,lenV];exact hl,by simpa using rv⟩
  | none=>exact .inl (.inr ⟨{cls:=.type "list",data:=.seq vs.toArray},by rw[eH];unfold H0;rw[if_pos rfl,if_pos hk]⟩)
 have base_of:∀{b:Addr} {o:Obj},s₁.heap.get? b=some o→H b=none→(uR s₁.heap H).get? b=some o:=fun e n=>Dl e n
 have noA:∀{b:Addr} {o:Obj} {es:Array DictEntry} {ep:Nat},s₁.heap.get? b=some o→o.data=.dict es ep→H b=none:=fun {b o es ep} e d=>by
  cases q:H b with
  | none=>rfl
  | some u=>
   exfalso
   rcases at_ b u q with⟨h1,_,_⟩|⟨_,h2,_⟩|⟨h1,_⟩
   ·subst h1
    rw[ha] at e;cases e
    have d':Data.seq vs.toArray _=Data.dict es ep:=d
    cases d'
   ·rw[(L.tab b h2).1] at e;cases e;cases d
   ·subst h1
    rw[L.bmh] at e;cases e
    rw[L.bmc.2.2] at d;cases d
 have nsK:∀{b:Addr} {m:Str→Option Value},s₁.heap.Ns b m→(uR s₁.heap H).Ns b m:=fun {b m} ⟨o,es,ep,e,d,r⟩=>⟨o,es,ep,base_of e (noA e d),d,r⟩
 have hKb:K.In (uR s₁.heap H):=fun b o e=>base_of (KX b o e) (by
  cases q:H b with
  | none=>rfl
  | some u=>
   exfalso
   rcases at_ b u q with⟨h1,h2,_⟩|⟨_,h2,_⟩|⟨h1,_⟩
   ·subst h1;rw[h2] at e;cases e
   ·rw[(L.tab b h2).2.2] at e;cases e
   ·subst h1;rw[L.bml] at e;cases e)
 have hM:Mod K mg (uR s₁.heap H):=⟨hKb,nsK hns,⟨mb,nsK hb,hbb⟩,let ⟨mc,h1,h2⟩:=hlim;⟨mc,nsK h1,h2⟩⟩
 have e0:rR P w K mg (uR s₁.heap H) callerA [] s₁ H:=⟨rfl,hM,fun b o e=>D2 e,Nat.le_of_eq (zx _ _),trivial,fun b hb=>absurd (show b∈([]:List Addr) from hb) (by simp),hok,.of_eq hg⟩
 refine codeAny_mono ((F _ hKb (nsK hns)).run callerA [] s₁ H ⟨[.ref a],[]⟩ [.ref a] [.ref a] _ _ hr e0 (hbind s₁ (.ref a)) (.cons rfl .nil) (hsp H tb hS)) fun r s' h=>?_
 cases r with
 | error e=>exact(hCX H e s' h).elim
 | ok fl=>
  cases fl with
  | next=>exact False.elim h
  | brk=>exact False.elim h
  | cont=>exact False.elim h
  | ret u=>
   obtain⟨v,H',os,bare,un,hok',r',q⟩:=h
   have q':v=.bl true:=q
   subst q'
   obtain rfl:u=Value.bool true:=r'
   refine⟨rfl,⟨fun b o e=>?_,fun b o e=>?_⟩,os,bare⟩
   ·cases q:H b with
    | none=>exact .inl (un.keep b o e q (by intro z;exact absurd (show b∈([]:List Addr) from z) (by simp)) (by simp))
    | some u=>
     rcases at_ b u q with⟨h1,_,h3⟩|⟨_,h2,h3⟩|⟨h1,h3⟩
     ·subst h3
      have z2:=un.frzs b _ _ q
      obtain⟨e1,_⟩:=hok b _ q
      obtain⟨e2,_⟩:=hok' b _ z2
      rw[e] at e1;cases e1
      exact .inl e2
     ·subst h3
      obtain⟨more,z2⟩:=un.tbls b _ q
      have e1:s₁.heap.get? b=some {cls:=.none,data:=.fields #[]}:=hok b _ q
      have e2:s'.heap.get? b=some {cls:=.none,data:=.fields (#[]++more)}:=hok' b _ z2
      rw[e] at e1;cases e1
      exact .inr (.inl ⟨(L.tab b h2).2.1,rfl,#[],more,rfl,e2⟩)
     ·subst h3
      have z2:=un.frzs b _ _ q
      obtain⟨e1,_⟩:=hok b _ q
      obtain⟨e2,_⟩:=hok' b _ z2
      rw[e] at e1;cases e1
      exact .inl e2
   ·exact un.there b o e (by simp)
theorem Io {l:W.OpenLaw}{n k:Nat}{q:Program}{loose:List Str}{XP:(Str→Option Value)→Heap→Prop}{YP:World→Heap→Prop}{d:DefRec}{K:Params→W.Frag}{CX:World→Ad}{sp:World→Sp}
  (hn:l.most=some n) (hn2:n≤sizeLine) (hdf:d.params.defaults=[]) (hr:bI k callerA)
  (hY:∀(w:World) (h:Heap),YP w h→(K w.params).In h)
  (F:∀(w:World) (mg:Str→Option Value) (fa:Addr) (h:Heap),(K w.params).In h→h.Ns mainGlobals mg→mg d.name=some (.ref fa)→
   ∃fd:FuncData,(∀(s:Shared) (u:Value),BindsTo s fd ⟨[u],[]⟩ [(x,u)])∧
    ∀base:Heap,(K w.params).In base→base.Ns mainGlobals mg→dN l.prog w (K w.params) mg base (CX w) k fa fd [x] (sp w))
  (tabs:∀w:World,∃(ls:List (Str×DefRec×Addr×Addr)) (bm:Addr),(∀p∈ls,(recsOf q).find? (fun e=>e.name==p.1)=some p.2.1∧W.tabIn (K w.params) p.1=some (p.2.2.1,p.2.2.2)∧(K w.params).lookup p.2.2.2=none)∧
   (∀y,y∈cy→W.nsIn (K w.params) mainGlobals y=some none∨∃p∈ls,p.1=y)∧W.nsIn (K w.params) mainGlobals "__builtins__"=some (some (.ref bm))∧(K w.params).lookup bm=none)
  (hsp:∀(w:World) (H:Hp) (a:Addr) (ns:List Int),ns.length≤n→mL (K w.params) H→mE (K w.params) H a (ns.map V.int)→sp w [.ref a] H (fun v _=>v=.bl true) fun _ _ _=>False)
  (hCX:∀(w:World) (H:Hp) (s:Shared) (e:Value) (s':Shared),CX w [] H s (fun _ _ _=>False) e s'→False) :
  W.WalkO q loose XP YP l.row.toRowW d [] (fun f vs=>PySem.call f vs):=by
 refine Att.attach_call hn hdf fun w s₀ s₁ mg mb fa o pm cd doc a vs ns G Y ho hd hcd hmg hobj hints hlen hg=>?_
 have KX:=hY w _ Y
 obtain⟨fd,hb,hF⟩:=F w mg fa _ KX G.T.g hmg
 obtain⟨ls,bm,hls,hnm,hbm,hbl⟩:=tabs w
 obtain⟨bm',ob,b1,b2,b3,b4,b5,b6⟩:=G.T.bmain
 have eb:bm'=bm:=by
  have:=W.mg_of KX G.T.g hbm
  rw[b1] at this;cases this;rfl
 subst eb
 have L:N2 (K w.params) s₁.heap (ls.map (·.2.2.2)) bm' ob:=by
  refine⟨fun P hP=>?_,fun y hy c P e=>?_,hbm,?_,?_,?_,hbl⟩
  ·obtain⟨p,hp,rfl⟩:=List.mem_map.mp hP
   obtain⟨h1,h2,h3⟩:=hls p hp
   obtain⟨c1,c2⟩:=W.tab_of G.T KX h1 h2
   exact⟨c2,(c1.tab c2).isCodeTable,h3⟩
  ·rcases hnm y hy with q|⟨p,hp,q⟩
   ·unfold W.tabIn at e
    rw[q] at e
    cases e
   ·subst q
    obtain⟨h1,h2,h3⟩:=hls p hp
    rw[h2] at e
    cases e
    exact List.mem_map.mpr ⟨p,hp,rfl⟩
  ·exact b3
  ·exact⟨b4,b5,b6⟩
  ·refine⟨b2,fun z=>?_⟩
   obtain⟨o',es,ep,e1,e2,_⟩:=G.T.g
   rw[←z,b3] at e1
   cases e1
   rw[b6] at e2
   cases e2
 exact zO KX G.T.g G.T.b G.T.builtins G.T.nolimit hg hobj hints (Nat.le_trans hlen hn2) hr L hF hb (fun H hT hS=>hsp w H a ns hlen hT hS) fun H e s'=>hCX w H s₁ e s'
def yN (q:Addr)(fd:FuncData):HO:=.ext fun h=>h.get? q=some {cls:=.type "function",data:=.func fd}
abbrev sG (qual:Str)(params:Arguments)(body:Expr)(scope:Scope)(pm cv ctv:Value):FuncData:=W.kla_fn "<lambda>" qual params body scope [] pm cv ctv
variable{P:Program}{w:World}{H:Hp}
theorem DC {c:Addr}{q:Str}(ok:lN P w H h)(e:H c=some (jx c q)):h.CodeRec (.ref c) q:=(ok c _ e).1
variable{fd:FuncData}
theorem K5 {q:Addr}(ok:lN P w H h)(e:H q=some (yN q fd)):h.get? q=some {cls:=.type "function",data:=.func fd}:=(ok q _ e).1
def xg (k:Nat)(g:GE):FD:=fun ds M=>g (ka k ds) M
variable{base:Heap}{params:Arguments}{body:Expr}{scope:Scope}
theorem Jy {qual:Str}{pm ctv:Value}{q c:Addr}{N ps:List Str}{k n:Nat}{g:GE}
  (S:eR N ps scope) (hn:ps.length=n)
  (hbody:∀(A:Around) (outer:List Env) (s:Shared) (H:Hp) (E:XK),bI k (A.deeper (envOfC qual scope s.heap.objs.size q (.ref c)))→
   PE (io (ik P w) P w K mg base N qual scope q (.ref c) A outer s H E) body (tE (io (ik P w) P w K mg base N qual scope q (.ref c) A outer s H E) g)) :
  dN P w K mg base (ik P w) (k+1) q (sG qual params body scope pm (.ref c) ctv) ps (fun vs H Q E=>H q=some (yN q (sG qual params body scope pm (.ref c) ctv))∧H c=some (jx c qual)∧ng K n (xg (N.length-n) g) vs H Q E):=by
 refine⟨fun vs H Q E h=>n8 hn vs H Q E h.2.2,fun A outer s H args us vs Q E hr e0 hb r hsp=>?_⟩
 obtain⟨hq,hc,hsp⟩:=hsp
 have hl:vs.length=ps.length:=n8 hn vs H Q E hsp
 have lim:s.heap.NoLimit:=e0.mod.nolimit.keeps fun b o e=>(e0.bs b o e).1
 have hkind:∀y∈ps.zip us,scope.names.lookup y.1=some .local∨(scope.names.lookup y.1=some .cell∧((cellsFrom (s.heap.objs.size+1) scope.names []).lookup y.1).isSome=true):=fun⟨m,v⟩ hy=>by
  rcases S.par m (List.of_mem_zip hy).1 with z|z
  ·exact .inl z
  ·exact .inr ⟨z,W.cellsFrom_some _ _ _ (.inl z)⟩
 refine W.kla_callFunE hr.depth (K5 e0.hok hq) rfl S.co S.gen rfl (DC e0.hok hc) (hb _ _ _ _ ?_)
 refine wpAny_newFunctionEnv_cells S.kind hkind fun env he s1 x=>?_
 subst he
 refine⟨lim.keeps x.toInCall.keep,W.kla_codeExpr ?_⟩
 have I:L2.Inv (io (ik P w) P w K mg base N qual scope q (.ref c) A outer s H E) [] (L2.start N vs) H s1:=tD S hr.hd e0 hl r x
 obtain⟨θ,M,ds,hld,rd,hw,h⟩:=hsp
 have hv:vs.length=n:=by rw[←av rd];exact hld
 refine wpAny_mono (hbody A outer s H E (hr.deeper _) [] s1 (L2.start N vs) H Q I ⟨ka (N.length-n) ds,θ,M,by rw[←hv];exact Hf rd N,hw,?_⟩) (fun u s' hs=>?_) fun e s' hs=>hs
 ·have h:xX K θ H Q E (g (ka (N.length-n) ds) M):=h
  cases q:g (ka (N.length-n) ds) M with
  | bad=>rw[q] at h;exact h
  | err c M1=>
   rw[q] at h
   have h:BQ K θ H E c M1:=h
   exact fun C θ' H' a s' kC g1 fl=>m6 fl (h C θ' H' a kC g1)
  | ok d M1=>rw[q] at h;exact h
 ·obtain⟨v,H',J,rv,q⟩:=hs
  exact⟨v,H',J.os,J.bare,J.base,J.hok,rv,q⟩
structure vh (K:W.Frag)(x:Str)(c P:Addr):Prop where
 mem:x∈cy
 tab:W.tabIn K x=some (c,P)
 uniq:∀y,y∈cy→y≠x→∀c2,W.tabIn K y≠some (c2,P)
 hd:∃o vs file tf flags tg inF text tt,K.lookup c=some o∧o.cls=.type "code"∧o.data=.fields vs∧vs[11]?=some (.ref P)∧vs.getD 11 .none=.ref P∧vs.getD 18 .none=.str file tf∧
  vs.getD 7 .none=.int flags tg∧vs.getD 9 .none=.bool inF∧vs.getD 10 .none=.int text tt∧c≠P
variable{pos:Pos}
theorem xb {a b:Int}{c cv:Value}(l:List Value)(h:TriplesOk l)(e:codeAmong pos (l++[rawInt a,rawInt b,c])=some cv):codeAmong pos l=some cv∨cv=c:=by
 fun_induction TriplesOk l with
 | case1=>
  simp only[List.nil_append,codeAmong,rawInt] at e
  split at e
  ·exact .inr (Option.some.inj e).symm
  ·cases e
 | case2 a' t b' u x rest ih=>
  simp only[List.cons_append,codeAmong] at e ⊢
  split at e
  ·rename_i hc
   rw[if_pos hc];exact .inl e
  ·rename_i hc
   rw[if_neg hc];exact ih h e
 | case3 l h1 h2=>exact h.elim
structure Ny (X:Cx)(θ:List Addr)(H:Hp)(M:aA)(qual:Str)(params:Arguments)(body:Expr)(scope:Scope)(u:Value)(H':Hp):Prop where
 ex:∃q c pm ctv,u=.ref q∧H q=none∧H' q=some (yN q (sG qual params body scope pm (.ref c) ctv))∧H' c=some (jx c qual)
 go:Go X.K θ H θ H' M
theorem xj {φ:Heap→Prop}(h1:φ h)(h2:∃o,h.get? a=some o)(h3:∀h1 h2:Heap,φ h1→(∀o,h1.get? a=some o→h2.get? a=some o)→φ h2):cP P w H h a (.ext φ):=⟨h1,h2,h3⟩
variable{s:Shared}{θ:List Addr}
theorem AE {X:Cx}{ah:List (Addr×Obj)}{σ:L2.St}{M:aA}{c P:Addr}
  (I:L2.Inv X ah σ H s) (hw:Wr X.K θ H M) (T:vh X.K x c P) (hcode:X.env.code=.ref c) (hglob:X.env.globals=mainGlobals) (hq:X.env.qual++("<lambda>":Str)=cp x)
  (hcl:closureFor scope X.env=pure []) (hd:defaultsOf params X.env=([],[])) :
  wpAny (model X.prog X.w) X.A (eval (.Lambda params body scope pos) X.env) (fun u s'=>∃H',L2.Inv X ah σ H' s'∧Ny X θ H M (cp x) params body scope u H') X.xe s:=by
 obtain⟨ps,hP,hT,hC⟩:=hw.tb.tab x T.mem c P T.tab
 obtain⟨bm,ob,b1,b2,b3,b4,b5,b6,b7⟩:=hw.tb.bm x T.mem c P T.tab
 have hPo:s.heap.get? P=some (W.tabObj ps):=I.hok P _ hP
 have CH:W.CodeHd s.heap c P:=by
  obtain⟨o,vs,file,tf,flags,tg,inF,text,tt,e,r⟩:=T.hd
  exact⟨o,vs,file,tf,flags,tg,inF,text,tt,I.kIn _ _ e,r⟩
 have hbo:s.heap.get? bm=some ob:=(I.hok bm _ b2).1
 have hg:s.heap.Ns mainGlobals X.mg:=I.mod.glob.keeps I.bk
 have hmgb:X.mg "__builtins__"=some (.ref bm):=W.mg_of I.kIn hg b1
 have nbP:bm≠P:=fun z=>by rw[z,hP] at b2;cases b2
 have hb:s.heap.BuiltinsAt X.mg P:=⟨bm,ob,hmgb,b6,b7,nbP,hbo,b3,b4,b5⟩
 have hgP:mainGlobals≠P:=fun z=>by
  obtain⟨o,es,ep,e1,e2,_⟩:=hg
  rw[z,hPo] at e1
  cases e1
  cases e2
 rw[arm_eval_Lambda,hd]
 refine wpAny_bind (wpAny_evalAll_nil ?_)
 refine wpAny_bind (wpAny_holding (wpAny_pure ?_))
 rw[hq]
 have neP:∀b u,H b=some u→(∀ps,u≠.tbl ps)→b≠P:=fun b u e n z=>by rw[z,hP] at e;cases e;exact n _ rfl
 cases hf:codeAmong pos ps.toList with
 | some cv=>
  obtain⟨c',rfl,hc'⟩:=hC pos cv hf
  refine W.kla_makeFunctionHit hcl hglob hg hcode CH hPo hT hf hb fun ctv h' tk hk hz=>?_
  have nq:H h'.objs.size=none:=I.hok.fresh hz
  have nec:c'≠h'.objs.size:=fun z=>by rw[←z,hc'] at nq;cases nq
  refine⟨cj H h'.objs.size (yN h'.objs.size _),I.laid (t':=tk) (fun b o e=>Heap.get?_push_of_some _ (hk b o e)) hz (xj (Heap.get?_push_size _ rfl) ⟨_,Heap.get?_push_size _ rfl⟩ fun h1 h2 e k=>k _ e),⟨_,c',_,ctv,rfl,nq,bE,by rw[az nec];exact hc'⟩,dR hw nq⟩
 | none=>
  refine W.kla_makeFunction hcl hglob hg hcode CH hPo hT hf hgP hb fun c' ctv h' tk hx hge hlt hrec htab=>?_
  have szle:s.heap.objs.size≤h'.objs.size:=Nat.le_of_lt (Nat.lt_of_le_of_lt hge hlt)
  have nq:H h'.objs.size=none:=I.hok.fresh szle
  have nc:H c'=none:=I.hok.fresh hge
  have ncq:c'≠h'.objs.size:=Nat.ne_of_lt hlt
  have nPc:P≠c':=fun z=>by rw[←z,hP] at nc;cases nc
  have nPq:P≠h'.objs.size:=fun z=>by rw[←z,hP] at nq;cases nq
  let fd:FuncData:=sG (cp x) params body scope ((X.mg "__name__").getD .none) (.ref c') ctv
  let H':Hp:=cj (cj (cj H P (.tbl (ps++#[rawInt pos.line,rawInt pos.col,.ref c']))) c' (jx c' (cp x))) h'.objs.size (yN h'.objs.size fd)
  have atq:H' h'.objs.size=some (yN h'.objs.size fd):=bE
  have atc:H' c'=some (jx c' (cp x)):=by show cj _ _ _ c'=_;rw[az ncq,bE]
  have atP:H' P=some (.tbl (ps++#[rawInt pos.line,rawInt pos.col,.ref c'])):=by show cj _ _ _ P=_;rw[az nPq,az nPc,bE]
  have atb:∀b u,H b=some u→b≠P→H' b=some u:=fun b u e n=>by
   have n1:b≠h'.objs.size:=fun z=>by rw[z,nq] at e;cases e
   have n2:b≠c':=fun z=>by rw[z,nc] at e;cases e
   show cj _ _ _ b=_
   rw[az n1,az n2,az n];exact e
  have kp:∀b o,b≠P→s.heap.get? b=some o→(h'.push (W.kla_obj "<lambda>" (cp x) params body scope [] ((X.mg "__name__").getD .none) c' ctv)).get? b=some o:=fun b o n e=>Heap.get?_push_of_some _ (hx b o n e)
  have un:Un X.fs [] H H' s.heap (h'.push (W.kla_obj "<lambda>" (cp x) params body scope [] ((X.mg "__name__").getD .none) c' ctv)):=by
   have ne:∀b o,s.heap.get? b=some o→H b=none→b≠P:=fun b o _ n z=>by rw[z,hP] at n;cases n
   refine⟨fun b o e n _ _=>kp b o (ne b o e n) e,fun b o e n _ _=>⟨o.slots,kp b o (ne b o e n) e⟩,fun b o e n _=>?_,fun b o e _=>?_,fun b xs e=>atb b _ e (neP b _ e (by intro _ z;cases z)),fun b o u e=>atb b _ e (neP b _ e (by intro _ z;cases z)),fun b qs e=>?_⟩
   ·have n1:b≠h'.objs.size:=Nat.ne_of_lt (Nat.lt_of_lt_of_le (Heap.lt_size e) szle)
    have n2:b≠c':=Nat.ne_of_lt (Nat.lt_of_lt_of_le (Heap.lt_size e) hge)
    show cj _ _ _ b=_
    rw[az n1,az n2,az (ne b o e n)];exact n
   ·by_cases hb:b=P
    ·exact⟨_,by rw[hb];exact Heap.get?_push_of_some _ htab⟩
    ·exact⟨o,kp b o hb e⟩
   ·by_cases hb:b=P
    ·subst hb
     rw[hP] at e;cases e
     exact⟨_,atP⟩
    ·exact⟨#[],by rw[atb b _ e hb];simp⟩
  have hok:lN X.prog X.w H' (h'.push (W.kla_obj "<lambda>" (cp x) params body scope [] ((X.mg "__name__").getD .none) c' ctv)):=fun b u e=>by
   by_cases h1:b=h'.objs.size
   ·subst h1
    rw[atq] at e;cases e
    exact xj (Heap.get?_push_size _ rfl) ⟨_,Heap.get?_push_size _ rfl⟩ fun h1 h2 e k=>k _ e
   ·by_cases h2:b=c'
    ·subst h2
     rw[atc] at e;cases e
     refine xj (hrec.keeps fun b o e=>Heap.get?_push_of_some _ e) ?_ fun h1 h2 e k=>e.at k
     obtain⟨c2,o,vs,t,e1,e2,_⟩:=hrec
     cases e1
     exact⟨o,Heap.get?_push_of_some _ e2⟩
    ·by_cases h3:b=P
     ·subst h3
      rw[atP] at e;cases e
      exact Heap.get?_push_of_some _ htab
     ·have e:cj (cj (cj H P _) c' _) h'.objs.size _ b=some u:=e
      rw[az h1,az h2,az h3] at e
      refine(I.hok b u e).stay (fun b' v hb' z=>kp b' v ?_ z) (fun b' z=>atb b' _ z (neP b' _ z (by intro _ y;cases y))) fun b' xs z=>atb b' _ z (neP b' _ z (by intro _ y;cases y))
      rcases hb' with z|z
      ·rw[z];exact h3
      ·exact neP b' _ z (by intro _ y;cases y)
  refine⟨H',I.un (t':=tk) un hok,⟨h'.objs.size,c',_,ctv,rfl,nq,atq,atc⟩,?_⟩
  have gr:Grow θ H θ H':=⟨⟨[],by simp,fun _ z=>by cases z⟩,fun b u e _ n=>atb b u e (neP b u e n),fun b qs e=>by
   by_cases hb:b=P
   ·rw[hb];exact⟨_,atP⟩
   ·exact⟨qs,atb b _ e hb⟩⟩
  refine⟨gr,hw.len,hw.nd,fun i a m h1 h2=>?_,?_,?_⟩
  ·have ok:=hw.at_ i a m h1 h2
   obtain⟨o,eo,po⟩:=ok.plain
   have e:H' a=H a:=by
    rw[eo]
    exact atb a o eo (neP a o eo (by intro qs z;subst z;cases po))
   exact ok.grow gr e
  ·intro y hy c2 P2 e2
   obtain⟨qs,q1,q2,q3⟩:=hw.tb.tab y hy c2 P2 e2
   by_cases hPP:P2=P
   ·have hyx:y=x:=by
     refine Classical.byContradiction fun z=>?_
     rw[hPP] at e2
     exact T.uniq y hy z c2 e2
    subst hyx hPP
    rw[hP] at q1;cases q1
    refine⟨_,atP,?_,fun pos' cv z=>?_⟩
    ·rw[Array.toList_append]
     exact TriplesOk_snoc _ _ _ _ q2
    ·rw[Array.toList_append] at z
     rcases xb _ q2 z with z|z
     ·obtain⟨c3,e3,e4⟩:=q3 pos' cv z
      exact⟨c3,e3,atb c3 _ e4 (neP c3 _ e4 (by intro _ y;cases y))⟩
     ·exact⟨c',z,atc⟩
   ·refine⟨qs,atb P2 _ q1 hPP,q2,fun pos' cv z=>?_⟩
    obtain⟨c3,e3,e4⟩:=q3 pos' cv z
    exact⟨c3,e3,atb c3 _ e4 (neP c3 _ e4 (by intro _ y;cases y))⟩
  ·intro y hy c2 P2 e2
   obtain⟨bm2,ob2,z1,z2,r⟩:=hw.tb.bm y hy c2 P2 e2
   exact⟨bm2,ob2,z1,atb bm2 _ z2 (neP bm2 _ z2 (by intro _ y;cases y)),r⟩
def qL:List D→Option (List Int)
 | []=>some []
 | .int i::r=>(qL r).map (i::·)
 | _=>none
def sX:D→Option (List Int)
 | .tup ds=>qL ds
 | _=>none
theorem vA {K:W.Frag}{θ:List Addr}{H:Hp}:∀{ds:List D} {ks:List Int} {vs:List V},qL ds=some ks→bA K θ H ds vs→vs=ks.map V.int
 | [],ks,vs,h,r=>by cases h;exact r
 | d::ds,ks,vs,h,r=>by
  obtain⟨v,rr,e,h1,h2⟩:=r
  cases d with
  | int i=>
   cases q:qL ds with
   | none=>simp[qL,q] at h
   | some l=>
    simp[qL,q] at h
    subst h
    have h1:v=.int i:=h1
    rw[e,h1,vA q h2];rfl
  | _=>cases h
theorem v7 {d:D}{ks:List Int}{v:V}(h:sX d=some ks)(r:dq K θ H d v):∃a,v=.ref a∧nC K θ H a (ks.map V.int):=by
 cases d with
 | tup ds=>
  obtain⟨a,vs,e,t,rs⟩:=r
  have:=vA (show qL ds=some ks from h) rs
  subst this
  exact⟨a,e,t⟩
 | _=>cases h
def pJ (F:FD):List D→D→List Int→aA→bn D
 | [],b,_,M=>.ok b M
 | d::r,b,kb,M=>match F [d] M with
  | .ok k M1=>match sX k with
   | some ks=>if HT.lexLt ks kb then pJ F r d ks M1 else pJ F r b kb M1
   | none=>.bad
  | _=>.bad
def o9 (F:FD)(ds:List D)(M:aA):bn D:=match ds with
 | []=>.bad
 | d::r=>match F [d] M with
  | .ok k M1=>match sX k with
   | some ks=>pJ F r d ks M1
   | none=>.bad
  | _=>.bad
variable{Q:VK}{ds0:List D}
section
variable {X:Cx}{ah:List (Addr×Obj)}{σ:L2.St}{q c:Addr}{fd:FuncData}{px qual:Str}{k:Nat}{F:FD}
theorem wN {u:Value}{v:V}{E:Value→Shared→Prop}{M M1:aA}{d kd:D}
  (Fn:dN X.prog X.w X.K X.mg X.base (ik X.prog X.w) k q fd [px] (fun vs H Q E=>H q=some (yN q fd)∧H c=some (jx c qual)∧ng X.K 1 F vs H Q E)) (hr:bI k X.A.in1) (hb:∀(s:Shared) (u:Value),BindsTo s fd ⟨[u],[]⟩ [(px,u)])
  (I:L2.Inv X ah σ H s) (hq:H q=some (yN q fd)) (hc:H c=some (jx c qual)) (hw:Wr X.K θ H M) (rv:RelV v u) (rd:dq X.K θ H d v) (e:F [d] M=.ok kd M1)
  (hQ:∀v' θ' H',Go X.K θ H θ' H' M1→dq X.K θ' H' kd v'→Q v' H'):wpAny (model X.prog X.w) X.A.in1 (call (.ref q) [u]) (EP X ah σ Q) E s:=by
 refine wpAny_call (codeAny_mono (Fn.run X.A.in1 X.stack s H ⟨[u],[]⟩ [u] [v] Q (fun _ _ _=>False) hr I.env0.in1 (hb s u) (.cons rv .nil) ⟨hq,hc,θ,M,[d],rfl,⟨v,[],rfl,rd,rfl⟩,hw,by rw[e];exact hQ⟩) fun r s' hq=>?_)
 cases r with
 | error e=>
  have hq:ik X.prog X.w X.stack H s (fun _ _ _=>False) e s':=hq
  obtain⟨_,_,_,_,_,_,_,_,_,_,_,_,_,_,z⟩:=hq
  exact z.elim
 | ok fl=>
  cases fl with
  | ret u=>exact I.after hq
  | next=>exact False.elim hq
  | brk=>exact False.elim hq
  | cont=>exact False.elim hq
theorem yZ {H':Hp}{b:Addr}(h:j9 X ah H b)(n:H' b=none):j9 X ah H' b:=⟨n,h.2⟩
theorem Lg {b:Addr}{oa ob:Obj}(I:L2.Inv X ah σ H s)(fa:j9 X ah H a)(fb:j9 X ah H b)(ea:s.heap.get? a=some oa)(eb:s.heap.get? b=some ob)(da:∀v,oa.data≠.cell v)(db:∀v,ob.data≠.cell v) :
  L2.Inv X (ah++[(a,oa),(b,ob)]) σ H s:=I.pins_of fun p hp=>by
 rcases List.mem_append.mp hp with z|z
 ·exact I.pin p (List.mem_append_right _ z)
 ·simp only[List.mem_cons,List.mem_nil_iff,or_false] at z
  rcases z with z|z <;> subst z
  ·exact⟨ea,fa.1,fa.2.1,fa.2.2.1,da⟩
  ·exact⟨eb,fb.1,fb.2.1,fb.2.2.1,db⟩
theorem BC {b:Addr}{oa ob:Obj}(I:L2.Inv X (ah++[(a,oa),(b,ob)]) σ H s):L2.Inv X ah σ H s∧(s.heap.get? a=some oa∧H a=none)∧(s.heap.get? b=some ob∧H b=none):=by
 have p1:=I.pin (a,oa) (List.mem_append_right _ (List.mem_append_right _ (by simp)))
 have p2:=I.pin (b,ob) (List.mem_append_right _ (List.mem_append_right _ (by simp)))
 exact⟨I.unpinned,⟨p1.1,p1.2.1⟩,p2.1,p2.2.1⟩
theorem Bf {l it S:Addr}{R:Result→Shared→Prop}
  (Fn:dN X.prog X.w X.K X.mg X.base (ik X.prog X.w) k q fd [px] (fun vs H Q E=>H q=some (yN q fd)∧H c=some (jx c qual)∧ng X.K 1 F vs H Q E)) (hr:bI (k+1) X.A) (hb:∀(s:Shared) (u:Value),BindsTo s fd ⟨[u],[]⟩ [(px,u)]) (hcalm:X.calm=true)
  (hnI:S≠it) (hR:∀u s',EP X ah σ Q u s'→R (.ok (.ret u)) s') :
  ∀(rest:List D) (j:Nat) (s:Shared) (H:Hp) (θ:List Addr) (M:aA) (b:D) (kb:List Int) (vb ukb:V) (ub ukv:Value) (n:Nat) (vs:List V),ds0.drop j=rest→L2.Inv X ah σ H s→j9 X ah H it→j9 X ah H S→s.heap.IsListIter it l j→s.heap.get? S=some (seqObj "list" #[ub,ukv] n)→
   Wr X.K θ H M→rS X.K θ H l vs→bA X.K θ H ds0 vs→H q=some (yN q fd)→H c=some (jx c qual)→dq X.K θ H b vb→RelV vb ub→(∃a,ukb=.ref a∧nC X.K θ H a (kb.map V.int))→RelV ukb ukv→aN X θ H Q (pJ F rest b kb M)→
   codeAny (model X.prog X.w) X.A (.builtin "min.loop" ⟨[.ref it,.ref q,.ref S],[]⟩) R s:=by
 have hname:(toString "min"++toString ".loop":String)="min.loop":=by decide
 have hr1:bI k X.A.in1:=hr.in1
 intro rest
 induction rest with
 | nil=>
  intro j s H θ M b kb vb ukb ub ukv n vs hd I fi fS st eS hw ta r hq hc rb rvb rk rvk h
  refine codeAny_builtin PySem.F.entry_min_loop ?_
  rw[Around.under_plainId PySem.F.plain_min_loop _]
  show wpAny _ X.A.in1 (seqItems? (.ref S) >>= _) _ _ _
  refine wpAny_bind (wpAny_seqItems eS rfl ?_)
  obtain⟨its,rv,p,hz⟩:=I.list ta.sq
  have hlen:vs.length≤j:=by rw[←av r];exact List.drop_eq_nil_iff.mp hd
  have hl:=rv.length
  show wpAny _ X.A.in1 (tryCatch (pyNext (.ref it)) _ >>= _) _ _ _
  refine wpAny_bind (wpAny_tryCatch (wpAny_pyNext_list_end (show X.A.in1.handled=none from I.ok.hd hcalm) st p.isList (by simp;omega) fun h' eb=>?_))
  have I1:L2.Inv X ah σ H {s with heap:=h'}:=I.turned (t':=s.toks) (fun b o hb e=>eb b o hb e) fi.1 fi.2.1 fi.2.2.2.1 fi.2.2.2.2.1 fi.2.2.2.2.2
  have eS':h'.get? S=some (seqObj "list" #[ub,ukv] n):=eb S _ hnI eS
  show wpAny _ X.A.in1 (updateSeq S (fun _=>#[]) >>= _) _ _ _
  refine wpAny_bind (wpAny_updateSeq eS' rfl (wpAny_bind (wpAny_letGo (wpAny_pure ?_))))
  have I2:L2.Inv X ah σ H {s with heap:=h'.update S (Obj.mapSeq fun _=>#[])}:=I1.turned (t':=s.toks) (fun b o hb e=>(Heap.get?_update_other h' _ (Ne.symm hb)).trans e) fS.1 fS.2.1 fS.2.2.2.1 fS.2.2.2.2.1 fS.2.2.2.2.2
  exact hR ub _ ⟨vb,H,I2,rvb,h vb θ H (.refl hw) rb⟩
 | cons d rest ih=>
  intro j s H θ M b kb vb ukb ub ukv n vs hd I fi fS st eS hw ta r hq hc rb rvb rk rvk h
  have hj:ds0[j]?=some d:=by
   have:=congrArg (·[0]?) hd
   simpa using this
  have hd':ds0.drop (j+1)=rest:=by
   rw[←List.drop_drop,hd];rfl
  obtain⟨v,ev,rdv⟩:=fZ r hj
  refine codeAny_builtin PySem.F.entry_min_loop ?_
  rw[Around.under_plainId PySem.F.plain_min_loop _]
  show wpAny _ X.A.in1 (seqItems? (.ref S) >>= _) _ _ _
  refine wpAny_bind (wpAny_seqItems eS rfl ?_)
  obtain⟨its,rv,p,hz⟩:=I.list ta.sq
  obtain⟨u,eu,ru⟩:=rv.get ev
  show wpAny _ X.A.in1 (tryCatch (pyNext (.ref it)) _ >>= _) _ _ _
  refine wpAny_bind (wpAny_tryCatch (wpAny_pyNext_list_item st p.isList (x:=u) (by simpa using eu) fun h' st' sb=>?_))
  have I1:L2.Inv X ah σ H {s with heap:=h'}:=I.turned (t':=s.toks) (fun b o hb e=>(sb.2 b hb).trans e) fi.1 fi.2.1 fi.2.2.2.1 fi.2.2.2.2.1 fi.2.2.2.2.2
  have eS1:h'.get? S=some (seqObj "list" #[ub,ukv] n):=(sb.2 S hnI).trans eS
  obtain⟨oI,hoI,cI,dI⟩:=id st'
  have I1p:=Lg I1 fS fi eS1 hoI (by intro v z;cases z) (by intro v z;rw[dI] at z;cases z)
  unfold pJ at h
  cases eF:F [d] M with
  | bad=>rw[eF] at h;exact h.elim
  | err _ _=>rw[eF] at h;exact h.elim
  | ok kd M1=>
   rw[eF] at h
   dsimp only at h
   cases eK:sX kd with
   | none=>rw[eK] at h;exact h.elim
   | some ks=>
    rw[eK] at h
    dsimp only at h
    show wpAny _ X.A.in1 (tryCatch (holding [u] (call (.ref q) [u])) _ >>= _) _ _ _
    refine wpAny_bind (wpAny_tryCatch (wpAny_holding (cF (wN (Q:=fun v' H'=>∃θ',Go X.K θ H θ' H' M1∧dq X.K θ' H' kd v') Fn hr1 hb I1p hq hc hw ru rdv eF fun v' θ' H' g rd=>⟨θ',g,rd⟩) fun uk s2 ⟨vk,H2,I2p,rvk2,θ2,g2,rk2⟩=>?_)))
    obtain⟨I2,⟨eS2,nS2⟩,eI2,nI2⟩:=BC I2p
    have fS2:=yZ fS nS2
    have fi2:=yZ fi nI2
    have st2:s2.heap.IsListIter it l (j+1):=⟨oI,eI2,cI,dI⟩
    obtain⟨ak,eak,tk2⟩:=v7 eK rk2
    obtain⟨ab,eab,tb2⟩:=rk
    have tb2:=tb2.grow g2.toGrow
    subst eak eab
    have ek:uk=.ref ak:=rvk2
    have eb':ukv=.ref ab:=rvk
    subst ek eb'
    obtain⟨i1,r1,p1,_⟩:=I2.tuple tk2.sq
    obtain⟨i2,r2,p2,_⟩:=I2.tuple tb2.sq
    have hq2:H2 q=some (yN q fd):=g2.keep q _ hq (fun z=>by
     obtain⟨i,hi,e⟩:=List.mem_iff_getElem.mp z
     obtain⟨o,eo,po⟩:=hw.plain (i:=i) (by rw[List.getElem?_eq_getElem hi,e])
     rw[hq] at eo;cases eo;cases po) (by intro _ z;cases z)
    have hc2:H2 c=some (jx c qual):=g2.keep c _ hc (fun z=>by
     obtain⟨i,hi,e⟩:=List.mem_iff_getElem.mp z
     obtain⟨o,eo,po⟩:=hw.plain (i:=i) (by rw[List.getElem?_eq_getElem hi,e])
     rw[hc] at eo;cases eo;cases po) (by intro _ z;cases z)
    have h2:=aN.go g2 h
    show wpAny _ X.A.in1 (tryCatch (holding [u,.ref ak] (richCompare .Lt (.ref ak) (.ref ab) >>= _)) _ >>= _) _ _ _
    refine wpAny_bind (wpAny_tryCatch (wpAny_holding (wpAny_bind (HT.lt_tupInts p1 p2 (qZ r1) (qZ r2) hr1.units0 ?_))))
    refine wpAny_bind (wpAny_holding (wpAny_truthy_bool ?_))
    refine wpAny_bind (wpAny_letGo (wpAny_pure ?_))
    by_cases hlt:HT.lexLt ks kb=true
    ·rw[if_pos hlt] at h2
     simp only[hlt,if_true]
     refine wpAny_bind (wpAny_updateSeq eS2 rfl (wpAny_bind (wpAny_letGo ?_)))
     rw[hname]
     obtain⟨n3,eS3⟩:∃n3,(s2.heap.update S (Obj.mapSeq fun _=>#[u,.ref ak])).get? S=some (seqObj "list" #[u,.ref ak] n3):=⟨_,get?_update_seq eS2 fun _=>#[u,.ref ak]⟩
     have kp:∀b o,b≠S→s2.heap.get? b=some o→(s2.heap.update S (Obj.mapSeq fun _=>#[u,.ref ak])).get? b=some o:=fun b o hb e=>(Heap.get?_update_other s2.heap _ (Ne.symm hb)).trans e
     have I3:L2.Inv X ah σ H2 {s2 with heap:=s2.heap.update S (Obj.mapSeq fun _=>#[u,.ref ak])}:=I2.turned (t':=s2.toks) kp fS2.1 fS2.2.1 fS2.2.2.2.1 fS2.2.2.2.2.1 fS2.2.2.2.2.2
     exact wpAny_pure ⟨plainId_quiet PySem.F.plain_min_loop _,ih (j+1) _ H2 θ2 M1 d ks v _ u (.ref ak) n3 vs hd' I3 fi2 fS2 ⟨oI,kp it oI (Ne.symm hnI) eI2,cI,dI⟩ eS3 g2.wr (ta.grow g2.toGrow) (r.go g2) hq2 hc2 (rdv.go g2) ru ⟨ak,rfl,tk2⟩ rfl h2⟩
    ·have hlt':HT.lexLt ks kb=false:=by simpa using hlt
     rw[if_neg hlt] at h2
     simp only[hlt',Bool.false_eq_true,if_false]
     refine wpAny_bind (wpAny_letGo ?_)
     rw[hname]
     exact wpAny_pure ⟨plainId_quiet PySem.F.plain_min_loop _,ih (j+1) s2 H2 θ2 M1 b kb vb _ ub (.ref ab) n vs hd' I2 fi2 fS2 st2 eS2 g2.wr (ta.grow g2.toGrow) (r.go g2) hq2 hc2 (rb.go g2) rvb ⟨ab,rfl,tb2⟩ rfl h2⟩
end
section
variable {X:Cx}{ah:List (Addr×Obj)}{σ:L2.St}{q c:Addr}{fd:FuncData}{px qual:Str}{k:Nat}{F:FD}
theorem AK {l:Addr}{M:aA}{vs:List V}
  (Fn:dN X.prog X.w X.K X.mg X.base (ik X.prog X.w) k q fd [px] (fun vs H Q E=>H q=some (yN q fd)∧H c=some (jx c qual)∧ng X.K 1 F vs H Q E)) (hr:bI (k+1) X.A) (hb:∀(s:Shared) (u:Value),BindsTo s fd ⟨[u],[]⟩ [(px,u)]) (hcalm:X.calm=true)
  (I:L2.Inv X ah σ H s) (hw:Wr X.K θ H M) (ta:rS X.K θ H l vs) (r:bA X.K θ H ds0 vs) (hq:H q=some (yN q fd)) (hc:H c=some (jx c qual)) (h:aN X θ H Q (o9 F ds0 M)) :
  wpAny (model X.prog X.w) X.A (call (.builtin "min") [.ref l] [(Str.ofString "key",.ref q)]) (EP X ah σ Q) X.xe s:=by
 have hname:(toString "min"++toString ".loop":String)="min.loop":=by decide
 have hr1:bI k X.A.in1:=hr.in1
 cases ds0 with
 | nil=>exact h.elim
 | cons d rest=>
  unfold o9 at h
  dsimp only at h
  cases eF:F [d] M with
  | bad=>rw[eF] at h;exact h.elim
  | err _ _=>rw[eF] at h;exact h.elim
  | ok kd M1=>
   rw[eF] at h
   dsimp only at h
   cases eK:sX kd with
   | none=>rw[eK] at h;exact h.elim
   | some ks=>
    rw[eK] at h
    dsimp only at h
    obtain⟨v,ev,rdv⟩:=fZ (i:=0) r rfl
    obtain⟨its,rv,p,hz⟩:=I.list ta.sq
    obtain⟨u,eu,ru⟩:=rv.get ev
    refine kmk_tree PySem.F.kind_min PySem.F.plain_min PySem.F.entry_min (kmk_min_key _ _) ?_
    show wpAny _ X.A.in1 (Builtin.Builtins.bindParams "min" ["key","default"] 0 ⟨[],[(Str.ofString "key",.ref q)]⟩ >>= _) _ _ s
    refine wpAny_bind (wpAny_of_eq (show Builtin.Builtins.bindParams "min" ["key","default"] 0 ⟨[],[(Str.ofString "key",.ref q)]⟩=pure [some (.ref q),none] from rfl) ?_)
    refine wpAny_bind (wpAny_pure ?_)
    refine wpAny_bind (wpAny_pyIter_list p.isList ?_)
    refine wpAny_bind (wpAny_newList ?_ (Nat.zero_le _))
    rw[hname]
    have hS:(s.heap.push {cls:=.type "list_iterator",data:=.fields #[.ref l,.int 0 0]}).objs.size=s.heap.objs.size+1:=size_push' ..
    have fi:j9 X ah H s.heap.objs.size:=I.fpOk (Nat.le_refl _) (I.hok.fresh (Nat.le_refl _))
    have leS:s.heap.objs.size≤(s.heap.push {cls:=.type "list_iterator",data:=.fields #[.ref l,.int 0 0]}).objs.size:=by rw[hS];exact Nat.le_succ _
    have fS:j9 X ah H (s.heap.push {cls:=.type "list_iterator",data:=.fields #[.ref l,.int 0 0]}).objs.size:=I.fpOk leS (I.hok.fresh leS)
    have hnI:(s.heap.push {cls:=.type "list_iterator",data:=.fields #[.ref l,.int 0 0]}).objs.size≠s.heap.objs.size:=by rw[hS];exact Nat.ne_of_gt (Nat.lt_succ_self _)
    have gI:((s.heap.push {cls:=.type "list_iterator",data:=.fields #[.ref l,.int 0 0]}).push (seqObj "list" #[] 0)).get? s.heap.objs.size=some {cls:=.type "list_iterator",data:=.fields #[.ref l,.int 0 0]}:=Heap.get?_push_of_some _ (Heap.get?_push_size _ rfl)
    have gS:((s.heap.push {cls:=.type "list_iterator",data:=.fields #[.ref l,.int 0 0]}).push (seqObj "list" #[] 0)).get? (s.heap.push {cls:=.type "list_iterator",data:=.fields #[.ref l,.int 0 0]}).objs.size=some (seqObj "list" #[] 0):=Heap.get?_push_size _ rfl
    have I0:L2.Inv X ah σ H {s with heap:=(s.heap.push {cls:=.type "list_iterator",data:=.fields #[.ref l,.int 0 0]}).push (seqObj "list" #[] 0)}:=I.kept (t':=s.toks) fun b o e=>Heap.get?_push_of_some _ (Heap.get?_push_of_some _ e)
    generalize (s.heap.push {cls:=.type "list_iterator",data:=.fields #[.ref l,.int 0 0]}).objs.size=S at *
    generalize hit:s.heap.objs.size=it at *
    refine wpAny_pure ⟨plainId_quiet PySem.F.plain_min_loop _,?_⟩
    refine codeAny_builtin PySem.F.entry_min_loop ?_
    rw[Around.under_plainId PySem.F.plain_min_loop _]
    show wpAny _ X.A.in1 (seqItems? (.ref S) >>= _) _ _ _
    refine wpAny_bind (wpAny_seqItems gS rfl ?_)
    obtain⟨its',rv',p',hz'⟩:=I0.list ta.sq
    obtain⟨u',eu',ru'⟩:=rv'.get ev
    show wpAny _ X.A.in1 (tryCatch (pyNext (.ref it)) _ >>= _) _ _ _
    refine wpAny_bind (wpAny_tryCatch (wpAny_pyNext_list_item (i:=0) ⟨_,gI,rfl,rfl⟩ p'.isList (x:=u') (by simpa using eu') fun h' st' sb=>?_))
    have I1:L2.Inv X ah σ H {s with heap:=h'}:=I0.turned (t':=s.toks) (fun b o hb e=>(sb.2 b hb).trans e) fi.1 fi.2.1 fi.2.2.2.1 fi.2.2.2.2.1 fi.2.2.2.2.2
    have eS1:h'.get? S=some (seqObj "list" #[] 0):=(sb.2 S hnI).trans gS
    obtain⟨oI,hoI,cI,dI⟩:=id st'
    have I1p:=Lg I1 fS fi eS1 hoI (by intro v z;cases z) (by intro v z;rw[dI] at z;cases z)
    show wpAny _ X.A.in1 (tryCatch (holding [u'] (call (.ref q) [u'])) _ >>= _) _ _ _
    refine wpAny_bind (wpAny_tryCatch (wpAny_holding (cF (wN (Q:=fun v' H'=>∃θ',Go X.K θ H θ' H' M1∧dq X.K θ' H' kd v') Fn hr1 hb I1p hq hc hw ru' rdv eF fun v' θ' H' g rd=>⟨θ',g,rd⟩) fun uk s2 ⟨vk,H2,I2p,rvk2,θ2,g2,rk2⟩=>?_)))
    obtain⟨I2,⟨eS2,nS2⟩,eI2,nI2⟩:=BC I2p
    have fS2:=yZ fS nS2
    have fi2:=yZ fi nI2
    obtain⟨ak,eak,tk2⟩:=v7 eK rk2
    have notin:∀(a:Addr) (φ:Heap→Prop),H a=some (.ext φ)→a∉θ:=fun a φ e z=>by
     obtain⟨i,hi,e'⟩:=List.mem_iff_getElem.mp z
     obtain⟨o,eo,po⟩:=hw.plain (i:=i) (by rw[List.getElem?_eq_getElem hi,e'])
     rw[e] at eo;cases eo;cases po
    have hq2:H2 q=some (yN q fd):=g2.keep q _ hq (notin q _ hq) (by intro _ z;cases z)
    have hc2:H2 c=some (jx c qual):=g2.keep c _ hc (notin c _ hc) (by intro _ z;cases z)
    have h2:=aN.go g2 h
    refine wpAny_bind ?_
    show wpAny _ X.A.in1 (updateSeq S (fun _=>#[u',uk])) _ _ _
    refine wpAny_updateSeq eS2 rfl ?_
    rw[hname]
    obtain⟨n3,eS3⟩:∃n3,(s2.heap.update S (Obj.mapSeq fun _=>#[u',uk])).get? S=some (seqObj "list" #[u',uk] n3):=⟨_,get?_update_seq eS2 fun _=>#[u',uk]⟩
    have kp:∀b o,b≠S→s2.heap.get? b=some o→(s2.heap.update S (Obj.mapSeq fun _=>#[u',uk])).get? b=some o:=fun b o hb e=>(Heap.get?_update_other s2.heap _ (Ne.symm hb)).trans e
    have I3:L2.Inv X ah σ H2 {s2 with heap:=s2.heap.update S (Obj.mapSeq fun _=>#[u',uk])}:=I2.turned (t':=s2.toks) kp fS2.1 fS2.2.1 fS2.2.2.2.1 fS2.2.2.2.2.1 fS2.2.2.2.2.2
    exact wpAny_pure ⟨plainId_quiet PySem.F.plain_min_loop _,Bf (ds0:=d::rest) Fn hr hb hcalm hnI (fun u s' e=>e) rest 1 _ H2 θ2 M1 d ks v vk u' uk n3 vs rfl I3 fi2 fS2 ⟨oI,kp it oI (Ne.symm hnI) eI2,cI,dI⟩ eS3 g2.wr (ta.grow g2.toGrow) (r.go g2) hq2 hc2 (rdv.go g2) ru' ⟨ak,eak,tk2⟩ rvk2 h2⟩
end
def pH (F:FD)(g:GE):GE:=fun ρ M=>(g ρ M).bind fun d M1=>match d with
 | .lst ds=>o9 F ds M1
 | .ro ds=>o9 F ds M1
 | _=>.bad
theorem D1 {X:Cx}{px:Str}{c P:Addr}{e:Expr}{g gb:GE}{p lpos kpos:Pos}{k:Nat}{N:List Str}
  (T:vh X.K x c P) (hr:bI (k+2) X.A) (hg:Gl X "min") (hm:X.mg "min"=none) (hv:bootBuiltins "min"=some (.builtin "min")) (he:PE X e (tE X g)) (hcode:X.env.code=.ref c) (hglob:X.env.globals=mainGlobals) (hq:X.env.qual++("<lambda>":Str)=cp x)
  (hcl:closureFor scope X.env=pure []) (hd:defaultsOf params X.env=([],[])) (hcalm:X.calm=true) (S:eR N [px] scope)
  (hbody:∀(q c':Addr) (A:Around) (outer:List Env) (s:Shared) (H:Hp) (E:XK),bI k (A.deeper (envOfC (cp x) scope s.heap.objs.size q (.ref c')))→
   PE (io (ik X.prog X.w) X.prog X.w X.K X.mg X.base N (cp x) scope q (.ref c') A outer s H E) body (tE (io (ik X.prog X.w) X.prog X.w X.K X.mg X.base N (cp x) scope q (.ref c') A outer s H E) gb))
  (hb:∀(pm cv ctv:Value) (s:Shared) (u:Value),BindsTo s (sG (cp x) params body scope pm cv ctv) ⟨[u],[]⟩ [(px,u)]) (h1:aY e=true) :
  PE X (.Call (.Name "min" p) [e] [⟨some "key",.Lambda params body scope lpos,kpos⟩] pos) (tE X (pH (xg (N.length-1) gb) g)):=by
 intro ah s σ H Q I h
 obtain⟨ρ,θ,M,hden,hw,h⟩:=h
 have hs:starEach [e] X.env=[(false,eval e X.env)]:=by rw[sE h1];rfl
 refine wpAny_Call_Name_kw (oO I hg hm hv ?_)
 refine callWith_kw (e:=e) (rest:=[]) (cF ((fJ he kE hs) pos ah s σ H _ I (show wu (tE X g) CU σ H (fun xs H1=>∃v d θ1 M1,xs=[v]∧Go X.K θ H θ1 H1 M1∧dq X.K θ1 H1 d v∧aN X θ H Q (match d with | .lst ds=>o9 (xg (N.length-1) gb) ds M1 | .ro ds=>o9 (xg (N.length-1) gb) ds M1|_=>.bad)) from
  bL hden hw (aN X θ H Q) (fun c M' h=>h) (fun h=>h) h fun d M1 v θ1 H1 g1 r1 h1=>⟨v,d,θ1,M1,rfl,g1,r1,h1⟩)) fun us s1 ⟨xs,H1,I1,rx,v,d,θ1,M1,ex,g1,r1,h1⟩=>?_) (by rw[hs];rfl) (by rw[hs];rfl)
 subst ex
 obtain⟨u,rfl,ru⟩:=ou rx
 refine kws_cons (cF (AE I1 g1.wr T hcode hglob hq hcl hd) fun uq s2 ⟨H2,I2,Md⟩=>kws_nil ?_)
 obtain⟨⟨q,c',pm,ctv,rfl,nq,hfq,hfc⟩,g2⟩:=Md
 have h2:=aN.go (g1.trans g2) h1
 have Fn:=Jy (P:=X.prog) (w:=X.w) (K:=X.K) (mg:=X.mg) (base:=X.base) (qual:=cp x) (params:=params) (body:=body) (scope:=scope) (pm:=pm) (ctv:=ctv) (q:=q) (c:=c') (n:=1) S rfl (fun A outer s H E hr=>hbody q c' A outer s H E hr)
 have run:∀(l:Addr) (ds:List D) (vs:List V),u=.ref l→rS X.K θ1 H2 l vs→bA X.K θ1 H2 ds vs→aN X θ1 H2 Q (o9 (xg (N.length-1) gb) ds M1)→wpAny (model X.prog X.w) X.A (call (.builtin "min") [u] [(Str.ofString "key",.ref q)]) (EP X ah σ Q) X.xe s2:=fun l ds vs eu ta r hh=>by
  rw[eu]
  exact AK Fn hr (hb pm _ ctv) hcalm I2 g2.wr ta r hfq hfc hh
 show wpAny _ X.A (call (.builtin "min") [u] [(Str.ofString "key",.ref q)]) _ _ s2
 cases d with
 | lst ds=>
  obtain⟨a,vs,ea,ta,rs⟩:=r1.go g2
  subst ea
  exact run a ds vs ru (.inl ⟨.inl ta.1,ta.2⟩) rs h2
 | ro ds=>
  obtain⟨a,vs,ea,ta,rs⟩:=r1.go g2
  subst ea
  exact run a ds vs ru ta rs h2
 | _=>exact h2.elim
theorem La {st:Stmt}{f c Pt:Addr}{N ps:List Str}{k n:Nat}{g:GS}(F:FA K x x st f fd)(hns:W.nsIn K mainGlobals x=some (some (.ref f)))(T:vh K x c Pt)(S:eR N ps (aO st))(hn:ps.length=n)
  (hbody:∀(A:Around) (outer:List Env) (s:Shared) (H:Hp) (E:XK),bI k (A.deeper (envOfC x (aO st) s.heap.objs.size f (.ref c)))→PSs (io (ik P w) P w K mg base N x (aO st) f (.ref c) A outer s H E) (cB st) (tS (io (ik P w) P w K mg base N x (aO st) f (.ref c) A outer s H E) g)) :
  dN P w K mg base (ik P w) (k+1) f fd ps (ng K n (aX (N.length-n) g)):=by
 obtain⟨oc,od,kV,doc,pm,an,cdv,ct,osl,rfl,lk,hcd⟩:=F.ex
 have ec:cdv=.ref c:=by
  have t:=T.tab
  unfold W.tabIn at t
  rw[hns] at t
  dsimp only at t
  rw[lk] at t
  dsimp only at t
  cases cdv with
  | ref c'=>
   dsimp only at t
   split at t
   ·split at t
    ·cases t;rfl
    ·cases t
   ·cases t
  | _=>cases t
 subst ec
 refine FZ lk hcd S (n8 hn) fun A outer s H vs Q E hr h=>⟨_,hbody A outer s H E hr,?_⟩
 obtain⟨θ,M,ds,hl,r,hw,h⟩:=h
 have hv:vs.length=n:=by rw[←av r];exact hl
 refine⟨ka (N.length-n) ds,θ,M,by rw[←hv];exact Hf r N,hw,?_⟩
 have h:xX K θ H Q E (aQ (g (ka (N.length-n) ds) M)):=h
 unfold aQ at h
 cases q:g (ka (N.length-n) ds) M with
 | bad=>rw[q] at h;exact h
 | err c M1=>
  rw[q] at h
  have h:BQ K θ H E c M1:=h
  exact fun C θ' H' a s' kC g1 fl=>m6 fl (h C θ' H' a kC g1)
 | ok fl M1=>
  rw[q] at h
  cases fl with
  | rt d=>exact h
  | nx ρ1=>exact fun σ1 θ1 H1 g1 _=>h .non θ1 H1 g1 rfl
  | bk ρ1=>exact h.elim
  | ct ρ1=>exact h.elim
end DL
namespace DL
open PySem PySem.Spec PyProof.Rows L2
section
open PySem.SeqAt
open PySem.AutoSeq1 (wpAny_loadPart')
open PySem.MeetsSeq PySem.MeetsSeq2 PySem.MeetsSeq3
end
theorem EG {K:W.Frag}{x:Str}{f c P:Addr}{oc occ:Value}{od odc:Option Addr}{fd:FuncData}{sl slc:Array (Option Value)}{vs:Array Value}{file:Str}{tf tg tt:Tok}{flags text:Int}{inF:Bool}
  (hm:x∈cy) (a:W.nsIn K mainGlobals x=some (some (.ref f))) (l:K.lookup f=some ⟨oc,od,.func fd,sl⟩) (ec:fd.code=.ref c) (lc:K.lookup c=some ⟨occ,odc,.fields vs,slc⟩) (hcc:occ=.type "code")
  (h11:vs[11]?=some (.ref P)) (h18:vs.getD 18 .none=.str file tf) (h7:vs.getD 7 .none=.int flags tg) (h9:vs.getD 9 .none=.bool inF) (h10:vs.getD 10 .none=.int text tt) (ne:c≠P)
  (un:∀y,y∈cy→y≠x→W.nsIn K mainGlobals y=some none∨∃c' P',W.tabIn K y=some (c',P')∧P'≠P):vh K x c P:=by
 have g11:vs.getD 11 .none=.ref P:=by rw[Array.getD_eq_getD_getElem?,h11];rfl
 refine⟨hm,?_,fun y hy nx c2 e=>?_,_,vs,file,tf,flags,tg,inF,text,tt,lc,hcc,rfl,h11,g11,h18,h7,h9,h10,ne⟩
 ·unfold W.tabIn
  rw[a]
  dsimp only
  rw[l]
  dsimp only
  rw[ec]
  dsimp only
  rw[lc]
  dsimp only
  rw[h11]
 ·rcases un y hy nx with q|⟨c',P',q,n⟩
  ·unfold W.tabIn at e
   rw[q] at e;cases e
  ·rw[q] at e;cases e;exact n rfl
end DL
namespace DL
open PySem PySem.Spec PyProof.Rows L2
end DL
namespace DL
open PySem PySem.Spec PyProof.Rows L2
section
open Builtin Builtin.Str
end
end DL
namespace DL
open PySem PySem.Spec PyProof.Rows L2
structure QE (X:Cx)(e:Expr)(g:GE):Prop where
 h:PE X e (tE X g)
structure QT (X:Cx)(e:Expr)(g:GT):Prop where
 h:PT X e (tT X g)
structure QW (X:Cx)(e:Expr)(g:GT):Prop where
 h:PW X e (tT X g)
structure QA (X:Cx)(es:List Expr)(g:GA):Prop where
 h:PA X es (tA X g)
structure QS (X:Cx)(st:Stmt)(g:GS):Prop where
 h:PS X st (tS X g)
structure QB (X:Cx)(st:List Stmt)(g:GS):Prop where
 h:PSs X st (tS X g)
structure QI (X:Cx)(tg e:Expr)(g:GI):Prop where
 h:PI X tg e (tI X g)
structure QG (X:Cx)(tg:Expr)(s:GG):Prop where
 h:PG X tg (tG X s)
structure K7 (X:Cx)(tgs:List Expr)(is:List Nat):Prop where
 h:yL X tgs (LX X is)
structure QP (X:Cx)(e:Option Expr)(g:GO):Prop where
 h:PO X e (tO X g)
structure Q2 (X:Cx)(f:Value→Value→Sem Value)(F:F2):Prop where
 h:iO X f (rD X F)
structure QC (X:Cx)(f:Value)(F:FD):Prop where
 h:dY X f (rC X F)
structure Dp (X:Cx)(scope:Scope)(xs:List Str)(R:List Str)(ifs:List Expr)(gc:GT):Prop where
 h:mh X scope xs R ifs gc
structure JQ (X:Cx)(tgs:List Expr)(ss:List GG):Prop where
 h:yL X tgs (Bv X ss)
structure QO (n:Nat)(sg:GG):Prop where
 h:wg n sg
structure QF (X:Cx)(es:List Expr)(gs:List GE):Prop where
 h:JN X es gs
variable{k:Nat}{f:F2}{op:CmpOp}{gs:List GE}{ok:Str→Option Bool}{tg:Expr}{xs:List Str}{is:List Nat}{sg:GG}{ss:List GG}{body:List Stmt}{gB:GS}
section
variable {X:Cx}{e a b c o i:Expr}{es rest:List Expr}{x:Str}{p p2 pos pos':Pos}{g ga gb gc go gi ge:GE}{ta tb:GT}{gA:GA}
theorem L9:Q2 X (binaryOp .Add) bS:=⟨Jh⟩
theorem Hg:Q2 X (binaryOp .Add) wC:=⟨Dw⟩
theorem Kw:Q2 X (binaryOp .Sub) iF:=⟨HY⟩
theorem LZ:Q2 X (binaryOp .Mult) gT:=⟨Iy⟩
theorem HV:Q2 X (binaryOp .FloorDiv) jv:=⟨EE⟩
theorem Kd:Q2 X (binaryOp .Mod) ij:=⟨Gw⟩
theorem Ld:Q2 X (binaryOp .Pow) pT:=⟨Gf⟩
theorem NX:Q2 X (compareOp .Lt) rN:=⟨Kj⟩
theorem MR:Q2 X (compareOp .LtE) lq:=⟨JV⟩
theorem Nk:Q2 X (compareOp .Gt) nr:=⟨KU⟩
theorem Nh:Q2 X (compareOp .GtE) wO:=⟨Lk⟩
theorem MS (hr:bI k X.A):Q2 X (compareOp .Eq) (a9 false):=⟨LH hr.units⟩
theorem Nr (hr:bI k X.A):Q2 X (compareOp .NotEq) (a9 true):=⟨LR hr.units⟩
theorem MM:Q2 X (compareOp .Is) (jB false):=⟨Lc⟩
theorem Fq:Q2 X (compareOp .IsNot) (jB true):=⟨BK⟩
theorem NS:Q2 X (compareOp .In) (wA false):=⟨Ml⟩
theorem Ly:QC X (.builtin "len") a7:=⟨Gu⟩
theorem JS (hc:X.calm=true:=by rfl):QC X (.builtin "min") xM:=⟨HW hc⟩
theorem Ky (hc:X.calm=true:=by rfl):QC X (.builtin "all") fh:=⟨Hs hc⟩
theorem C4:QC X (.builtin "divmod") xT:=⟨zQ⟩
theorem Mq:QC X (.type "int") uM:=⟨IR⟩
theorem JC:QC X (.type "list") kZ:=⟨D4⟩
theorem D9:QC X (.type "tuple") gL:=⟨B6⟩
theorem qv (i:Nat){x:Str}{pos:Pos}(hN:X.N[i]?=some x:=by rfl)(hv:Kf X.env.scope x:=by first|exact Or.inl rfl|exact Or.inr (Or.inl rfl)|exact Or.inr (Or.inr rfl))(hd:(x==("__debug__":Str))=false:=by decide)
  (hcd:(x==("__classdict__":Str))=false:=by decide):QE X (.Name x pos) (ae i):=⟨vv i hN hv hd hcd⟩
theorem Hc {i:Int}{j pos}:QE X (.Constant (.int i) j pos) (gC (.int i)):=⟨IT⟩
theorem Kg {b j pos}:QE X (.Constant (.bool b) j pos) (gC (.bl b)):=⟨Lo⟩
theorem IV {j pos}:QE X (.Constant .none j pos) (gC .non):=⟨Jj⟩
theorem Gk {x j pos}:QE X (.Constant (.str x) j pos) (gC (.str x)):=⟨G4⟩
theorem IN (h:QE X a g):QE X (.UnaryOp .USub a pos) (iU g):=⟨JA h.h⟩
theorem Hx (h:QE X a g):QE X (.UnaryOp .Not a pos) (ul (aH g)):=⟨IH h.h⟩
theorem L8 {op:Operator}(ho:Q2 X (binaryOp op) f)(ha:QE X a ga)(hb:QE X b gb):QE X (.BinOp a op b pos) (g2 f ga gb):=⟨Mi ho.h ha.h hb.h⟩
def G1:CmpOp→Bool
 | .In=>false
 | .NotIn=>false
 | _=>true
theorem sP {b:Expr}(h:G1 op=true):behindInMarks op b=false:=by
 cases op <;> first|exact HC _|(cases h)
theorem Gp (ho:Q2 X (compareOp op) f)(ha:QE X a ga)(hb:QE X b gb)(hm:G1 op=true:=by rfl):QE X (.Compare a [op] [b] pos) (g2 f ga gb):=⟨Gn ho.h ha.h hb.h (sP hm)⟩
theorem Ig (ho:Q2 X (compareOp op) f)(ha:QE X a ga)(hb:QE X b gb)(hm:G1 op=true:=by rfl):QT X (.Compare a [op] [b] pos) (aH (g2 f ga gb)):=⟨Bz ho.h ha.h hb.h (sP hm)⟩
theorem Fd (ho:Q2 X (compareOp op) f)(ha:QE X a ga)(hb:QE X b gb)(hm:behindInMarks op b=false:=by with_unfolding_all rfl):QT X (.Compare a [op] [b] pos) (aH (g2 f ga gb)):=⟨Bz ho.h ha.h hb.h hm⟩
theorem Bj {op':CmpOp}{f':F2}(ho:Q2 X (compareOp op) f)(ho':Q2 X (compareOp op') f')(ha:QE X a ga)(hb:QE X b gb)(hc:QE X c gc)(hm:lastMarks [op,op'] [b,c]=false:=by with_unfolding_all rfl):QE X (.Compare a [op,op'] [b,c] pos) (nu f f' ga gb gc):=⟨A9 ho.h ho'.h ha.h hb.h hc.h hm⟩
theorem AF {op':CmpOp}{f':F2}(ho:Q2 X (compareOp op) f)(ho':Q2 X (compareOp op') f')(ha:QE X a ga)(hb:QE X b gb)(hc:QE X c gc)(hm:lastMarks [op,op'] [b,c]=false:=by with_unfolding_all rfl):QT X (.Compare a [op,op'] [b,c] pos) (aH (nu f f' ga gb gc)):=⟨C6 ho.h ho'.h ha.h hb.h hc.h hm⟩
theorem IK {op}(h:QE X a g):QE X (.BoolOp op [a] pos) g:=⟨Jw h.h⟩
theorem HH (ha:QE X a ga)(hb:QE X (.BoolOp .And (b::rest) pos) gb):QE X (.BoolOp .And (a::b::rest) pos) (fz ga gb):=⟨Iv ha.h hb.h⟩
theorem Kz (ha:QE X a ga)(hb:QE X (.BoolOp .Or (b::rest) pos) gb):QE X (.BoolOp .Or (a::b::rest) pos) (JJ ga gb):=⟨Lp ha.h hb.h⟩
theorem LN (hc:QT X c ta)(ha:QE X a ga)(hb:QE X b gb):QE X (.IfExp c a b pos) (vj ta ga gb):=⟨JT hc.h ha.h hb.h⟩
theorem EH (ha:QT X a ta):QW X (.BoolOp .And [a] pos) ta:=⟨Dt ha.h⟩
theorem Gv (ha:QT X a ta):QW X (.BoolOp .Or [a] pos) ta:=⟨G7 ha.h⟩
theorem Ja (ha:QT X a ta)(hb:QW X (.BoolOp .And (b::rest) pos) tb):QW X (.BoolOp .And (a::b::rest) pos) (cx ta tb):=⟨HR ha.h hb.h⟩
theorem KI (ha:QT X a ta)(hb:QW X (.BoolOp .Or (b::rest) pos) tb):QW X (.BoolOp .Or (a::b::rest) pos) (dh ta tb):=⟨JY ha.h hb.h⟩
theorem Lf (h:QW X a ta):QT X a ta:=⟨PW.pt h.h⟩
theorem Jg (h:QT X a ta):QT X (.UnaryOp .Not a pos) (bj ta):=⟨Jl h.h⟩
theorem Iq (h:QE X a g)(he:∀whole,isTrue a X.env whole=(do let v ←whole;standAt a.pos;holding [v] (truthy v)):=by intro _;rfl):QT X a (bF g):=⟨Gg h.h he⟩
theorem Hw:QA X [] ag:=⟨IQ⟩
theorem NR {gr:GA}(ha:QE X e g)(hr:QA X es gr)(h:aY e=true:=by rfl):QA X (e::es) (aa g gr):=⟨MZ ha.h hr.h h⟩
theorem Jo {x1}(h:QA X es gA):QE X (.Tuple es x1 pos) (aP gA):=⟨HF h.h⟩
theorem Gq (h:QA X es gA):QE X (.List es pos) (dM gA):=⟨HA h.h⟩
theorem IL (h:QA X es gA):QE X (.List es pos) (jX gA):=⟨Ik h.h⟩
theorem HQ:QF X [] []:=⟨.nil⟩
theorem NG (h:QE X e g)(t:QF X es gs):QF X (e::es) (g::gs):=⟨.cons h.h t.h⟩
theorem HE {i:Int}(h:QE X e g)(hi:i=-1:=by rfl):QE X (.FormattedValue e i none pos) (xf g):=⟨Hv h.h hi⟩
theorem D5 (h:QF X (a::b::es) gs):QE X (.JoinedStr (a::b::es) pos) (mD gs Str.empty):=⟨DB h.h⟩
theorem Iz {i:Int}{j p1 p2 p3 pos}(hi:i=1)(he:QE X e g):QE X (.Subscript e (.Slice none none (some (.UnaryOp .USub (.Constant (.int i) j p1) p2)) p3) pos) (yd g):=⟨HB hi he.h⟩
theorem DO:QP X none bQ:=⟨Fi⟩
theorem ES (h:QE X e g):QP X (some e) (eI g):=⟨Ei h.h⟩
theorem BI {lo hi:Option Expr}{gl gh:GO}(he:QE X e g)(hl:QP X lo gl)(hh:QP X hi gh):QE X (.Subscript e (.Slice lo hi none p2) pos) (pZ g gl gh):=⟨B7 he.h hl.h hh.h⟩
theorem Mg (ha:QE X a ga)(hb:QE X b gb)(hs:ut b:=by intro _ _;rfl):QE X (.Subscript a b pos) (g2 bi ga gb):=⟨Kt ha.h hb.h hs⟩
section
variable {apos cpos:Pos}{k n:Nat}{f:Addr}{fd:FuncData}{ps:List Str}{F:FD}{T:String}{id:String}
theorem zK (ho:QE X o go)(he:QE X e ge)(h1:aY e=true:=by rfl)(hbase:attributeBase o "append" X.env (eval o X.env)=eval o X.env:=by rfl)(hline:(apos.endLine==cpos.line)=true:=by rfl):QE X (.Call (.Attribute o "append" apos) [e] [] cpos) (li go ge):=⟨zu ho.h he.h hbase (xW h1) hline (sE h1) rfl⟩
theorem Bq (ho:QE X o go)(he:QE X e ge)(h1:aY e=true:=by rfl)(hbase:attributeBase o "count" X.env (eval o X.env)=eval o X.env:=by rfl)(hline:(apos.endLine==cpos.line)=true:=by rfl):QE X (.Call (.Attribute o "count" apos) [e] [] cpos) (lR lO go ge):=⟨A5 ho.h he.h h1 hbase hline⟩
theorem CM (ho:QE X o go)(he:QE X e ge)(h1:aY e=true:=by rfl)(hbase:attributeBase o "index" X.env (eval o X.env)=eval o X.env:=by rfl)(hline:(apos.endLine==cpos.line)=true:=by rfl):QE X (.Call (.Attribute o "index" apos) [e] [] cpos) (lR lT go ge):=⟨BG ho.h he.h h1 hbase hline⟩
theorem Kb (Fn:dN X.prog X.w X.K X.mg X.base (ik X.prog X.w) k f fd ps (ng X.K n F))(hr:bI k X.A)(hg:Gl X x)(hm:X.mg x=some (.ref f))(hk:W.keepIn X.K (.ref f)=true)(hb:fg X.K fd ps [])(ha:QA X (e::es) gA)
  (hdb:(x==("__debug__":Str))=false:=by decide) (h1:aY e=true:=by rfl) (h2:cR es=true:=by rfl):QE X (.Call (.Name x p) (e::es) [] pos) (aj n F gA):=⟨Lz Fn hr hg hm hk hb ha.h hdb h1 h2⟩
theorem KQ (hc:QC X (.builtin id) F)(hg:Gl X x)(hm:X.mg x=none)(hv:bootBuiltins x=some (.builtin id))(ha:QA X (e::es) gA)(hn:x≠"__name__":=by decide)(hdb:(x==("__debug__":Str))=false:=by decide)
  (h1:aY e=true:=by rfl) (h2:cR es=true:=by rfl):QE X (.Call (.Name x p) (e::es) [] pos) (aC F gA):=⟨LQ hc.h hg hm hv ha.h hn hdb h1 h2⟩
theorem Mp (hc:QC X (.type T) F)(hg:Gl X x)(hm:X.mg x=none)(hv:bootBuiltins x=some (.type T))(ha:QA X (e::es) gA)(hn:x≠"__name__":=by decide)(hdb:(x==("__debug__":Str))=false:=by decide)
  (h1:aY e=true:=by rfl) (h2:cR es=true:=by rfl):QE X (.Call (.Name x p) (e::es) [] pos) (aC F gA):=⟨K2 hc.h hg hm hv ha.h hn hdb h1 h2⟩
theorem Ke (hT:n5 T)(hv:bootBuiltins x=some (.type T))(hg:Gl X x)(hm:X.mg x=none)(hgi:Gl X "isinstance")(hmi:X.mg "isinstance"=none)(he:QE X e g)
  (h1:aY e=true:=by rfl) (hn:x≠"__name__":=by decide) (hd:(x==("__debug__":Str))=false:=by decide):QE X (.Call (.Name "isinstance" p) [e,.Name x p2] [] pos) (cE T g):=⟨LM hT hv hg hm hgi hmi he.h h1 hn hd⟩
theorem Ho {G:Addr}(hm:X.mg x=some (.ref G))(hk:∀c b C,ok c=some b→dm X.K c C→mU X.K C∧W.kitOne X.K (.ref C) (.ref G)=some b)(hg:Gl X x)(hgi:Gl X "isinstance")(hmi:X.mg "isinstance"=none)(he:QE X e g)
  (h1:aY e=true:=by rfl) (hd:(x==("__debug__":Str))=false:=by decide):QE X (.Call (.Name "isinstance" p) [e,.Name x p2] [] pos) (jc ok g):=⟨GX hm hk hg hgi hmi he.h h1 hd⟩
theorem El (hv:bootBuiltins x=some (.type T))(hm:X.mg x=none)(hk:∀c b C,ok c=some b→dm X.K c C→mU X.K C∧W.kitOne X.K (.ref C) (.type T)=some b)(hg:Gl X x)(hgi:Gl X "isinstance")(hmi:X.mg "isinstance"=none)(he:QE X e g)
  (h1:aY e=true:=by rfl) (hn:x≠"__name__":=by decide) (hd:(x==("__debug__":Str))=false:=by decide):QE X (.Call (.Name "isinstance" p) [e,.Name x p2] [] pos) (jc ok g):=⟨EB hv hm hk hg hgi hmi he.h h1 hn hd⟩
end
theorem K3 {tg:Expr}(hg:Gl X "range")(hm:X.mg "range"=none)(ha:QA X [a] gA)(h1:aY a=true:=by rfl):QI X tg (.Call (.Name "range" p) [a] [] pos) (gH gA):=⟨Lq hg hm ha.h h1⟩
theorem HN (h:QE X e g):QI X tg e (bJ g):=⟨IA h.h⟩
theorem Fy {es:List Expr}{kt:Nat}{tp:Pos}(hg:Gl X "enumerate")(hm:X.mg "enumerate"=none)(hv:bootBuiltins "enumerate"=some (.type "enumerate"))(ha:QA X [a] gA)(h1:aY a=true:=by rfl):QI X (.Tuple es kt tp) (.Call (.Name "enumerate" p) [a] [] pos) (kY gA):=⟨EN hg hm hv ha.h (sE h1)⟩
section
variable {scope:Scope}{R:List Str}{iter elt:Expr}{ifs:List Expr}{gI:GI}{gC:GT}{px:Pos}{mk:List D→aA→bn D}
theorem zn :Dp X scope xs R [] bU:=⟨B5⟩
theorem EC (hS:cM scope X.env.kindOf [x] R X.N=true)(hm:mk=aL∨mk=fe)(hi:QI X (.Name x px) iter gI)(hts:Dp X scope [x] R ifs gC)(he:∀fp s H C,QE (aK X scope [x] R fp s H C) elt ge)
  (hc:X.calm=true:=by rfl) (hs:∀x,foldedSetIterable iter X.env x=pure x:=by intro _;rfl):QE X (.ListComp elt [⟨.Name x px,iter,ifs,0⟩] scope pos) (aW gI gC ge mk):=⟨Eb hS hc hm hi.h hts.h (fun fp s H C=>(he fp s H C).h) hs⟩
theorem xq {j:Nat}{y:Str}{py spos:Pos}(hS:cM scope X.env.kindOf [x] R X.N=true)(hm:mk=aL∨mk=fe)(hN:X.N.Nodup)(hi:QI X (.Name x px) iter gI)(hts:Dp X scope [x] R ifs gC)(he:∀fp s H C,QE (aK X scope [x] R fp s H C) elt ge)
  (hc:X.calm=true:=by rfl) (hj:X.N[j]?=some y:=by rfl) (hy:X.env.scope.names.lookup y=some .local:=by rfl) (hsw:swapsWith (.ListComp elt [⟨.Name x px,iter,ifs,0⟩] scope pos) (some (.Name y py)) spos.line X.env=pure true:=by rfl)
  (hs:∀x,foldedSetIterable iter X.env x=pure x:=by intro _;rfl):QS X (.Assign [.Name y py] (.ListComp elt [⟨.Name x px,iter,ifs,0⟩] scope pos) spos) (aI j (aW gI gC ge mk)):=⟨xa hS hc hm hi.h hts.h (fun fp s H C=>(he fp s H C).h) hN hj hy hsw hs⟩
theorem GZ (n:Nat)(h:is.all (fun i=>decide (i<n))=true:=by rfl):QO n (bO is):=⟨DR h⟩
theorem sJ {fp:List Addr}{s:Shared}{H:Hp}{C:Addr}{y:Str}(hS:cM scope X.env.kindOf xs R X.N=true)(h:y∈xs):(aK X scope xs R fp s H C).env.scope.names.lookup y=some .local:=lookup_relabel_local ((cH.of hS).own y h)
theorem Ow {fp:List Addr}{s:Shared}{H:Hp}{C:Addr}{y:Str}(i:Nat)(hS:cM scope X.env.kindOf xs R X.N=true)(hi:(xs++R)[i]?=some y:=by rfl)(hx:y∈xs:=by simp):QG (aK X scope xs R fp s H C) (.Name y pos) (ej i):=
 ⟨ux (X:=aK X scope xs R fp s H C) (cH.of hS).nd hi (.inl (sJ hS hx)) (.inr (sJ hS hx))⟩
theorem BR (xs:List Str)(hS:cM scope X.env.kindOf xs R X.N=true)(hm:mk=aL∨mk=fe)(own:QO xs.length sg)(hi:QI X tg iter gI)(hg:∀fp s H C,QG (aK X scope xs R fp s H C) tg sg)(hts:Dp X scope xs R ifs gC)(he:∀fp s H C,QE (aK X scope xs R fp s H C) elt ge)
  (hc:X.calm=true:=by rfl) (hs:∀x,foldedSetIterable iter X.env x=pure x:=by intro _;rfl):QE X (.ListComp elt [⟨tg,iter,ifs,0⟩] scope pos) (cA gI xs.length sg gC ge mk):=⟨wn hS hc hm hi.h own.h (fun fp s H C=>(hg fp s H C).h) hts.h (fun fp s H C=>(he fp s H C).h) hs⟩
theorem vS (xs:List Str){j:Nat}{y:Str}{py spos:Pos}(hS:cM scope X.env.kindOf xs R X.N=true)(hm:mk=aL∨mk=fe)(own:QO xs.length sg)(hN:X.N.Nodup)(hi:QI X tg iter gI)(hg:∀fp s H C,QG (aK X scope xs R fp s H C) tg sg)(hts:Dp X scope xs R ifs gC)(he:∀fp s H C,QE (aK X scope xs R fp s H C) elt ge)
  (hc:X.calm=true:=by rfl) (hj:X.N[j]?=some y:=by rfl) (hy:X.env.scope.names.lookup y=some .local:=by rfl) (hsw:swapsWith (.ListComp elt [⟨tg,iter,ifs,0⟩] scope pos) (some (.Name y py)) spos.line X.env=pure true:=by rfl)
  (hs:∀x,foldedSetIterable iter X.env x=pure x:=by intro _;rfl):QS X (.Assign [.Name y py] (.ListComp elt [⟨tg,iter,ifs,0⟩] scope pos) spos) (aI j (cA gI xs.length sg gC ge mk)):=⟨pI hS hc hm hi.h own.h (fun fp s H C=>(hg fp s H C).h) hts.h (fun fp s H C=>(he fp s H C).h) hN hj hy hsw hs⟩
end
def jp:Expr→Bool
 | .ListComp ..=>false
 | .SetComp ..=>false
 | .DictComp ..=>false
 | _=>true
theorem lU {t:Option Expr}{l:Nat}{env:Env}(h:jp e=true):swapsWith e t l env=pure false:=by
 cases e <;> first|rfl|(simp[jp] at h)
section
variable {st:Stmt}{stmts:List Stmt}{t u:GS}
theorem Jr:QB X [] aD:=⟨Gr⟩
theorem Fo (h1:QS X st t)(h2:QB X stmts u):QB X (st::stmts) (ar t u):=⟨D6 h1.h h2.h⟩
theorem IY (h1:QS X st t):QB X [st] t:=⟨GY h1.h⟩
theorem HU (i:Nat){x:Str}(hN:X.N.Nodup)(he:QE X e g)(hi:X.N[i]?=some x:=by rfl)(hx:Dn X.env.scope x:=by first|exact Or.inl rfl|exact Or.inr rfl)(hs:jp e=true:=by rfl)(hf:X.fn x=true∨X.env.scope.names.lookup x=some .local:=by first|exact .inl rfl|exact .inr rfl) :
  QS X (.Assign [.Name x pos'] e pos) (aI i g):=⟨ss i hN he.h hi hx (lU hs) hf⟩
theorem Hq (he:QE X e g):QS X (.Return (some e) pos) (aJ g):=⟨Ju he.h⟩
theorem DF (he:QE X e g)(hs:jp e=true:=by rfl):QS X (.Expr e pos) (bo g):=⟨DY he.h (lU hs)⟩
theorem Kv {a b:List Stmt}{tc:GT}(hc:QT X c tc)(ha:QB X a t)(hb:QB X b u):QS X (.If c a b pos) (cJ tc t u):=⟨Ka hc.h ha.h hb.h⟩
theorem qn (i:Nat){x:Str}(hN:X.N.Nodup)(hi:X.N[i]?=some x:=by rfl)(hx:Dn X.env.scope x:=by first|exact Or.inl rfl|exact Or.inr rfl)(hf:X.fn x=true∨X.env.scope.names.lookup x=some .local:=by first|exact .inl rfl|exact .inr rfl):QG X (.Name x pos) (ej i):=⟨gg i hN hi hx hf⟩
theorem DT:K7 X [] []:=⟨Ea⟩
theorem Kk {i:Nat}(h1:QG X e (ej i))(h2:K7 X es is)(hs:(assignEach (e::es) X.env).map (·.2)=assign e X.env::(assignEach es X.env).map (·.2):=by rfl):K7 X (e::es) (i::is):=⟨A4 h1.h h2.h hs⟩
theorem G9 {k n:Nat}(h:K7 X es is)(hc:X.calm=true:=by rfl)(hl:is.length=n:=by rfl)(hn:(assignEach es X.env).length=n:=by rfl)(hst:(assignEach es X.env).findIdx? (·.1)=none:=by rfl):QG X (.Tuple es k pos) (bO is):=⟨Hj hc h.h hl hn hst⟩
theorem Ez:JQ X [] []:=⟨BA⟩
theorem Lh (h1:QG X e sg)(h2:JQ X es ss)(hs:(assignEach (e::es) X.env).map (·.2)=assign e X.env::(assignEach es X.env).map (·.2):=by rfl):JQ X (e::es) (sg::ss):=⟨Ag h1.h h2.h hs⟩
theorem EL {k n:Nat}(h:JQ X es ss)(hc:X.calm=true:=by rfl)(hl:ss.length=n:=by rfl)(hn:(assignEach es X.env).length=n:=by rfl)(hst:(assignEach es X.env).findIdx? (·.1)=none:=by rfl):QG X (.Tuple es k pos) (pS ss):=⟨E7 hc h.h hl hn hst⟩
theorem Jf {s:GG}(he:QE X e g)(hg:QG X tg s)(hs:jp e=true:=by rfl)(hw:swappedStores [tg] e X.env=pure none:=by rfl)(h1:(assignEach [tg] X.env).map (·.2)=[assign tg X.env]:=by rfl):QS X (.Assign [tg] e pos) (en s g):=⟨Jp he.h hg.h (lU hs) hw h1⟩
theorem GP {ip:Pos}(he:QE X e g)(ho:QE X o go)(hi:QE X i gi)
  (ha:∀v,assign (.Subscript o i ip) X.env v=(do
   let ov ←holding [v] (eval o X.env)
   let iv ←holding [v,ov] (eval i X.env)
   standAt ip
   holding [v,ov,iv] (setItem ov iv v)
   release [v,ov,iv] []):=by intro _;rfl)
  (hs:jp e=true:=by rfl) (hw:swappedStores [.Subscript o i ip] e X.env=pure none:=by rfl):QS X (.Assign [.Subscript o i ip] e pos) (mx go gi g):=⟨He he.h ho.h hi.h ha (by unfold swapsWithSole;exact lU hs) hw rfl⟩
theorem GN {iter:Expr}{gI:GI}(hp:PassesOwn (model X.prog X.w) X.A X.env X.xe)(hi:QI X tg iter gI)(hg:QG X tg sg)(hb:QB X body gB)(hc:X.calm=true:=by rfl)(hs:∀x,foldedSetIterable iter X.env x=pure x:=by intro _;rfl) :
  QS X (.For tg iter body [] pos) (jb gI sg gB):=⟨Ha hp hc hi.h hg.h hb.h hs⟩
theorem Cr {tc:GT}{n:Nat}(hp:PassesOwn (model X.prog X.w) X.A X.env X.xe)(hc:QT X c tc)(hb:QB X body gB):QS X (.While c body [] pos) (o0 n tc gB):=⟨Cf hp hc.h hb.h⟩
theorem AL {x:Str}{C:Addr}{np cpos:Pos}(k:Ec X.K X.mg x C)(hg:Gl X x)(he:QE X e g)(hc:X.calm=true:=by rfl)(h1:aY e=true:=by rfl)(hd:(x==("__debug__":Str))=false:=by decide):QS X (.Raise (some (.Call (.Name x np) [e] [] cpos)) none pos) (gO x g):=⟨CG k hc hg he.h h1 hd⟩
theorem GU {G n:Str}{Ga:Addr}{i:Nat}{ok:Str→Bool}{gh:GS}{suite:List Stmt}{b0:Stmt}{np hpos:Pos}(kG:Ec X.K X.mg G Ga)(hok:∀c C,ok c=true→dm X.K c C→W.mroIn X.K C (.ref Ga)=some true)(hN:X.N.Nodup)
  (hb:∀pn E,QB (qU X pn E) body gB) (hh:∀pn a,QB (mK X pn a) (b0::suite) gh)
  (hg:Gl X G:=by rfl) (hst:X.stack=X.env::X.outer:=by rfl) (hf:X.env.frame=some X.env.locals:=by rfl) (hi:X.N[i]?=some n:=by rfl) (hl:X.env.kindOf n=some .local:=by rfl) (hfn:X.fn n=true∨X.env.scope.names.lookup n=some .local:=by first|exact .inl rfl|exact .inr rfl)
  (hd:(G==("__debug__":Str))=false:=by decide):QS X (.Try body [.ExceptHandler (some (.Name G np)) (some n) (b0::suite) hpos] [] [] pos) (n6 i ok gB gh):=⟨IG kG hok hg hst hf hN hi hl hfn (fun pn E=>(hb pn E).h) (fun pn a=>(hh pn a).h) hd⟩
end
end
section
variable {X:Cx}{c f m:Str}{C:Addr}{o e value:Expr}{es:List Expr}{g go gv:GE}{gA:GA}{pos pos' apos p:Pos}{k n:Nat}{fa:Addr}{fd:FuncData}{ps:List Str}{F:FD}{pl:Sem Bool}
theorem Hn (kc:Kc X.K X.mg c C)(na:f6 X.K C f)(he:QE X e g)(hb:attributeBase e f X.env (eval e X.env)=eval e X.env:=by rfl):QE X (.Attribute e f pos) (eT c f g):=⟨Hh kc na he.h hb⟩
theorem IE (kc:Kc X.K X.mg c C)(na:f6 X.K C f)(ho:QE X o go)(hv:QE X value gv)(hs:jp value=true:=by rfl):QS X (.Assign [.Attribute o f pos'] value pos) (fW c f go gv):=⟨Jz kc na ho.h hv.h (lU hs)⟩
theorem HG (kc:Kc X.K X.mg c C)(hm:tW X.K C m fa)(Fn:dN X.prog X.w X.K X.mg X.base (ik X.prog X.w) k fa fd ps (ng X.K n F))(hr:bI k X.A)(hb:fg X.K fd ps [])(ho:QE X o go)(ha:QA X (e::es) gA)
  (h1:aY e=true:=by rfl) (h2:cR es=true:=by rfl)
  (ht:eval (.Call (.Attribute o m apos) (e::es) [] pos) X.env=(do
   let ov ←eval o X.env
   standAt apos.atName
   let (f,first) ←holding [ov] (getMethod ov m pl)
   callWith pos f first (backTo pos (starEach (e::es) X.env)) (backToKw pos (keywordEach [] X.env))):=by rfl):QE X (.Call (.Attribute o m apos) (e::es) [] pos) (fA c m n F go gA):=⟨HI (pl:=pl) kc hm Fn hr hb ho.h ha.h h1 h2 ht⟩
theorem D3 (kc:Kc X.K X.mg c C)(hm:tW X.K C m fa)(Fn:dN X.prog X.w X.K X.mg X.base (ik X.prog X.w) k fa fd ps (ng X.K n F))(hr:bI k X.A)(hb:fg X.K fd ps [])(ho:QE X o go)
  (ht:eval (.Call (.Attribute o m apos) [] [] pos) X.env=(do
   let ov ←eval o X.env
   standAt apos.atName
   let (f,first) ←holding [ov] (getMethod ov m pl)
   callWith pos f first (backTo pos (starEach [] X.env)) (backToKw pos (keywordEach [] X.env))):=by rfl):QE X (.Call (.Attribute o m apos) [] [] pos) (fA c m n F go ag):=⟨EO (pl:=pl) kc hm Fn hr hb ho.h ht⟩
theorem Ff (kc:Kc X.K X.mg c C)(Mc:Mk X.K C fa)(Fn:dN X.prog X.w X.K X.mg X.base (ik X.prog X.w) k fa fd ps (ng X.K n F))(hr:bI (k+1) X.A)(hg:Gl X c)(hb:fg X.K fd ps [])(ha:QA X (e::es) gA)
  (hdb:(c==("__debug__":Str))=false:=by decide) (h1:aY e=true:=by rfl) (h2:cR es=true:=by rfl):QE X (.Call (.Name c p) (e::es) [] pos) (ib c n F gA):=⟨Dx kc Mc Fn hr hg hb ha.h hdb h1 h2⟩
end
section
variable {X:Cx}{e o lo hi i:Expr}{g go gl gh:GE}{pos ip sp dpos p1 p2:Pos}{keys:List (Option Expr)}{values:List Expr}{tab:List (Str×Int)}
theorem Ih:QE X e Bc:=⟨Ii⟩
end
structure Mf (K:W.Frag)(C:Addr)(x qual:Str)(st:Stmt)(f:Addr)(fd:FuncData)(ps:List Str):Prop where
 F:FA K x qual st f fd
 me:tW K C x f
 b:fg K fd ps []
variable{P:Program}{K:W.Frag}{mg:Str→Option Value}{base:Heap}{x:Str}{fd:FuncData}
theorem Iw {w:World}{qual:Str}{st:Stmt}{f:Addr}{N ps:List Str}{n:Nat}{g:GS}(F:FA K x qual st f fd)(S:eR N ps (aO st))(hn:ps.length=n)
  (hbody:∀(cdv:Value) (A:Around) (outer:List Env) (s:Shared) (H:Hp) (E:XK),bI k (A.deeper (envOfC qual (aO st) s.heap.objs.size f cdv))→QB (io (ik P w) P w K mg base N qual (aO st) f cdv A outer s H E) (cB st) g) :
  dN P w K mg base (ik P w) (k+1) f fd ps (ng K n (aX (N.length-n) g)):=Nv F S hn fun cdv A outer s H E hr=>(hbody cdv A outer s H E hr).h
theorem HZ {w:World}{st:Stmt}{f c Pt:Addr}{N ps:List Str}{n:Nat}{g:GS}(F:FA K x x st f fd)(hns:W.nsIn K mainGlobals x=some (some (.ref f)))(T:vh K x c Pt)(S:eR N ps (aO st))(hn:ps.length=n)
  (hbody:∀(A:Around) (outer:List Env) (s:Shared) (H:Hp) (E:XK),bI k (A.deeper (envOfC x (aO st) s.heap.objs.size f (.ref c)))→QB (io (ik P w) P w K mg base N x (aO st) f (.ref c) A outer s H E) (cB st) g) :
  dN P w K mg base (ik P w) (k+1) f fd ps (ng K n (aX (N.length-n) g)):=La F hns T S hn fun A outer s H E hr=>(hbody A outer s H E hr).h
theorem EZ {X:Cx}{px:Str}{c P:Addr}{params:Arguments}{body:Expr}{scope:Scope}{e:Expr}{g gb:GE}{p pos lpos kpos:Pos}{N:List Str}
  (T:vh X.K x c P) (hr:bI (k+2) X.A) (hg:Gl X "min") (hm:X.mg "min"=none) (hv:bootBuiltins "min"=some (.builtin "min")) (S:eR N [px] scope) (he:QE X e g)
  (hbody:∀(q c':Addr) (A:Around) (outer:List Env) (s:Shared) (H:Hp) (E:XK),bI k (A.deeper (envOfC (cp x) scope s.heap.objs.size q (.ref c')))→
   QE (io (ik X.prog X.w) X.prog X.w X.K X.mg X.base N (cp x) scope q (.ref c') A outer s H E) body gb)
  (hb:∀(pm cv ctv:Value) (s:Shared) (u:Value),BindsTo s (sG (cp x) params body scope pm cv ctv) ⟨[u],[]⟩ [(px,u)]:=by intros;exact .of_eq rfl)
  (hcode:X.env.code=.ref c:=by rfl) (hglob:X.env.globals=mainGlobals:=by rfl) (hq:X.env.qual++("<lambda>":Str)=cp x:=by rfl)
  (hcl:closureFor scope X.env=pure []:=by rfl) (hd:defaultsOf params X.env=([],[]):=by rfl) (hcalm:X.calm=true:=by rfl) (h1:aY e=true:=by rfl) :
  QE X (.Call (.Name "min" p) [e] [⟨some "key",.Lambda params body scope lpos,kpos⟩] pos) (pH (xg (N.length-1) gb) g):=⟨D1 T hr hg hm hv he.h hcode hglob hq hcl hd hcalm S (fun q c' A outer s H E hr=>(hbody q c' A outer s H E hr).h) hb h1⟩
variable{q:Program}{d:DefRec}
theorem E6 {l:W.OpenLaw}{n:Nat}{loose:List Str}{XP:(Str→Option Value)→Heap→Prop}{YP:World→Heap→Prop}{K:Params→W.Frag}{F:FD}
  (hn:l.most=some n) (hn2:n≤sizeLine) (hdf:d.params.defaults=[]) (hr:bI k callerA) (hY:∀(w:World) (h:Heap),YP w h→(K w.params).In h)
  (hF:∀(w:World) (mg:Str→Option Value) (fa:Addr) (h:Heap),(K w.params).In h→h.Ns mainGlobals mg→mg d.name=some (.ref fa)→
   ∃fd:FuncData,(∀(s:Shared) (u:Value),BindsTo s fd ⟨[u],[]⟩ [(x,u)])∧∀base:Heap,(K w.params).In base→base.Ns mainGlobals mg→dN l.prog w (K w.params) mg base (ik l.prog w) k fa fd [x] (ng (K w.params) 1 F))
  (tabs:∀w:World,∃(ls:List (Str×DefRec×Addr×Addr)) (bm:Addr),(∀p∈ls,(recsOf q).find? (fun e=>e.name==p.1)=some p.2.1∧W.tabIn (K w.params) p.1=some (p.2.2.1,p.2.2.2)∧(K w.params).lookup p.2.2.2=none)∧
   (∀y,y∈cy→W.nsIn (K w.params) mainGlobals y=some none∨∃p∈ls,p.1=y)∧W.nsIn (K w.params) mainGlobals "__builtins__"=some (some (.ref bm))∧(K w.params).lookup bm=none)
  (ht:∀ns:List Int,ns.length≤n→∃M',F [.ro (ns.map D.int)] []=.ok (.bl true) M') :
  W.WalkO q loose XP YP l.row.toRowW d [] (fun f vs=>PySem.call f vs):=
 Io (CX:=fun w=>ik l.prog w) (sp:=fun w=>ng (K w.params) 1 F) hn hn2 hdf hr hY hF tabs (fun w H a ns hl tb hS=>Ib tb hS (ht ns hl)) fun w H s e s' z=>J9 z
theorem Ax :∀p∈([]:List (Str×DefRec×Addr×Addr)),(recsOf q).find? (fun e=>e.name==p.1)=some p.2.1∧W.tabIn K p.1=some (p.2.2.1,p.2.2.2)∧K.lookup p.2.2.2=none:=fun _ h=>by cases h
variable{ls:List (Str×DefRec×Addr×Addr)}
theorem Ai {c P:Addr}(h1:(recsOf q).find? (fun e=>e.name==x)=some d)(h2:W.tabIn K x=some (c,P))(h3:K.lookup P=none)
  (h:∀p∈ls,(recsOf q).find? (fun e=>e.name==p.1)=some p.2.1∧W.tabIn K p.1=some (p.2.2.1,p.2.2.2)∧K.lookup p.2.2.2=none) :
  ∀p∈(x,d,c,P)::ls,(recsOf q).find? (fun e=>e.name==p.1)=some p.2.1∧W.tabIn K p.1=some (p.2.2.1,p.2.2.2)∧K.lookup p.2.2.2=none:=fun p hp=>by
 rcases List.mem_cons.mp hp with rfl|hp
 ·exact⟨h1,h2,h3⟩
 ·exact h p hp
theorem vO {φ:Str→Prop}(h1:φ "ink_shown")(h2:φ "table_within")(h3:φ "slots_given")(h4:φ "cast_on_slots"):∀y,y∈cy→φ y:=fun y hy=>by
 simp only[cy,List.mem_cons,List.not_mem_nil,or_false] at hy
 rcases hy with rfl|rfl|rfl|rfl <;> assumption
theorem DX {bm:Addr}(h:∀p∈ls,(recsOf q).find? (fun e=>e.name==p.1)=some p.2.1∧W.tabIn K p.1=some (p.2.2.1,p.2.2.2)∧K.lookup p.2.2.2=none)
  (h2:∀y,y∈cy→W.nsIn K mainGlobals y=some none∨∃p∈ls,p.1=y) (h3:W.nsIn K mainGlobals "__builtins__"=some (some (.ref bm))) (h4:K.lookup bm=none) :
  ∃(ls:List (Str×DefRec×Addr×Addr)) (bm:Addr),(∀p∈ls,(recsOf q).find? (fun e=>e.name==p.1)=some p.2.1∧W.tabIn K p.1=some (p.2.2.1,p.2.2.2)∧K.lookup p.2.2.2=none)∧
   (∀y,y∈cy→W.nsIn K mainGlobals y=some none∨∃p∈ls,p.1=y)∧W.nsIn K mainGlobals "__builtins__"=some (some (.ref bm))∧K.lookup bm=none:=⟨ls,bm,h,h2,h3,h4⟩
theorem Hy {f c P:Addr}{oc occ:Value}{od odc:Option Addr}{sl slc:Array (Option Value)}{vs:Array Value}
  (a:W.nsIn K mainGlobals x=some (some (.ref f))) (l:K.lookup f=some ⟨oc,od,.func fd,sl⟩) (ec:fd.code=.ref c) (lc:K.lookup c=some ⟨occ,odc,.fields vs,slc⟩) (h11:vs[11]?=some (.ref P)):W.tabIn K x=some (c,P):=by
 unfold W.tabIn
 rw[a]
 dsimp only
 rw[l]
 dsimp only
 rw[ec]
 dsimp only
 rw[lc]
 dsimp only
 rw[h11]
end DL
namespace PySem
section
variable {prog:Program}{w:World}{K:Type}[DecidableEq K]{knd:HeapKind prog w K}{A:Around}{E:Value→Shared→Prop}{s:Shared}
theorem hk_setDefault {d a:Addr}{xs:List (K×Addr×Value)}{k:K}{v:Value}{Q:Value→Shared→Prop}(hu:knd.room A)(hkey:knd.is s.heap k a)(hm:s.heap.DictOfH knd d xs)
  (h1:∀p,atKey xs k=some p→Q p.2 {s with toks:=s.toks+knd.draws k})
  (h2:atKey xs k=none→∀h',h'.DictOfH knd d (storedH xs k a v)→Heap.SameBut d s.heap h'→Q v {s with heap:=h',toks:=s.toks+knd.draws k})
  (hsz:xs.length≤sizeLine):wpAny (model prog w) A (dictSetDefault d (.ref a) v) Q E s:=by
 obtain⟨o,es,ep,ho,hc,hd,he,his,hn⟩:=hm
 unfold dictSetDefault
 try with_reducible refine wpAny_holding ?_
 refine wpAny_bind (knd.pyHash hu hkey ?_)
 refine wpAny_bind (wpAny_dictFind_heap (s:={s with toks:=s.toks+knd.draws k}) hu hkey ho hd he his hn ?_ ?_)
 ·intro hno
  have hnot:k∉xs.map (·.1):=not_mem_keys_of_get hno
  have none_:=atKey_none_of_get hno
  refine wpAny_bind (wpAny_rule ?_)
  refine wpAny_bind (wpAny_updateDictKeys (hz:=by have e:=size_of_entries he;omega) (s:={s with toks:=s.toks+knd.draws k}) ho hd (wpAny_pure (h2 none_ _ ⟨_,_,ep+1,Heap.get?_update_self _ ho (Obj.isFreed_of_dict (Obj.data_mapDictKeys hd _)),
   hc.mapDictKeys _,Obj.data_mapDictKeys hd _,?_,?_,?_⟩ (Heap.SameBut.update ..))))
  ·rw[storedH_new none_]
   simp[he,entryOfKey]
  ·rw[storedH_new none_]
   intro x hx
   rcases List.mem_append.mp hx with hx|hx
   ·exact knd.keeps (his x hx) ho hd (Heap.SameBut.update ..)
   ·simp only[List.mem_singleton] at hx
    subst hx
    exact knd.keeps hkey ho hd (Heap.SameBut.update ..)
  ·rw[storedH_new none_]
   rw[List.map_append,List.nodup_append]
   refine⟨hn,by simp,?_⟩
   intro x hx y hy
   simp only[List.map_cons,List.map_nil,List.mem_singleton] at hy
   subst hy
   exact fun e=>hnot (e▸hx)
 ·intro j p hj
  have at_:=atKey_of_get hn hj
  refine wpAny_bind (wpAny_dictEntries (s:={s with toks:=s.toks+knd.draws k}) ho hd ?_)
  rw[entry_at he j,hj]
  exact wpAny_bind (wpAny_rule (wpAny_pure (h1 _ at_)))
theorem hk_meets_setdefault (knd:HeapKind prog w K)(d a:Addr)(hd:(d==sysModules)=false)(dflt:Value) :
  MeetsIn prog w (Builtin.«dict.setdefault» ⟨[.ref d,.ref a,dflt],[]⟩) (fun A R s=>knd.room A.in1∧∃k xs,knd.is s.heap k a∧s.heap.DictOfH knd d xs∧xs.length≤sizeLine∧
   (∀p,atKey xs k=some p→R (.ok (.ret p.2)) {s with toks:=s.toks+knd.draws k})∧
   (atKey xs k=none→∀h',h'.DictOfH knd d (storedH xs k a dflt)→Heap.SameBut d s.heap h'→R (.ok (.ret dflt)) {s with heap:=h',toks:=s.toks+knd.draws k})):=
 .of_wp fun A R s ⟨hu,k,xs,hkey,hm,hz,h1,h2⟩=>by
  unfold Builtin.«dict.setdefault»
  refine wpAny_bind ?_
  unfold Builtin.Dict.keyAndDefault
  refine wpAny_bind (wpAny_notOrdered_dict hm.typeIs ?_)
  show wpAny _ _ (pure (d,Value.ref a,some dflt)) _ _ s
  refine wpAny_pure ?_
  show wpAny _ _ (if(d==sysModules)=true then _ else(dictSetDefault d (.ref a) dflt >>= _)) _ _ s
  rw[if_neg (by rw[hd];exact Bool.false_ne_true)]
  exact wpAny_bind (hk_setDefault (hsz:=hz) hu hkey hm (fun p hp=>wpAny_pure ⟨p.2,rfl,h1 p hp⟩) fun hn h' hm' hs'=>wpAny_pure ⟨dflt,rfl,h2 hn h' hm' hs'⟩)
end
end PySem
namespace L2
open PySem PySem.Spec PyProof.Rows
def Oe (H:Hp)(a:Addr)(y z r:V)(H':Hp):Prop:=
 (MY H a y (some r)∧H'=H)∨(∃kvs k,H a=some (.dK kvs)∧y=kV k∧ni kvs k=none∧kvs.length<sizeLine∧r=z∧H'=cj H a (.dK (pN kvs k z)))∨
 ∃kvs k b,H a=some (.dT kvs)∧y=.ref b∧H b=some (.tup (k.map kV))∧ni kvs k=none∧kvs.length<sizeLine∧r=z∧H'=cj H a (.dT (pN kvs k z))
section
variable {X:Cx}{ah:List (Addr×Obj)}{σ:St}{H H':Hp}{s:Shared}{a:Addr}{y z r:V}{u d:Value}{A:Around}{E:Value→Shared→Prop}
theorem Cw {Q:Value→Shared→Prop}(hu:A.units+1<cLine)(I:Inv X ah σ H s)(g:Oe H a y z r H')(ry:RelV y u)(rz:RelV z d)(h:∀w' s',Inv X ah σ H' s'→RelV r w'→Q w' s') :
  wpAny (model X.prog X.w) A (call (.builtin "dict.setdefault") [.ref a,u,d]) Q E s:=by
 rcases g with⟨g,rfl⟩|⟨kvs,k,e,ey,l,hl,er,rfl⟩|⟨kvs,k,b,e,ey,eb,l,hl,er,rfl⟩
 ·rcases g with⟨kvs,k,e,ey,l⟩|⟨kvs,k,b,e,ey,eb,l⟩
  ·subst ey
   obtain⟨z',hd,vs,rel,dd⟩:=Cy I.hok e
   obtain⟨w',hw,rw'⟩:=lA.some_of (v:=r) (o:=valueAt vs k) (by rw[l];exact rel.val k)
   refine call_meetsIn PySem.F.slot_dict_setdefault dd.typeIs PySem.F.entry_dict_setdefault (PySem.F.args_dict_setdefault_3 _ _ _) (kt_meets_setdefault (cD X.prog X.w) a (Cp ry) hd d) ⟨vs,dd,by rw[←rel.length];exact z',fun v hv=>?_,fun hn=>?_⟩
   ·rw[hw] at hv;cases hv
    exact h _ _ (I.tok _) rw'
   ·rw[hw] at hn;cases hn
  ·subst ey
   cases (show u=Value.ref b from ry)
   obtain⟨z',hd,xs,rel,dd⟩:=CI I.hok e
   obtain⟨w',hw,rw'⟩:=lA.some_of (v:=r) (o:=(atKey xs k).map (·.2)) (by rw[l];exact rel.val k)
   obtain⟨p,hp,hp2⟩:=Option.map_eq_some_iff.mp hw
   refine call_meetsIn PySem.F.slot_dict_setdefault dd.typeIs PySem.F.entry_dict_setdefault (PySem.F.args_dict_setdefault_3 _ _ _) (hk_meets_setdefault (tupleKind (cD X.prog X.w)) a b hd d) ⟨tupleKind_room_in1 hu,k,xs,wV I.hok eb,dd,by rw[←Paired.length rel];exact z',fun q hq=>?_,fun hn=>?_⟩
   ·rw[hp] at hq;cases hq
    rw[hp2]
    exact h _ _ (I.tok _) rw'
   ·rw[hp] at hn;cases hn
 ·subst ey er
  obtain⟨z',hd,vs,rel,dd⟩:=Mh I.hok e
  have hn:valueAt vs k=none:=lA.none_of (by rw[←l];exact rel.val k)
  have hl':(pN kvs k r).length≤sizeLine:=by have:=pp kvs k r;omega
  refine call_meetsIn PySem.F.slot_dict_setdefault dd.typeIs PySem.F.entry_dict_setdefault (PySem.F.args_dict_setdefault_3 _ _ _) (kt_meets_setdefault (cD X.prog X.w) a (Cp ry) hd d) ⟨vs,dd,by rw[←rel.length];exact z',fun v hv=>?_,fun _ h' dd' hs=>h _ _ ?_ rz⟩
  ·rw[hn] at hv;cases hv
  ·have he:∃q,h'.get? a=some q:=let ⟨q,_,_,hq,_⟩:=dd';⟨q,hq⟩
   exact yC I (by rw[e];exact True.intro) hs he (GB hl' hd (rel.put k rz) dd')
 ·subst ey er
  cases (show u=Value.ref b from ry)
  obtain⟨z',hd,xs,rel,dd⟩:=JX I.hok e
  have hn:(atKey xs k).map (·.2)=none:=lA.none_of (by rw[←l];exact rel.val k)
  have hl':(pN kvs k r).length≤sizeLine:=by have:=pp kvs k r;omega
  refine call_meetsIn PySem.F.slot_dict_setdefault dd.typeIs PySem.F.entry_dict_setdefault (PySem.F.args_dict_setdefault_3 _ _ _) (hk_meets_setdefault (tupleKind (cD X.prog X.w)) a b hd d) ⟨tupleKind_room_in1 hu,k,xs,wV I.hok eb,dd,by rw[←Paired.length rel];exact z',fun q hq=>?_,fun _ h' dd' hs=>h _ _ ?_ rz⟩
  ·rw[hq] at hn;cases hn
  ·obtain⟨q,es,ep,hq,h2,h3,h4,_,h5⟩:=dd'
   refine yC I (by rw[e];exact True.intro) hs ⟨q,hq⟩ ⟨hl',hd,_,(rel.put k eb rz).keeps fun c ys ec=>?_,q,es,ep,hq,h2,h3,h4,h5⟩
   rw[az (wa ec e (fun z=>nomatch z))]
   exact ec
end
section
variable {X:Cx}{o e f:Expr}{td ty tx:TE}{apos cpos:Pos}
def Li (td ty tx:TE):TE:=fun σ H Q=>td σ H fun x H1=>∃a,x=.ref a∧NF H1 a∧ty σ H1 fun y H2=>tx σ H2 fun z H3=>∃r H4,Oe H3 a y z r H4∧Q r H4
theorem wY (hu:X.A.units+1<cLine)(ho:PE X o td)(he:PE X e ty)(hf:PE X f tx)(m:M2 X o "setdefault" apos e f cpos):PE X (.Call (.Attribute o "setdefault" apos) [e,f] [] cpos) (Li td ty tx):=by
 intro ah s σ H Q I h
 refine wpAny_Call_method m.base m.few m.line PySem.F.plainAttrs_dict PySem.F.slot_dict_setdefault PySem.F.type_dict_setdefault (cF (ho ah s σ H _ I h) fun u s1 ⟨x,H1,I1,rx,a,ex,d,q1⟩=>?_)
 subst ex
 obtain rfl:u=Value.ref a:=rx
 obtain⟨t1,t2,_⟩:=GC I1 d
 refine⟨t1,t2,?_⟩
 rw[m.trees]
 refine Calls.callWith_builtin rfl (Calls.evalArgs_plain (Calls.spliced_cons (cF (he ah s1 σ H1 _ I1 q1) fun iv s2 ⟨y,H2,I2,ry,q2⟩=>
  Calls.spliced_cons (cF (hf ah s2 σ H2 _ I2 q2) fun fv s3 ⟨z,H3,I3,rz,r,H4,g,q3⟩=>Calls.spliced_nil ?_))))
 exact Cw hu I3 g ry rz fun w' s4 I4 rw'=>⟨_,H4,I4,rw',q3⟩
end
def lG (ns:List Int):List Int:=ns.mergeSort fun a b=>decide (a≤b)
theorem rm (ns:List Int):(lG ns).Perm ns:=List.mergeSort_perm ns _
theorem Dj (ns:List Int):(lG ns).Pairwise (·≤·):=by
 have h:(lG ns).Pairwise (fun a b=>decide (a≤b)=true):=List.pairwise_mergeSort (le:=fun a b=>decide (a≤b)) (fun a b c h1 h2=>by simp at *;omega) (fun a b=>by simp;omega) ns
 exact h.imp fun h=>by simpa using h
theorem tK:∀{a b:List Int},a.Perm b→a.Pairwise (·≤·)→b.Pairwise (·≤·)→a=b
 | [],b,p,_,_=>(List.Perm.nil_eq p)
 | x::a,[],p,_,_=>absurd p.symm.nil_eq (by simp)
 | x::a,y::b,p,ha,hb=>by
  have h1:x≤y:=by
   rcases List.mem_cons.mp (p.symm.subset (List.mem_cons_self ..):y∈x::a) with e|e
   ·omega
   ·exact(List.pairwise_cons.mp ha).1 y e
  have h2:y≤x:=by
   rcases List.mem_cons.mp (p.subset (List.mem_cons_self ..):x∈y::b) with e|e
   ·omega
   ·exact(List.pairwise_cons.mp hb).1 x e
  have e:x=y:=by omega
  subst e
  rw[tK (List.perm_cons x |>.mp p) (List.pairwise_cons.mp ha).2 (List.pairwise_cons.mp hb).2]
theorem sA:∀{ns:List Int} {us:List Value},aZ (ns.map V.int) us→IntsAre us ns
 | [],us,r=>by cases r;exact .nil
 | n::ns,us,r=>by
  cases r with
  | cons h t=>
   obtain⟨tk,e⟩:=(show∃t,_=Value.int n t from h)
   subst e
   exact .cons n tk (sA t)
theorem qC:∀{us:List Value} {ns:List Int},IntsAre us ns→aZ (ns.map V.int) us
 | _,_,.nil=>.nil
 | _,_,.cons n t r=>.cons ⟨t,rfl⟩ (qC r)
section
variable {X:Cx}
theorem vX:dY X (.builtin "sorted") (fun xs H Q=>∃p ns,xs=[.ref p]∧mE X.K H p (ns.map V.int)∧ns.length<64∧∀l,H l=none→Q (.ref l) (cj H l (.lst ((lG ns).map V.int)))):=by
 intro ah s σ H xs us Q I r h
 obtain⟨p,ns,rfl,hq,h64,q⟩:=h
 obtain⟨u,rfl,rx⟩:=ou r
 cases rx
 obtain⟨its,r',pl,hz⟩:=I.list hq
 have hlen:=r'.length
 rw[List.length_map] at hlen
 refine sorted_ints pl.isList (sA r') (by omega) fun out ns' a1 a2 a3=>?_
 have e:ns'=lG ns:=tK (a2.trans (rm ns).symm) a3 (Dj ns)
 subst e
 obtain⟨c,he⟩:=sortedAll_at s.heap its out
 have hl2:(lG ns).length≤sizeLine:=by rw[(rm ns).length_eq,sizeLine_eq];omega
 exact⟨.ref (s.heap.objs.size+1),_,I.laid (t':=s.toks) (fun _ _=>sortedAll_old) (Nat.le_succ _) (show cP X.prog X.w _ _ _ (.lst ((lG ns).map V.int)) from⟨by rw[List.length_map];exact hl2,out.toList,c,qC a1,by simpa using he⟩),rfl,q _ (I.hok.fresh (Nat.le_succ _))⟩
end
end L2
namespace DL
open PySem PySem.Spec PyProof.Rows L2
def nJ:D→Option dH
 | .int i=>some (.inl i)
 | .str x=>some (.inr x)
 | _=>none
def zh:List D→Option (List dH)
 | []=>some []
 | d::ds=>match nJ d,zh ds with
  | some k,some ks=>some (k::ks)
  | _,_=>none
def oH:D→Option (List dH)
 | .tup ds=>zh ds
 | _=>none
def lu {κ:Type}[DecidableEq κ](kvs:List (κ×D))(k:κ):Option D:=(kvs.find? fun kv=>decide (kv.1=k)).map (·.2)
section
variable {K:W.Frag}{θ:List Addr}{H:Hp}
theorem FU {d:D}{k:dH}{v:V}(e:nJ d=some k)(r:dq K θ H d v):v=kV k:=by
 cases d <;> simp only[nJ,Option.some.injEq,reduceCtorEq] at e
 ·subst e;exact r
 ·subst e;exact r
theorem CN:∀{ds:List D} {ks:List dH} {vs:List V},zh ds=some ks→bA K θ H ds vs→vs=ks.map kV
 | [],ks,vs,e,r=>by
  simp only[zh,Option.some.injEq] at e;subst e;exact r
 | d::ds,ks,vs,e,r=>by
  obtain⟨v,us,e1,r1,r2⟩:=r
  simp only[zh] at e
  cases q1:nJ d with
  | none=>rw[q1] at e;cases e
  | some k=>
   cases q2:zh ds with
   | none=>rw[q1,q2] at e;cases e
   | some ks'=>
    rw[q1,q2] at e
    cases e
    rw[e1,FU q1 r1,CN q2 r2];rfl
theorem Gj {d:D}{ks:List dH}{v:V}(e:oH d=some ks)(r:dq K θ H d v):∃b,v=.ref b∧H b=some (.tup (ks.map kV))∧b∉θ:=by
 cases d with
 | tup ds=>
  obtain⟨a,vs,e1,t,r1⟩:=r
  rw[CN e r1] at t
  exact⟨a,e1,t.1,t.2⟩
 | _=>cases e
section
variable {κ:Type}[DecidableEq κ]
theorem AI {p:κ×D}{r:List (κ×D)}{k:κ}(e:p.1=k):lu (p::r) k=some p.2:=by simp[lu,List.find?_cons,e]
theorem Cu {p:κ×D}{r:List (κ×D)}{k:κ}(e:¬p.1=k):lu (p::r) k=lu r k:=by simp[lu,List.find?_cons,e]
theorem p9:∀{fs:List (κ×D)} {vs:List (κ×V)} (k:κ),rA K θ H fs vs→(∀d,lu fs k=some d→∃v,ni vs k=some v∧dq K θ H d v)∧(lu fs k=none→ni vs k=none)
 | [],vs,k,r=>by
  have e:vs=[]:=r
  subst e
  exact⟨fun d h=>(by cases h),fun _=>rfl⟩
 | p::fs,vs,k,r=>by
  obtain⟨k0,d0⟩:=p
  obtain⟨v,us,e,h1,h2⟩:=r
  subst e
  by_cases q:k0=k
  ·rw[AI (p:=(k0,d0)) q,oj (p:=(k0,v)) q]
   exact⟨fun d h=>(by cases h;exact⟨v,rfl,h1⟩),fun h=>(by cases h)⟩
  ·rw[Cu (p:=(k0,d0)) q,oi (p:=(k0,v)) q]
   exact p9 k h2
theorem ow {k:κ}{d:D}{v:V}(h:dq K θ H d v):∀{fs:List (κ×D)} {vs:List (κ×V)},rA K θ H fs vs→rA K θ H (fs++[(k,d)]) (vs++[(k,v)])
 | [],vs,r=>by
  have e:vs=[]:=r
  subst e
  exact⟨v,[],rfl,h,rfl⟩
 | (k0,d0)::fs,vs,r=>by
  obtain⟨u,us,e,h1,h2⟩:=r
  subst e
  exact⟨u,us++[(k,v)],rfl,h1,ow h h2⟩
theorem lK:∀{fs:List (κ×D)} {vs:List (κ×V)},rA K θ H fs vs→fs.length=vs.length
 | [],vs,r=>by
  have e:vs=[]:=r
  subst e;rfl
 | (k0,d0)::fs,vs,r=>by
  obtain⟨u,us,e,h1,h2⟩:=r
  subst e
  rw[List.length_cons,List.length_cons,lK h2]
end
end
section
variable {X:Cx}{pos apos cpos:Pos}{o e f:Expr}
def wK:GE:=fun _ M=>.ok (.mr M.length) (M++[.dK []])
def vq:GE:=fun _ M=>.ok (.mr M.length) (M++[.dT []])
theorem EK:PE X (.Dict [] [] pos) (tE X wK):=A2.of fun σ H Q ⟨ρ,θ,M,hd,hw,h⟩ p hp=>by
 have h:aN X θ H Q (.ok (.mr M.length) (M++[.dK []])):=h
 exact h _ _ _ (u4 hw hp ⟨[],bE,rfl⟩) (nN hw)
theorem EM:PE X (.Dict [] [] pos) (tE X vq):=AQ.of fun σ H Q ⟨ρ,θ,M,hd,hw,h⟩ p hp=>by
 have h:aN X θ H Q (.ok (.mr M.length) (M++[.dT []])):=h
 exact h _ _ _ (u4 hw hp ⟨[],bE,rfl⟩) (nN hw)
def tY:Option MO→Bool
 | some (.dK _)=>true
 | some (.dT _)=>true
 | _=>false
def gD (i:Nat)(y z:D)(M:aA):bn D:=match M[i]? with
 | some (.dK kvs)=>match nJ y with
  | some k=>match lu kvs k with
   | some r=>.ok r M
   | none=>if kvs.length<sizeLine then .ok z (M.set i (.dK (kvs++[(k,z)]))) else .bad
  | none=>.bad
 | some (.dT kvs)=>match oH y with
  | some k=>match lu kvs k with
   | some r=>.ok r M
   | none=>if kvs.length<sizeLine then .ok z (M.set i (.dT (kvs++[(k,z)]))) else .bad
  | none=>.bad
 | _=>.bad
def kz (go gy gz:GE):GE:=fun ρ M=>(go ρ M).bind fun o M1=>match o with
 | .mr i=>if tY M1[i]?=true then(gy ρ M1).bind fun y M2=>(gz ρ M2).bind fun z M3=>gD i y z M3 else .bad
 | _=>.bad
theorem zD {K:W.Frag}{θ:List Addr}{H:Hp}{M:aA}{i:Nat}{a:Addr}(hw:Wr K θ H M)(ta:θ[i]?=some a)(h:tY M[i]?=true):NF H a:=by
 cases q:M[i]? with
 | none=>rw[q] at h;cases h
 | some m=>
  cases m with
  | lst _=>rw[q] at h;cases h
  | obj _ _=>rw[q] at h;cases h
  | dK kvs=>obtain⟨vs,e,_⟩:=hw.at_ i a _ ta q;exact .inl ⟨vs,.inl e⟩
  | dT kvs=>obtain⟨vs,e,_⟩:=hw.at_ i a _ ta q;exact .inr ⟨vs,.inl e⟩
theorem zB {go gy gz:GE}(hu:X.A.units+1<cLine)(ho:PE X o (tE X go))(he:PE X e (tE X gy))(hf:PE X f (tE X gz))(m:M2 X o "setdefault" apos e f cpos) :
  PE X (.Call (.Attribute o "setdefault" apos) [e,f] [] cpos) (tE X (kz go gy gz)):=(wY hu ho he hf m).of fun σ H Q ⟨ρ,θ,M,hd,hw,h⟩=>by
 refine bL hd hw (aN X θ H Q) (fun c M' h=>h) (fun h=>h) h fun d M1 v θ1 H1 g1 r1 h1=>?_
 have h2:=aN.go g1 h1
 cases d with
 | mr i=>
  have h2:aN X θ1 H1 Q (if tY M1[i]?=true then(gy ρ M1).bind fun y M2=>(gz ρ M2).bind fun z M3=>gD i y z M3 else .bad):=h2
  obtain⟨a,ea,ta⟩:=id r1
  split at h2
  ·rename_i hD
   refine⟨a,ea,zD g1.wr ta hD,?_⟩
   refine bL (hd.go g1) g1.wr (aN X θ1 H1 Q) (fun c M' h=>h) (fun h=>h) h2 fun dy M2 vy θ2 H2 g2 r2 h3=>?_
   refine bL ((hd.go g1).go g2) g2.wr (aN X θ2 H2 Q) (fun c M' h=>h) (fun h=>h) (aN.go g2 h3) fun dz M3 vz θ3 H3 g3 r3 h4=>?_
   have h4:=aN.go g3 h4
   have ry:dq X.K θ3 H3 dy vy:=r2.go g3
   obtain⟨a',ea',ta3⟩:dq X.K θ3 H3 (.mr i) v:=r1.go (g2.trans g3)
   obtain rfl:a=a':=by rw[ea] at ea';injection ea'
   unfold gD at h4
   cases q:M3[i]? with
   | none=>rw[q] at h4;exact h4.elim
   | some mo=>
    cases mo with
    | lst _=>rw[q] at h4;exact h4.elim
    | obj _ _=>rw[q] at h4;exact h4.elim
    | dK kvs=>
     rw[q] at h4
     dsimp only at h4
     obtain⟨vs,hv,ra⟩:=g3.wr.at_ i a _ ta3 q
     cases qk:nJ dy with
     | none=>rw[qk] at h4;exact h4.elim
     | some k=>
      rw[qk] at h4
      dsimp only at h4
      have ek:=FU qk ry
      obtain⟨i1,i2⟩:=p9 k ra
      cases qg:lu kvs k with
      | some r=>
       rw[qg] at h4
       obtain⟨vr,hvr,rr⟩:=i1 r qg
       exact⟨vr,H3,.inl ⟨.inl ⟨vs,k,.inl hv,ek,hvr.symm⟩,rfl⟩,h4 _ _ _ (.refl g3.wr) rr⟩
      | none=>
       rw[qg] at h4
       dsimp only at h4
       split at h4
       ·rename_i hl
        have nv:=i2 qg
        refine⟨vz,_,.inr (.inl ⟨vs,k,hv,ek,nv,by rw[←lK ra];exact hl,rfl,rfl⟩),?_⟩
        rw[vG vz nv]
        have gs:=pX (m:=.dK (kvs++[(k,dz)])) (o:=.dK (vs++[(k,vz)])) g3.wr ta3 ⟨_,bE,jS (nL g3.wr ta3) (ow r3 ra)⟩
        exact h4 _ _ _ gs (r3.go gs)
       ·exact h4.elim
    | dT kvs=>
     rw[q] at h4
     dsimp only at h4
     obtain⟨vs,hv,ra⟩:=g3.wr.at_ i a _ ta3 q
     cases qk:oH dy with
     | none=>rw[qk] at h4;exact h4.elim
     | some k=>
      rw[qk] at h4
      dsimp only at h4
      obtain⟨b,eb,hb,_⟩:=Gj qk ry
      obtain⟨i1,i2⟩:=p9 k ra
      cases qg:lu kvs k with
      | some r=>
       rw[qg] at h4
       obtain⟨vr,hvr,rr⟩:=i1 r qg
       exact⟨vr,H3,.inl ⟨.inr ⟨vs,k,b,.inl hv,eb,hb,hvr.symm⟩,rfl⟩,h4 _ _ _ (.refl g3.wr) rr⟩
      | none=>
       rw[qg] at h4
       dsimp only at h4
       split at h4
       ·rename_i hl
        have nv:=i2 qg
        refine⟨vz,_,.inr (.inr ⟨vs,k,b,hv,eb,hb,nv,by rw[←lK ra];exact hl,rfl,rfl⟩),?_⟩
        rw[vG vz nv]
        have gs:=pX (m:=.dT (kvs++[(k,dz)])) (o:=.dT (vs++[(k,vz)])) g3.wr ta3 ⟨_,bE,jS (nL g3.wr ta3) (ow r3 ra)⟩
        exact h4 _ _ _ gs (r3.go gs)
       ·exact h4.elim
  ·exact h2.elim
 | _=>exact h2.elim
def Cb:List D→Option (List Int)
 | []=>some []
 | .int i::ds=>(Cb ds).map (i::·)
 | _::_=>none
theorem Bx {K:W.Frag}{θ:List Addr}{H:Hp}:∀{ds:List D} {ns:List Int} {vs:List V},Cb ds=some ns→bA K θ H ds vs→vs=ns.map V.int
 | [],ns,vs,e,r=>by
  simp only[Cb,Option.some.injEq] at e;subst e;exact r
 | d::ds,ns,vs,e,r=>by
  obtain⟨v,us,e1,r1,r2⟩:=r
  cases d with
  | int i=>
   simp only[Cb] at e
   obtain⟨ms,e2,e3⟩:=Option.map_eq_some_iff.mp e
   subst e3
   rw[e1,Bx e2 r2,show v=V.int i from r1];rfl
  | _=>cases e
theorem tU {K:W.Frag}{θ:List Addr}{H:Hp}:∀ns:List Int,bA K θ H (ns.map D.int) (ns.map V.int)
 | []=>rfl
 | n::ns=>⟨_,_,rfl,rfl,tU ns⟩
def tu:FD:=fun ds M=>match ds with
 | [d]=>match pR d M with
  | some xs=>match Cb xs with
   | some ns=>if ns.length<64 then .ok (.lst ((lG ns).map D.int)) M else .bad
   | none=>.bad
  | none=>.bad
 | _=>.bad
theorem zM:dY X (.builtin "sorted") (rC X tu):=by
 intro ah s σ H xs us Q I r h
 obtain⟨θ,M,ds,hw,rd,h⟩:=h
 unfold tu at h
 split at h
 ·rename_i d
  split at h
  ·rename_i ys q
   split at h
   ·rename_i ns qn
    split at h
    ·rename_i hl
     obtain⟨v,e,rv⟩:=kr rd
     obtain⟨a,vs,ea,ta,ra⟩:=sC hw rv q
     have ev:=Bx qn ra
     subst ev
     exact vX ah s σ H xs us Q I r ⟨a,ns,by rw[e,ea],.inl (.inl ta),hl,fun l hp=>h _ θ _ (dR hw hp) (kI hw hp (tU _))⟩
    ·exact h.elim
   ·exact h.elim
  ·exact h.elim
 ·exact h.elim
end
section
variable {X:Cx}{pos apos cpos:Pos}{o e f:Expr}{go gy gz:GE}
theorem E4:QE X (.Dict [] [] pos) wK:=⟨EK⟩
theorem DM:QE X (.Dict [] [] pos) vq:=⟨EM⟩
theorem Br:QC X (.builtin "sorted") tu:=⟨zM⟩
theorem zW {k:Nat}(hr:bI k X.A)(ho:QE X o go)(he:QE X e gy)(hf:QE X f gz)
  (base:attributeBase o "setdefault" X.env (eval o X.env)=eval o X.env:=by rfl)
  (few:((backTo cpos (starEach [e,f] X.env)).all (fun x=>!x.1)&&(backToKw cpos (keywordEach [] X.env)).all (fun x=>x.1.isSome)
   && decide (([e,f]:List Expr).length+([]:List Keyword).length+(if([]:List Keyword).isEmpty then 0 else 1)<30))=true:=by rfl)
  (line:(apos.endLine==cpos.line)=true:=by rfl) (trees:backTo cpos (starEach [e,f] X.env)=[(false,eval e X.env),(false,eval f X.env)]:=by rfl) :
  QE X (.Call (.Attribute o "setdefault" apos) [e,f] [] cpos) (kz go gy gz):=⟨zB (J0 hr) ho.h he.h hf.h ⟨base,few,line,trees⟩⟩
end
end DL
namespace L2
open PySem PySem.Spec PyProof.Rows
theorem rT:seqSlot? (.type "list") (dunderI "add")=pure (some (.builtin "list.__iadd__")):=PySem.seqSlot_of PySem.F.slot_list_iadd.lookup (by decide +kernel)
theorem oC:fillsInplaceSlot (.type "list") "add" (Operator.Add==.Add)=pure false:=by
 unfold fillsInplaceSlot
 show(typeLookup (.type "list") (dunderI "add") >>= fun fi=>pure (fi.isSome&&!isSeqSlot fi))=pure false
 have e:isSeqSlot (some (Value.builtin "list.__iadd__"))=true:=by decide +kernel
 rw[PySem.F.slot_list_iadd.lookup,pure_bind,e]
 rfl
section
variable {X:Cx}
theorem vd {M:Model}{A:Around}{E:Value→Shared→Prop}{s:Shared}{a b:Value}{Q:Value→Shared→Prop}(ha:s.TypeIs a "list")(hb:s.TypeIs b "list")
  (hc:wpAny M A (call (.builtin "list.__iadd__") [a,b]) Q E s):wpAny M A (inplaceOp .Add a b) Q E s:=by
 unfold inplaceOp
 refine wpAny_holding ?_
 refine wpAny_bind (wpAny_typeOf ha (wpAny_bind (wpAny_of_eq oC ?_)))
 show wpAny M A (if false=true then _ else _) Q E s
 rw[if_neg Bool.false_ne_true]
 refine wpAny_bind (wpAny_binaryOp1_none (nm:="add") ha hb PySem.noFill_list_add ?_)
 refine wpAny_bind (wpAny_of_eq rT ?_)
 exact wpAny_bind (wpAny_rule hc)
def KA:V→V→Hp→VK→Prop:=fun x y H Q=>(∃i j,x=.int i∧y=.int j∧Q (.int (i+j)) H)∨
 ∃l b xs zs,x=.ref l∧y=.ref b∧H l=some (.lst xs)∧H b=some (.lst zs)∧xs.length+zs.length≤sizeLine∧Q (.ref l) (cj H l (.lst (xs++zs)))
theorem yx:FE X .Add KA:=by
 intro ah s σ H x y u v Q I rx ry h
 rcases h with⟨i,j,e1,e2,q⟩|⟨l,b,xs,zs,rfl,rfl,hH,hB,hz,q⟩
 ·exact Ip ah s σ H x y u v Q I rx ry ⟨i,j,e1,e2,q⟩
 ·cases rx
  cases ry
  obtain⟨z,its,n,r,hl,e⟩:=I.lstM hH
  obtain⟨z2,its2,n2,r2,hl2,e2⟩:=I.lstM hB
  have hsz:its.toArray.size+its2.toArray.size≤sizeLine:=by rw[List.size_toArray,List.size_toArray];omega
  have hlong:¬(!its.toArray.isEmpty&&Builtin.List.listTooLong (its.toArray.size+its2.toArray.size))=true:=by
   rw[Ba hsz,Bool.and_false]
   exact Bool.false_ne_true
  refine vd ⟨_,e,rfl⟩ ⟨_,e2,rfl⟩ (call_meets PySem.F.slot_list_iadd ⟨_,e,rfl⟩ PySem.F.entry_list_iadd (PySem.F.args_list_iadd_2 _ _)
   (AutoSeq1.list___iadd___list_list_0 l its.toArray n b its2.toArray n2 hlong (by rw[List.size_toArray];omega) (by omega)) ⟨e,e2,?_⟩)
  refine⟨.ref l,_,I.lset (its':=its++its2) hH e (by simp) (r.append r2) ?_,rfl,q⟩
  rw[List.length_append]
  omega
end
end L2
namespace DL
open PySem PySem.Spec PyProof.Rows L2
section
variable {X:Cx}{c f:Str}{C:Addr}{o value:Expr}{go gv:GE}{pos pos' tpos:Pos}
def xk (x y:D)(M:aA):bn D:=match x with
 | .int i=>match y with
  | .int j=>.ok (.int (i+j)) M
  | _=>.bad
 | .mr k=>match M[k]? with
  | some (.lst xs)=>match pR y M with
   | some ys=>if xs.length+ys.length≤sizeLine then .ok (.mr k) (M.set k (.lst (xs++ys))) else .bad
   | none=>.bad
  | _=>.bad
 | _=>.bad
def MW (X:Cx):V→V→Hp→VK→Prop:=fun x y H Q=>∃θ M dx dy,Wr X.K θ H M∧dq X.K θ H dx x∧dq X.K θ H dy y∧aN X θ H Q (xk dx dy M)
theorem Hu:FE X .Add (MW X):=by
 intro ah s σ H x y u v Q I rx ry ⟨θ,M,dx,dy,hw,r1,r2,h⟩
 unfold xk at h
 cases dx with
 | int i=>
  cases dy with
  | int j=>exact yx ah s σ H x y u v Q I rx ry (.inl ⟨i,j,r1,r2,h _ θ H (.refl hw) rfl⟩)
  | _=>exact h.elim
 | mr k=>
  dsimp only at h
  cases q:M[k]? with
  | none=>rw[q] at h;exact h.elim
  | some m=>
   cases m with
   | obj _ _=>rw[q] at h;exact h.elim
   | dK _=>rw[q] at h;exact h.elim
   | dT _=>rw[q] at h;exact h.elim
   | lst xs=>
    rw[q] at h
    dsimp only at h
    cases q2:pR dy M with
    | none=>rw[q2] at h;exact h.elim
    | some ys=>
     rw[q2] at h
     dsimp only at h
     split at h
     ·rename_i hl
      obtain⟨a,ea,ta⟩:=r1
      obtain⟨vs,hv,ra⟩:=hw.at_ k a _ ta q
      obtain⟨b,ws,eb,tb,rb⟩:=sC hw r2 q2
      have gs:=xt (ds:=xs) hw ta (dn ra rb)
      exact yx ah s σ H x y u v Q I rx ry (.inr ⟨a,b,vs,ws,ea,eb,hv,tb,by rw[←av ra,←av rb];exact hl,h _ _ _ gs ⟨a,rfl,ta⟩⟩)
     ·exact h.elim
 | _=>exact h.elim
def D7 (c f:Str)(go gv:GE):GS:=fun ρ M=>(go ρ M).bind fun o M1=>match iV c o M1 with
 | some (_,fs)=>match fs.lookup f with
  | some v=>(gv ρ M1).bind fun y M2=>(xk v y M2).bind fun z M3=>(uN c f o z M3).bind fun _ M4=>.ok (.nx ρ) M4
  | none=>.bad
 | none=>.bad
theorem KS (k:Kc X.K X.mg c C)(n:f6 X.K C f)(ho:PE X o (tE X go))(hv:PE X value (tE X gv)):PS X (.AugAssign (.Attribute o f tpos) .Add value pos) (tS X (D7 c f go gv)):=
 (zz ho hv Hu).of fun D σ H ⟨ρ,θ,M,hd,hw,h⟩=>by
  refine bL hd hw (cS X θ H D) (fun c M' h=>h) (fun h=>h) h fun d M1 v θ1 H1 g1 r1 h1=>?_
  have h2:=cS.go g1 h1
  cases q:iV c d M1 with
  | none=>simp only[q] at h2;exact h2.elim
  | some p=>
   obtain⟨j,fs⟩:=p
   simp only[q] at h2
   obtain⟨a,dx,vs,ea,ta,hv,rf,_⟩:=qA g1.wr k.at_ r1 q
   cases ql:fs.lookup f with
   | none=>simp only[ql] at h2;exact h2.elim
   | some y=>
    simp only[ql] at h2
    obtain⟨u,eu,ru⟩:=xv rf ql
    refine⟨a,C,dx,vs,u,ea,hv,k.cl,n,eu,?_⟩
    refine bL (hd.go g1) g1.wr (cS X θ1 H1 D) (fun c M' h=>h) (fun h=>h) h2 fun w M2 vw θ2 H2 g2 r2 h3=>?_
    have h3:=cS.go g2 h3
    refine⟨θ2,M2,y,w,g2.wr,ru.go g2,r2,?_⟩
    cases qa:xk y w M2 with
    | bad=>rw[qa] at h3;exact h3.elim
    | err c2 M3=>rw[qa] at h3;exact h3
    | ok z M3=>
     rw[qa] at h3
     rw[ao] at h3
     intro vz θ3 H3 g3 rz
     have h4:=cS.go g3 h3
     have r3:=r1.go (g2.trans g3)
     unfold uN at h4
     cases q4:iV c d M3 with
     | none=>simp only[q4] at h4;exact h4.elim
     | some p4=>
      obtain⟨j4,fs4⟩:=p4
      simp only[q4] at h4
      by_cases hl:fs4.length<1000
      ·simp only[if_pos hl] at h4
       obtain⟨a4,dx4,vs4,ea4,ta4,hv4,rf4,_⟩:=qA g3.wr k.at_ r3 q4
       obtain rfl:a=a4:=by rw[ea] at ea4;injection ea4
       have gs:=yK (f:=f) (dx:=dx4) g3.wr ta4 k.at_ rf4 rz
       exact⟨dx4,vs4,hv4,by rw[←yh rf4];exact hl,h4 σ θ3 _ gs ((((hd.go g1).go g2).go g3).go gs)⟩
      ·simp only[if_neg hl] at h4;exact h4.elim
theorem KJ (kc:Kc X.K X.mg c C)(na:f6 X.K C f)(ho:QE X o go)(hv:QE X value gv):QS X (.AugAssign (.Attribute o f tpos) .Add value pos) (D7 c f go gv):=⟨KS kc na ho.h hv.h⟩
end
end DL
namespace L2
open PySem PySem.Spec PyProof.Rows
end L2
namespace DL
open PySem PySem.Spec PyProof.Rows L2
theorem aT {N ps:List Str}{sc:Scope}(h1:sc.kind=.function:=by rfl)(h2:sc.isCoroutine=false:=by rfl)(h3:sc.isGenerator=false:=by rfl)(h4:N.Nodup:=by decide +kernel)(h5:N.take ps.length=ps:=by rfl)
  (h6:∀x∈ps,sc.names.lookup x=some .local∨sc.names.lookup x=some .cell:=by decide +kernel) (h7:∀y∈sc.names,y.2≠.free:=by decide +kernel):eR N ps sc:=⟨h1,h2,h3,h4,h5,h6,h7⟩
section
variable {X:Cx}{e:Expr}{es:List Expr}{x:Str}{p pos:Pos}{gA:GA}{k k' n:Nat}{f:Addr}{fd:FuncData}{ps:List Str}{F:FD}{st:Stmt}{id:String}{T:String}
theorem JZ (hc:QC X (.builtin id) F)(hm:X.mg x=none)(hv:bootBuiltins x=some (.builtin id))(ha:QA X (e::es) gA)(hg:Gl X x:=by rfl)(hn:x≠"__name__":=by decide)(hdb:(x==("__debug__":Str))=false:=by decide)
  (h1:aY e=true:=by rfl) (h2:cR es=true:=by rfl):QE X (.Call (.Name x p) (e::es) [] pos) (aC F gA):=KQ hc hg hm hv ha hn hdb h1 h2
end
def FF (K:W.Frag)(mg:Str→Option Value)(x:Str)(st:Stmt)(ps:List Str):Prop:=∃f fd,Fn K mg x st f fd ps
def KC (K:W.Frag)(mg:Str→Option Value)(c:Str)(C:Addr):Prop:=Kc K mg c C∧W.makesIn K C=true∧W.keepIn K (.ref C)=true
def MF (K:W.Frag)(mg:Str→Option Value)(c m q:Str)(st:Stmt)(ps:List Str):Prop:=∃C f fd,KC K mg c C∧Mf K C m q st f fd ps
def LF (K:W.Frag)(mg:Str→Option Value)(x:Str)(st:Stmt)(ps:List Str):Prop:=∃f fd c P,Fn K mg x st f fd ps∧W.nsIn K mainGlobals x=some (some (.ref f))∧vh K x c P
def NA (K:W.Frag)(mg:Str→Option Value)(c f:Str):Prop:=∃C,KC K mg c C∧f6 K C f
def EX (K:W.Frag)(mg:Str→Option Value)(x:Str):Prop:=∃C,Ec K mg x C
def IX (K:W.Frag)(mg:Str→Option Value)(x:Str)(tab:List (Str×Bool)):Prop:=∃G,Ec K mg x G∧∀p∈tab,∃C,Ec K mg p.1 C∧W.mroIn K C (.ref G)=some p.2
def IB (K:W.Frag)(mg:Str→Option Value)(x:String)(tab:List (Str×Bool)):Prop:=∀p∈tab,∃C,Ec K mg p.1 C∧W.mroIn K C (.type x)=some p.2
def Ls {α:Type}(P:α→Prop)(l:List α):Prop:=∀t∈l,P t
section
variable {α β γ:Type}{P:α→Prop}{l:List α}{a:α}
theorem Ls.nil:Ls P []:=fun _ h=>by cases h
theorem Ls.cons (h:P a)(t:Ls P l):Ls P (a::l):=fun x hx=>by
 rcases List.mem_cons.mp hx with e|e
 ·rw[e];exact h
 ·exact t x e
end
structure RN (l c:Nat)(xs R:List Str):Prop
theorem rn (l c:Nat)(xs R:List Str):RN l c xs R:=⟨⟩
def Ok (P:Program)(w:World)(K:W.Frag)(mg:Str→Option Value)(base:Heap)(x:Str)(k n:Nat)(F:FD):Prop:=
 ∃f fd ps,dN P w K mg base (ik P w) k f fd ps (ng K n F)∧mg x=some (.ref f)∧W.keepIn K (.ref f)=true∧fg K fd ps []
def Om (P:Program)(w:World)(K:W.Frag)(mg:Str→Option Value)(base:Heap)(c m:Str)(k n:Nat)(F:FD):Prop:=
 ∃C f fd ps,dN P w K mg base (ik P w) k f fd ps (ng K n F)∧KC K mg c C∧tW K C m f∧fg K fd ps []
section
variable {P:Program}{w:World}{K:W.Frag}{mg:Str→Option Value}{base:Heap}{x c m q:Str}{st:Stmt}{N ps:List Str}{k n:Nat}{g:GS}{F:FD}
theorem oS (h:Ok P w K mg base x k n F):Ok P w K mg base x k n fun ds M=>iQ M.length (F ds M):=by
 obtain⟨f,fd,ps,h1,h2,h3,h4⟩:=h
 exact⟨f,fd,ps,Jm h1,h2,h3,h4⟩
theorem Ia (T:FF K mg x st ps)(hn:ps.length=n:=by rfl):Ok P w K mg base x k n fun _ _=>.bad:=by
 obtain⟨f,fd,T⟩:=T
 exact⟨f,fd,ps,HP hn,T.m,T.F.kp,T.b⟩
theorem cb (T:FF K mg x st ps)(N:List Str)(S:eR N ps (aO st))(hn:ps.length=n)
  (hb:∀(f:Addr) (cdv:Value) (A:Around) (outer:List Env) (s:Shared) (H:Hp) (E:XK),N.Nodup→bI k (A.deeper (envOfC x (aO st) s.heap.objs.size f cdv))→QB (io (ik P w) P w K mg base N x (aO st) f cdv A outer s H E) (cB st) g) :
  Ok P w K mg base x (k+1) n (aX (N.length-n) g):=by
 obtain⟨f,fd,T⟩:=T
 exact⟨f,fd,ps,Iw T.F S hn fun cdv A outer s H E hr=>hb f cdv A outer s H E S.nd hr,T.m,T.F.kp,T.b⟩
theorem tV (T:MF K mg c m q st ps)(N:List Str)(S:eR N ps (aO st))(hn:ps.length=n)
  (hb:∀(f:Addr) (cdv:Value) (A:Around) (outer:List Env) (s:Shared) (H:Hp) (E:XK),N.Nodup→bI k (A.deeper (envOfC q (aO st) s.heap.objs.size f cdv))→QB (io (ik P w) P w K mg base N q (aO st) f cdv A outer s H E) (cB st) g) :
  Om P w K mg base c m (k+1) n (aX (N.length-n) g):=by
 obtain⟨C,f,fd,kC,T⟩:=T
 exact⟨C,f,fd,ps,Iw T.F S hn fun cdv A outer s H E hr=>hb f cdv A outer s H E S.nd hr,kC,T.me,T.b⟩
theorem Nx (T:LF K mg x st ps)(N:List Str)(S:eR N ps (aO st))(hn:ps.length=n)
  (hb:∀(f c Pt:Addr) (A:Around) (outer:List Env) (s:Shared) (H:Hp) (E:XK),N.Nodup→vh K x c Pt→bI k (A.deeper (envOfC x (aO st) s.heap.objs.size f (.ref c)))→QB (io (ik P w) P w K mg base N x (aO st) f (.ref c) A outer s H E) (cB st) g) :
  Ok P w K mg base x (k+1) n (aX (N.length-n) g):=by
 obtain⟨f,fd,c,Pt,T,hns,tb⟩:=T
 exact⟨f,fd,ps,HZ T.F hns tb S hn fun A outer s H E hr=>hb f c Pt A outer s H E S.nd tb hr,T.m,T.F.kp,T.b⟩
end
section
variable {X:Cx}{e a o value:Expr}{es:List Expr}{x c m f:Str}{p p2 pos apos pos':Pos}{gA:GA}{g go gv:GE}{k k' n:Nat}{F:FD}{tab:List (Str×Bool)}{bs:List Str}
theorem K0 (h:Ok X.prog X.w X.K X.mg X.base x k n F)(hr:bI k' X.A)(ha:QA X (e::es) gA)(hk:k≤k':=by first|decide|omega)(hg:Gl X x:=by rfl)
  (hdb:(x==("__debug__":Str))=false:=by decide) (h1:aY e=true:=by rfl) (h2:cR es=true:=by rfl):QE X (.Call (.Name x p) (e::es) [] pos) (aj n F gA):=by
 obtain⟨f,fd,ps,h1',h2',h3,h4⟩:=h
 exact Kb h1' (hr.mono hk) hg h2' h3 h4 ha hdb h1 h2
theorem Ee {pl:Sem Bool}(h:Om X.prog X.w X.K X.mg X.base c m k n F)(hr:bI k' X.A)(ho:QE X o go)(ha:QA X (e::es) gA)(hk:k≤k':=by first|decide|omega)(h1:aY e=true:=by rfl)(h2:cR es=true:=by rfl)
  (ht:eval (.Call (.Attribute o m apos) (e::es) [] pos) X.env=(do
   let ov ←eval o X.env
   standAt apos.atName
   let (f,first) ←holding [ov] (getMethod ov m pl)
   callWith pos f first (backTo pos (starEach (e::es) X.env)) (backToKw pos (keywordEach [] X.env))):=by rfl):QE X (.Call (.Attribute o m apos) (e::es) [] pos) (fA c m n F go gA):=by
 obtain⟨C,f,fd,ps,a1,a2,a3,a4⟩:=h
 exact HG (pl:=pl) a2.1 a3 a1 (hr.mono hk) a4 ho ha h1 h2 ht
theorem Dd {pl:Sem Bool}(h:Om X.prog X.w X.K X.mg X.base c m k n F)(hr:bI k' X.A)(ho:QE X o go)(hk:k≤k':=by first|decide|omega)
  (ht:eval (.Call (.Attribute o m apos) [] [] pos) X.env=(do
   let ov ←eval o X.env
   standAt apos.atName
   let (f,first) ←holding [ov] (getMethod ov m pl)
   callWith pos f first (backTo pos (starEach [] X.env)) (backToKw pos (keywordEach [] X.env))):=by rfl):QE X (.Call (.Attribute o m apos) [] [] pos) (fA c m n F go ag):=by
 obtain⟨C,f,fd,ps,a1,a2,a3,a4⟩:=h
 exact D3 (pl:=pl) a2.1 a3 a1 (hr.mono hk) a4 ho ht
theorem BN (h:Om X.prog X.w X.K X.mg X.base c "__init__" k n F)(hr:bI k' X.A)(ha:QA X (e::es) gA)(hk:k+1≤k':=by first|decide|omega)(hg:Gl X c:=by rfl)
  (hdb:(c==("__debug__":Str))=false:=by decide) (h1:aY e=true:=by rfl) (h2:cR es=true:=by rfl):QE X (.Call (.Name c p) (e::es) [] pos) (ib c n F gA):=by
 obtain⟨C,f,fd,ps,a1,a2,a3,a4⟩:=h
 exact Ff a2.1 ⟨a2.2.1,a3.at_,a3.fn,a2.2.2⟩ a1 (hr.mono hk) hg a4 ha hdb h1 h2
theorem Fw (h:NA X.K X.mg c f)(he:QE X e g)(hb:attributeBase e f X.env (eval e X.env)=eval e X.env:=by rfl):QE X (.Attribute e f pos) (eT c f g):=by
 obtain⟨C,h1,h2⟩:=h
 exact Hn h1.1 h2 he hb
theorem FJ (h:NA X.K X.mg c f)(ho:QE X o go)(hv:QE X value gv)(hs:jp value=true:=by rfl):QS X (.Assign [.Attribute o f pos'] value pos) (fW c f go gv):=by
 obtain⟨C,h1,h2⟩:=h
 exact IE h1.1 h2 ho hv hs
theorem IU {tpos:Pos}(h:NA X.K X.mg c f)(ho:QE X o go)(hv:QE X value gv):QS X (.AugAssign (.Attribute o f tpos) .Add value pos) (D7 c f go gv):=by
 obtain⟨C,h1,h2⟩:=h
 exact KJ h1.1 h2 ho hv
theorem zq {np cpos:Pos}(h:EX X.K X.mg x)(he:QE X e g)(hg:Gl X x:=by rfl)(hc:X.calm=true:=by rfl)(h1:aY e=true:=by rfl)(hd:(x==("__debug__":Str))=false:=by decide):QS X (.Raise (some (.Call (.Name x np) [e] [] cpos)) none pos) (gO x g):=by
 obtain⟨C,h⟩:=h
 exact AL h hg he hc h1 hd
theorem EQ (h:IX X.K X.mg x tab)(hmi:X.mg "isinstance"=none)(he:QE X e g)(hg:Gl X x:=by rfl)(hgi:Gl X "isinstance":=by rfl)
  (h1:aY e=true:=by rfl) (hd:(x==("__debug__":Str))=false:=by decide):QE X (.Call (.Name "isinstance" p) [e,.Name x p2] [] pos) (jc (wo tab) g):=by
 obtain⟨G,h,t⟩:=h
 exact Ho h.m (Cg fun p hp=>(t p hp).elim fun C q=>⟨C,q.1.at_,q.1.k,Ft h q.2⟩) hg hgi hmi he h1 hd
theorem AT {T:String}(h:IB X.K X.mg T tab)(hm:X.mg x=none)(hmi:X.mg "isinstance"=none)(he:QE X e g)(hT:W.kitMeta T=true)(hv:bootBuiltins x=some (.type T))(hg:Gl X x:=by rfl)(hgi:Gl X "isinstance":=by rfl)
  (h1:aY e=true:=by rfl) (hn:x≠"__name__":=by decide) (hd:(x==("__debug__":Str))=false:=by decide):QE X (.Call (.Name "isinstance" p) [e,.Name x p2] [] pos) (jc (wo tab) g):=
 El hv hm (Cg fun p hp=>(h p hp).elim fun C q=>⟨C,q.1.at_,q.1.k,Cd hT q.2⟩) hg hgi hmi he h1 hn hd
theorem DN {l:List Str}{G n:Str}{i:Nat}{gB gh:GS}{body suite:List Stmt}{b0:Stmt}{np hpos:Pos}(h:IX X.K X.mg G tab)(hN:X.N.Nodup)
  (hb:∀pn E,QB (qU X pn E) body gB) (hh:∀pn a,QB (mK X pn a) (b0::suite) gh) (hl:tab=l.map (·,true):=by rfl)
  (hg:Gl X G:=by rfl) (hst:X.stack=X.env::X.outer:=by rfl) (hf:X.env.frame=some X.env.locals:=by rfl) (hi:X.N[i]?=some n:=by rfl) (hl:X.env.kindOf n=some .local:=by rfl) (hfn:X.fn n=true∨X.env.scope.names.lookup n=some .local:=by first|exact .inl rfl|exact .inr rfl)
  (hd:(G==("__debug__":Str))=false:=by decide):QS X (.Try body [.ExceptHandler (some (.Name G np)) (some n) (b0::suite) hpos] [] [] pos) (n6 i (List.contains l) gB gh):=by
 obtain⟨C,h,t⟩:=h
 refine GU h (Oq (l:=l) fun c hc=>?_) hN hb hh hg hst hf hi hl hfn hd
 subst tab
 obtain⟨D,q1,q2⟩:=t (c,true) (List.mem_map.mpr ⟨c,hc,rfl⟩)
 exact⟨D,q1.at_,q2⟩
end
section
variable {X:Cx}{x:Str}{pos px:Pos}{ge:GE}{scope:Scope}{xs R:List Str}{iter elt tg:Expr}{ifs:List Expr}{gI:GI}{gC:GT}{sg:GG}{mk:List D→aA→bn D}{j:Nat}{y:Str}{py spos:Pos}{n:Nat}
theorem Co (hS:cM scope X.env.kindOf [x] X.N X.N=true)(hm:mk=aL∨mk=fe)(hi:QI X (.Name x px) iter gI)(hts:Dp X scope [x] X.N ifs gC)(he:∀fp s H C,QE (aK X scope [x] X.N fp s H C) elt ge)
  (hc:X.calm=true:=by rfl) (hs:∀x,foldedSetIterable iter X.env x=pure x:=by intro _;rfl):QE X (.ListComp elt [⟨.Name x px,iter,ifs,0⟩] scope pos) (aW gI gC ge mk):=EC hS hm hi hts he hc hs
theorem vp (hS:cM scope X.env.kindOf [x] X.N X.N=true)(hm:mk=aL∨mk=fe)(hN:X.N.Nodup)(hi:QI X (.Name x px) iter gI)(hts:Dp X scope [x] X.N ifs gC)(he:∀fp s H C,QE (aK X scope [x] X.N fp s H C) elt ge)
  (hc:X.calm=true:=by rfl) (hj:X.N[j]?=some y:=by rfl) (hy:X.env.scope.names.lookup y=some .local:=by rfl) (hsw:swapsWith (.ListComp elt [⟨.Name x px,iter,ifs,0⟩] scope pos) (some (.Name y py)) spos.line X.env=pure true:=by rfl)
  (hs:∀x,foldedSetIterable iter X.env x=pure x:=by intro _;rfl):QS X (.Assign [.Name y py] (.ListComp elt [⟨.Name x px,iter,ifs,0⟩] scope pos) spos) (aI j (aW gI gC ge mk)):=xq hS hm hN hi hts he hc hj hy hsw hs
theorem zf (_:RN pos.line pos.col xs R)(hS:cM scope X.env.kindOf xs R X.N=true)(hm:mk=aL∨mk=fe)(own:QO xs.length sg)(hi:QI X tg iter gI)(hg:∀fp s H C,QG (aK X scope xs R fp s H C) tg sg)(hts:Dp X scope xs R ifs gC)(he:∀fp s H C,QE (aK X scope xs R fp s H C) elt ge)
  (hn:xs.length=n:=by rfl) (hc:X.calm=true:=by rfl) (hs:∀x,foldedSetIterable iter X.env x=pure x:=by intro _;rfl):QE X (.ListComp elt [⟨tg,iter,ifs,0⟩] scope pos) (cA gI n sg gC ge mk):=hn▸BR xs hS hm own hi hg hts he hc hs
theorem uP (_:RN pos.line pos.col xs R)(hS:cM scope X.env.kindOf xs R X.N=true)(hm:mk=aL∨mk=fe)(own:QO xs.length sg)(hN:X.N.Nodup)(hi:QI X tg iter gI)(hg:∀fp s H C,QG (aK X scope xs R fp s H C) tg sg)(hts:Dp X scope xs R ifs gC)(he:∀fp s H C,QE (aK X scope xs R fp s H C) elt ge)
  (hn:xs.length=n:=by rfl) (hc:X.calm=true:=by rfl) (hj:X.N[j]?=some y:=by rfl) (hy:X.env.scope.names.lookup y=some .local:=by rfl) (hsw:swapsWith (.ListComp elt [⟨tg,iter,ifs,0⟩] scope pos) (some (.Name y py)) spos.line X.env=pure true:=by rfl)
  (hs:∀x,foldedSetIterable iter X.env x=pure x:=by intro _;rfl):QS X (.Assign [.Name y py] (.ListComp elt [⟨tg,iter,ifs,0⟩] scope pos) spos) (aI j (cA gI n sg gC ge mk)):=hn▸vS xs hS hm own hN hi hg hts he hc hj hy hsw hs
end
structure Tx (tab:List (Str×Stmt×List Str))(mtab:List (Str×Str×Str×Stmt×List Str))(ls:List (Str×Stmt×List Str))(zs es:List Str)(rs:List (Str×List (Str×Bool)))(vt:List (Str×Bool))(nas:List (Str×Str))(cs:List (Str×Str))(ci:List (Str×Int))
  (P:Program) (w:World) (K:W.Frag) (mg:Str→Option Value) (base:Heap):Prop where
 f:Ls (fun t=>FF K mg t.1 t.2.1 t.2.2) tab
 m:Ls (fun t=>MF K mg t.1 t.2.1 t.2.2.1 t.2.2.2.1 t.2.2.2.2) mtab
 l:Ls (fun t=>LF K mg t.1 t.2.1 t.2.2) ls
 z:∀x∈zs,mg x=none
 e:∀x∈es,EX K mg x
 r:Ls (fun t=>IX K mg t.1 t.2) rs
 b:IB K mg "ValueError" vt
 a:∀t∈nas,NA K mg t.1 t.2
 s:Ls (fun t=>∃tk,mg t.1=some (.str t.2 tk)) cs
 i:Ls (fun t=>∃tk,mg t.1=some (.int t.2 tk)) ci
variable{K:W.Frag}{mg:Str→Option Value}
theorem yA {l:List (Str×Str)}(h:∀t∈l,NA K mg t.1 t.2)(c f:Str)(e:(c,f)∈l:=by decide +kernel):NA K mg c f:=h (c,f) e
theorem FP {l:List (Str×List (Str×Bool))}{x:Str}{t:List (Str×Bool)}(h:Ls (fun t=>IX K mg t.1 t.2) l)(e:l.lookup x=some t):IX K mg x t:=by
 refine h (x,t) ?_
 induction l with
 | nil=>cases e
 | cons p l ih=>
  obtain⟨y,u⟩:=p
  rw[List.lookup_cons] at e
  split at e
  ·rename_i q
   cases e
   rw[eq_of_beq q]
   exact .head _
  ·exact .tail _ (ih (fun t ht=>h t (.tail _ ht)) e)
section
variable {K:W.Frag}{mg:Str→Option Value}{x c m q:Str}{st:Stmt}{ps:List Str}{l:List (Str×Stmt×List Str)}{l':List (Str×Str×Str×Stmt×List Str)}
theorem bZ (h:Ls (fun t=>FF K mg t.1 t.2.1 t.2.2) l)(i:Nat)(e:l[i]?=some (x,st,ps):=by rfl):FF K mg x st ps:=h _ (List.mem_of_getElem? e)
theorem NV (h:Ls (fun t=>LF K mg t.1 t.2.1 t.2.2) l)(i:Nat)(e:l[i]?=some (x,st,ps):=by rfl):LF K mg x st ps:=h _ (List.mem_of_getElem? e)
theorem uu (h:Ls (fun t=>MF K mg t.1 t.2.1 t.2.2.1 t.2.2.2.1 t.2.2.2.2) l')(i:Nat)(e:l'[i]?=some (c,m,q,st,ps):=by rfl):MF K mg c m q st ps:=h _ (List.mem_of_getElem? e)
end
section
variable {K:W.Frag}{h:Heap}{mg:Str→Option Value}{x c m q f':Str}{st:Stmt}{ps:List Str}{f C G:Addr}{oc kV dc pm cd ct:Value}{od an:Option Addr}{sl:Array (Option Value)}
theorem KO (X:K.In h)(Gm:h.Ns mainGlobals mg)(a:W.nsIn K mainGlobals x=some (some (.ref f)))(l:K.lookup f=some ⟨oc,od,.func (W.fnOf x x (fX st) (cB st) (aO st) .none kV dc pm an cd ct),sl⟩)(c:W.codeIn K cd x=true)(k:W.keepIn K (.ref f)=true)
  (b:∀(kV doc pm:Value) (an:Option Addr) (cdv ct:Value) (us:List Value),us.length=ps.length→bindArgs (W.fnOf x x (fX st) (cB st) (aO st) .none kV doc pm an cdv ct) ⟨us,[]⟩=pure (ps.zip us)):FF K mg x st ps:=
 ⟨f,_,oK (st:=st) l c k,W.mg_of X Gm a,(oK (st:=st) l c k).binds b⟩
theorem KH (X:K.In h)(Gm:h.Ns mainGlobals mg)(q:W.nsIn K mainGlobals c=some (some (.ref C)))(pg:W.plainGet K C Str.empty=true)(hd:W.hasDictIn K C=true)(po:W.plainOver K C=true)(sa:W.findIn K (.ref C) "__setattr__"=some (some (.builtin "object.__setattr__")))
  (mi:W.makesIn K C=true) (kp:W.keepIn K (.ref C)=true):KC K mg c C:=⟨⟨q,W.mg_of X Gm q,pg,hd,po,sa⟩,mi,kp⟩
theorem K8 (kC:KC K mg c C)(a:W.findIn K (.ref C) m=some (some (.ref f)))(l:K.lookup f=some ⟨oc,od,.func (W.fnOf m q (fX st) (cB st) (aO st) .none kV dc pm an cd ct),sl⟩)(cc:W.codeIn K cd q=true)(k:W.keepIn K (.ref f)=true)(n:W.isFn K (.ref f)=true)
  (b:∀(kV doc pm:Value) (an:Option Addr) (cdv ct:Value) (us:List Value),us.length=ps.length→bindArgs (W.fnOf m q (fX st) (cB st) (aO st) .none kV doc pm an cdv ct) ⟨us,[]⟩=pure (ps.zip us)):MF K mg c m q st ps:=
 ⟨C,f,_,kC,oK (st:=st) l cc k,⟨a,n,k⟩,(oK (st:=st) l cc k).binds b⟩
theorem Ln (kC:KC K mg c C)(a:W.findIn K (.ref C) f'=some none):NA K mg c f':=⟨C,kC,a⟩
theorem L7 (X:K.In h)(Gm:h.Ns mainGlobals mg)(q:W.nsIn K mainGlobals x=some (some (.ref C)))(cl:W.isClsIn K C=true)(ca:W.findIn K (.ref C) "__class__"=some (some (.builtin "object.__class__")))(sp:W.specialIn K (.builtin "object.__class__") "__get__"=some (some (.builtin "getset_descriptor.__get__")))(tk:W.takesIn K (.builtin "object.__class__")=some true)
  (ob:W.mroIn K C (.type "object")=some true) (ga:W.findIn K (.ref C) "__getattribute__"=some (some (.builtin "BaseException.__getattribute__"))) (gh:W.findIn K (.ref C) "__getattr__"=some none) (be:W.mroIn K C (.type "BaseException")=some true)
  (ex:W.excIn K C J1 "ValueError.__new__"=true) (ty:W.typeIn K (.ref C)=some (.type "type")) (sf:W.mroIn K C (.ref C)=some true):Ec K mg x C:=⟨q,W.mg_of X Gm q,⟨cl,ca,sp,tk,ob,ga,gh,be⟩,ex,ty,sf⟩
theorem Lv (h:Ec K mg x C):EX K mg x:=⟨C,h⟩
theorem LI {tab:List (Str×Bool)}(h:Ec K mg x G)(t:Ls (fun p=>∃C,Ec K mg p.1 C∧W.mroIn K C (.ref G)=some p.2) tab):IX K mg x tab:=⟨G,h,t⟩
theorem Ku {T:Value}{b:Bool}(h:Ec K mg x C)(e:W.mroIn K C T=some b):∃C,Ec K mg x C∧W.mroIn K C T=some b:=⟨C,h,e⟩
theorem N7 (X:K.In h)(Gm:h.Ns mainGlobals mg)(e:W.nsIn K mainGlobals x=some none):mg x=none:=W.mg_none_of X Gm e
theorem J3 {u:Tok→Value}{tk:Tok}(X:K.In h)(Gm:h.Ns mainGlobals mg)(e:W.nsIn K mainGlobals x=some (some (u tk))):∃tk,mg x=some (u tk):=⟨tk,W.mg_of X Gm e⟩
end
theorem Mn {h:Heap}{x:Str}{st:Stmt}{ps:List Str}{f c P:Addr}{oc occ kV dc pm ct:Value}{od odc an:Option Addr}{sl slc:Array (Option Value)}{vs:Array Value}{file:Str}{tf tg tt:Tok}{flags text:Int}{inF:Bool}
  (X:K.In h) (Gm:h.Ns mainGlobals mg) (a:W.nsIn K mainGlobals x=some (some (.ref f))) (l:K.lookup f=some ⟨oc,od,.func (W.fnOf x x (fX st) (cB st) (aO st) .none kV dc pm an (.ref c) ct),sl⟩) (cc:W.codeIn K (.ref c) x=true) (k:W.keepIn K (.ref f)=true)
  (lc:K.lookup c=some ⟨occ,odc,.fields vs,slc⟩) (hcc:occ=.type "code") (h11:vs[11]?=some (.ref P)) (h18:vs.getD 18 .none=.str file tf) (h7:vs.getD 7 .none=.int flags tg) (h9:vs.getD 9 .none=.bool inF) (h10:vs.getD 10 .none=.int text tt) (ne:c≠P)
  (hm:x∈cy) (un:∀y,y∈cy→y≠x→W.nsIn K mainGlobals y=some none)
  (b:∀(kV doc pm:Value) (an:Option Addr) (cdv ct:Value) (us:List Value),us.length=ps.length→bindArgs (W.fnOf x x (fX st) (cB st) (aO st) .none kV doc pm an cdv ct) ⟨us,[]⟩=pure (ps.zip us)):LF K mg x st ps:=
 ⟨f,_,c,P,⟨oK (st:=st) l cc k,W.mg_of X Gm a,(oK (st:=st) l cc k).binds b⟩,a,EG hm a l rfl lc hcc h11 h18 h7 h9 h10 ne fun y hy n=>.inl (un y hy n)⟩
theorem Jv {l:W.OpenLaw}{w:World}{fa:Addr}{st:Stmt}{k:Nat}{F:FD}(hfa:mg "law"=some (.ref fa))(L:FF K mg "law" st ["script"])
  (h:∀(base:Heap) (f:Addr) (fd:FuncData),Fn K mg "law" st f fd ["script"]→dN l.prog w K mg base (ik l.prog w) k f fd ["script"] (ng K 1 F))
  (hb:∀(kV doc pm:Value) (an:Option Addr) (cdv ct:Value) (v:Value),bindArgs (W.fnOf "law" "law" (fX st) (cB st) (aO st) .none kV doc pm an cdv ct) ⟨[v],[]⟩=pure [(("script":Str),v)]) :
  ∃fd:FuncData,(∀(s:Shared) (v:Value),BindsTo s fd ⟨[v],[]⟩ [("script",v)])∧∀base:Heap,K.In base→base.Ns mainGlobals mg→dN l.prog w K mg base (ik l.prog w) k fa fd ["script"] (ng K 1 F):=by
 obtain⟨f,fd,L⟩:=L
 have e:=hfa.symm.trans L.m
 cases e
 refine⟨fd,fun s v=>?_,fun base _ _=>h base _ fd L⟩
 obtain⟨oc,od,kV,doc,pm,an,cdv,ct,osl,rfl,lk,hcd⟩:=L.F.ex
 exact .of_eq (hb kV doc pm an cdv ct v)
end DL
namespace DL
open PySem PySem.Spec PyProof.Rows PySem.W L2
section
variable {key:Nat→Int}{N:Nat}{s:Shared}{cmp:Nat→Nat→(Bool→Shared→Prop)→Shared→Prop}
def kp (key:Nat→Int)(p:Array Nat)(k:Nat):Int:=key (p.getD k 0)
def Oh (N:Nat)(p:Array Nat):Prop:=∀k,p.getD k 0<N
def up (key:Nat→Int)(p:Array Nat)(n:Nat):Prop:=∀k,k+1<n→kp key p k≤kp key p (k+1)
def down (key:Nat→Int)(p:Array Nat)(n:Nat):Prop:=∀k,k+1<n→kp key p (k+1)≤kp key p k
def K6 (key:Nat→Int)(N:Nat)(s:Shared)(cmp:Nat→Nat→(Bool→Shared→Prop)→Shared→Prop):Prop:=∀i j C,i<N→j<N→C (decide (key i<key j)) s→cmp i j C s
theorem FV {p:Array Nat}{n:Nat}(h:up key p n):∀(d i:Nat),i+d<n→kp key p i≤kp key p (i+d)
 | 0,i,_=>Int.le_refl _
 | d+1,i,q=>Int.le_trans (FV h d i (by omega)) (h (i+d) (by omega))
theorem Bt {p:Array Nat}{n i j:Nat}(h:up key p n)(hij:i≤j)(hj:j<n):kp key p i≤kp key p j:=by
 have:=FV h (j-i) i (by omega)
 rwa [show i+(j-i)=j by omega] at this
theorem nI (hc:K6 key N s cmp){p:Array Nat}{k:Nat}(hp:Oh N p)(hu:up key p k){Q:Nat→Shared→Prop}:∀(f l r:Nat),l≤r→r≤k→r-l≤f→(∀i,i<l→kp key p i≤kp key p k)→(∀i,r≤i→i<k→kp key p k≤kp key p i)→
  (∀m,m≤k→(∀i,i<m→kp key p i≤kp key p k)→(∀i,m≤i→i<k→kp key p k≤kp key p i)→Q m s)→(kas_place p k f l r).kasWp cmp Q s
 | 0,l,r,h1,h2,h3,a,b,h=>h l (by omega) a fun i x y=>b i (by omega) y
 | f+1,l,r,h1,h2,h3,a,b,h=>by
  unfold kas_place
  by_cases e:l≥r
  ·rw[if_pos e]
   exact h l (by omega) a fun i x y=>b i (by omega) y
  ·rw[if_neg e]
   refine hc _ _ _ (hp _) (hp _) ?_
   by_cases t:kp key p k<kp key p ((l+r) / 2)
   ·rw[decide_eq_true (show key (p.getD k 0)<key (p.getD ((l+r) / 2) 0) from t)];dsimp only;rw[if_pos rfl]
    exact nI hc hp hu f l _ (by omega) (by omega) (by omega) a (fun i x y=>by
     have:=Bt hu x y;omega) h
   ·rw[decide_eq_false (show¬key (p.getD k 0)<key (p.getD ((l+r) / 2) 0) from t)];dsimp only;rw[if_neg (by simp)]
    exact nI hc hp hu f _ r (by omega) h2 (by omega) (fun i x=>by
     have:=Bt hu (show i≤(l+r) / 2 by omega) (by omega);omega) b h
end
section
theorem yM:∀a:List Int,HT.lexLt a a=false
 | []=>rfl
 | x::a=>by rw[HT.lexLt_cons,if_pos rfl];exact yM a
theorem yO:∀a b:List Int,HT.lexLt a b=false→HT.lexLt b a=false→a=b
 | [],[],_,_=>rfl
 | [],_::_,h,_=>by cases h
 | _::_,[],_,h=>by cases h
 | x::a,y::b,h1,h2=>by
  rw[HT.lexLt_cons] at h1 h2
  by_cases e:x=y
  ·subst e
   rw[if_pos rfl] at h1 h2
   rw[yO a b h1 h2]
  ·rw[if_neg e,decide_eq_false_iff_not] at h1
   rw[if_neg (fun z=>e z.symm),decide_eq_false_iff_not] at h2
   omega
theorem pc:∀a b c:List Int,HT.lexLt a b=true→HT.lexLt b c=true→HT.lexLt a c=true
 | [],[],_,h,_=>by cases h
 | [],_::_,[],_,h=>by cases h
 | [],_::_,_::_,_,_=>rfl
 | _::_,[],_,h,_=>by cases h
 | _::_,_::_,[],_,h=>by cases h
 | x::a,y::b,z::c,h1,h2=>by
  rw[HT.lexLt_cons] at h1 h2 ⊢
  by_cases e:x=y
  ·subst e
   rw[if_pos rfl] at h1
   by_cases e2:x=z
   ·subst e2
    rw[if_pos rfl] at h2 ⊢
    exact pc a b c h1 h2
   ·rw[if_neg e2] at h2 ⊢;exact h2
  ·rw[if_neg e,decide_eq_true_iff] at h1
   by_cases e2:y=z
   ·subst e2
    rw[if_neg e,decide_eq_true_iff];exact h1
   ·rw[if_neg e2,decide_eq_true_iff] at h2
    rw[if_neg (by omega),decide_eq_true_iff];omega
def rank (zs:List (List Int))(z:List Int):Int:=(zs.countP fun y=>HT.lexLt y z:Nat)
theorem wq {α:Type}{p q:α→Bool}:∀{l:List α} {x:α},(∀y,p y=true→q y=true)→x∈l→p x=false→q x=true→l.countP p<l.countP q
 | a::l,x,hs,hx,h1,h2=>by
  rw[List.countP_cons,List.countP_cons]
  rcases List.mem_cons.mp hx with e|e
  ·subst e
   have:=List.countP_mono_left (l:=l) (fun y _=>hs y)
   rw[if_neg (by simp[h1]),if_pos h2]
   omega
  ·have:=wq hs e h1 h2
   have h3:=hs a
   cases q1:p a with
   | true=>rw[h3 q1];simp only[if_true];omega
   | false=>cases q a <;> simp <;> omega
theorem yD {zs:List (List Int)}{a b:List Int}(ha:a∈zs):HT.lexLt a b=decide (rank zs a<rank zs b):=by
 cases h:HT.lexLt a b with
 | true=>
  have:=wq (l:=zs) (x:=a) (p:=fun y=>HT.lexLt y a) (q:=fun y=>HT.lexLt y b) (fun y q=>pc y a b q h) ha (yM a) h
  exact(decide_eq_true (by unfold rank;omega)).symm
 | false=>
  have:zs.countP (fun y=>HT.lexLt y b)≤zs.countP (fun y=>HT.lexLt y a):=List.countP_mono_left (l:=zs) (p:=fun y=>HT.lexLt y b) (q:=fun y=>HT.lexLt y a) fun y _ q=>by
   have q:HT.lexLt y b=true:=q
   show HT.lexLt y a=true
   cases h2:HT.lexLt b a with
   | true=>exact pc y b a q h2
   | false=>rw[yO a b h h2];exact q
  exact(decide_eq_false (by unfold rank;omega)).symm
end
end DL
namespace DL
open PySem L2
def aR:Nat→D→Bool
 | 0,_=>false
 | f+1,d=>match d with
  | .mr _=>false
  | .tup xs=>xs.all (aR f)
  | .lst xs=>xs.all (aR f)
  | .ro xs=>xs.all (aR f)
  | _=>true
theorem bR {f:D→Option D}:∀{xs:List D},(∀x∈xs,f x=some x)→bv f xs=some xs
 | [],_=>rfl
 | x::xs,h=>by
  unfold bv
  rw[h x List.mem_cons_self,bR fun y hy=>h y (List.mem_cons_of_mem _ hy)]
theorem eA {n:Nat}{M:aA}:∀(f:Nat) (d:D),aR f d=true→frz n M f d=some d
 | 0,d,h=>by cases h
 | f+1,d,h=>by
  cases d with
  | mr k=>cases h
  | tup xs=>
   have h:xs.all (aR f)=true:=h
   show(bv (frz n M f) xs).map D.tup=_
   rw[bR fun x hx=>eA f x (List.all_eq_true.mp h x hx)];rfl
  | lst xs=>
   have h:xs.all (aR f)=true:=h
   show(bv (frz n M f) xs).map D.lst=_
   rw[bR fun x hx=>eA f x (List.all_eq_true.mp h x hx)];rfl
  | ro xs=>
   have h:xs.all (aR f)=true:=h
   show(bv (frz n M f) xs).map D.ro=_
   rw[bR fun x hx=>eA f x (List.all_eq_true.mp h x hx)];rfl
  | _=>rfl
def qK:MO→Bool
 | .lst xs=>xs.all (aR 30)
 | .obj _ fs=>fs.all fun p=>aR 30 p.2
 | .dK fs=>fs.all fun p=>aR 30 p.2
 | .dT fs=>fs.all fun p=>aR 30 p.2
theorem jN {κ:Type}{f:D→Option D}:∀{fs:List (κ×D)},(∀p∈fs,f p.2=some p.2)→sk f fs=some fs
 | [],_=>rfl
 | (x,d)::fs,h=>by
  unfold sk
  rw[h (x,d) List.mem_cons_self,jN fun y hy=>h y (List.mem_cons_of_mem _ hy)]
theorem oA {f:D→Option D}:∀{fs:List (Str×D)},(∀p∈fs,f p.2=some p.2)→wb f fs=some fs
 | [],_=>rfl
 | (x,d)::fs,h=>by
  unfold wb
  rw[h (x,d) List.mem_cons_self,oA fun y hy=>h y (List.mem_cons_of_mem _ hy)]
theorem jO {n:Nat}{M:aA}:∀{l:List MO},l.all qK=true→fT n M l=some l
 | [],_=>rfl
 | .lst xs::r,h=>by
  rw[List.all_cons,Bool.and_eq_true] at h
  unfold fT
  rw[jO h.2]
  have h1:xs.all (aR 30)=true:=h.1
  rw[bR fun x hx=>eA 30 x (List.all_eq_true.mp h1 x hx)]
 | .obj c fs::r,h=>by
  rw[List.all_cons,Bool.and_eq_true] at h
  unfold fT
  rw[jO h.2]
  have h1:(fs.all fun p=>aR 30 p.2)=true:=h.1
  rw[oA fun p hp=>eA 30 p.2 (List.all_eq_true.mp h1 p hp)]
 | .dK fs::r,h=>by
  rw[List.all_cons,Bool.and_eq_true] at h
  unfold fT
  rw[jO h.2]
  have h1:(fs.all fun p=>aR 30 p.2)=true:=h.1
  rw[jN fun p hp=>eA 30 p.2 (List.all_eq_true.mp h1 p hp)]
 | .dT fs::r,h=>by
  rw[List.all_cons,Bool.and_eq_true] at h
  unfold fT
  rw[jO h.2]
  have h1:(fs.all fun p=>aR 30 p.2)=true:=h.1
  rw[jN fun p hp=>eA 30 p.2 (List.all_eq_true.mp h1 p hp)]
@[simp] theorem JE (f:Nat) (i:Int):aR (f+1) (.int i)=true:=rfl
@[simp] theorem Mj (f:Nat) (i:Bool):aR (f+1) (.bl i)=true:=rfl
@[simp] theorem JO (f:Nat):aR (f+1) .non=true:=rfl
@[simp] theorem JG (f:Nat) (x:Str):aR (f+1) (.str x)=true:=rfl
theorem oB (f:Nat)(xs:List D):aR (f+1) (.tup xs)=xs.all (aR f):=rfl
theorem sD (f:Nat)(xs:List D):aR (f+1) (.lst xs)=xs.all (aR f):=rfl
theorem iK (f:Nat)(l:List Int):(l.map D.int).all (aR (f+1))=true:=by
 rw[List.all_map];exact List.all_eq_true.mpr fun x _=>rfl
theorem yw {α:Type}(xs:List α)(x:α):jL (xs++[x]) (-1)=some x:=by
 unfold jL Do
 have h:-((xs++[x]).length:Int)≤-1:=by simp;omega
 rw[if_neg (by decide),if_pos h]
 have e:(-1+((xs++[x]).length:Int)).toNat=xs.length:=by simp;omega
 rw[e]
 simp
theorem vQ {t:GT}{b:GS}{n:Nat}{ρ ρ2:cr}{M M1 M2:aA}(h1:t ρ M=.ok true M1)(h2:b ρ M1=.ok (.nx ρ2) M2):dZ t b (n+1) ρ M=dZ t b n ρ2 M2:=by
 rw[dZ,h1,ao,if_pos rfl,h2,ao]
theorem ki {t:GT}{b:GS}{n:Nat}{ρ:cr}{M M1:aA}(h1:t ρ M=.ok false M1):dZ t b (n+1) ρ M=.ok (.nx ρ) M1:=by
 rw[dZ,h1,ao,if_neg Bool.false_ne_true]
theorem Fu {M:aA}{xs:List D}(hx:xs.all (aR 29)=true)(hM:M.all qK=true):iQ M.length (.ok (.mr M.length) (M++[.lst xs]))=.ok (.lst xs) M:=by
 have f1:=jO (n:=M.length) (M:=M++[.lst xs]) hM
 have f2:frz M.length (M++[.lst xs]) 30 (.mr M.length)=some (.lst xs):=by
  have o:bv (frz M.length (M++[.lst xs]) 29) xs=some xs:=bR fun x h=>eA 29 x (List.all_eq_true.mp hx x h)
  show(if M.length<M.length then some (D.mr M.length) else match (M++[MO.lst xs])[M.length]? with|some (MO.lst ys)=>(bv (frz M.length (M++[MO.lst xs]) 29) ys).map D.lst|_=>none)=_
  rw[if_neg (Nat.lt_irrefl _)]
  simp
  rw[o]
 show(if(M++[MO.lst xs]).length=M.length then bn.ok (D.mr M.length) (M++[MO.lst xs]) else match frz M.length (M++[MO.lst xs]) 30 (.mr M.length),fT M.length (M++[MO.lst xs]) ((M++[MO.lst xs]).take M.length) with|some d',some M'=>.ok d' M'|_,_=>.bad)=_
 rw[if_neg (by simp),List.take_left,f1,f2]
end DL
namespace DL
open PySem L2
variable{b:GS}{ρ:cr}{M M1:aA}
theorem ay {a:GS}{ρ1:cr}(h:a ρ M=.ok (.nx ρ1) M1):ar a b ρ M=b ρ1 M1:=by
 unfold ar;rw[h];rfl
variable{d:D}
theorem bh {a:GS}(h:a ρ M=.ok (.rt d) M1):ar a b ρ M=.ok (.rt d) M1:=by
 unfold ar;rw[h];rfl
theorem yY {a:GS}{c:Str}(h:a ρ M=.err c M1):ar a b ρ M=.err c M1:=by
 unfold ar;rw[h];rfl
theorem bH {t:GT}{a:GS}(h:t ρ M=.ok true M1):cJ t a b ρ M=a ρ M1:=by
 unfold cJ;rw[h,ao,if_pos rfl]
theorem cT {t:GT}{a:GS}(h:t ρ M=.ok false M1):cJ t a b ρ M=b ρ M1:=by
 unfold cJ;rw[h,ao,if_neg Bool.false_ne_true]
variable{i:Nat}{g:GE}
theorem bT (h:g ρ M=.ok d M1):aI i g ρ M=.ok (.nx (ρ.set i (some d))) M1:=by
 unfold aI;rw[h,ao]
theorem cn (h:g ρ M=.ok d M1):bo g ρ M=.ok (.nx ρ) M1:=by
 unfold bo;rw[h,ao]
theorem b9 (h:g ρ M=.ok d M1):aJ g ρ M=.ok (.rt d) M1:=by
 unfold aJ;rw[h,ao]
variable{a:GE}{x:Bool}
theorem cw {b:GE}{y:Bool}(ha:a ρ M=.ok (.bl x) M)(hb:x=true→b ρ M=.ok (.bl y) M):fz a b ρ M=.ok (.bl (x&&y)) M:=by
 unfold fz
 rw[ha,ao]
 cases x with
 | true=>exact hb rfl
 | false=>rfl
theorem bW {a b:GT}{y:Bool}(ha:a ρ M=.ok x M)(hb:x=true→b ρ M=.ok y M):cx a b ρ M=.ok (x&&y) M:=by
 unfold cx
 rw[ha,ao]
 cases x with
 | true=>exact hb rfl
 | false=>rfl
theorem ce {a b:GT}{y:Bool}(ha:a ρ M=.ok x M)(hb:x=false→b ρ M=.ok y M):dh a b ρ M=.ok (x||y) M:=by
 unfold dh
 rw[ha,ao]
 cases x with
 | true=>rfl
 | false=>exact hb rfl
theorem aS {a:GT}(ha:a ρ M=.ok x M):bj a ρ M=.ok (!x) M:=by
 unfold bj;rw[ha,ao]
theorem bg (ha:a ρ M=.ok (.bl x) M1):bF a ρ M=.ok x M1:=by
 unfold bF;rw[ha,ao];rfl
theorem aU (ha:a ρ M=.ok (.bl x) M1):aH a ρ M=.ok x M1:=by
 unfold aH;rw[ha,ao];rfl
variable{o:bn D}
theorem aB {f:F2}{b:GE}{M2:aA}{x y:D}(ha:a ρ M=.ok x M1)(hb:b ρ M1=.ok y M2)(h:f x y M2=o):g2 f a b ρ M=o:=by
 unfold g2;rw[ha,ao,hb,ao,h]
variable{F:FD}
theorem nA {x:D}(ha:a ρ M=.ok x M1)(h:F [x] M1=o):aC F (aa a ag) ρ M=o:=by
 unfold aC aa ag;rw[ha,ao,ao,ao,h]
theorem eL {x:D}(ha:a ρ M=.ok x M1)(h:F [x] M1=o):aj 1 F (aa a ag) ρ M=o:=by
 unfold aj aa ag;rw[ha,ao,ao,ao,if_pos (show [x].length=1 from rfl),h]
theorem eh {b:GE}{M2:aA}{x y:D}(ha:a ρ M=.ok x M1)(hb:b ρ M1=.ok y M2)(h:F [x,y] M2=o):aj 2 F (aa a (aa b ag)) ρ M=o:=by
 unfold aj aa ag;rw[ha,ao,hb,ao,ao,ao,ao,if_pos (show [x,y].length=2 from rfl),h]
theorem dX {b c:GE}{M2 M3:aA}{x y z:D}(ha:a ρ M=.ok x M1)(hb:b ρ M1=.ok y M2)(hc:c ρ M2=.ok z M3)(h:F [x,y,z] M3=o):aj 3 F (aa a (aa b (aa c ag))) ρ M=o:=by
 unfold aj aa ag;rw[ha,ao,hb,ao,hc,ao,ao,ao,ao,ao,if_pos (show [x,y,z].length=3 from rfl),h]
theorem CB {p:D→Bool}:∀xs:List D,d9 (xs.map fun d=>D.bl (p d))=some (xs.map p)
 | []=>rfl
 | x::xs=>by
  show(d9 (xs.map fun d=>D.bl (p d))).map (p x::·)=_
  rw[CB xs];rfl
variable{xs:List D}
theorem fj {gi:GI}{ge:GE}{p:D→Bool}(hi:gi ρ M=.ok ⟨xs,none⟩ M)(hl:xs.length≤100000)(h:∀x∈xs,ge (some x::ρ) M=.ok (.bl (p x)) M) :
  aC fh (aa (aW gi bU ge aL) ag) ρ M=.ok (.bl (xs.all p)) M:=by
 have c:=kh (ds0:=xs) (ge:=ge) (ρ:=ρ) (f:=fun d=>D.bl (p d)) (M:=M) xs h
 have l1:(xs.map fun d=>D.bl (p d)).length≤sizeLine:=by rw[List.length_map];exact aM (by omega)
 refine nA (x:=.lst (xs.map fun d=>D.bl (p d))) (M1:=M) ?_ ?_
 ·unfold aW
  rw[hi,ao]
  dsimp only
  rw[c,ao]
  unfold aL
  rw[if_pos l1]
 ·show(match cC (.lst (xs.map fun d=>D.bl (p d))) M with|some xs=>(match d9 xs with|some bs=>bn.ok (D.bl (bs.all id)) M|none=>.bad)|none=>.bad)=_
  show(match d9 (xs.map fun d=>D.bl (p d)) with|some bs=>bn.ok (D.bl (bs.all id)) M|none=>.bad)=_
  rw[CB]
  dsimp only
  rw[List.all_map]
  rfl
theorem f9 (h:ρ[i]?=some (some (.tup xs))):bJ (ae i) ρ M=.ok ⟨xs,none⟩ M:=by
 unfold bJ ae;rw[h];rfl
theorem Ep (h:ρ[i]?=some (some (.lst xs))):bJ (ae i) ρ M=.ok ⟨xs,none⟩ M:=by
 unfold bJ ae;rw[h];rfl
theorem fU (a b:Int)(M:aA):a9 false (.int a) (.int b) M=.ok (.bl (decide (a=b))) M:=by
 unfold a9
 by_cases q:a=b <;> simp[now,aF,jd,q]
theorem nY (a b:Int)(M:aA):a9 true (.int a) (.int b) M=.ok (.bl (!decide (a=b))) M:=by
 unfold a9
 by_cases q:a=b <;> simp[now,aF,jd,q]
theorem FT (M:aA)(E:List D):(M++[MO.lst E])[M.length]?=some (.lst E):=by simp
theorem Js (M:aA)(E E':List D):(M++[MO.lst E]).set M.length (.lst E')=M++[MO.lst E']:=by simp
variable{E:List D}
theorem IS (h:E.length<1000000):v4 M.length d (M++[MO.lst E])=.ok .non (M++[MO.lst (E++[d])]):=by
 have l:E.length<sizeLine:=Nat.lt_of_lt_of_le h (by rw[sizeLine_eq];decide)
 unfold v4
 rw[FT]
 dsimp only
 rw[if_pos l,Js]
theorem Dg {go ge:GE}(h1:go ρ (M++[MO.lst E])=.ok (.mr M.length) (M++[MO.lst E]))(h2:ge ρ (M++[MO.lst E])=.ok d (M++[MO.lst E]))(h:E.length<1000000) :
  li go ge ρ (M++[MO.lst E])=.ok .non (M++[MO.lst (E++[d])]):=by
 unfold li
 rw[h1,ao]
 dsimp only
 rw[FT]
 dsimp only
 rw[h2,ao,IS h]
theorem cV {k:Nat}(h:xs[k]?=some d):bi (.tup xs) (.int k) M=.ok d M:=by
 have a:=dU (xs:=xs) (j:=k) h
 unfold bi cC
 dsimp only
 rw[a]
theorem nw :jX ag ρ M=.ok (.mr M.length) (M++[.lst []]):=by
 show(if([]:List D).length≤sizeLine then bn.ok (D.mr M.length) (M++[.lst []]) else .bad)=_
 rw[if_pos (show([]:List D).length≤sizeLine from Nat.zero_le _)]
variable{ga:GA}{ds:List D}
theorem jK (h:ga ρ M=.ok ds M1)(hl:ds.length≤100000):aP ga ρ M=.ok (.tup ds) M1:=by
 have:ds.length≤sizeLine:=aM (by omega)
 unfold aP
 rw[h,ao]
 unfold qR
 rw[if_pos this]
theorem tZ (h:ga ρ M=.ok ds M1)(hl:ds.length≤100000):dM ga ρ M=.ok (.lst ds) M1:=by
 have:ds.length≤sizeLine:=aM (by omega)
 unfold dM
 rw[h,ao]
 unfold aL
 rw[if_pos this]
theorem gR {r:GA}{M2:aA}(h:g ρ M=.ok d M1)(hr:r ρ M1=.ok ds M2):aa g r ρ M=.ok (d::ds) M2:=by
 unfold aa
 rw[h,ao,hr,ao]
theorem B8 {go ge:GE}{k:Nat}{E1:List D}(h1:go ρ M=.ok (.mr k) M)(h2:M[k]?=some (.lst E))(h3:ge ρ M=.ok d M1)(h4:M1[k]?=some (.lst E1))(h:E1.length<1000000) :
  li go ge ρ M=.ok .non (M1.set k (.lst (E1++[d]))):=by
 have l:E1.length<sizeLine:=Nat.lt_of_lt_of_le h (by rw[sizeLine_eq];decide)
 unfold li
 rw[h1,ao]
 dsimp only
 rw[h2]
 dsimp only
 rw[h3,ao]
 unfold v4
 rw[h4]
 dsimp only
 rw[if_pos l]
theorem y9 {n:Nat}(h:ga ρ M=.ok [.int (n:Int)] M1)(hn:n≤1000000):gH ga ρ M=.ok ⟨bD 0 n,none⟩ M1:=by
 unfold gH
 rw[h,ao,Ca hn]
theorem m7 {gi:GI}{sg:GG}{t:vf}{o:bn Fl}(h:gi ρ M=.ok t M1)(e:gJ t sg b t.ds ρ M1=o):jb gi sg b ρ M=o:=by
 unfold jb
 rw[h,ao,e]
theorem GF {i j:Int}(h0:-1000000≤i)(h1:i≤1000000)(M:aA):gT (.int i) (.int j) M=.ok (.int (i*j)) M:=by
 have a:-(2 ^ 64:Int)<i:=Int.lt_of_lt_of_le (by decide) h0
 have b:i<(2 ^ 64:Int):=Int.lt_of_le_of_lt h1 (by decide)
 unfold gT
 dsimp only
 rw[if_pos (.inl ⟨a,b⟩)]
theorem En (h:aF 40 d=true)(hs:jd d d=true)(hm:∀M,now d M=d)(M:aA):a9 true d d M=.ok (.bl false) M:=by
 unfold a9
 rw[hm,h,hs];rfl
end DL
namespace DL
open PySem L2
def gF (n:Nat):Nat→D→Bool
 | 0,_=>false
 | f+1,d=>match d with
  | .mr k=>decide (k<n)
  | .tup xs=>xs.all (gF n f)
  | .lst xs=>xs.all (gF n f)
  | .ro xs=>xs.all (gF n f)
  | _=>true
theorem ky {n:Nat}{M:aA}:∀(f:Nat) (d:D),gF n f d=true→frz n M f d=some d
 | 0,d,h=>by cases h
 | f+1,d,h=>by
  cases d with
  | mr k=>
   have h:decide (k<n)=true:=h
   show(if k<n then some (D.mr k) else _)=_
   rw[if_pos (of_decide_eq_true h)]
  | tup xs=>
   have h:xs.all (gF n f)=true:=h
   show(bv (frz n M f) xs).map D.tup=_
   rw[bR fun x hx=>ky f x (List.all_eq_true.mp h x hx)];rfl
  | lst xs=>
   have h:xs.all (gF n f)=true:=h
   show(bv (frz n M f) xs).map D.lst=_
   rw[bR fun x hx=>ky f x (List.all_eq_true.mp h x hx)];rfl
  | ro xs=>
   have h:xs.all (gF n f)=true:=h
   show(bv (frz n M f) xs).map D.ro=_
   rw[bR fun x hx=>ky f x (List.all_eq_true.mp h x hx)];rfl
  | _=>rfl
theorem dj {n:Nat}:∀(f:Nat) (d:D),aR f d=true→gF n f d=true
 | 0,d,h=>by cases h
 | f+1,d,h=>by
  cases d with
  | mr k=>cases h
  | tup xs=>exact List.all_eq_true.mpr fun x hx=>dj f x (List.all_eq_true.mp (show xs.all (aR f)=true from h) x hx)
  | lst xs=>exact List.all_eq_true.mpr fun x hx=>dj f x (List.all_eq_true.mp (show xs.all (aR f)=true from h) x hx)
  | ro xs=>exact List.all_eq_true.mpr fun x hx=>dj f x (List.all_eq_true.mp (show xs.all (aR f)=true from h) x hx)
  | _=>rfl
theorem iR {n m:Nat}(hn:n≤m):∀(f:Nat) (d:D),gF n f d=true→gF m f d=true
 | 0,d,h=>by cases h
 | f+1,d,h=>by
  cases d with
  | mr k=>exact decide_eq_true (Nat.lt_of_lt_of_le (of_decide_eq_true (show decide (k<n)=true from h)) hn)
  | tup xs=>exact List.all_eq_true.mpr fun x hx=>iR hn f x (List.all_eq_true.mp (show xs.all (gF n f)=true from h) x hx)
  | lst xs=>exact List.all_eq_true.mpr fun x hx=>iR hn f x (List.all_eq_true.mp (show xs.all (gF n f)=true from h) x hx)
  | ro xs=>exact List.all_eq_true.mpr fun x hx=>iR hn f x (List.all_eq_true.mp (show xs.all (gF n f)=true from h) x hx)
  | _=>rfl
def Cm (n:Nat):MO→Bool
 | .lst xs=>xs.all (gF n 30)
 | .obj _ fs=>fs.all fun p=>gF n 30 p.2
 | .dK fs=>fs.all fun p=>gF n 30 p.2
 | .dT fs=>fs.all fun p=>gF n 30 p.2
variable{o:MO}
theorem tM {n m:Nat}(hn:n≤m)(h:Cm n o=true):Cm m o=true:=by
 cases o with
 | lst xs=>exact List.all_eq_true.mpr fun x hx=>iR hn 30 x (List.all_eq_true.mp (show xs.all (gF n 30)=true from h) x hx)
 | obj c fs=>exact List.all_eq_true.mpr fun x hx=>iR hn 30 x.2 (List.all_eq_true.mp (show(fs.all fun p=>gF n 30 p.2)=true from h) x hx)
 | dK fs=>exact List.all_eq_true.mpr fun x hx=>iR hn 30 x.2 (List.all_eq_true.mp (show(fs.all fun p=>gF n 30 p.2)=true from h) x hx)
 | dT fs=>exact List.all_eq_true.mpr fun x hx=>iR hn 30 x.2 (List.all_eq_true.mp (show(fs.all fun p=>gF n 30 p.2)=true from h) x hx)
theorem tm {n:Nat}(h:qK o=true):Cm n o=true:=by
 cases o with
 | lst xs=>exact List.all_eq_true.mpr fun x hx=>dj 30 x (List.all_eq_true.mp (show xs.all (aR 30)=true from h) x hx)
 | obj c fs=>exact List.all_eq_true.mpr fun x hx=>dj 30 x.2 (List.all_eq_true.mp (show(fs.all fun p=>aR 30 p.2)=true from h) x hx)
 | dK fs=>exact List.all_eq_true.mpr fun x hx=>dj 30 x.2 (List.all_eq_true.mp (show(fs.all fun p=>aR 30 p.2)=true from h) x hx)
 | dT fs=>exact List.all_eq_true.mpr fun x hx=>dj 30 x.2 (List.all_eq_true.mp (show(fs.all fun p=>aR 30 p.2)=true from h) x hx)
theorem iY {n:Nat}{M:aA}:∀{l:List MO},l.all (Cm n)=true→fT n M l=some l
 | [],_=>rfl
 | .lst xs::r,h=>by
  rw[List.all_cons,Bool.and_eq_true] at h
  unfold fT
  rw[iY h.2]
  have h1:xs.all (gF n 30)=true:=h.1
  rw[bR fun x hx=>ky 30 x (List.all_eq_true.mp h1 x hx)]
 | .obj c fs::r,h=>by
  rw[List.all_cons,Bool.and_eq_true] at h
  unfold fT
  rw[iY h.2]
  have h1:(fs.all fun p=>gF n 30 p.2)=true:=h.1
  rw[oA fun p hp=>ky 30 p.2 (List.all_eq_true.mp h1 p hp)]
 | .dK fs::r,h=>by
  rw[List.all_cons,Bool.and_eq_true] at h
  unfold fT
  rw[iY h.2]
  have h1:(fs.all fun p=>gF n 30 p.2)=true:=h.1
  rw[jN fun p hp=>ky 30 p.2 (List.all_eq_true.mp h1 p hp)]
 | .dT fs::r,h=>by
  rw[List.all_cons,Bool.and_eq_true] at h
  unfold fT
  rw[iY h.2]
  have h1:(fs.all fun p=>gF n 30 p.2)=true:=h.1
  rw[jN fun p hp=>ky 30 p.2 (List.all_eq_true.mp h1 p hp)]
def fR (M:aA):Prop:=M.all (Cm M.length)=true
variable{M:aA}
theorem fR.pure (h:M.all qK=true):fR M:=List.all_eq_true.mpr fun x hx=>tm (List.all_eq_true.mp h x hx)
theorem uK {d:D}{E:aA}(hd:aR 30 d=true)(hM:fR M):iQ M.length (.ok d (M++E))=.ok d M:=by
 unfold iQ
 by_cases h:(M++E).length=M.length
 ·have:E=[]:=by
   rw[List.length_append] at h
   exact List.length_eq_zero_iff.mp (by omega)
  subst this
  simp
 ·simp only[if_neg h]
  rw[List.take_left,eA 30 d hd,iY hM]
theorem wL {xs:List D}(hx:xs.all (aR 29)=true)(hM:fR M):iQ M.length (.ok (.mr M.length) (M++[.lst xs]))=.ok (.lst xs) M:=by
 have f1:=iY (n:=M.length) (M:=M++[.lst xs]) hM
 have f2:frz M.length (M++[.lst xs]) 30 (.mr M.length)=some (.lst xs):=by
  have o:bv (frz M.length (M++[.lst xs]) 29) xs=some xs:=bR fun x h=>eA 29 x (List.all_eq_true.mp hx x h)
  show(if M.length<M.length then some (D.mr M.length) else match (M++[MO.lst xs])[M.length]? with|some (MO.lst ys)=>(bv (frz M.length (M++[MO.lst xs]) 29) ys).map D.lst|_=>none)=_
  rw[if_neg (Nat.lt_irrefl _)]
  simp
  rw[o]
 show(if(M++[MO.lst xs]).length=M.length then bn.ok (D.mr M.length) (M++[MO.lst xs]) else match frz M.length (M++[MO.lst xs]) 30 (.mr M.length),fT M.length (M++[MO.lst xs]) ((M++[MO.lst xs]).take M.length) with|some d',some M'=>.ok d' M'|_,_=>.bad)=_
 rw[if_neg (by simp),List.take_left,f1,f2]
variable{c:Str}{k:Nat}{fs:List (Str×D)}
theorem rg (h:M[k]?=some (.obj c fs)):iV c (.mr k) M=some (k,fs):=by
 unfold iV
 dsimp only
 rw[h]
 dsimp only
 rw[if_pos rfl]
variable{ρ:cr}
theorem eB {g:GE}{f:Str}{d:D}(h:g ρ M=.ok (.mr k) M)(hM:M[k]?=some (.obj c fs))(hf:fs.lookup f=some d):eT c f g ρ M=.ok d M:=by
 unfold eT
 rw[h,ao,rg hM]
 dsimp only
 rw[hf]
theorem lP {go:GE}{ga:GA}{F:FD}{n:Nat}{M1:aA}{m:Str}{ds:List D}{r:bn D}(h:go ρ M=.ok (.mr k) M)(hM:M[k]?=some (.obj c fs))(hn:fs.lookup m=none)
  (ha:ga ρ M=.ok ds M1) (hl:ds.length+1=n) (hF:F (.mr k::ds) M1=r):fA c m n F go ga ρ M=r:=by
 unfold fA
 rw[h,ao,rg hM]
 dsimp only
 rw[if_pos hn,ha,ao,if_pos hl,hF]
variable{y:D}
theorem yr {f:Str}(hM:M[k]?=some (.obj c fs))(hl:fs.length<1000):uN c f (.mr k) y M=.ok () (M.set k (.obj c (gn f y fs))):=by
 unfold uN
 rw[rg hM]
 dsimp only
 rw[if_pos hl]
theorem yS {go gv:GE}{M1:aA}{f:Str}(hv:gv ρ M=.ok y M1)(ho:go ρ M1=.ok (.mr k) M1)(hM:M1[k]?=some (.obj c fs))(hl:fs.length<1000) :
  fW c f go gv ρ M=.ok (.nx ρ) (M1.set k (.obj c (gn f y fs))):=by
 unfold fW
 rw[hv,ao,ho,ao,yr hM hl,ao]
variable{z:D}
theorem FO {go gv:GE}{M1 M2:aA}{f:Str}{fs2:List (Str×D)}{v:D}(ho:go ρ M=.ok (.mr k) M)(hM:M[k]?=some (.obj c fs))(hf:fs.lookup f=some v)(hv:gv ρ M=.ok y M1)
  (ha:xk v y M1=.ok z M2) (hM2:M2[k]?=some (.obj c fs2)) (hl:fs2.length<1000):D7 c f go gv ρ M=.ok (.nx ρ) (M2.set k (.obj c (gn f z fs2))):=by
 unfold D7
 rw[ho,ao,rg hM]
 dsimp only
 rw[hf]
 dsimp only
 rw[hv,ao,ha,ao,yr hM2 hl,ao]
theorem DA {xs ys:List D}(h:M[k]?=some (.lst xs))(hl:xs.length+ys.length≤100000):xk (.mr k) (.lst ys) M=.ok (.mr k) (M.set k (.lst (xs++ys))):=by
 unfold xk
 dsimp only
 rw[h]
 dsimp only
 rw[show pR (.lst ys) M=some ys from rfl]
 dsimp only
 rw[if_pos (aM (by omega))]
variable{i:Nat}
theorem wd {kvs:List (dH×D)}{k:dH}(h:M[i]?=some (.dK kvs))(hk:nJ y=some k)(hg:lu kvs k=none)(hl:kvs.length<1000000):gD i y z M=.ok z (M.set i (.dK (kvs++[(k,z)]))):=by
 unfold gD
 rw[h]
 dsimp only
 rw[hk]
 dsimp only
 rw[hg]
 dsimp only
 rw[if_pos (Nat.lt_of_lt_of_le hl (aM (by decide)))]
theorem wH {kvs:List (dH×D)}{r:D}{k:dH}(h:M[i]?=some (.dK kvs))(hk:nJ y=some k)(hg:lu kvs k=some r):gD i y z M=.ok r M:=by
 unfold gD
 rw[h]
 dsimp only
 rw[hk]
 dsimp only
 rw[hg]
variable{kvs:List (List dH×D)}
theorem wm {k:List dH}(h:M[i]?=some (.dT kvs))(hk:oH y=some k)(hg:lu kvs k=none)(hl:kvs.length<1000000):gD i y z M=.ok z (M.set i (.dT (kvs++[(k,z)]))):=by
 unfold gD
 rw[h]
 dsimp only
 rw[hk]
 dsimp only
 rw[hg]
 dsimp only
 rw[if_pos (Nat.lt_of_lt_of_le hl (aM (by decide)))]
theorem wD {r:D}{k:List dH}(h:M[i]?=some (.dT kvs))(hk:oH y=some k)(hg:lu kvs k=some r):gD i y z M=.ok r M:=by
 unfold gD
 rw[h]
 dsimp only
 rw[hk]
 dsimp only
 rw[hg]
def xi {κ:Type}[DecidableEq κ](kvs:List (κ×D))(k:κ)(z:D):List (κ×D):=match lu kvs k with
 | some _=>kvs
 | none=>kvs++[(k,z)]
theorem FG {κ:Type}[DecidableEq κ](kvs:List (κ×D))(k:κ)(z:D):(xi kvs k z).length≤kvs.length+1:=by
 unfold xi
 split
 ·omega
 ·rw[List.length_append];simp
theorem qX (h:M[i]?=some o):M.set i o=M:=by
 obtain⟨hi,e⟩:=List.getElem?_eq_some_iff.mp h
 rw[←e];exact List.set_getElem_self hi
theorem xQ {kvs:List (dH×D)}{k:dH}(h:M[i]?=some (.dK kvs))(hk:nJ y=some k)(hl:kvs.length<1000000):∃r,gD i y z M=.ok r (M.set i (.dK (xi kvs k z))):=by
 unfold xi
 cases hg:lu kvs k with
 | some r=>exact⟨r,by rw[wH h hk hg,qX h]⟩
 | none=>exact⟨z,wd h hk hg hl⟩
theorem xw {k:List dH}(h:M[i]?=some (.dT kvs))(hk:oH y=some k)(hl:kvs.length<1000000):∃r,gD i y z M=.ok r (M.set i (.dT (xi kvs k z))):=by
 unfold xi
 cases hg:lu kvs k with
 | some r=>exact⟨r,by rw[wD h hk hg,qX h]⟩
 | none=>exact⟨z,wm h hk hg hl⟩
theorem sI {go gy gz:GE}{o:bn D}(h1:go ρ M=.ok (.mr i) M)(h2:tY M[i]?=true)(h3:gy ρ M=.ok y M)(h4:gz ρ M=.ok z M)(h:gD i y z M=o):kz go gy gz ρ M=o:=by
 unfold kz
 rw[h1,ao]
 dsimp only
 rw[if_pos h2,h3,ao,h4,ao,h]
end DL
namespace Hd
open PySem PySem.W PySem.Calls PyProof.Rows
def topRunT (tb:String→Option Builtin)(p:Program)(w:World)(n0:Nat)(ann:Option Value):Nat→SharedT→Thread→Option SharedT
 | 0,_,_=>none
 | n+1,s,t=>match through t with
  | true=>some s
  | false=>match stepOk n0 ann t with
   | false=>none
   | true=>match stepT (denote tb) p w s t with
    | some (s',t')=>topRunT tb p w n0 ann n s' t'
    | none=>none
theorem tR {tb:String→Option Builtin}{p:Program}{w:World}{n0:Nat}{ann:Option Value}:∀{n:Nat} {s s':SharedT} {t:Thread},topRunT tb p w n0 ann n s t=some s'→topRun tb p w n0 ann n s.abs t=some s'.abs
 | 0,_,_,_,h=>by cases h
 | n+1,s,s',t,h=>by
  unfold topRunT at h
  unfold topRun
  cases he:through t with
  | true=>rw[he] at h;cases h;rfl
  | false=>
   rw[he] at h
   cases hk:stepOk n0 ann t with
   | false=>rw[hk] at h;cases h
   | true=>
    rw[hk] at h
    cases hs:stepT (denote tb) p w s t with
    | none=>rw[hs] at h;cases h
    | some r=>obtain⟨s2,t2⟩:=r;rw[hs] at h;rw[stepT_spec hs];exact tR h
def grow:List Obj→BT→Nat→BT
 | [],t,_=>t
 | o::r,t,n=>grow r (t.ins n o) (n+1)
def Gc:List Obj→BT→Nat→Bool
 | [],_,_=>true
 | o::r,t,n=>((t.ins n o).get n).isSome&&Gc r (t.ins n o) (n+1)
theorem vR (life:Life):∀(l:List Obj) (t:BT) (n:Nat),Gc l t n=true→absHeap (grow l t n) (n+l.length) life=⟨(absHeap t n life).objs++l.toArray,life⟩
 | [],t,n,_=>by simp[grow,absHeap]
 | o::r,t,n,h=>by
  obtain⟨h1,h2⟩:=Bool.and_eq_true_iff.mp h
  have e:=vR life r (t.ins n o) (n+1) h2
  have e2:absHeap (t.ins n o) (n+1) life=(absHeap t n life).push o:=absHeap_ins h1
  show absHeap (grow r (t.ins n o) (n+1)) (n+(r.length+1)) life=_
  rw[show n+(r.length+1)=n+1+r.length by omega,e,e2]
  simp[Heap.push]
variable{Xt:Shared→Bool}{N:Nat}
theorem xR {p q:Program}{loose:List Str}{A:Type}{Yf:Shared→A}{Ya:World→A}{g0:Bool}{H:Params→Heap}{gs:Array GenState}{d:Drawn}{k:Nat}{m:Nat}{ann:Option Value}{T:Params→BT}{lf:Life}
  (open_:∀w:World,(fencedOpening treeTable p w N).map (fun s=>(s.heap,s.gens,s.drawn,s.toks))=some (H w.params,gs,d,k))
  (size:∀w:World,((H w.params).isNs mainGlobals&&gs.size==0,(H w.params).objs.size,(H w.params).nsMap mainGlobals "__annotations__")=(true,m,ann))
  (tree:∀P,H P=absHeap (T P) m lf)
  (run:∀(w:World) (os:OsState),(topRunT treeTable p w m ann N ⟨T w.params,m,lf,gs,d,k,os⟩ (topStub p)).map (fun s=>
    ((staticsOk (importedModules p.main.body) (H w.params) s.abs.heap&&namesBound p s.abs.heap&&gensDone s.abs&&laidKept (H w.params) s.abs.heap),
    openSeen q loose (importedModules p.main.body) Xt g0 s.abs,Yf s.abs))=some (true,openGood q loose,Ya w)):LeftO p q loose Xt Yf Ya N g0:=fun w=>by
 obtain⟨⟨h,gs',d',k',os⟩,e,e'⟩:=Option.map_eq_some_iff.mp (open_ w)
 obtain⟨rfl,rfl,rfl,rfl⟩:h=H w.params∧gs'=gs∧d'=d∧k'=k:=by simpa using e'
 obtain⟨z1,z2,z3⟩:_∧_∧_:=by simpa only[Prod.mk.injEq] using size w
 obtain⟨s,r1,r2⟩:=Option.map_eq_some_iff.mp (run w os)
 obtain⟨l1,l2,l3⟩:_∧_∧_:=by simpa only[Prod.mk.injEq] using r2
 have r:=tR r1
 have ea:SharedT.abs ⟨T w.params,m,lf,gs',d',k',os⟩=⟨H w.params,gs',d',k',os⟩:=by rw[tree];rfl
 rw[ea] at r
 have t:topFrom treeTable p w N ⟨H w.params,gs',d',k',os⟩=some s.abs:=by
  unfold topFrom
  dsimp only
  rw[z1,z2,z3,r]
  show(match staticsOk (importedModules p.main.body) (H w.params) s.abs.heap&&namesBound p s.abs.heap&&gensDone s.abs&&laidKept (H w.params) s.abs.heap with|true=>_|false=>_)=_
  rw[l1]
 unfold openEnds
 rw[e]
 show(topFrom treeTable p w N _).map _=_
 rw[t]
 exact congrArg some (Prod.ext l2 l3)
noncomputable def bootT (P:Params):BT:=grow (boot_heap P).objs.toList .nil 0
lay_quick Hd.topRunT W.topStub
theorem As (P:Params):boot_heap P=absHeap (bootT P) 11 {}:=by
 have h:=vR {} (boot_heap P).objs.toList .nil 0 (by kernel_rfl)
 exact h.symm
noncomputable def RT (p:Program) (w:World) (N:Nat) (os:OsState):Option SharedT:=topRunT treeTable p w 11 (some (Value.ref 6)) N ⟨bootT w.params,11,{},Array.mk [],boot_drawn,boot_toks,os⟩ (topStub p)
noncomputable def pA (p:Program) (P:Params) (s:Shared):Bool:=staticsOk (importedModules p.main.body) (boot_heap P) s.heap&&namesBound p s.heap&&gensDone s&&laidKept (boot_heap P) s.heap
def pB (q:Program)(mods:List Str)(Xt:Shared→Bool)(s:Shared):Bool:=(s.heap.keysOk (looseW q []) ((recsOf q).map (·.name)) ((litsOf q).map (·.1)) ((clssOf q (looseW q [])).map (·.name))&&s.heap.accountedOkI mods&&s.heap.isNs mainGlobals&&s.heap.isNs builtinsNs&&tablesOk q s.heap&&Xt s&&(if true then s.gens.size==0 else !leftWithCleanup s.gens))&&tabsOk q s
def pC (q:Program)(s:Shared):=(seen ((recsOf q).map (·.name)) (ownsOf q) [] {s with gens:=#[]},s.heap.bltView,wideSeen q s)
def pD (q:Program)(s:Shared):=(pinSeenD q (drecsOf q) s,plainSeenE q (looseW q []) s,plainSeenD q [] s,clsSeenW q [] s)
lay_quick Hd.pB
lay_quick Hd.pC
lay_quick Hd.pD
theorem u9 {α A B:Type}{x:Option α}{f:α→A}{g:α→B}{a:A}{b:B}(h1:x.map f=some a)(h2:x.map g=some b):x.map (fun s=>(f s,g s))=some (a,b):=by
 cases x with
 | none=>cases h1
 | some s=>exact congrArg some (Prod.ext (Option.some.inj h1) (Option.some.inj h2))
theorem xV {p q:Program}{A:Type}{Yf:Shared→A}{Ya:World→A}
  (open_:∀w:World,(fencedOpening treeTable p w N).map (fun s=>(s.heap,s.gens,s.drawn,s.toks))=some (boot_heap w.params,Array.mk [],boot_drawn,boot_toks))
  (size:∀w:World,((boot_heap w.params).isNs mainGlobals&&(Array.mk ([]:List GenState)).size==0,(boot_heap w.params).objs.size,(boot_heap w.params).nsMap mainGlobals "__annotations__")=(true,11,some (Value.ref 6)))
  (r1:∀(w:World) (os:OsState),(RT p w N os).map (fun s=>pA p w.params s.abs&&pB q (importedModules p.main.body) Xt s.abs)=some true)
  (r2:∀(w:World) (os:OsState),(RT p w N os).map (fun s=>pC q s.abs)=some (expectedOf q,bltViewBooted,wideGood q))
  (r3:∀(w:World) (os:OsState),(RT p w N os).map (fun s=>pD q s.abs)=some (pinGoodD (drecsOf q),plainGoodE q (looseW q []),plainGoodD q [],clsGoodW q []))
  (r4:∀(w:World) (os:OsState),(RT p w N os).map (fun s=>Yf s.abs)=some (Ya w)):LeftO p q [] Xt Yf Ya N true:=
 xR open_ size As fun w os=>by
  show(RT p w N os).map _=_
  have h:=u9 (u9 (r1 w os) (r2 w os)) (u9 (r3 w os) (r4 w os))
  cases e:RT p w N os with
  | none=>rw[e] at h;cases h
  | some s=>
   rw[e] at h
   obtain⟨h1,h2⟩:=Prod.mk.inj (Option.some.inj h)
   obtain⟨h1,h3⟩:=Prod.mk.inj h1
   obtain⟨h4,h5⟩:=Prod.mk.inj h2
   obtain⟨a,b⟩:=Bool.and_eq_true_iff.mp h1
   obtain⟨b,c⟩:=Bool.and_eq_true_iff.mp b
   obtain⟨c1,c2⟩:=Prod.mk.inj h3
   obtain⟨c2,c3⟩:=Prod.mk.inj c2
   obtain⟨d1,d2⟩:=Prod.mk.inj h4
   obtain⟨d2,d3⟩:=Prod.mk.inj d2
   obtain⟨d3,d4⟩:=Prod.mk.inj d3
   exact congrArg some (Prod.ext a (Prod.ext (Prod.ext c1 (Prod.ext c2 (Prod.ext b (Prod.ext c (Prod.ext d1 (Prod.ext d2 (Prod.ext d3 (Prod.ext c3 d4)))))))) h5))
def lk (s:SharedT)(a:Nat):Option Obj:=match Nat.blt a s.n with
 | true=>(match s.tree.get a with
  | some o=>alive o
  | none=>none)
 | false=>none
theorem Ko {s:SharedT}{a:Nat}{o:Obj}(h:lk s a=some o):s.abs.heap.get? a=some o:=by
 unfold lk at h
 cases b:Nat.blt a s.n with
 | false=>rw[b] at h;cases h
 | true=>
  rw[b] at h
  cases g:s.tree.get a with
  | none=>rw[g] at h;cases h
  | some x=>rw[g] at h;exact(abs_get (Nat.blt_eq.mp b) g).trans h
theorem xr {s:SharedT}{β:Type}{f:β→Obj}:∀{as:List Nat} {l:List β},as.map (lk s)=l.map (fun p=>some (f p))→as.map s.abs.heap.get?=l.map (fun p=>some (f p))
 | [],[],_=>rfl
 | [],_::_,h=>by cases h
 | _::_,[],h=>by cases h
 | a::as,p::l,h=>by
  obtain⟨x,y⟩:=List.cons.inj h
  show s.abs.heap.get? a::as.map s.abs.heap.get?=_
  rw[Ko x,xr y];rfl
theorem left_km {p q:Program}{K:Params→Frag}{as:List Addr}{e:∀P,as=(K P).map (·.1)}{ts:List Addr}
  (open_:∀w:World,(fencedOpening treeTable p w N).map (fun s=>(s.heap,s.gens,s.drawn,s.toks))=some (boot_heap w.params,Array.mk [],boot_drawn,boot_toks))
  (size:∀w:World,((boot_heap w.params).isNs mainGlobals&&(Array.mk ([]:List GenState)).size==0,(boot_heap w.params).objs.size,(boot_heap w.params).nsMap mainGlobals "__annotations__")=(true,11,some (Value.ref 6)))
  (r1:∀(w:World) (os:OsState),(RT p w N os).map (fun s=>pA p w.params s.abs&&pB q (importedModules p.main.body) Xt s.abs)=some true)
  (r2:∀(w:World) (os:OsState),(RT p w N os).map (fun s=>pC q s.abs)=some (expectedOf q,bltViewBooted,wideGood q))
  (r3:∀(w:World) (os:OsState),(RT p w N os).map (fun s=>pD q s.abs)=some (pinGoodD (drecsOf q),plainGoodE q (looseW q []),plainGoodD q [],clsGoodW q []))
  (r4:∀(w:World) (os:OsState),(RT p w N os).map (fun s=>(as.map (lk s),ts.map (lk s)))=some ((K w.params).map (fun p=>some p.2),ts.map fun _=>some (tabObj #[]))) :
  LeftO p q [] Xt (kmHook K as e ts).obs (kmHook K as e ts).val N true:=
 xV open_ size r1 r2 r3 fun w os=>by
  obtain⟨s,h1,h2⟩:=Option.map_eq_some_iff.mp (r4 w os)
  obtain⟨a,b⟩:=Prod.mk.inj h2
  rw[h1]
  exact congrArg some (Prod.ext (xr a) (xr b))
end Hd
namespace K05
open PySem PySem.Spec PyProof.Rows L2 DL
noncomputable def top (i:Nat):Stmt:=PySem.Challenge.pw_glowrow_k05_what_is_a_stand.main.body.getD i (.Pass ⟨0,0,0,0⟩)
noncomputable abbrev Gb:Stmt:=top 79
noncomputable abbrev TX:=Tx (("_law_draw",top 61,["tape","many"])::("_law_size",top 62,["tape","most"])::("_law_inks",top 63,["tape","wide","thin"])::("_law_inked",top 64,["tape","most"])::("_law_far",top 65,["tape","size"])::("_law_mover",top 66,["tape","frame","shapes"])::("_law_stand",top 67,["tape","frame","movers_most"])::("_law_whole",top 73,["thing","low","high"])::("_law_are_rows",top 74,["thing","most"])::("_law_is_mover",top 75,["thing","book"])::("_law_is_stand",top 76,["thing"])::("is_whole",top 14,["thing"])::("is_within",top 15,["thing","low","high"])::("is_ink",top 17,["thing"])::("is_ink_row",top 18,["thing"])::("is_ink_block",top 19,["thing","most"])::("is_shape",top 20,["thing"])::("is_book",top 27,["thing"])::("is_shape_number",top 28,["book","thing"])::("is_place_pair",top 26,["thing"])::("is_rank",top 25,["thing"])::("is_turn",top 21,["thing"])::("is_mover",top 29,["book","thing"])::("are_movers",top 30,["book","thing"])::("is_hue",top 24,["thing"])::("are_pots",top 31,["thing"])::("is_stand",top 32,["thing"])::("_law_path",top 70,["tape","thing"])::("_law_got",top 71,["thing","path"])::("_law_put",top 69,["thing","path","other"])::("_law_any",top 68,["tape"])::("_law_spoilt",top 72,["tape","thing"])::("_law_word",top 77,["error"])::("is_frame",top 39,["thing"])::("check_begin",top 53,["frame","stand"])::("row_ticks",top 40,["frame"])::("ticks_of",top 41,["frame"])::("ticks_hold",top 56,["frame","timed"])::("check_plan",top 57,["frame","stand","timed"])::("place_of",top 42,["frame","tick"])::("strip_of",top 22,["shape","turn","row"])::("strip_taken",top 49,["stand","number","row"])::("floor_inks",top 48,["frame","stand","row"])::("lying_on",top 44,["stand","row"])::("kept_on",top 45,["frame","stand","row"])::("taken",top 47,["frame","stand","row"])::("lost_on",top 46,["frame","stand","row"])::("covers_at",top 50,["row_taken","x"])::("laid",top 58,["frame","stand","timed"])::("slips",top 59,["frame","stand","timed"])::("_law_made",top 78,["way","stand"])::[])
 (("Beam","__init__","Beam.__init__",iD (top 54) 0,["self","frame","stand"])::("Beam","take_row","Beam.take_row",iD (top 54) 7,["self","row"])::("Beam","keep_touches","Beam.keep_touches",iD (top 54) 9,["self","numbers","row","spot"])::("Beam","keep_grounds","Beam.keep_grounds",iD (top 54) 10,["self","numbers","row","spot"])::("Beam","lay_spot","Beam.lay_spot",iD (top 54) 8,["self","row","spot"])::("Beam","go_tick","Beam.go_tick",iD (top 54) 6,["self"])::("Beam","go","Beam.go",iD (top 54) 5,["self","many"])::("Beam","tick","Beam.tick",iD (top 54) 1,["self"])::("Beam","picture","Beam.picture",iD (top 54) 11,["self"])::[])
 [("ink_shown",top 51,["floor_ink","covers"])]
 ("ValueError"::"all"::"bool"::"divmod"::"enumerate"::"int"::"isinstance"::"len"::"list"::"min"::"range"::"sorted"::"tuple"::[]) ["NoDeed","NoFrame","NoStand","NoTick","Over"]
 (("Clash",[("NoDeed",false),("NoFrame",false),("NoStand",false),("NoTick",false),("Over",false)])::("GlowError",[("NoDeed",true),("NoFrame",true),("NoStand",true),("NoTick",true),("Over",true)])::("NoDeed",[("NoDeed",true),("NoFrame",false),("NoStand",false),("NoTick",false),("Over",false)])::("NoFilm",[("NoDeed",false),("NoFrame",false),("NoStand",false),("NoTick",false),("Over",false)])::("NoFrame",[("NoDeed",false),("NoFrame",true),("NoStand",false),("NoTick",false),("Over",false)])::("NoRow",[("NoDeed",false),("NoFrame",false),("NoStand",false),("NoTick",false),("Over",false)])::("NoScore",[("NoDeed",false),("NoFrame",false),("NoStand",false),("NoTick",false),("Over",false)])::("NoStand",[("NoDeed",false),("NoFrame",false),("NoStand",true),("NoTick",false),("Over",false)])::("NoText",[("NoDeed",false),("NoFrame",false),("NoStand",false),("NoTick",false),("Over",false)])::("NoTick",[("NoDeed",false),("NoFrame",false),("NoStand",false),("NoTick",true),("Over",false)])::("Over",[("NoDeed",false),("NoFrame",false),("NoStand",false),("NoTick",false),("Over",true)])::[]) [("NoDeed",true),("NoFrame",true),("NoStand",true),("NoTick",true),("Over",true)]
 (("Beam","ahead")::("Beam","first_grounds")::("Beam","first_touches")::("Beam","frame")::("Beam","laid_rows")::("Beam","lost_pairs")::("Beam","row_taken")::("Beam","standing")::[]) [] []
set_option hygiene false
local macro_rules | `(tactic| walk_at "o") => `(tactic| first | with_reducible exact L9 | with_reducible exact Hg | with_reducible exact Kw | with_reducible exact LZ | with_reducible exact HV | with_reducible exact Kd | with_reducible exact Ld | with_reducible exact NX | with_reducible exact MR | with_reducible exact Nk | with_reducible exact Nh | with_reducible exact MM | with_reducible exact Fq | with_reducible exact NS | with_reducible exact q_notin | with_reducible exact q_mulT | with_reducible exact q_inA | ((with_reducible show Q2 _ (compareOp .Eq) _); exact MS hr) | exact Nr hr)
local macro_rules | `(tactic| walk_at "c") => `(tactic| first | ((with_reducible refine Ky ?_); rfl) | ((with_reducible refine C4)) | ((with_reducible refine Mq)) | ((with_reducible refine Ly)) | ((with_reducible refine q_listM)) | ((with_reducible refine JC)) | ((with_reducible refine JS ?_); rfl) | ((with_reducible refine Br)) | ((with_reducible refine D9)))
local macro_rules | `(tactic| walk_at "b") => `(tactic| with_reducible first | exact Boot.«ValueError» | exact Boot.«all» | exact Boot.«bool» | exact Boot.«divmod» | exact Boot.«enumerate» | exact Boot.«int» | exact Boot.«isinstance» | exact Boot.«len» | exact Boot.«list» | exact Boot.«min» | exact Boot.«range» | exact Boot.«sorted» | exact Boot.«tuple»)
local macro_rules | `(tactic| walk_at "E") => `(tactic| first
  | ((with_reducible show QE _ _ (ae _));exact qv _)
  | ((with_reducible show QE _ _ (gC _));first|exact Hc|exact Gk|exact IV|exact Kg)
  | ((with_reducible show QE _ _ (g2 bi _ _));refine Mg ?_ ?_)
  | ((with_reducible show QE _ _ (g2 _ _ _));first|refine L8 (by walk_at "o") ?_ ?_|refine Gp (by walk_at "o") ?_ ?_|refine qe_cmpI (by walk_at "o") ?_ ?_)
  | ((with_reducible show QE _ _ (aj _ _ _));refine K0 (by assumption) hr ?_)
  | ((with_reducible show QE _ _ (aP _));refine Jo ?_)
  | ((with_reducible show QE _ _ (cE _ _));refine Ke (by first|exact .inl rfl|exact .inr (.inl rfl)|exact .inr (.inr (.inl rfl))|exact .inr (.inr (.inr (.inl rfl)))|exact .inr (.inr (.inr (.inr rfl)))) (by walk_at "b") (by rfl) (T.z _ (by decide +kernel)) (by rfl) (T.z _ (by decide +kernel)) ?_)
  | ((with_reducible show QE _ _ (aC _ _));first|refine JZ (by walk_at "c") (T.z _ (by decide +kernel)) (by walk_at "b") ?_|refine Mp (by walk_at "c") (by rfl) (T.z _ (by decide +kernel)) (by walk_at "b") ?_)
  | ((with_reducible show QE _ _ (dM _));refine Gq ?_)
  | ((with_reducible show QE _ _ (jX _));refine IL ?_)
  | ((with_reducible show QE _ _ (iU _));refine IN ?_)
  | ((with_reducible show QE _ _ (ul _));refine Hx ?_)
  | ((with_reducible show QE _ _ (nu _ _ _ _ _));refine Bj (by walk_at "o") (by walk_at "o") ?_ ?_ ?_)
  | ((with_reducible show QE _ _ (vj _ _ _));refine LN ?_ ?_ ?_)
  | ((with_reducible show QE _ _ (pZ _ _ _));refine BI ?_ ?_ ?_)
  | ((with_reducible show QE _ _ (yd _));refine Iz rfl ?_)
  | ((with_reducible show QE _ _ (aW _ _ _ _));first|refine qe_compR (by assumption) (by kernel_rfl) (by first|exact .inl rfl|exact .inr rfl) ?_ ?_ ?_|refine Co (by kernel_rfl) (by first|exact .inl rfl|exact .inr rfl) ?_ ?_ ?_)
  | ((with_reducible show QE _ _ (cA _ _ _ _ _ _));refine zf (by assumption) (by kernel_rfl) (by first|exact .inl rfl|exact .inr rfl) ?_ ?_ ?_ ?_ ?_)
  | ((with_reducible show QE _ _ (eT _ _ _));refine Fw (yA T.a _ _) ?_)
  | ((with_reducible show QE _ _ (fA _ _ _ _ _ ag));refine Dd (by assumption) hr ?_)
  | ((with_reducible show QE _ _ (fA _ _ _ _ _ _));refine Ee (by assumption) hr ?_ ?_)
  | ((with_reducible show QE _ _ (ib _ _ _ ag));refine qe_make0A (by assumption) hr)
  | ((with_reducible show QE _ _ (ib _ _ _ _));refine BN (by assumption) hr ?_)
  | ((with_reducible show QE _ _ (li _ _));refine zK ?_ ?_)
  | ((with_reducible show QE _ _ (lR _ _ _));first|refine Bq ?_ ?_|refine CM ?_ ?_)
  | ((with_reducible show QE _ _ (kz _ _ _));refine zW hr ?_ ?_ ?_)
  | ((with_reducible show QE _ _ (wK));exact E4)
  | ((with_reducible show QE _ _ (vq));exact DM)
  | ((with_reducible show QE _ _ (Bc));exact Ih)
  | ((with_reducible show QE _ _ (jc _ _));first|refine EQ (FP T.r rfl) (T.z _ (by decide +kernel)) ?_|refine AT T.b (T.z _ (by decide +kernel)) (T.z _ (by decide +kernel)) ?_ (by kernel_rfl) (by walk_at "b"))
  | ((with_reducible show QE _ _ (xf _));refine HE ?_)
  | ((with_reducible show QE _ _ (mD _ _));refine D5 ?_)
  | ((with_reducible show QE _ _ (pH _ _));refine EZ (px:="cover") (N:=["cover"]) (by assumption) (k:=0) (hr.mono (by decide)) (by rfl) (T.z _ (by decide +kernel)) (by walk_at "b") ⟨rfl,rfl,rfl,by decide +kernel,rfl,by decide +kernel,by decide +kernel⟩ ?_ fun _ _ _ _ _ _ _ hr=>?_))
local macro_rules | `(tactic| walk_at "S") => `(tactic| first
  | ((with_reducible show QS _ _ (aJ _));refine Hq ?_)
  | ((with_reducible show QS _ _ (cJ _ _ _));refine Kv ?_ ?_ ?_)
  | ((with_reducible show QS _ _ (aI _ (aW _ _ _ _)));first|refine qs_setCompR (by assumption) (by kernel_rfl) (by first|exact .inl rfl|exact .inr rfl) nd ?_ ?_ ?_|refine vp (by kernel_rfl) (by first|exact .inl rfl|exact .inr rfl) nd ?_ ?_ ?_|refine qs_setC _ nd ?_)
  | ((with_reducible show QS _ _ (aI _ (cA _ _ _ _ _ _)));first|refine uP (by assumption) (by kernel_rfl) (by first|exact .inl rfl|exact .inr rfl) ?_ nd ?_ ?_ ?_ ?_|refine qs_setC _ nd ?_)
  | ((with_reducible show QS _ _ (aI _ _));refine HU _ nd ?_)
  | ((with_reducible show QS _ _ (en _ _));refine Jf ?_ ?_)
  | ((with_reducible show QS _ _ (jb _ _ _));refine GN PassesOwn.leaving ?_ ?_ ?_)
  | ((with_reducible show QS _ _ (bo _));refine DF ?_)
  | ((with_reducible show QS _ _ (mx _ _ _));refine GP ?_ ?_ ?_)
  | ((with_reducible show QS _ _ (aD));first|exact qs_pass|exact qs_doc)
  | ((with_reducible show QS _ _ (o0 _ _ _));refine Cr PassesOwn.leaving ?_ ?_)
  | ((with_reducible show QS _ _ (gO _ _));refine zq (T.e _ (by decide +kernel)) ?_)
  | ((with_reducible show QS _ _ (n6 _ _ _ _));refine DN (FP T.r rfl) nd ?_ ?_)
  | ((with_reducible show QS _ _ (fW _ _ _ _));first|refine FJ (yA T.a _ _) ?_ ?_|refine qs_fldCA (yA T.a _ _) ?_ ?_)
  | ((with_reducible show QS _ _ (D7 _ _ _ _));refine IU (yA T.a _ _) ?_ ?_))
local macro_rules | `(tactic| walk_at "Q") => `(tactic| first
  | ((with_reducible show QE _ _ _);first|walk_at "E"|refine IK ?_|refine HH ?_ ?_|refine Kz ?_ ?_|refine qe_fstr1 ?_)
  | ((with_reducible show QA _ _ _);first|exact Hw|refine NR ?_ ?_)
  | ((with_reducible show QT _ _ _);first
  | ((with_reducible show QT _ _ (aH (nu _ _ _ _ _)));refine AF (by walk_at "o") (by walk_at "o") ?_ ?_ ?_)
  | ((with_reducible show QT _ _ (aH _));first|refine Ig (by walk_at "o") ?_ ?_|refine Fd (by walk_at "o") ?_ ?_)
  | ((with_reducible show QT _ _ (bj _));refine Jg ?_)
  | ((with_reducible show QT _ _ (bF _));refine Iq ?_)
  | ((with_reducible show QT _ _ (cx _ _));refine Lf ?_)
  | ((with_reducible show QT _ _ (dh _ _));refine Lf ?_))
  | ((with_reducible show QB _ _ _);first|exact Jr|refine IY ?_|refine Fo ?_ ?_)
  | ((with_reducible show QS _ _ _);walk_at "S")
  | ((with_reducible show QW _ _ _);first|refine Ja ?_ ?_|refine KI ?_ ?_|refine EH ?_|refine Gv ?_)
  | ((with_reducible show QI _ _ _ _);first|((with_reducible show QI _ _ _ (gH _));refine K3 (by rfl) (T.z _ (by decide +kernel)) ?_)|((with_reducible show QI _ _ _ (gRng2 _));refine qi_r2 (by rfl) (T.z _ (by decide +kernel)) ?_)|((with_reducible show QI _ _ _ (kY _));refine Fy (by rfl) (T.z _ (by decide +kernel)) (by walk_at "b") ?_)|refine HN ?_)
  | ((with_reducible show QG _ _ _);first|exact qn _ nd|exact Ow _ (by kernel_rfl)|refine G9 ?_|refine EL ?_)
  | ((with_reducible show K7 _ _ _);first|exact DT|refine Kk ?_ ?_)
  | ((with_reducible show JQ _ _ _);first|exact Ez|refine Lh ?_ ?_)
  | ((with_reducible show QP _ _ _);first|exact DO|refine ES ?_)
  | ((with_reducible show Dp _ _ _ _ _ _);first|exact zn|refine q_onetest ?_)
  | ((with_reducible show QO _ _);first|exact qo_one _ _|exact GZ _|refine qo_tupG ?_)
  | ((with_reducible show QOs _ _);first|exact qos_nil|refine qos_c ?_ ?_)
  | ((with_reducible show QF _ _ _);first|exact HQ|refine NG ?_ ?_)
  | ((with_reducible show QD _ _ _ _ _);first|exact qd_nil|refine qd_c ?_)
  | intro _)
section
variable {P:Program}{w:World}{K:W.Frag}{mg:Str→Option Value}{base:Heap}
noncomputable def jh:GS:=(ar (aI 2 (gC (.int 2305843009213693951))) (ar (cJ (aH (g2 rN (g2 bi (ae 0) (gC (.int 2))) (ae 1))) (ar (aI 3 (gC (.int 0))) (ar (cJ (aH (g2 nr (aC a7 (aa (g2 bi (ae 0) (gC (.int 0))) ag)) (gC (.int 0)))) (aI 3 (g2 bi (g2 bi (ae 0) (gC (.int 0))) (g2 ij (g2 bi (ae 0) (gC (.int 1))) (aC a7 (aa (g2 bi (ae 0) (gC (.int 0))) ag))))) aD) (ar (cJ (dh (aH (g2 wO (g2 bi (ae 0) (gC (.int 1))) (aC a7 (aa (g2 bi (ae 0) (gC (.int 0))) ag)))) (aH (g2 rN (ae 3) (g2 pT (gC (.int 10)) (gC (.int 18)))))) (ar (aI 3 (g2 ij (g2 bS (ae 3) (g2 gT (gC (.int 1000003)) (g2 bi (ae 0) (gC (.int 1))))) (ae 2))) (ar (aI 3 (g2 ij (g2 bS (g2 bS (g2 gT (ae 3) (ae 3)) (g2 gT (gC (.int 1181783497276652981)) (ae 3))) (gC (.int 2049848353892358983))) (ae 2))) (aI 3 (g2 ij (g2 bS (g2 gT (ae 3) (ae 3)) (gC (.int 1442695040888963407))) (ae 2))))) aD) (ar (mx (ae 0) (gC (.int 1)) (g2 bS (g2 bi (ae 0) (gC (.int 1))) (gC (.int 1)))) (mx (ae 0) (gC (.int 2)) (ae 3)))))) aD) (ar (aI 4 (g2 ij (g2 bi (ae 0) (gC (.int 2))) (ae 1))) (ar (mx (ae 0) (gC (.int 2)) (g2 jv (g2 bi (ae 0) (gC (.int 2))) (ae 1))) (aJ (ae 4))))))
noncomputable def aw:FD:=aX 3 jh
theorem bX (T:TX P w K mg base):Ok P w K mg base "_law_draw" 1 2 aw:=cb (bZ T.f 0 rfl) ["tape","many","prime","cell","found"] aT rfl fun f _ A _ s H E nd hr=>by delta jh;repeat' walk_at "Q"
noncomputable def lX:GS:=(aJ (g2 bS (gC (.int 1)) (g2 bi (dM (aa (aj 2 aw (aa (ae 0) (aa (aC xM (aa (ae 1) (aa (gC (.int 6)) ag))) ag))) (aa (aj 2 aw (aa (ae 0) (aa (ae 1) ag))) (aa (g2 iF (ae 1) (gC (.int 1))) ag)))) (g2 jv (g2 gT (aj 2 aw (aa (ae 0) (aa (gC (.int 8)) ag))) (gC (.int 3))) (gC (.int 10))))))
noncomputable def h8:FD:=aX 0 lX
theorem uA (T:TX P w K mg base):Ok P w K mg base "_law_size" 2 2 h8:=cb (bZ T.f 1 rfl) ["tape","most"] aT rfl fun f _ A _ s H E nd hr=>by have:=bX T;delta lX;repeat' walk_at "Q"
noncomputable def gq:GE:=(g2 gT (aj 2 aw (aa (ae 1) (aa (gC (.int 16)) ag))) (aC uM (aa (g2 nr (aj 2 aw (aa (ae 1) (aa (ae 3) ag))) (gC (.int 0))) ag)))
noncomputable def lQ:GS:=(aJ (aC gL (aa (aW (gH (aa (ae 1) ag)) bU gq aL) ag)))
noncomputable def jo:FD:=aX 0 lQ
theorem uS (T:TX P w K mg base):Ok P w K mg base "_law_inks" 2 3 jo:=cb (bZ T.f 2 rfl) ["tape","wide","thin"] aT rfl fun f _ A _ s H E nd hr=>by have:=bX T;delta lQ gq;repeat' walk_at "Q"
noncomputable def hO:GE:=(aj 3 jo (aa (ae 1) (aa (ae 3) (aa (ae 4) ag))))
noncomputable def kT:GS:=(ar (aI 2 (aj 2 h8 (aa (ae 0) (aa (ae 1) ag)))) (ar (aI 3 (g2 bS (gC (.int 1)) (aj 2 aw (aa (ae 0) (aa (gC (.int 4)) ag))))) (aJ (aC gL (aa (aW (gH (aa (aj 2 h8 (aa (ae 0) (aa (ae 1) ag))) ag)) bU hO aL) ag)))))
noncomputable def eX:FD:=aX 2 kT
theorem rX (T:TX P w K mg base):Ok P w K mg base "_law_inked" 3 2 eX:=cb (bZ T.f 3 rfl) ["tape","most","wide","thin"] aT rfl fun f _ A _ s H E nd hr=>by have:=bX T;have:=uA T;have:=uS T;delta kT hO;repeat' walk_at "Q"
noncomputable def mT:GS:=(aJ (g2 bi (dM (aa (g2 iF (aj 2 aw (aa (ae 0) (aa (g2 bS (ae 1) (gC (.int 16))) ag))) (gC (.int 8))) (aa (g2 iF (aj 2 aw (aa (ae 0) (aa (gC (.int 2001)) ag))) (gC (.int 1000))) ag))) (g2 jv (aj 2 aw (aa (ae 0) (aa (gC (.int 8)) ag))) (gC (.int 7)))))
noncomputable def dD:FD:=aX 0 mT
theorem ph (T:TX P w K mg base):Ok P w K mg base "_law_far" 2 2 dD:=cb (bZ T.f 4 rfl) ["tape","size"] aT rfl fun f _ A _ s H E nd hr=>by have:=bX T;delta mT;repeat' walk_at "Q"
noncomputable def gf:GS:=(ar (aI 3 (gC .non)) (ar (cJ (cx (aH (g2 nr (ae 2) (gC (.int 0)))) (aH (g2 nr (aj 2 aw (aa (ae 0) (aa (gC (.int 8)) ag))) (gC (.int 0))))) (aI 3 (aj 2 aw (aa (ae 0) (aa (ae 2) ag)))) aD) (aJ (aP (aa (ae 3) (aa (aj 2 dD (aa (ae 0) (aa (g2 bi (ae 1) (gC (.int 0))) ag))) (aa (aj 2 dD (aa (ae 0) (aa (g2 bi (ae 1) (gC (.int 1))) ag))) (aa (aj 2 aw (aa (ae 0) (aa (gC (.int 4)) ag))) (aa (aj 2 aw (aa (ae 0) (aa (gC (.int 4)) ag))) ag)))))))))
noncomputable def eN:FD:=aX 1 gf
theorem sj (T:TX P w K mg base):Ok P w K mg base "_law_mover" 3 3 eN:=cb (bZ T.f 5 rfl) ["tape","frame","shapes","shape"] aT rfl fun f _ A _ s H E nd hr=>by have:=bX T;have:=ph T;delta gf;repeat' walk_at "Q"
noncomputable def hG:GE:=(aj 2 eX (aa (ae 1) (aa (gC (.int 8)) ag)))
noncomputable def gY:GE:=(aj 3 eN (aa (ae 1) (aa (ae 2) (aa (aC a7 (aa (ae 7) ag)) ag))))
noncomputable def hV:GE:=(aj 2 aw (aa (ae 1) (aa (gC (.int 64)) ag)))
noncomputable def kB:GS:=(ar (aI 3 (aj 2 eX (aa (ae 0) (aa (gC (.int 16)) ag)))) (ar (aI 4 (aP (aa (aj 2 dD (aa (ae 0) (aa (gC (.int 9)) ag))) (aa (aj 2 dD (aa (ae 0) (aa (gC (.int 9)) ag))) ag)))) (ar (aI 5 (g2 bi (dM (aa (aj 2 aw (aa (ae 0) (aa (gC (.int 4)) ag))) (aa (aj 2 aw (aa (ae 0) (aa (gC (.int 9)) ag))) ag))) (g2 jv (aj 2 aw (aa (ae 0) (aa (gC (.int 4)) ag))) (gC (.int 3))))) (ar (aI 6 (aC gL (aa (aW (gH (aa (ae 5) ag)) bU hG aL) ag))) (ar (aI 7 (aC gL (aa (aW (gH (aa (aj 2 aw (aa (ae 0) (aa (g2 bS (ae 2) (gC (.int 1))) ag))) ag)) bU gY aL) ag))) (aJ (aP (aa (ae 3) (aa (ae 4) (aa (ae 6) (aa (ae 7) (aa (aC gL (aa (aW (gH (aa (gC (.int 16)) ag)) bU hV aL) ag)) ag))))))))))))
noncomputable def eQ:FD:=aX 5 kB
theorem rZ (T:TX P w K mg base):Ok P w K mg base "_law_stand" 4 3 eQ:=cb (bZ T.f 6 rfl) ["tape","frame","movers_most","floor","shift","shapes","book","movers"] aT rfl fun f _ A _ s H E nd hr=>by have:=bX T;have:=rX T;have:=ph T;have:=sj T;delta kB hG gY hV;repeat' walk_at "Q"
noncomputable def kF:GS:=(aJ (fz (cE "int" (ae 0)) (fz (ul (aH (cE "bool" (ae 0)))) (fz (g2 lq (ae 1) (ae 0)) (g2 lq (ae 0) (ae 2))))))
noncomputable def bc:FD:=aX 0 kF
theorem jE (T:TX P w K mg base):Ok P w K mg base "_law_whole" 1 3 bc:=cb (bZ T.f 7 rfl) ["thing","low","high"] aT rfl fun f _ A _ s H E nd hr=>by delta kF;repeat' walk_at "Q"
noncomputable def eU:GE:=(cE "tuple" (ae 0))
noncomputable def eV:GE:=(g2 (a9 false) (aC a7 (aa (ae 0) ag)) (ae 3))
noncomputable def eW:GE:=(aj 3 bc (aa (ae 0) (aa (gC (.int 0)) (aa (gC (.int 15)) ag))))
noncomputable def eZ:GE:=(aC fh (aa (aW (bJ (ae 0)) bU eW aL) ag))
noncomputable def fB:GS:=(ar (cJ (dh (bj (bF (cE "tuple" (ae 0)))) (bj (aH (nu lq lq (gC (.int 1)) (aC a7 (aa (ae 0) ag)) (ae 1))))) (aJ (gC (.bl false))) aD) (ar (cJ (bj (bF (aC fh (aa (aW (bJ (ae 0)) bU eU aL) ag)))) (aJ (gC (.bl false))) aD) (ar (aI 2 (aC a7 (aa (g2 bi (ae 0) (gC (.int 0))) ag))) (ar (cJ (dh (bj (aH (nu lq lq (gC (.int 1)) (ae 2) (ae 1)))) (bj (bF (aC fh (aa (aW (bJ (ae 0)) bU eV aL) ag))))) (aJ (gC (.bl false))) aD) (aJ (aC fh (aa (aW (bJ (ae 0)) bU eZ aL) ag)))))))
noncomputable def dE:FD:=aX 1 fB
theorem oR (T:TX P w K mg base):Ok P w K mg base "_law_are_rows" 2 2 dE:=cb (bZ T.f 8 rfl) ["thing","most","wide"] aT rfl fun f _ A _ s H E nd hr=>by have:=jE T;delta fB eU eV eW eZ;repeat' walk_at "Q"
noncomputable def fI:GS:=(ar (cJ (dh (bj (bF (cE "tuple" (ae 0)))) (aH (g2 (a9 true) (aC a7 (aa (ae 0) ag)) (gC (.int 5))))) (aJ (gC (.bl false))) aD) (ar (cJ (cx (aH (g2 (jB true) (g2 bi (ae 0) (gC (.int 0))) (gC .non))) (bj (bF (aj 3 bc (aa (g2 bi (ae 0) (gC (.int 0))) (aa (gC (.int 0)) (aa (g2 iF (aC a7 (aa (ae 1) ag)) (gC (.int 1))) ag))))))) (aJ (gC (.bl false))) aD) (ar (cJ (dh (bj (bF (aj 3 bc (aa (g2 bi (ae 0) (gC (.int 1))) (aa (iU (gC (.int 1000))) (aa (gC (.int 1000)) ag)))))) (bj (bF (aj 3 bc (aa (g2 bi (ae 0) (gC (.int 2))) (aa (iU (gC (.int 1000))) (aa (gC (.int 1000)) ag))))))) (aJ (gC (.bl false))) aD) (aJ (fz (aj 3 bc (aa (g2 bi (ae 0) (gC (.int 3))) (aa (gC (.int 0)) (aa (gC (.int 3)) ag)))) (aj 3 bc (aa (g2 bi (ae 0) (gC (.int 4))) (aa (gC (.int 0)) (aa (gC (.int 3)) ag)))))))))
noncomputable def iu:FD:=aX 0 fI
theorem o7 (T:TX P w K mg base):Ok P w K mg base "_law_is_mover" 2 2 iu:=cb (bZ T.f 9 rfl) ["thing","book"] aT rfl fun f _ A _ s H E nd hr=>by have:=jE T;delta fI;repeat' walk_at "Q"
noncomputable def cY:GE:=(cE "tuple" (ae 0))
noncomputable def dk:GE:=(aj 3 bc (aa (ae 0) (aa (iU (gC (.int 1000))) (aa (gC (.int 1000)) ag))))
noncomputable def df:GE:=(aj 2 dE (aa (ae 0) (aa (gC (.int 8)) ag)))
noncomputable def dg:GE:=(aj 3 bc (aa (ae 0) (aa (gC (.int 0)) (aa (gC (.int 63)) ag))))
noncomputable def cZ:GE:=(aj 2 iu (aa (ae 0) (aa (g2 bi (ae 1) (gC (.int 2))) ag)))
noncomputable def fG:GS:=(ar (cJ (dh (bj (bF (cE "tuple" (ae 0)))) (dh (aH (g2 (a9 true) (aC a7 (aa (ae 0) ag)) (gC (.int 5)))) (bj (bF (aj 2 dE (aa (g2 bi (ae 0) (gC (.int 0))) (aa (gC (.int 16)) ag))))))) (aJ (gC (.bl false))) aD) (ar (cJ (dh (bj (bF (aC fh (aa (aW (bJ (pZ (ae 0) (eI (gC (.int 1))) bQ)) bU cY aL) ag)))) (dh (aH (g2 (a9 true) (aC a7 (aa (g2 bi (ae 0) (gC (.int 1))) ag)) (gC (.int 2)))) (aH (g2 nr (aC a7 (aa (g2 bi (ae 0) (gC (.int 2))) ag)) (gC (.int 8)))))) (aJ (gC (.bl false))) aD) (ar (cJ (bj (bF (aC fh (aa (aW (bJ (g2 bi (ae 0) (gC (.int 1)))) bU dk aL) ag)))) (aJ (gC (.bl false))) aD) (ar (cJ (dh (bj (bF (aC fh (aa (aW (bJ (g2 bi (ae 0) (gC (.int 2)))) bU df aL) ag)))) (dh (aH (g2 nr (aC a7 (aa (g2 bi (ae 0) (gC (.int 3))) ag)) (gC (.int 12)))) (aH (g2 (a9 true) (aC a7 (aa (g2 bi (ae 0) (gC (.int 4))) ag)) (gC (.int 16)))))) (aJ (gC (.bl false))) aD) (ar (cJ (bj (bF (aC fh (aa (aW (bJ (g2 bi (ae 0) (gC (.int 4)))) bU dg aL) ag)))) (aJ (gC (.bl false))) aD) (aJ (aC fh (aa (aW (bJ (g2 bi (ae 0) (gC (.int 3)))) bU cZ aL) ag))))))))
noncomputable def dF:FD:=aX 0 fG
theorem oE (T:TX P w K mg base):Ok P w K mg base "_law_is_stand" 3 1 dF:=cb (bZ T.f 10 rfl) ["thing"] aT rfl fun f _ A _ s H E nd hr=>by have:=jE T;have:=oR T;have:=o7 T;delta fG cY dk df dg cZ;repeat' walk_at "Q"
noncomputable def m9:GS:=(aJ (fz (cE "int" (ae 0)) (ul (aH (cE "bool" (ae 0))))))
noncomputable def kS:FD:=aX 0 m9
theorem vJ (T:TX P w K mg base):Ok P w K mg base "is_whole" 1 1 kS:=cb (bZ T.f 11 rfl) ["thing"] aT rfl fun f _ A _ s H E nd hr=>by delta m9;repeat' walk_at "Q"
noncomputable def lJ:GS:=(aJ (fz (aj 1 kS (aa (ae 0) ag)) (nu lq lq (ae 1) (ae 0) (ae 2))))
noncomputable def bK:FD:=aX 0 lJ
theorem dC (T:TX P w K mg base):Ok P w K mg base "is_within" 2 3 bK:=cb (bZ T.f 12 rfl) ["thing","low","high"] aT rfl fun f _ A _ s H E nd hr=>by have:=vJ T;delta lJ;repeat' walk_at "Q"
noncomputable def qF:GS:=(aJ (aj 3 bK (aa (ae 0) (aa (gC (.int 0)) (aa (gC (.int 15)) ag)))))
noncomputable def nQ:FD:=aX 0 qF
theorem z6 (T:TX P w K mg base):Ok P w K mg base "is_ink" 3 1 nQ:=cb (bZ T.f 13 rfl) ["thing"] aT rfl fun f _ A _ s H E nd hr=>by have:=dC T;delta qF;repeat' walk_at "Q"
noncomputable def hU:GE:=(aj 1 nQ (aa (ae 0) ag))
noncomputable def iB:GS:=(aJ (fz (cE "tuple" (ae 0)) (aC fh (aa (aW (bJ (ae 0)) bU hU aL) ag))))
noncomputable def kA:FD:=aX 0 iB
theorem rW (T:TX P w K mg base):Ok P w K mg base "is_ink_row" 4 1 kA:=cb (bZ T.f 14 rfl) ["thing"] aT rfl fun f _ A _ s H E nd hr=>by have:=z6 T;delta iB hU;repeat' walk_at "Q"
noncomputable def fH:GE:=(aj 1 kA (aa (ae 0) ag))
noncomputable def dG:GE:=(g2 (a9 false) (aC a7 (aa (ae 0) ag)) (ae 3))
noncomputable def fY:GS:=(ar (cJ (dh (bj (bF (cE "tuple" (ae 0)))) (bj (aH (nu lq lq (gC (.int 1)) (aC a7 (aa (ae 0) ag)) (ae 1))))) (aJ (gC (.bl false))) aD) (ar (cJ (bj (bF (aC fh (aa (aW (bJ (ae 0)) bU fH aL) ag)))) (aJ (gC (.bl false))) aD) (ar (aI 2 (aC a7 (aa (g2 bi (ae 0) (gC (.int 0))) ag))) (aJ (fz (nu lq lq (gC (.int 1)) (ae 2) (ae 1)) (aC fh (aa (aW (bJ (ae 0)) bU dG aL) ag)))))))
noncomputable def gk:FD:=aX 1 fY
theorem lh (T:TX P w K mg base):Ok P w K mg base "is_ink_block" 5 2 gk:=cb (bZ T.f 15 rfl) ["thing","most","length"] aT rfl fun f _ A _ s H E nd hr=>by have:=rW T;delta fY fH dG;repeat' walk_at "Q"
noncomputable def kK:GS:=(aJ (aj 2 gk (aa (ae 0) (aa (gC (.int 8)) ag))))
noncomputable def mO:FD:=aX 0 kK
theorem vU (T:TX P w K mg base):Ok P w K mg base "is_shape" 6 1 mO:=cb (bZ T.f 16 rfl) ["thing"] aT rfl fun f _ A _ s H E nd hr=>by have:=lh T;delta kK;repeat' walk_at "Q"
noncomputable def kR:GE:=(aj 1 mO (aa (ae 0) ag))
noncomputable def mf:GS:=(aJ (fz (cE "tuple" (ae 0)) (fz (g2 lq (aC a7 (aa (ae 0) ag)) (gC (.int 8))) (aC fh (aa (aW (bJ (ae 0)) bU kR aL) ag)))))
noncomputable def oZ:FD:=aX 0 mf
theorem xu (T:TX P w K mg base):Ok P w K mg base "is_book" 7 1 oZ:=cb (bZ T.f 17 rfl) ["thing"] aT rfl fun f _ A _ s H E nd hr=>by have:=vU T;delta mf kR;repeat' walk_at "Q"
noncomputable def gu:GS:=(aJ (JJ (g2 (jB false) (ae 1) (gC .non)) (aj 3 bK (aa (ae 1) (aa (gC (.int 0)) (aa (g2 iF (aC a7 (aa (ae 0) ag)) (gC (.int 1))) ag))))))
noncomputable def d7:FD:=aX 0 gu
theorem mZ (T:TX P w K mg base):Ok P w K mg base "is_shape_number" 3 2 d7:=cb (bZ T.f 18 rfl) ["book","thing"] aT rfl fun f _ A _ s H E nd hr=>by have:=dC T;delta gu;repeat' walk_at "Q"
noncomputable def e9:GE:=(aj 3 bK (aa (ae 0) (aa (iU (gC (.int 1000))) (aa (gC (.int 1000)) ag))))
noncomputable def dJ:GS:=(aJ (fz (cE "tuple" (ae 0)) (fz (g2 (a9 false) (aC a7 (aa (ae 0) ag)) (gC (.int 2))) (aC fh (aa (aW (bJ (ae 0)) bU e9 aL) ag)))))
noncomputable def cg:FD:=aX 0 dJ
theorem jW (T:TX P w K mg base):Ok P w K mg base "is_place_pair" 3 1 cg:=cb (bZ T.f 19 rfl) ["thing"] aT rfl fun f _ A _ s H E nd hr=>by have:=dC T;delta dJ e9;repeat' walk_at "Q"
noncomputable def ox:GS:=(aJ (aj 3 bK (aa (ae 0) (aa (gC (.int 0)) (aa (gC (.int 3)) ag)))))
noncomputable def l0:FD:=aX 0 ox
theorem xE (T:TX P w K mg base):Ok P w K mg base "is_rank" 3 1 l0:=cb (bZ T.f 20 rfl) ["thing"] aT rfl fun f _ A _ s H E nd hr=>by have:=dC T;delta ox;repeat' walk_at "Q"
noncomputable def oG:GS:=(aJ (aj 3 bK (aa (ae 0) (aa (gC (.int 0)) (aa (gC (.int 3)) ag)))))
noncomputable def mw:FD:=aX 0 oG
theorem xA (T:TX P w K mg base):Ok P w K mg base "is_turn" 3 1 mw:=cb (bZ T.f 21 rfl) ["thing"] aT rfl fun f _ A _ s H E nd hr=>by have:=dC T;delta oG;repeat' walk_at "Q"
noncomputable def kH:GS:=(ar (cJ (dh (bj (bF (cE "tuple" (ae 1)))) (aH (g2 (a9 true) (aC a7 (aa (ae 1) ag)) (gC (.int 5))))) (aJ (gC (.bl false))) aD) (ar (en (bO [2,3,4,5,6]) (ae 1)) (aJ (fz (aj 2 d7 (aa (ae 0) (aa (ae 2) ag))) (fz (aj 1 cg (aa (aP (aa (ae 3) (aa (ae 4) ag))) ag)) (fz (aj 1 l0 (aa (ae 5) ag)) (aj 1 mw (aa (ae 6) ag))))))))
noncomputable def nh:FD:=aX 5 kH
theorem vN (T:TX P w K mg base):Ok P w K mg base "is_mover" 4 2 nh:=cb (bZ T.f 22 rfl) ["book","thing","shape","x","y","rank","turn"] aT rfl fun f _ A _ s H E nd hr=>by have:=mZ T;have:=jW T;have:=xE T;have:=xA T;delta kH;repeat' walk_at "Q"
noncomputable def gZ:GE:=(aj 2 nh (aa (ae 1) (aa (ae 0) ag)))
noncomputable def iJ:GS:=(aJ (fz (cE "tuple" (ae 1)) (fz (g2 lq (aC a7 (aa (ae 1) ag)) (gC (.int 12))) (aC fh (aa (aW (bJ (ae 1)) bU gZ aL) ag)))))
noncomputable def kJ:FD:=aX 0 iJ
theorem rQ (T:TX P w K mg base):Ok P w K mg base "are_movers" 5 2 kJ:=cb (bZ T.f 23 rfl) ["book","thing"] aT rfl fun f _ A _ s H E nd hr=>by have:=vN T;delta iJ gZ;repeat' walk_at "Q"
noncomputable def qQ:GS:=(aJ (aj 3 bK (aa (ae 0) (aa (gC (.int 0)) (aa (gC (.int 63)) ag)))))
noncomputable def oq:FD:=aX 0 qQ
theorem zi (T:TX P w K mg base):Ok P w K mg base "is_hue" 3 1 oq:=cb (bZ T.f 24 rfl) ["thing"] aT rfl fun f _ A _ s H E nd hr=>by have:=dC T;delta qQ;repeat' walk_at "Q"
noncomputable def jy:GE:=(aj 1 oq (aa (ae 0) ag))
noncomputable def ku:GS:=(aJ (fz (cE "tuple" (ae 0)) (fz (g2 (a9 false) (aC a7 (aa (ae 0) ag)) (gC (.int 16))) (aC fh (aa (aW (bJ (ae 0)) bU jy aL) ag)))))
noncomputable def mJ:FD:=aX 0 ku
theorem vm (T:TX P w K mg base):Ok P w K mg base "are_pots" 4 1 mJ:=cb (bZ T.f 25 rfl) ["thing"] aT rfl fun f _ A _ s H E nd hr=>by have:=zi T;delta ku jy;repeat' walk_at "Q"
noncomputable def kD:GS:=(ar (cJ (dh (bj (bF (cE "tuple" (ae 0)))) (aH (g2 (a9 true) (aC a7 (aa (ae 0) ag)) (gC (.int 5))))) (aJ (gC (.bl false))) aD) (ar (en (bO [1,2,3,4,5]) (ae 0)) (ar (cJ (bj (cx (bF (aj 2 gk (aa (ae 1) (aa (gC (.int 16)) ag)))) (cx (bF (aj 1 cg (aa (ae 2) ag))) (bF (aj 1 mJ (aa (ae 5) ag)))))) (aJ (gC (.bl false))) aD) (aJ (fz (aj 1 oZ (aa (ae 3) ag)) (aj 2 kJ (aa (ae 3) (aa (ae 4) ag))))))))
noncomputable def gQ:FD:=aX 5 kD
theorem pk (T:TX P w K mg base):Ok P w K mg base "is_stand" 8 1 gQ:=cb (bZ T.f 26 rfl) ["thing","floor","shift","book","movers","pots"] aT rfl fun f _ A _ s H E nd hr=>by have:=lh T;have:=xu T;have:=jW T;have:=rQ T;have:=vm T;delta kD;repeat' walk_at "Q"
noncomputable def eY:GS:=(ar (bo (li (ae 2) (aj 2 aw (aa (ae 0) (aa (aC a7 (aa (ae 1) ag)) ag))))) (aI 1 (g2 bi (ae 1) (g2 bi (ae 2) (iU (gC (.int 1)))))))
noncomputable def bu:GT:=(cx (bF (cE "tuple" (ae 1))) (cx (aH (g2 nr (aC a7 (aa (ae 1) ag)) (gC (.int 0)))) (aH (g2 nr (aj 2 aw (aa (ae 0) (aa (gC (.int 8)) ag))) (gC (.int 0))))))
noncomputable def ig:GS:=(ar (aI 2 (jX ag)) (ar (o0 5000 bu eY) (aJ (ae 2))))
noncomputable def fP:FD:=fun ds M=>iQ M.length (aX 1 ig ds M)
theorem uV (T:TX P w K mg base):Ok P w K mg base "_law_path" 2 2 fP:=oS (F:=aX 1 ig) <| cb (bZ T.f 27 rfl) ["tape","thing","path"] aT rfl fun f _ A _ s H E nd hr=>by have:=bX T;delta ig eY bu;repeat' walk_at "Q"
noncomputable def jw:GS:=(aI 0 (g2 bi (ae 0) (ae 2)))
noncomputable def mP:GS:=(ar (jb (bJ (ae 1)) (ej 2) jw) (aJ (ae 0)))
noncomputable def gP:FD:=aX 1 mP
theorem vK (T:TX P w K mg base):Ok P w K mg base "_law_got" 1 2 gP:=cb (bZ T.f 28 rfl) ["thing","path","step"] aT rfl fun f _ A _ s H E nd hr=>by delta mP jw;repeat' walk_at "Q"
noncomputable def iN (F:FD):GS:=(ar (cJ (aH (g2 (a9 false) (ae 1) (dM ag))) (aJ (ae 2)) aD) (ar (aI 3 (g2 bi (ae 1) (gC (.int 0)))) (ar (aI 4 (aj 3 F (aa (g2 bi (ae 0) (ae 3)) (aa (pZ (ae 1) (eI (gC (.int 1))) bQ) (aa (ae 2) ag))))) (aJ (g2 bS (g2 bS (pZ (ae 0) bQ (eI (ae 3))) (aP (aa (ae 4) ag))) (pZ (ae 0) (eI (g2 bS (ae 3) (gC (.int 1)))) bQ))))))
noncomputable def bp:Nat→FD
 | 0=>fun _ _=>.bad
 | n+1=>aX 2 (iN (bp n))
theorem pF (T:TX P w K mg base):∀n:Nat,Ok P w K mg base "_law_put" (n+1) 3 (bp n)
 | 0=>Ia (bZ T.f 29 rfl)
 | n+1=>by
  have e:n+1+1=n+1+1:=by omega
  rw[e]
  have:=pF T n
  exact cb (bZ T.f 29 rfl) ["thing","path","other","at","inner"] aT rfl fun f _ A _ s H E nd hr=>by delta iN;repeat' walk_at "Q"
noncomputable def mS:GS:=(ar (aI 1 (dM (aa (gC .non) (aa (gC (.bl true)) (aa (gC (.bl false)) (aa (iU (gC (.int 1))) (aa (gC (.int 0)) (aa (gC (.int 1)) (aa (gC (.int 16)) (aa (gC (.int 64)) (aa (gC (.int 40)) (aa (gC (.int 41)) (aa (gC (.int 1001)) (aa (iU (gC (.int 1001))) (aa (gC (.int 13)) (aa (gC (.str "")) (aa (gC (.str "shift")) (aa (gC (.str "pot")) (aa (dM ag) (aa (aP ag) ag)))))))))))))))))))) (ar (aI 1 (g2 bS (ae 1) (dM (aa (aP (aa (gC (.int 0)) ag)) (aa (aP (aa (gC (.int 0)) (aa (gC (.int 0)) ag))) (aa (dM (aa (gC (.int 0)) (aa (gC (.int 0)) ag))) ag)))))) (ar (aI 1 (g2 bS (ae 1) (dM (aa (aP (aa (aP (aa (gC (.int 0)) ag)) ag)) (aa (aP (aa (aP (aa (gC (.int 0)) (aa (gC (.int 1)) ag))) (aa (aP (aa (gC (.int 1)) ag)) ag))) (aa (aP (aa (gC (.int 1)) (aa (gC (.int 2)) (aa (gC (.int 3)) (aa (gC (.int 4)) (aa (gC (.int 5)) ag)))))) (aa (aP (aa (gC (.str "move")) (aa (gC (.int 0)) (aa (gC (.int 0)) (aa (gC (.int 0)) ag))))) (aa (aP (aa (aP (aa (gC (.int 1)) (aa (gC (.bl true)) ag))) ag)) (aa (dM (aa (dM (aa (gC (.int 0)) ag)) ag)) (aa (gC (.int 8)) (aa (gC (.int 3)) (aa (gC (.int 4)) (aa (gC (.str "0")) (aa (gC (.int 12)) ag)))))))))))))) (aJ (g2 bi (g2 bS (ae 1) (dM (aa (aj 2 aw (aa (ae 0) (aa (g2 pT (gC (.int 10)) (gC (.int 30))) ag))) (aa (g2 iF (gC (.int 0)) (aj 2 aw (aa (ae 0) (aa (g2 pT (gC (.int 10)) (gC (.int 30))) ag)))) ag)))) (aj 2 aw (aa (ae 0) (aa (gC (.int 34)) ag))))))))
noncomputable def eC:FD:=aX 1 mS
theorem pq (T:TX P w K mg base):Ok P w K mg base "_law_any" 2 1 eC:=cb (bZ T.f 30 rfl) ["tape","some"] aT rfl fun f _ A _ s H E nd hr=>by have:=bX T;delta mS;repeat' walk_at "Q"
noncomputable def gV:GS:=(ar (aI 2 (aj 2 fP (aa (ae 0) (aa (ae 1) ag)))) (ar (aI 3 (aj 2 gP (aa (ae 1) (aa (ae 2) ag)))) (ar (aI 4 (aj 2 aw (aa (ae 0) (aa (gC (.int 5)) ag)))) (ar (cJ (cx (bF (cE "tuple" (ae 3))) (aH (g2 (a9 false) (ae 4) (gC (.int 1))))) (aJ (aj 3 (bp 20) (aa (ae 1) (aa (ae 2) (aa (aC kZ (aa (ae 3) ag)) ag))))) aD) (ar (cJ (cx (bF (cE "tuple" (ae 3))) (aH (g2 (a9 false) (ae 4) (gC (.int 2))))) (aJ (aj 3 (bp 20) (aa (ae 1) (aa (ae 2) (aa (pZ (ae 3) bQ (eI (iU (gC (.int 1))))) ag))))) aD) (ar (cJ (cx (bF (cE "tuple" (ae 3))) (cx (aH (g2 (a9 false) (ae 4) (gC (.int 3)))) (aH (g2 nr (aC a7 (aa (ae 3) ag)) (gC (.int 0)))))) (aJ (aj 3 (bp 20) (aa (ae 1) (aa (ae 2) (aa (g2 bS (ae 3) (pZ (ae 3) bQ (eI (gC (.int 1))))) ag))))) aD) (ar (cJ (cx (aH (g2 (a9 false) (ae 4) (gC (.int 4)))) (bF (cE "int" (ae 3)))) (aJ (aj 3 (bp 20) (aa (ae 1) (aa (ae 2) (aa (g2 bS (ae 3) (g2 bi (dM (aa (gC (.int 1)) (aa (iU (gC (.int 1))) (aa (gC (.int 64)) (aa (gC (.int 1000)) ag))))) (aj 2 aw (aa (ae 0) (aa (gC (.int 4)) ag))))) ag))))) aD) (aJ (aj 3 (bp 20) (aa (ae 1) (aa (ae 2) (aa (aj 1 eC (aa (ae 0) ag)) ag))))))))))))
noncomputable def bV:FD:=aX 3 gV
theorem qM (T:TX P w K mg base):Ok P w K mg base "_law_spoilt" 22 2 bV:=cb (bZ T.f 31 rfl) ["tape","thing","path","here","way"] aT rfl fun f _ A _ s H E nd hr=>by have:=bX T;have:=uV T;have:=vK T;have:=pF T 20;have:=pq T;delta gV;repeat' walk_at "Q"
noncomputable def fL:GS:=(ar (aI 1 (jX (aa (jc (wo [("NoDeed",false),("NoFrame",true),("NoStand",false),("NoTick",false),("Over",false)]) (ae 0)) (aa (jc (wo [("NoDeed",false),("NoFrame",false),("NoStand",true),("NoTick",false),("Over",false)]) (ae 0)) (aa (jc (wo [("NoDeed",false),("NoFrame",false),("NoStand",false),("NoTick",true),("Over",false)]) (ae 0)) ag))))) (ar (aI 1 (g2 wC (ae 1) (dM (aa (jc (wo [("NoDeed",true),("NoFrame",false),("NoStand",false),("NoTick",false),("Over",false)]) (ae 0)) (aa (jc (wo [("NoDeed",false),("NoFrame",false),("NoStand",false),("NoTick",false),("Over",true)]) (ae 0)) (aa (jc (wo [("NoDeed",false),("NoFrame",false),("NoStand",false),("NoTick",false),("Over",false)]) (ae 0)) ag)))))) (ar (aI 1 (g2 wC (ae 1) (dM (aa (jc (wo [("NoDeed",false),("NoFrame",false),("NoStand",false),("NoTick",false),("Over",false)]) (ae 0)) (aa (jc (wo [("NoDeed",false),("NoFrame",false),("NoStand",false),("NoTick",false),("Over",false)]) (ae 0)) (aa (jc (wo [("NoDeed",false),("NoFrame",false),("NoStand",false),("NoTick",false),("Over",false)]) (ae 0)) ag)))))) (ar (bo (li (ae 1) (jc (wo [("NoDeed",false),("NoFrame",false),("NoStand",false),("NoTick",false),("Over",false)]) (ae 0)))) (ar (cJ (dh (bj (bF (jc (wo [("NoDeed",true),("NoFrame",true),("NoStand",true),("NoTick",true),("Over",true)]) (ae 0)))) (aH (g2 (a9 true) (lR lO (ae 1) (gC (.bl true))) (gC (.int 1))))) (aJ (aP (aa (gC (.str "another")) ag))) aD) (ar (aI 2 (dM (aa (gC (.str "frame")) (aa (gC (.str "stand")) (aa (gC (.str "tick")) (aa (gC (.str "deed")) (aa (gC (.str "over")) (aa (gC (.str "score")) (aa (gC (.str "clash")) (aa (gC (.str "text")) (aa (gC (.str "film")) (aa (gC (.str "row")) ag)))))))))))) (aJ (aP (aa (g2 bi (ae 2) (lR lT (ae 1) (gC (.bl true)))) ag)))))))))
noncomputable def hZ:FD:=fun ds M=>iQ M.length (aX 2 fL ds M)
theorem uU (T:TX P w K mg base):Ok P w K mg base "_law_word" 1 1 hZ:=oS (F:=aX 2 fL) <| cb (bZ T.f 32 rfl) ["error","kinds","words"] aT rfl fun f _ A _ s H E nd hr=>by delta fL;repeat' walk_at "Q"
noncomputable def kN:GS:=(ar (cJ (dh (bj (bF (cE "tuple" (ae 0)))) (aH (g2 (a9 true) (aC a7 (aa (ae 0) ag)) (gC (.int 4))))) (aJ (gC (.bl false))) aD) (ar (en (bO [1,2,3,4]) (ae 0)) (aJ (fz (aj 3 bK (aa (ae 1) (aa (gC (.int 1)) (aa (gC (.int 40)) ag)))) (fz (aj 3 bK (aa (ae 2) (aa (gC (.int 1)) (aa (gC (.int 40)) ag)))) (fz (aj 3 bK (aa (ae 3) (aa (gC (.int 0)) (aa (gC (.int 20)) ag)))) (aj 3 bK (aa (ae 4) (aa (gC (.int 0)) (aa (gC (.int 12)) ag))))))))))
noncomputable def m8:FD:=aX 4 kN
theorem wG (T:TX P w K mg base):Ok P w K mg base "is_frame" 3 1 m8:=cb (bZ T.f 33 rfl) ["thing","wide","high","gap","most"] aT rfl fun f _ A _ s H E nd hr=>by have:=dC T;delta kN;repeat' walk_at "Q"
noncomputable def dP:GS:=(ar (cJ (bj (bF (aj 1 m8 (aa (ae 0) ag)))) (gO "NoFrame" (gC (.str "that is no frame"))) aD) (cJ (bj (bF (aj 1 gQ (aa (ae 1) ag)))) (gO "NoStand" (gC (.str "that is no stand"))) aD))
noncomputable def aG:FD:=aX 0 dP
theorem lL (T:TX P w K mg base):Ok P w K mg base "check_begin" 9 2 aG:=cb (bZ T.f 34 rfl) ["frame","stand"] aT rfl fun f _ A _ s H E nd hr=>by have:=pk T;have:=wG T;delta dP;repeat' walk_at "Q"
noncomputable def cG:GS:=(ar (bo (aj 2 aG (aa (ae 1) (aa (ae 2) ag)))) (ar (fW "Beam" "frame" (ae 0) (ae 1)) (ar (fW "Beam" "standing" (ae 0) (ae 2)) (ar (fW "Beam" "ahead" (ae 0) (gC (.int 0))) (ar (fW "Beam" "row_taken" (ae 0) (aP (aa (aP ag) (aa (aP ag) ag)))) (ar (fW "Beam" "laid_rows" (ae 0) (jX ag)) (ar (fW "Beam" "first_touches" (ae 0) vq) (ar (fW "Beam" "first_grounds" (ae 0) wK) (fW "Beam" "lost_pairs" (ae 0) (jX ag))))))))))
noncomputable def bG:FD:=aX 0 cG
theorem jZ (T:TX P w K mg base):Om P w K mg base "Beam" "__init__" 10 3 bG:=tV (uu T.m 0 rfl) ["self","frame","stand"] aT rfl fun f _ A _ s H E nd hr=>by have:=lL T;delta cG;repeat' walk_at "Q"
noncomputable def pj:GS:=(ar (en (bO [1,2,3,4]) (ae 0)) (aJ (g2 bS (ae 1) (ae 3))))
noncomputable def jq:FD:=aX 4 pj
theorem oh (T:TX P w K mg base):Ok P w K mg base "row_ticks" 1 1 jq:=cb (bZ T.f 35 rfl) ["frame","wide","high","gap","most"] aT rfl fun f _ A _ s H E nd hr=>by delta pj;repeat' walk_at "Q"
noncomputable def kl:GS:=(ar (en (bO [1,2,3,4]) (ae 0)) (aJ (g2 gT (ae 2) (aj 1 jq (aa (ae 0) ag)))))
noncomputable def eG:FD:=aX 4 kl
theorem jm (T:TX P w K mg base):Ok P w K mg base "ticks_of" 2 1 eG:=cb (bZ T.f 36 rfl) ["frame","wide","high","gap","most"] aT rfl fun f _ A _ s H E nd hr=>by have:=oh T;delta kl;repeat' walk_at "Q"
noncomputable def jH:GE:=(ae 0)
noncomputable def jD:GE:=(nu lq rN (gC (.int 0)) (ae 0) (aj 1 eG (aa (ae 1) ag)))
noncomputable def iG:GS:=(ar (aI 2 (cA (bJ (ae 1)) 2 (bO [0,1]) bU jH aL)) (aJ (fz (g2 (a9 false) (ae 2) (aC tu (aa (ae 2) ag))) (aC fh (aa (aW (bJ (ae 2)) bU jD aL) ag)))))
noncomputable def kU:FD:=aX 1 iG
theorem rV (T:TX P w K mg base):Ok P w K mg base "ticks_hold" 3 2 kU:=cb (bZ T.f 37 rfl) ["frame","timed","ticks"] aT rfl fun f _ A _ s H E nd hr=>by have:=jm T;have:=rn 269 12 ["tick","deed"] ["frame","timed","ticks"];delta iG jH jD;repeat' walk_at "Q"
noncomputable def jF:GE:=Bc
noncomputable def eO:GS:=(ar (bo (aj 2 aG (aa (ae 0) (aa (ae 1) ag)))) (ar (cJ (bj (bF (aj 2 kU (aa (ae 0) (aa (ae 2) ag))))) (gO "NoTick" (gC (.str "a tick isn't one of the frame, or is less than the one ahead"))) aD) (cJ (bj (bF (aC fh (aa (cA (bJ (ae 2)) 2 (bO [0,1]) bU jF aL) ag)))) (gO "NoDeed" (gC (.str "there is no such deed of the stand"))) aD)))
noncomputable def f7:FD:=aX 0 eO
theorem se (T:TX P w K mg base):Ok P w K mg base "check_plan" 10 3 f7:=cb (bZ T.f 38 rfl) ["frame","stand","timed"] aT rfl fun f _ A _ s H E nd hr=>by have:=lL T;have:=rV T;have:=rn 275 15 ["tick","deed"] ["frame","stand","timed"];delta eO jF;repeat' walk_at "Q"
noncomputable def mM:GS:=(ar (cJ (dh (aH (g2 rN (ae 1) (gC (.int 0)))) (aH (g2 wO (ae 1) (aj 1 eG (aa (ae 0) ag))))) (gO "NoTick" (mD [(gC (.str "the frame has no tick ")),(xf (ae 1))] Str.empty)) aD) (ar (en (bO [2,3,4,5]) (ae 0)) (ar (en (bO [6,7]) (aC xT (aa (ae 1) (aa (aj 1 jq (aa (ae 0) ag)) ag)))) (ar (cJ (aH (g2 wO (ae 7) (ae 2))) (aJ (aP (aa (ae 6) (aa (gC .non) ag)))) aD) (aJ (aP (aa (ae 6) (aa (ae 7) ag))))))))
noncomputable def ja:FD:=aX 6 mM
theorem wz (T:TX P w K mg base):Ok P w K mg base "place_of" 3 2 ja:=cb (bZ T.f 39 rfl) ["frame","tick","wide","high","gap","most","row","spot"] aT rfl fun f _ A _ s H E nd hr=>by have:=oh T;have:=jm T;delta mM;repeat' walk_at "Q"
noncomputable def nj:GS:=(ar (cJ (dh (aH (g2 rN (ae 2) (gC (.int 0)))) (aH (g2 wO (ae 2) (aC a7 (aa (ae 0) ag))))) (aJ (aP ag)) aD) (ar (aI 3 (vj (aH (g2 (wA false) (ae 1) (aP (aa (gC (.int 2)) (aa (gC (.int 3)) ag))))) (g2 bi (ae 0) (g2 iF (g2 iF (aC a7 (aa (ae 0) ag)) (gC (.int 1))) (ae 2))) (g2 bi (ae 0) (ae 2)))) (aJ (vj (aH (g2 (wA false) (ae 1) (aP (aa (gC (.int 1)) (aa (gC (.int 3)) ag))))) (yd (ae 3)) (ae 3)))))
noncomputable def kM:FD:=aX 1 nj
theorem wl (T:TX P w K mg base):Ok P w K mg base "strip_of" 1 3 kM:=cb (bZ T.f 40 rfl) ["shape","turn","row","strip"] aT rfl fun f _ A _ s H E nd hr=>by delta nj;repeat' walk_at "Q"
noncomputable def jJ:GS:=(ar (en (bO [3,4,5,6,7]) (ae 0)) (ar (en (bO [8,9,10,11,12]) (g2 bi (ae 6) (ae 1))) (aJ (aP (aa (ae 1) (aa (ae 9) (aa (ae 11) (aa (aj 3 kM (aa (g2 bi (ae 5) (ae 8)) (aa (ae 12) (aa (g2 iF (ae 2) (ae 10)) ag)))) ag))))))))
noncomputable def gX:FD:=aX 10 jJ
theorem qE (T:TX P w K mg base):Ok P w K mg base "strip_taken" 2 3 gX:=cb (bZ T.f 41 rfl) ["stand","number","row","floor","shift","book","movers","pots","shape","x","y","rank","turn"] aT rfl fun f _ A _ s H E nd hr=>by have:=wl T;delta jJ;repeat' walk_at "Q"
noncomputable def g9:GE:=(g2 bi (ae 14) (g2 ij (g2 bS (ae 0) (ae 9)) (aC a7 (aa (ae 14) ag))))
noncomputable def kW:GS:=(ar (en (bO [3,4,5,6]) (ae 0)) (ar (en (pS [(ej 7),(bO [8,9]),(ej 10),(ej 11),(ej 12)]) (ae 1)) (ar (aI 13 (g2 bi (ae 7) (g2 ij (g2 bS (ae 2) (ae 9)) (aC a7 (aa (ae 7) ag))))) (aJ (aC gL (aa (aW (gH (aa (ae 3) ag)) bU g9 aL) ag))))))
noncomputable def iH:FD:=aX 11 kW
theorem rO (T:TX P w K mg base):Ok P w K mg base "floor_inks" 1 3 iH:=cb (bZ T.f 42 rfl) ["frame","stand","row","wide","high","gap","most","floor","across","down","book","movers","pots","inks"] aT rfl fun f _ A _ s H E nd hr=>by delta kW g9;repeat' walk_at "Q"
noncomputable def fN:GS:=(cJ (cx (aH (g2 (jB true) (ae 9) (gC .non))) (aH (nu lq rN (ae 11) (ae 1) (g2 bS (ae 11) (aC a7 (aa (g2 bi (ae 4) (ae 9)) ag)))))) (bo (li (ae 7) (ae 8))) aD)
noncomputable def iP:GS:=(ar (en (bO [2,3,4,5,6]) (ae 0)) (ar (aI 7 (jX ag)) (ar (jb (kY (aa (ae 5) ag)) (pS [(ej 8),(bO [9,10,11,12,13])]) fN) (aJ (ae 7)))))
noncomputable def kO:FD:=fun ds M=>iQ M.length (aX 12 iP ds M)
theorem pL (T:TX P w K mg base):Ok P w K mg base "lying_on" 1 2 kO:=oS (F:=aX 12 iP) <| cb (bZ T.f 43 rfl) ["stand","row","floor","shift","book","movers","pots","told","number","shape","x","y","rank","turn"] aT rfl fun f _ A _ s H E nd hr=>by delta iP fN;repeat' walk_at "Q"
noncomputable def pb:GS:=(ar (en (bO [3,4,5,6]) (ae 0)) (aJ (pZ (aj 2 kO (aa (ae 1) (aa (ae 2) ag))) bQ (eI (ae 6)))))
noncomputable def mj:FD:=aX 4 pb
theorem xI (T:TX P w K mg base):Ok P w K mg base "kept_on" 2 3 mj:=cb (bZ T.f 44 rfl) ["frame","stand","row","wide","high","gap","most"] aT rfl fun f _ A _ s H E nd hr=>by have:=pL T;delta pb;repeat' walk_at "Q"
noncomputable def nW:GE:=(aj 3 gX (aa (ae 2) (aa (ae 0) (aa (ae 3) ag))))
noncomputable def ve:GS:=(ar (aI 3 (aW (bJ (aj 3 mj (aa (ae 0) (aa (ae 1) (aa (ae 2) ag))))) bU nW aL)) (aJ (aP (aa (aj 3 iH (aa (ae 0) (aa (ae 1) (aa (ae 2) ag)))) (aa (aC gL (aa (ae 3) ag)) ag)))))
noncomputable def nK:FD:=aX 1 ve
theorem C0 (T:TX P w K mg base):Ok P w K mg base "taken" 3 3 nK:=cb (bZ T.f 45 rfl) ["frame","stand","row","strips"] aT rfl fun f _ A _ s H E nd hr=>by have:=qE T;have:=rO T;have:=xI T;delta ve nW;repeat' walk_at "Q"
noncomputable def oy:GS:=(ar (en (bO [3,4,5,6]) (ae 0)) (aJ (pZ (aj 2 kO (aa (ae 1) (aa (ae 2) ag))) (eI (ae 6)) bQ)))
noncomputable def gM:FD:=aX 4 oy
theorem yf (T:TX P w K mg base):Ok P w K mg base "lost_on" 2 3 gM:=cb (bZ T.f 46 rfl) ["frame","stand","row","wide","high","gap","most"] aT rfl fun f _ A _ s H E nd hr=>by have:=pL T;delta oy;repeat' walk_at "Q"
noncomputable def e7:GE:=(aP (aa (ae 2) (aa (ae 0) ag)))
noncomputable def fE:GS:=(ar (fW "Beam" "row_taken" (ae 0) (aj 3 nK (aa (eT "Beam" "frame" (ae 0)) (aa (eT "Beam" "standing" (ae 0)) (aa (ae 1) ag))))) (ar (bo (li (eT "Beam" "laid_rows" (ae 0)) (jX ag))) (D7 "Beam" "lost_pairs" (ae 0) (aW (bJ (aj 3 gM (aa (eT "Beam" "frame" (ae 0)) (aa (eT "Beam" "standing" (ae 0)) (aa (ae 1) ag))))) bU e7 aL))))
noncomputable def fF:FD:=aX 0 fE
theorem oX (T:TX P w K mg base):Om P w K mg base "Beam" "take_row" 4 2 fF:=tV (uu T.m 1 rfl) ["self","row"] aT rfl fun f _ A _ s H E nd hr=>by have:=C0 T;have:=yf T;delta fE e7;repeat' walk_at "Q"
noncomputable def fc:GS:=(cJ (cx (aH (nu lq rN (ae 6) (ae 1) (g2 bS (ae 6) (aC a7 (aa (ae 8) ag))))) (aH (g2 (a9 true) (g2 bi (ae 8) (g2 iF (ae 1) (ae 6))) (gC (.int 0))))) (bo (li (ae 4) (aP (aa (ae 7) (aa (ae 5) (aa (g2 bi (ae 8) (g2 iF (ae 1) (ae 6))) ag)))))) aD)
noncomputable def hX:GS:=(ar (en (bO [2,3]) (ae 0)) (ar (aI 4 (jX ag)) (ar (jb (bJ (ae 3)) (bO [5,6,7,8]) fc) (aJ (ae 4)))))
noncomputable def jf:FD:=fun ds M=>iQ M.length (aX 7 hX ds M)
theorem uI (T:TX P w K mg base):Ok P w K mg base "covers_at" 1 2 jf:=oS (F:=aX 7 hX) <| cb (bZ T.f 47 rfl) ["row_taken","x","inks","strips","told","number","left","rank","strip"] aT rfl fun f _ A _ s H E nd hr=>by delta hX fc;repeat' walk_at "Q"
noncomputable def cN:GS:=(bo (kz (eT "Beam" "first_touches" (ae 0)) (aP (aa (ae 5) (aa (ae 6) ag))) (aP (aa (ae 2) (aa (ae 3) ag)))))
noncomputable def cQ:GS:=(jb (bJ (pZ (ae 1) (eI (g2 bS (ae 4) (gC (.int 1)))) bQ)) (ej 6) cN)
noncomputable def cX:GS:=(jb (kY (aa (ae 1) ag)) (bO [4,5]) cQ)
noncomputable def fo:FD:=aX 3 cX
theorem lS (T:TX P w K mg base):Om P w K mg base "Beam" "keep_touches" 1 4 fo:=tV (uu T.m 2 rfl) ["self","numbers","row","spot","at","one","other"] aT rfl fun f _ A _ s H E nd hr=>by delta cX cN cQ;repeat' walk_at "Q"
noncomputable def eD:GS:=(bo (kz (eT "Beam" "first_grounds" (ae 0)) (ae 4) (aP (aa (ae 2) (aa (ae 3) ag)))))
noncomputable def cW:GS:=(jb (bJ (ae 1)) (ej 4) eD)
noncomputable def fm:FD:=aX 1 cW
theorem lM (T:TX P w K mg base):Om P w K mg base "Beam" "keep_grounds" 1 4 fm:=tV (uu T.m 3 rfl) ["self","numbers","row","spot","number"] aT rfl fun f _ A _ s H E nd hr=>by delta cW eD;repeat' walk_at "Q"
noncomputable def cK:GE:=(aP (aa (iU (g2 bi (ae 0) (gC (.int 0)))) (aa (g2 bi (ae 0) (gC (.int 1))) ag)))
noncomputable def fO:GS:=(ar (cJ (bF (ae 1)) (ar (en (bO [2,3,4]) (pH (xg 0 cK) (ae 1))) (cJ (dh (aH (g2 wO (ae 2) (gC (.int 1)))) (aH (g2 (a9 false) (ae 0) (gC (.int 0))))) (aJ (ae 4)) aD)) aD) (aJ (ae 0)))
noncomputable def bY:FD:=aX 3 fO
theorem uZ (T:TX P w K mg base):Ok P w K mg base "ink_shown" 3 2 bY:=Nx (NV T.l 0 rfl) ["floor_ink","covers","rank","number","ink"] aT rfl fun f _ _ A _ s H E nd tb hr=>by delta fO cK;repeat' walk_at "Q"
noncomputable def eP:GE:=(ae 1)
noncomputable def fD:GS:=(ar (en (bO [3,4]) (eT "Beam" "row_taken" (ae 0))) (ar (aI 5 (aj 2 jf (aa (eT "Beam" "row_taken" (ae 0)) (aa (ae 2) ag)))) (ar (en (bO [6,7,8,9,10]) (eT "Beam" "standing" (ae 0))) (ar (bo (li (g2 bi (eT "Beam" "laid_rows" (ae 0)) (iU (gC (.int 1)))) (g2 bi (ae 10) (aj 2 bY (aa (g2 bi (ae 3) (ae 2)) (aa (ae 5) ag)))))) (ar (aI 11 (cA (bJ (ae 5)) 3 (bO [0,1,2]) bU eP aL)) (ar (bo (fA "Beam" "keep_touches" 4 fo (ae 0) (aa (ae 11) (aa (ae 1) (aa (ae 2) ag))))) (cJ (aH (g2 (a9 true) (g2 bi (ae 3) (ae 2)) (gC (.int 0)))) (bo (fA "Beam" "keep_grounds" 4 fm (ae 0) (aa (ae 11) (aa (ae 1) (aa (ae 2) ag))))) aD)))))))
noncomputable def il:FD:=aX 9 fD
theorem oU (T:TX P w K mg base):Om P w K mg base "Beam" "lay_spot" 4 3 il:=tV (uu T.m 4 rfl) ["self","row","spot","inks","strips","covers","floor","shift","book","movers","pots","numbers"] aT rfl fun f _ A _ s H E nd hr=>by have:=uI T;have:=lS T;have:=lM T;have:=uZ T;have:=rn 242 18 ["rank","number","ink"] ["self","row","spot","inks","strips","covers","floor","shift","book","movers","pots","numbers"];delta fD eP;repeat' walk_at "Q"
noncomputable def gj:GS:=(ar (en (bO [1,2]) (aj 2 ja (aa (eT "Beam" "frame" (ae 0)) (aa (eT "Beam" "ahead" (ae 0)) ag)))) (ar (cJ (aH (g2 (a9 false) (ae 2) (gC (.int 0)))) (bo (fA "Beam" "take_row" 2 fF (ae 0) (aa (ae 1) ag))) aD) (ar (cJ (aH (g2 (jB true) (ae 2) (gC .non))) (bo (fA "Beam" "lay_spot" 3 il (ae 0) (aa (ae 1) (aa (ae 2) ag)))) aD) (D7 "Beam" "ahead" (ae 0) (gC (.int 1))))))
noncomputable def iX:FD:=aX 2 gj
theorem pO (T:TX P w K mg base):Om P w K mg base "Beam" "go_tick" 5 1 iX:=tV (uu T.m 5 rfl) ["self","row","spot"] aT rfl fun f _ A _ s H E nd hr=>by have:=wz T;have:=oX T;have:=oU T;delta gj;repeat' walk_at "Q"
noncomputable def iW:GS:=(bo (fA "Beam" "go_tick" 1 iX (ae 0) ag))
noncomputable def gU:GT:=(aH (g2 rN (eT "Beam" "ahead" (ae 0)) (ae 2)))
noncomputable def lZ:GS:=(ar (aI 2 (g2 bS (eT "Beam" "ahead" (ae 0)) (ae 1))) (ar (cJ (aH (g2 nr (ae 2) (aj 1 eG (aa (eT "Beam" "frame" (ae 0)) ag)))) (gO "Over" (gC (.str "fewer ticks are left than that"))) aD) (o0 5000 gU iW)))
noncomputable def l7:FD:=aX 1 lZ
theorem yi (T:TX P w K mg base):Om P w K mg base "Beam" "go" 6 2 l7:=tV (uu T.m 6 rfl) ["self","many","end"] aT rfl fun f _ A _ s H E nd hr=>by have:=jm T;have:=pO T;delta lZ iW gU;repeat' walk_at "Q"
noncomputable def js:GS:=(aJ (eT "Beam" "ahead" (ae 0)))
noncomputable def ii:FD:=aX 0 js
theorem uT (T:TX P w K mg base):Om P w K mg base "Beam" "tick" 1 1 ii:=tV (uu T.m 7 rfl) ["self"] aT rfl fun f _ A _ s H E nd hr=>by delta js;repeat' walk_at "Q"
noncomputable def p0:GS:=(ar (bo (fA "Beam" "go" 2 l7 (ae 3) (aa (g2 iF (ae 4) (fA "Beam" "tick" 1 ii (ae 3) ag)) ag))) (bo Bc))
noncomputable def oP:GS:=(ar (bo (aj 3 f7 (aa (ae 0) (aa (ae 1) (aa (ae 2) ag))))) (ar (aI 3 (ib "Beam" 3 bG (aa (ae 0) (aa (ae 1) ag)))) (ar (jb (bJ (ae 2)) (bO [4,5]) p0) (ar (bo (fA "Beam" "go" 2 l7 (ae 3) (aa (g2 iF (aj 1 eG (aa (ae 0) ag)) (fA "Beam" "tick" 1 ii (ae 3) ag)) ag))) (aJ (ae 3))))))
noncomputable def iM:FD:=aX 3 oP
theorem yW (T:TX P w K mg base):Ok P w K mg base "laid" 12 3 iM:=cb (bZ T.f 48 rfl) ["frame","stand","timed","beam","tick","deed"] aT rfl fun f _ A _ s H E nd hr=>by have:=jZ T;have:=jm T;have:=se T;have:=yi T;have:=uT T;delta oP p0;repeat' walk_at "Q"
noncomputable def dL:GE:=(aC kZ (aa (ae 0) ag))
noncomputable def fV:GS:=(aJ (aW (bJ (eT "Beam" "laid_rows" (ae 0))) bU dL aL))
noncomputable def de:FD:=aX 0 fV
theorem pU (T:TX P w K mg base):Om P w K mg base "Beam" "picture" 1 1 de:=tV (uu T.m 8 rfl) ["self"] aT rfl fun f _ A _ s H E nd hr=>by delta fV dL;repeat' walk_at "Q"
noncomputable def p8:GS:=(ar (aI 8 (g2 bS (pZ (ae 2) bQ (eI (ae 5))) (pZ (ae 2) (eI (g2 bS (ae 5) (gC (.int 1)))) bQ))) (ar (aI 9 (fA "Beam" "picture" 1 de (aj 3 iM (aa (ae 0) (aa (ae 1) (aa (ae 8) ag)))) ag)) (ar (aI 10 (fA "Beam" "picture" 1 de (aj 3 iM (aa (ae 0) (aa (ae 1) (aa (g2 bS (dM (aa (aP (aa (gC (.int 0)) (aa (ae 7) ag))) ag)) (ae 8)) ag)))) ag)) (cJ (cx (aH (g2 (a9 true) (ae 3) (ae 9))) (aH (g2 (a9 true) (ae 3) (ae 10)))) (bo (li (ae 4) (ae 5))) aD))))
noncomputable def kX:GS:=(ar (aI 3 (fA "Beam" "picture" 1 de (aj 3 iM (aa (ae 0) (aa (ae 1) (aa (ae 2) ag)))) ag)) (ar (aI 4 (jX ag)) (ar (jb (kY (aa (ae 2) ag)) (pS [(ej 5),(bO [6,7])]) p8) (aJ (ae 4)))))
noncomputable def lY:FD:=fun ds M=>iQ M.length (aX 8 kX ds M)
theorem CA (T:TX P w K mg base):Ok P w K mg base "slips" 13 3 lY:=oS (F:=aX 8 kX) <| cb (bZ T.f 49 rfl) ["frame","stand","timed","picture","told","at","tick","deed","others","without","at_first"] aT rfl fun f _ A _ s H E nd hr=>by have:=yW T;have:=pU T;delta kX p8;repeat' walk_at "Q"
noncomputable def ia:GS:=(ar (aI 2 (gC .non)) (ar (n6 3 (List.contains ["NoDeed","NoFrame","NoStand","NoTick","Over"]) (cJ (aH (g2 (a9 false) (ae 0) (gC (.int 0)))) (bo (ib "Beam" 3 bG (aa (aP (aa (gC (.int 3)) (aa (gC (.int 2)) (aa (gC (.int 1)) (aa (gC (.int 4)) ag))))) (aa (ae 1) ag)))) (cJ (aH (g2 (a9 false) (ae 0) (gC (.int 1)))) (bo (aj 3 iM (aa (aP (aa (gC (.int 3)) (aa (gC (.int 2)) (aa (gC (.int 1)) (aa (gC (.int 4)) ag))))) (aa (ae 1) (aa (dM ag) ag))))) (bo (aj 3 lY (aa (aP (aa (gC (.int 3)) (aa (gC (.int 2)) (aa (gC (.int 1)) (aa (gC (.int 4)) ag))))) (aa (ae 1) (aa (dM ag) ag))))))) (aI 2 (ae 3))) (ar (cJ (aH (g2 (jB false) (ae 2) (gC .non))) (aJ (aP (aa (gC (.str "made")) ag))) aD) (aJ (aj 1 hZ (aa (ae 2) ag))))))
noncomputable def ji:FD:=fun ds M=>iQ M.length (aX 2 ia ds M)
theorem uQ (T:TX P w K mg base):Ok P w K mg base "_law_made" 14 2 ji:=oS (F:=aX 2 ia) <| cb (bZ T.f 50 rfl) ["way","stand","error","e"] aT rfl fun f _ A _ s H E nd hr=>by have:=uU T;have:=jZ T;have:=yW T;have:=CA T;delta ia;repeat' walk_at "Q"
noncomputable def oJ:GS:=(cJ (aH (g2 (a9 true) (aj 2 ji (aa (ae 7) (aa (ae 3) ag))) (g2 bi (dM (aa (aP (aa (gC (.str "stand")) ag)) (aa (aP (aa (gC (.str "made")) ag)) ag))) (aC uM (aa (ae 5) ag))))) (aJ (gC (.bl false))) aD)
noncomputable def rL:GS:=(ar (aI 3 (aj 3 eQ (aa (ae 1) (aa (aP (aa (gC (.int 9)) (aa (gC (.int 9)) (aa (gC (.int 0)) (aa (gC (.int 4)) ag))))) (aa (g2 bi (dM (aa (gC (.int 4)) (aa (gC (.int 12)) ag))) (g2 ij (ae 2) (gC (.int 2)))) ag))))) (ar (aI 4 (aj 2 aw (aa (ae 1) (aa (gC (.int 8)) ag)))) (ar (cJ (aH (g2 nr (ae 4) (gC (.int 1)))) (aI 3 (aj 2 bV (aa (ae 1) (aa (ae 3) ag)))) aD) (ar (cJ (cx (aH (g2 (a9 false) (ae 4) (gC (.int 7)))) (bF (cE "tuple" (ae 3)))) (aI 3 (aj 2 bV (aa (ae 1) (aa (ae 3) ag)))) aD) (ar (cJ (aH (g2 (a9 false) (ae 4) (gC (.int 1)))) (aI 3 (aj 1 eC (aa (ae 1) ag))) aD) (ar (aI 5 (aj 1 dF (aa (ae 3) ag))) (ar (aI 6 (aj 1 gQ (aa (ae 3) ag))) (ar (cJ (dh (bj (bF (cE "bool" (ae 6)))) (aH (g2 (a9 true) (ae 6) (ae 5)))) (aJ (gC (.bl false))) aD) (jb (gH (aa (gC (.int 3)) ag)) (ej 7) oJ)))))))))
noncomputable def yI:GS:=(ar (aI 1 (jX (aa (aC kZ (aa (ae 0) ag)) (aa (gC (.int 0)) (aa (gC (.int 0)) ag))))) (ar (jb (gH (aa (gC (.int 8)) ag)) (ej 2) rL) (aJ (gC (.bl true)))))
noncomputable def yX:FD:=aX 7 yI
theorem Gz (T:TX P w K mg base){f:Addr}{fd:FuncData}(F:Fn K mg "law" Gb f fd ["script"]):dN P w K mg base (ik P w) 23 f fd ["script"] (ng K 1 yX):=Iw F.F (N:=["script","tape","turn","thing","way","due","found","made"]) aT rfl fun _ A _ s H E hr=>by
 have nd:(["script","tape","turn","thing","way","due","found","made"]:List Str).Nodup:=by decide +kernel
 have:=bX T;have:=rZ T;have:=oE T;have:=pk T;have:=pq T;have:=qM T;have:=uQ T;delta yI oJ rL;repeat' walk_at "Q"
end
end K05
section
open PySem PySem.W PyProof.Rows
noncomputable abbrev K05.VV:Program:=(view PySem.Challenge.pw_glowrow_k05_what_is_a_stand [0,2,3,4,5,6,7,8,9,10,11,12,14,15,17,18,19,20,21,22,24,25,26,27,28,29,30,31,32,33,34,35,36,37,39,40,41,42,44,45,46,47,48,49,50,51,53,54,56,57,58,59,61,62,63,64,65,66,67,68,69,70,71,72,73,74,75,76,77,78,79])
set_option maxHeartbeats 0 in
theorem K05.h1:∀(w:World) (os:OsState),(Hd.RT (OpenLaw.row PySem.Challenge.rw_glowrow_k05_what_is_a_stand).prog w 9918 os).map (fun s=>Hd.pA (OpenLaw.row PySem.Challenge.rw_glowrow_k05_what_is_a_stand).prog w.params s.abs&&Hd.pB K05.VV (importedModules (OpenLaw.row PySem.Challenge.rw_glowrow_k05_what_is_a_stand).prog.main.body) (fun s=>xlAt K05.VV [] s&&recOk (RowW.records (OpenRow.toRowW (OpenLaw.row PySem.Challenge.rw_glowrow_k05_what_is_a_stand))) s) s.abs)=some true:=by
 intro w os
 unfold Hd.RT
 rw[W.Fast.te15732481512506401174,W.Fast.te2530740449226627131,W.Fast.te13930993214811372802]
 kernel_rfl
set_option maxHeartbeats 0 in
theorem K05.h2:∀(w:World) (os:OsState),(Hd.RT (OpenLaw.row PySem.Challenge.rw_glowrow_k05_what_is_a_stand).prog w 9918 os).map (fun s=>Hd.pC K05.VV s.abs)=some (expectedOf K05.VV,bltViewBooted,wideGood K05.VV):=by
 intro w os
 unfold Hd.RT
 rw[W.Fast.te15732481512506401174,W.Fast.te2530740449226627131,W.Fast.te7338995916957470747]
 kernel_rfl
set_option maxHeartbeats 0 in
theorem K05.h3:∀(w:World) (os:OsState),(Hd.RT (OpenLaw.row PySem.Challenge.rw_glowrow_k05_what_is_a_stand).prog w 9918 os).map (fun s=>Hd.pD K05.VV s.abs)=some (pinGoodD (drecsOf K05.VV),plainGoodE K05.VV (looseW K05.VV []),plainGoodD K05.VV [],clsGoodW K05.VV []):=by
 intro w os
 unfold Hd.RT
 rw[W.Fast.te15732481512506401174,W.Fast.te2530740449226627131,W.Fast.te4913325751328045840]
 kernel_rfl
local macro_rules | `(tactic| o_head $H) => `(tactic| (
 refine holds_open (q:=K05.VV) (loose:=[]) (Xt:=(fun s=>xlAt K05.VV [] s&&recOk (RowW.records (OpenRow.toRowW (OpenLaw.row PySem.Challenge.rw_glowrow_k05_what_is_a_stand))) s)) (XP:=XL K05.VV []) (Yf:=Hook.obs $H) (Ya:=Hook.val $H) (YP:=Hook.says $H) (N:=9918) ?hl (Hook.of $H) (Hook.keeps $H) (fun s e=>xl_of s (Bool.and_eq_true_iff.mp e).1) XL.keeps (by rfl) (by rfl) (by rfl) (fun s e=>recFacts_of (Bool.and_eq_true_iff.mp e).2) (by rfl) (by first|assumption|decide +kernel) (by decide +kernel) ⟨rfl,rfl,rfl,rfl,rfl,by decide +kernel⟩ ?hw ?hc;
 (case hl=>
  refine Hd.left_km (boot_open (by kernel_rfl) rfl (fun s=>by kernel_rfl)) (fun w=>by kernel_rfl) K05.h1 K05.h2 K05.h3 ?_
  intro w os
  unfold Hd.RT
  rw[W.Fast.te15732481512506401174,W.Fast.te2530740449226627131]
  kernel_rfl)))
set_option hygiene false
local macro_rules | `(tactic| walk_at "us") => `(tactic| first | rfl | (exfalso; simp at hl; done) | (cases us with | nil => (first | rfl | cases hl) | cons _ us => walk_at "us"))
local macro_rules | `(tactic| walk_at "kc") => `(tactic| refine' DL.KH KX G ?y0 ?y1 ?y2 ?y3 ?y4 ?y5 ?y6; (case y0 => k_is); (case y1 => k_is); (case y2 => k_is); (case y3 => k_is); (case y4 => k_is); (case y5 => k_is); (case y6 => k_is))
local macro_rules | `(tactic| walk_at "ec") => `(tactic| refine' DL.L7 KX G ?w0 ?w1 ?w2 ?w3 ?w4 ?w5 ?w6 ?w7 ?w8 ?w9 ?w10 ?w11; (case w0 => k_is); (case w1 => k_is); (case w2 => k_is); (case w3 => k_is); (case w4 => k_is); (case w5 => k_is); (case w6 => k_is); (case w7 => k_is); (case w8 => k_is); (case w9 => k_exc); (case w10 => k_is); (case w11 => k_is))
local macro_rules | `(tactic| walk_at "ff") => `(tactic| (refine' DL.KO KX G ?x0 ?x1 ?x2 ?x3 ?x4; (case x0 => k_is); (case x1 => k_is); (case x2 => k_is); (case x3 => k_is); (case x4 => (intro _ _ _ _ _ _ us hl; walk_at "us"))))
local macro_rules | `(tactic| walk_at "mf") => `(tactic| (refine' DL.K8 ?x0 ?x1 ?x2 ?x3 ?x4 ?x5 ?x6; (case x0 => walk_at "kc"); (case x1 => k_is); (case x2 => k_is); (case x3 => k_is); (case x4 => k_is); (case x5 => k_is); (case x6 => (intro _ _ _ _ _ _ us hl; walk_at "us"))))
local macro_rules | `(tactic| walk_at "im") => `(tactic| (refine' DL.Ku ?v0 ?v1; (case v0 => walk_at "ec"); (case v1 => k_is)))
local macro_rules | `(tactic| walk_at "lf") => `(tactic| (refine' DL.Mn KX G ?x0 ?x1 ?x2 ?x3 ?x4 ?x5 ?x6 ?x7 ?x8 ?x9 ?x10 ?x11 ?x12 ?x13 ?x14; (case x0 => k_is); (case x1 => k_is); (case x2 => k_is); (case x3 => k_is); (case x4 => k_is); (case x5 => rfl); (case x6 => rfl); (case x7 => rfl); (case x8 => rfl); (case x9 => rfl); (case x10 => rfl); (case x11 => decide); (case x12 => decide); (case x13 => (refine DL.vO (fun z => absurd rfl z) (fun _ => ?y_table_within) (fun _ => ?y_slots_given) (fun _ => ?y_cast_on_slots); (case y_table_within => k_is); (case y_slots_given => k_is); (case y_cast_on_slots => k_is))); (case x14 => (intro _ _ _ _ _ _ us hl; walk_at "us"))))
set_option maxRecDepth 100000 in
set_option maxHeartbeats 0 in
theorem K05.pre (ht:∀ns:List Int,ns.length≤63→∃M',K05.yX [.ro (ns.map DL.D.int)] []=.ok (.bl true) M'):PySem.Challenge.rw_glowrow_k05_what_is_a_stand.Holds:=by
 w_on;o_law;k_head;(case hw=>w_witness2)
 k_fill
 refine DL.E6 (l:=PySem.Challenge.rw_glowrow_k05_what_is_a_stand) (n:=63) (k:=23) (x:="script") (F:=K05.yX) rfl (by decide) rfl ⟨rfl,by decide,by decide⟩ (fun w h Y=>W.km_in_of Y) ?F ?T ht
 case F=>
  intro w mg fa h KX G hmg
  refine DL.Jv (st:=K05.Gb) hmg ?L (fun base f fd L=>K05.Gz ?TT L) (fun _ _ _ _ _ _ _=>rfl)
  (case TT=>
   refine DL.Tx.mk ?q0 ?q1 ?q2 ?q3 ?q4 ?q5 ?q6 ?q7 ?q8 ?q9
   (case q0=>((repeat (refine' DL.Ls.cons ?x ?_;(case x=>(walk_at "ff"))));exact DL.Ls.nil))
   (case q1=>((repeat (refine' DL.Ls.cons ?x ?_;(case x=>(walk_at "mf"))));exact DL.Ls.nil))
   (case q2=>((repeat (refine' DL.Ls.cons ?x ?_;(case x=>(walk_at "lf"))));exact DL.Ls.nil))
   (case q3=>((repeat (refine' DL.Ls.cons ?x ?_;(case x=>(refine' DL.N7 KX G ?x0;(case x0=>k_is)))));exact DL.Ls.nil))
   (case q4=>((repeat (refine' DL.Ls.cons ?x ?_;(case x=>(refine' DL.Lv ?x0;(case x0=>walk_at "ec")))));exact DL.Ls.nil))
   (case q5=>((repeat (refine' DL.Ls.cons ?x ?_;(case x=>(refine' DL.LI ?u0 ?u1;(case u0=>walk_at "ec");(case u1=>((repeat (refine' DL.Ls.cons ?u2 ?_;(case u2=>walk_at "im")));exact DL.Ls.nil))))));exact DL.Ls.nil))
   (case q6=>((repeat (refine' DL.Ls.cons ?x ?_;(case x=>(walk_at "im"))));exact DL.Ls.nil))
   (case q7=>((repeat (refine' DL.Ls.cons ?x ?_;(case x=>(refine' DL.Ln ?x0 ?x1;(case x0=>walk_at "kc");(case x1=>k_is)))));exact DL.Ls.nil))
   (case q8=>((repeat (refine' DL.Ls.cons ?x ?_;(case x=>(refine' DL.J3 (u:=PySem.Value.str _) KX G ?x0;(case x0=>k_is)))));exact DL.Ls.nil))
   (case q9=>((repeat (refine' DL.Ls.cons ?x ?_;(case x=>(refine' DL.J3 (u:=PySem.Value.int _) KX G ?x0;(case x0=>k_is)))));exact DL.Ls.nil)))
  (case L=>walk_at "ff")
 case T=>
  intro w
  refine' DL.DX (DL.Ai (x:="ink_shown") ?vT (DL.Hy ?uG ?uY ?ue ?uJ ?uC) ?vC DL.Ax) (DL.vO (.inr ⟨_,.head _,rfl⟩) (.inl ?e_table_within) (.inl ?e_slots_given) (.inl ?e_cast_on_slots)) ?bm ?bl
  (case vT=>rfl)
  (case uG=>k_is)
  (case uY=>k_is)
  (case ue=>rfl)
  (case uJ=>k_is)
  (case uC=>rfl)
  (case vC=>kernel_rfl)
  (case e_table_within=>k_is)
  (case e_slots_given=>k_is)
  (case e_cast_on_slots=>k_is)
  (case bm=>k_is)
  (case bl=>kernel_rfl)
end
namespace K05
open PySem PySem.Spec PyProof.Rows L2 DL
local macro_rules | `(tactic| simp_arith [$args,*] $[$loc]?) => `(tactic| first | (dsimp only [bn.bind, ar, aI, cJ, aJ, mx, bo, aD, en, ae, gC, DL.g2, aj, aC, aa, ag, aH, F6, bF, xD, dh, cx, bj, fz, JJ, ul, vj, aP, dM, jX, qR, aL, fe, iU, yd, nu, cE, Jb, wk, aQ, aX, ka, uj, bS, iF, gT, jv, ij, pT, rN, lq, nr, wO, bi, cC, a7, xM, uM, kZ, gL, fh, bJ, vL, gH, ej, bO, k9, eI, bQ, pZ, rq, wA, fM, jB, LY, bU, gO, jc, wo, xT, xf, xy, mD, lR, lO, lT, lH, v4, li, wC, n6, Aa, Dm, pR, iV, eT, uN, fW, fA, ib, gn, pS, mG, kY, A6, pH, o9, xg] $[$loc]?; simp [ar, aI, cJ, aJ, mx, bo, aD, en, ae, gC, DL.g2, aj, aC, aa, ag, aH, F6, bF, xD, dh, cx, bj, fz, JJ, ul, vj, aP, dM, jX, qR, aL, fe, iU, yd, nu, cE, Jb, wk, aQ, aX, ka, uj, bS, iF, gT, jv, ij, pT, rN, lq, nr, wO, bi, cC, a7, xM, uM, kZ, gL, fh, bJ, vL, gH, ej, bO, k9, eI, bQ, pZ, rq, wA, fM, jB, LY, bU, gO, jc, wo, xT, xf, xy, mD, lR, lO, lT, lH, v4, li, wC, n6, Aa, Dm, pR, iV, eT, uN, fW, fA, ib, gn, pS, mG, kY, A6, pH, o9, xg, $args,*] $[$loc]?) | simp [ar, aI, cJ, aJ, mx, bo, aD, en, ae, gC, DL.g2, aj, aC, aa, ag, aH, F6, bF, xD, dh, cx, bj, fz, JJ, ul, vj, aP, dM, jX, qR, aL, fe, iU, yd, nu, cE, Jb, wk, aQ, aX, ka, uj, bS, iF, gT, jv, ij, pT, rN, lq, nr, wO, bi, cC, a7, xM, uM, kZ, gL, fh, bJ, vL, gH, ej, bO, k9, eI, bQ, pZ, rq, wA, fM, jB, LY, bU, gO, jc, wo, xT, xf, xy, mD, lR, lO, lT, lH, v4, li, wC, n6, Aa, Dm, pR, iV, eT, uN, fW, fA, ib, gn, pS, mG, kY, A6, pH, o9, xg, $args,*] $[$loc]?)
noncomputable def tp (l:List Int)(i c:Int):MO:=.lst [.lst (l.map D.int),.int i,.int c]
noncomputable def dA (l:List Int)(rest:aA)(M:aA):Prop:=∃i c,0≤i∧M=tp l i c::rest
variable{l:List Int}{k:Int}
theorem C8 (h0:0≤k)(h1:k<l.length):∃v,jL (l.map D.int) k=some (.int v):=by
 obtain⟨n,rfl⟩:=Int.eq_ofNat_of_zero_le h0
 have hn:n<l.length:=by omega
 exact⟨l[n],dU (by simp[hn])⟩
noncomputable def MT:GS:=ar (aI 4 (g2 ij (g2 bi (ae 0) (gC (.int 2))) (ae 1))) (ar (mx (ae 0) (gC (.int 2)) (g2 jv (g2 bi (ae 0) (gC (.int 2))) (ae 1))) (aJ (ae 4)))
noncomputable def Mu:GS:=ar (aI 3 (g2 ij (g2 bS (ae 3) (g2 gT (gC (.int 1000003)) (g2 bi (ae 0) (gC (.int 1))))) (ae 2))) (ar (aI 3 (g2 ij (g2 bS (g2 bS (g2 gT (ae 3) (ae 3)) (g2 gT (gC (.int 1181783497276652981)) (ae 3))) (gC (.int 2049848353892358983))) (ae 2))) (aI 3 (g2 ij (g2 bS (g2 gT (ae 3) (ae 3)) (gC (.int 1442695040888963407))) (ae 2))))
noncomputable def N5:GS:=cJ (aH (g2 nr (aC a7 (aa (g2 bi (ae 0) (gC (.int 0))) ag)) (gC (.int 0)))) (aI 3 (g2 bi (g2 bi (ae 0) (gC (.int 0))) (g2 ij (g2 bi (ae 0) (gC (.int 1))) (aC a7 (aa (g2 bi (ae 0) (gC (.int 0))) ag))))) aD
noncomputable def Ob:GT:=dh (aH (g2 wO (g2 bi (ae 0) (gC (.int 1))) (aC a7 (aa (g2 bi (ae 0) (gC (.int 0))) ag)))) (aH (g2 rN (ae 3) (g2 pT (gC (.int 10)) (gC (.int 18)))))
noncomputable def Nw:GS:=ar (aI 3 (gC (.int 0))) (ar N5 (ar (cJ Ob Mu aD) (ar (mx (ae 0) (gC (.int 1)) (g2 bS (g2 bi (ae 0) (gC (.int 1))) (gC (.int 1)))) (mx (ae 0) (gC (.int 2)) (ae 3)))))
theorem KW (ρ:cr)(M:aA):jh ρ M=ar (aI 2 (gC (.int 2305843009213693951))) (ar (cJ (aH (g2 rN (g2 bi (ae 0) (gC (.int 2))) (ae 1))) Nw aD) MT) ρ M:=rfl
theorem um {i j:Int}(h:0<j)(M:aA):ij (.int i) (.int j) M=.ok (.int (i % j)) M:=by
 unfold ij
 dsimp only
 rw[if_pos h]
theorem pW {i j:Int}(h:-18446744073709551616<i∧i<18446744073709551616)(M:aA):gT (.int i) (.int j) M=.ok (.int (i*j)) M:=by
 unfold gT
 dsimp only
 rw[if_pos (.inl ⟨Int.lt_of_le_of_lt (by decide) h.1,Int.lt_of_lt_of_le h.2 (by decide)⟩)]
variable{ρ:cr}{M:aA}
theorem ui {go gi g:GE}{M1:aA}{x:D}(h:g ρ M=.ok x M)(h2:(go ρ M).bind (fun o M2=>(gi ρ M2).bind fun i M3=>(uj o i x M3).bind fun _ M4=>.ok (Fl.nx ρ) M4)=.ok (Fl.nx ρ) M1):mx go gi g ρ M=.ok (.nx ρ) M1:=by
 unfold mx
 rw[h,ao,h2]
variable{rest:aA}
theorem bB {many:Int}(hm:0<many)(hlog:many.natAbs.log2<9000)(h:dA l rest M) :
  ∃f M',0≤f∧f<many∧dA l rest M'∧aw [.mr 0,.int many] M=.ok (.int f) M':=by
 obtain⟨i,c,hi,rfl⟩:=h
 have i0:∀(i c:Int) (x1 x2 x3 x4:Option D),g2 bi (ae 0) (gC (.int 0)) [some (.mr 0),x1,x2,x3,x4] (tp l i c::rest)=.ok (.lst (l.map D.int)) (tp l i c::rest):=fun _ _ _ _ _ _=>rfl
 have i1:∀(i c:Int) (x1 x2 x3 x4:Option D),g2 bi (ae 0) (gC (.int 1)) [some (.mr 0),x1,x2,x3,x4] (tp l i c::rest)=.ok (.int i) (tp l i c::rest):=fun _ _ _ _ _ _=>rfl
 have i2:∀(i c:Int) (x1 x2 x3 x4:Option D),g2 bi (ae 0) (gC (.int 2)) [some (.mr 0),x1,x2,x3,x4] (tp l i c::rest)=.ok (.int c) (tp l i c::rest):=fun _ _ _ _ _ _=>rfl
 have ln:∀(i c:Int) (x1 x2 x3 x4:Option D),aC a7 (aa (g2 bi (ae 0) (gC (.int 0))) ag) [some (.mr 0),x1,x2,x3,x4] (tp l i c::rest)=.ok (.int (l.length:Int)) (tp l i c::rest):=fun i c x1 x2 x3 x4=>by
  refine nA (i0 i c x1 x2 x3 x4) ?_
  show bn.ok (D.int ((l.map D.int).length:Int)) _=_
  rw[List.length_map]
 have tail:∀(c i:Int) (x2 x3 x4:Option D),0≤i→∃f M',0≤f∧f<many∧dA l rest M'∧aQ (MT [some (.mr 0),some (.int many),x2,x3,x4] (tp l i c::rest))=.ok (.int f) M':=fun c i x2 x3 x4 hi=>by
  refine⟨c % many,tp l i (c / many)::rest,Int.emod_nonneg _ (by omega),Int.emod_lt_of_pos _ hm,⟨i,c / many,hi,rfl⟩,?_⟩
  unfold MT
  rw[ay (bT (aB (i2 i c (some (.int many)) x2 x3 x4) (b:=ae 1) (y:=.int many) rfl (um hm _)))]
  have fd:jv (.int c) (.int many) (tp l i c::rest)=.ok (.int (c / many)) (tp l i c::rest):=by
   unfold jv
   dsimp only
   rw[if_pos ⟨hm,hlog⟩]
  have k:mx (ae 0) (gC (.int 2)) (g2 jv (g2 bi (ae 0) (gC (.int 2))) (ae 1)) [some (.mr 0),some (.int many),x2,x3,some (.int (c % many))] (tp l i c::rest)=.ok (.nx [some (.mr 0),some (.int many),x2,x3,some (.int (c % many))]) (tp l i (c / many)::rest):=
   ui (aB (i2 i c (some (.int many)) x2 x3 _) (b:=ae 1) (y:=.int many) rfl fd) rfl
  exact(congrArg aQ (ay k)).trans rfl
 show∃f M',_∧_∧_∧aQ (jh [some (.mr 0),some (.int many),none,none,none] (tp l i c::rest))=_
 rw[KW]
 have e0:∀b:GS,ar (aI 2 (gC (.int 2305843009213693951))) b [some (.mr 0),some (.int many),none,none,none] (tp l i c::rest)=b [some (.mr 0),some (.int many),some (.int 2305843009213693951),none,none] (tp l i c::rest):=fun b=>ay rfl
 rw[e0]
 have tst:aH (g2 rN (g2 bi (ae 0) (gC (.int 2))) (ae 1)) [some (.mr 0),some (.int many),some (.int 2305843009213693951),none,none] (tp l i c::rest)=.ok (decide (c<many)) (tp l i c::rest):=aU (aB (i2 i c _ _ _ _) (b:=ae 1) (y:=.int many) rfl rfl)
 by_cases h1:c<many
 ·rw[decide_eq_true h1] at tst
  obtain⟨v,ev⟩:∃v:Int,N5 [some (.mr 0),some (.int many),some (.int 2305843009213693951),some (.int 0),none] (tp l i c::rest)=.ok (.nx [some (.mr 0),some (.int many),some (.int 2305843009213693951),some (.int v),none]) (tp l i c::rest):=by
   unfold N5
   have t0:aH (g2 nr (aC a7 (aa (g2 bi (ae 0) (gC (.int 0))) ag)) (gC (.int 0))) [some (.mr 0),some (.int many),some (.int 2305843009213693951),some (.int 0),none] (tp l i c::rest)=.ok (decide ((l.length:Int)>0)) (tp l i c::rest):=aU (aB (ln i c _ _ _ _) (b:=gC (.int 0)) (y:=.int 0) rfl rfl)
   by_cases hl:(l.length:Int)>0
   ·rw[decide_eq_true hl] at t0
    obtain⟨v,hv⟩:=C8 (l:=l) (k:=i % l.length) (Int.emod_nonneg _ (by omega)) (Int.emod_lt_of_pos _ hl)
    refine⟨v,(bH t0).trans (bT (aB (f:=bi) (i0 i c _ _ _ _) (aB (i1 i c _ _ _ _) (ln i c _ _ _ _) (um hl _)) ?_))⟩
    show(match jL (l.map D.int) (i % (l.length:Int)) with|some d=>bn.ok d (tp l i c::rest)|none=>.bad)=_
    rw[hv]
   ·rw[decide_eq_false hl] at t0
    exact⟨0,(cT t0).trans rfl⟩
  have bd:∀x:Int,-18446744073709551616<x % 2305843009213693951∧x % 2305843009213693951<18446744073709551616:=fun x=>by
   have h0:=Int.emod_nonneg x (show(2305843009213693951:Int)≠0 by decide)
   have h1:=Int.emod_lt_of_pos x (show(0:Int)<2305843009213693951 by decide)
   omega
  have md:∀x:Int,∀M,ij (.int x) (.int 2305843009213693951) M=.ok (.int (x % 2305843009213693951)) M:=fun x M=>um (by decide) M
  obtain⟨u,eu⟩:∃u:Int,cJ Ob Mu aD [some (.mr 0),some (.int many),some (.int 2305843009213693951),some (.int v),none] (tp l i c::rest)=.ok (.nx [some (.mr 0),some (.int many),some (.int 2305843009213693951),some (.int u),none]) (tp l i c::rest):=by
   have po:∀ρ,g2 pT (gC (.int 10)) (gC (.int 18)) ρ (tp l i c::rest)=.ok (.int (10 ^ 18)) (tp l i c::rest):=fun ρ=>by
    refine aB (x:=.int 10) (y:=.int 18) rfl rfl ?_
    unfold pT
    dsimp only
    rw[if_pos (by decide)]
    rfl
   have to:=ce (aU (aB (f:=wO) (i1 i c (some (.int many)) (some (.int 2305843009213693951)) (some (.int v)) none) (ln i c _ _ _ _) rfl)) fun _=>aU (aB (f:=rN) (a:=ae 3) (x:=.int v) rfl (po _) rfl)
   generalize (decide (i≥(l.length:Int))||decide (v<10 ^ 18))=b at to
   cases b with
   | false=>exact⟨v,(cT to).trans rfl⟩
   | true=>
    suffices hs:∃u:Int,Mu [some (.mr 0),some (.int many),some (.int 2305843009213693951),some (.int v),none] (tp l i c::rest)=.ok (.nx [some (.mr 0),some (.int many),some (.int 2305843009213693951),some (.int u),none]) (tp l i c::rest) from hs.elim fun u e=>⟨u,(bH to).trans e⟩
    unfold Mu
    rw[ay (bT (aB (aB (f:=bS) (a:=ae 3) (x:=.int v) rfl (aB (f:=gT) (a:=gC (.int 1000003)) (x:=.int 1000003) rfl (i1 i c _ _ _ _) (pW (by decide) _)) rfl) (b:=ae 2) (y:=.int 2305843009213693951) rfl (md _ _)))]
    generalize hz:(v+1000003*i) % 2305843009213693951=z
    have bz:=hz▸bd (v+1000003*i)
    have k2:aI 3 (g2 ij (g2 bS (g2 bS (g2 gT (ae 3) (ae 3)) (g2 gT (gC (.int 1181783497276652981)) (ae 3))) (gC (.int 2049848353892358983))) (ae 2)) [some (.mr 0),some (.int many),some (.int 2305843009213693951),some (.int z),none] (tp l i c::rest)=.ok (.nx [some (.mr 0),some (.int many),some (.int 2305843009213693951),some (.int ((z*z+1181783497276652981*z+2049848353892358983) % 2305843009213693951)),none]) (tp l i c::rest):=
     bT (aB (aB (f:=bS) (aB (f:=bS) (aB (f:=gT) (a:=ae 3) (x:=.int z) rfl (b:=ae 3) (y:=.int z) rfl (pW bz _)) (aB (f:=gT) (a:=gC (.int 1181783497276652981)) (x:=.int 1181783497276652981) rfl (b:=ae 3) (y:=.int z) rfl (pW (by decide) _)) rfl) (b:=gC (.int 2049848353892358983)) (y:=.int 2049848353892358983) rfl rfl) (b:=ae 2) (y:=.int 2305843009213693951) rfl (md _ _))
    refine Exists.imp (fun u e=>(ay k2).trans e) ?_
    generalize hy:(z*z+1181783497276652981*z+2049848353892358983) % 2305843009213693951=y
    have byy:=hy▸bd (z*z+1181783497276652981*z+2049848353892358983)
    exact⟨_,bT (aB (aB (f:=bS) (aB (f:=gT) (a:=ae 3) (x:=.int y) rfl (b:=ae 3) (y:=.int y) rfl (pW byy _)) (b:=gC (.int 1442695040888963407)) (y:=.int 1442695040888963407) rfl rfl) (b:=ae 2) (y:=.int 2305843009213693951) rfl (md _ _))⟩
  have kb:Nw [some (.mr 0),some (.int many),some (.int 2305843009213693951),none,none] (tp l i c::rest)=.ok (.nx [some (.mr 0),some (.int many),some (.int 2305843009213693951),some (.int u),none]) (tp l (i+1) u::rest):=by
   unfold Nw
   have e3:∀b:GS,ar (aI 3 (gC (.int 0))) b [some (.mr 0),some (.int many),some (.int 2305843009213693951),none,none] (tp l i c::rest)=b [some (.mr 0),some (.int many),some (.int 2305843009213693951),some (.int 0),none] (tp l i c::rest):=fun b=>ay rfl
   rw[e3,ay ev,ay eu]
   have k1:mx (ae 0) (gC (.int 1)) (g2 bS (g2 bi (ae 0) (gC (.int 1))) (gC (.int 1))) [some (.mr 0),some (.int many),some (.int 2305843009213693951),some (.int u),none] (tp l i c::rest)=.ok (.nx [some (.mr 0),some (.int many),some (.int 2305843009213693951),some (.int u),none]) (tp l (i+1) c::rest):=
    ui (aB (i1 i c _ _ _ _) (b:=gC (.int 1)) (y:=.int 1) rfl rfl) rfl
   rw[ay k1]
   exact ui (x:=.int u) rfl rfl
  rw[ay ((bH tst).trans kb)]
  exact tail u (i+1) _ _ _ (by omega)
 ·rw[decide_eq_false h1] at tst
  rw[ay ((cT tst).trans rfl)]
  exact tail c i _ _ _ hi
variable{x:Int}
theorem aV (h0:0<x)(h1:x≤1000000):x.natAbs.log2<9000:=by
 have h2:x.natAbs<2 ^ 20:=by omega
 have h3:x.natAbs≠0:=by omega
 have:=(Nat.log2_lt h3).mpr h2
 omega
variable{most:Int}
theorem zc (hm:1≤most)(hm2:most≤1000)(h:dA l rest M) :
  ∃f M',1≤f∧f≤most∧dA l rest M'∧h8 [.mr 0,.int most] M=.ok (.int f) M':=by
 have lg:∀x:Int,0<x→x≤1000→x.natAbs.log2<9000:=fun x h0 h1=>by
  have h2:x.natAbs<2 ^ 10:=by omega
  have h3:x.natAbs≠0:=by omega
  have:=(Nat.log2_lt h3).mpr h2
  omega
 have hmin:0<(if 6<most then 6 else most)∧(if 6<most then 6 else most)≤most∧(if 6<most then(6:Int) else most)≤1000:=by split <;> omega
 obtain⟨f1,M1,a1,b1,t1,e1⟩:=bB hmin.1 (lg _ hmin.1 hmin.2.2) h
 obtain⟨f2,M2,a2,b2,t2,e2⟩:=bB (many:=most) (by omega) (lg _ (by omega) hm2) t1
 obtain⟨f3,M3,a3,b3,t3,e3⟩:=bB (many:=8) (by decide) (lg _ (by decide) (by decide)) t2
 have l3:(3:Nat)≤sizeLine:=aM (by decide)
 have hix:0≤f3*3 / 10∧f3*3 / 10<3:=by omega
 have c3:Nat.log2 10<9000:=by decide
 have c4:-18446744073709551616<f3∧f3<18446744073709551616:=by omega
 have pick:∃f,1≤f∧f≤most∧∃y,f=1+y∧jL [D.int f1,D.int f2,D.int (most-1)] (f3*3 / 10)=some (.int y):=by
  have:f3*3 / 10=0∨f3*3 / 10=1∨f3*3 / 10=2:=by omega
  rcases this with q|q|q <;> rw[q]
  ·exact⟨1+f1,by omega,by omega,f1,rfl,rfl⟩
  ·exact⟨1+f2,by omega,by omega,f2,rfl,rfl⟩
  ·exact⟨1+(most-1),by omega,by omega,most-1,rfl,rfl⟩
 obtain⟨f,hf1,hf2,y,ey,ha⟩:=pick
 refine⟨f,M3,hf1,hf2,t3,?_⟩
 unfold h8 lX
 simp_arith [e1,e2,e3,l3,c3,c4,ha,ey]
theorem Fc {wide thin:Int}(hw:0≤wide)(hw2:wide≤1000)(ht:1≤thin)(ht2:thin≤1000)(h:dA l rest M) :
  ∃(ks:List Int) (M':aA),(ks.length:Int)=wide∧(∀k∈ks,0≤k∧k≤15)∧dA l rest M'∧jo [.mr 0,.int wide,.int thin] M=.ok (.tup (ks.map D.int)) M':=by
 obtain⟨es,M',t',le,qe,ee⟩:=jV (ds0:=bD 0 wide.toNat) (ge:=gq) (ρ:=[some (.mr 0),some (.int wide),some (.int thin)])
  (P:=dA l rest) (Q:=fun e=>∃k,e=.int k∧0≤k∧k≤15) (bD 0 wide.toNat) (fun d hd M hM=>by
   obtain⟨f1,M1,a1,b1,t1,e1⟩:=bB (many:=16) (by decide) (aV (by decide) (by decide)) hM
   obtain⟨f2,M2,a2,b2,t2,e2⟩:=bB (many:=thin) (by omega) (aV (by omega) (by omega)) t1
   have c4:-18446744073709551616<f1∧f1<18446744073709551616:=by omega
   by_cases hz:0<f2
   ·exact⟨.int (f1*1),M2,t2,⟨_,rfl,by omega,by omega⟩,by simp_arith [gq,e1,e2,c4,hz]⟩
   ·exact⟨.int (f1*0),M2,t2,⟨_,rfl,by omega,by omega⟩,by simp_arith [gq,e1,e2,c4,hz]⟩) M h
 obtain⟨ks,ek,qk⟩:=Du qe
 refine⟨ks,M',?_,qk,t',?_⟩
 ·have:ks.length=es.length:=by rw[ek];simp
  rw[cu] at le
  omega
 ·have l3:es.length≤sizeLine:=by rw[le,cu];exact aM (by omega)
  have l4:ks.length≤sizeLine:=by rw[ek] at l3;simpa using l3
  have b1:=fun M=>kq (j:=wide) (by omega) M
  unfold jo lQ
  simp_arith [aW,b1,ee,l4,ek]
theorem ww (hm:1≤most)(hm2:most≤1000)(h:dA l rest M) :
  ∃(rs:List (List Int)) (w:Nat) (M':aA),1≤rs.length∧(rs.length:Int)≤most∧1≤w∧(w:Int)≤most∧(∀r∈rs,r.length=w∧∀k∈r,0≤k∧k≤15)∧dA l rest M'∧
   eX [.mr 0,.int most] M=.ok (.tup (rs.map fun r=>D.tup (r.map D.int))) M':=by
 obtain⟨wide,M1,w1,w2,t1,e1⟩:=zc hm hm2 h
 obtain⟨f4,M2,a2,b2,t2,e2⟩:=bB (many:=4) (by decide) (aV (by decide) (by decide)) t1
 obtain⟨high,M3,h1,h2,t3,e3⟩:=zc hm hm2 t2
 obtain⟨es,M',t',le,qe,ee⟩:=jV (ds0:=bD 0 high.toNat) (ge:=hO) (ρ:=[some (.mr 0),some (.int most),some (.int wide),some (.int (1+f4))])
  (P:=dA l rest) (Q:=fun e=>∃ks:List Int,e=.tup (ks.map D.int)∧(ks.length:Int)=wide∧∀k∈ks,0≤k∧k≤15) (bD 0 high.toNat) (fun d hd M hM=>by
   obtain⟨ks,M1,lk,qk,t1,e1⟩:=Fc (wide:=wide) (thin:=1+f4) (by omega) (by omega) (by omega) (by omega) hM
   exact⟨_,M1,t1,⟨ks,rfl,lk,qk⟩,by simp_arith [hO,e1]⟩) M3 t3
 obtain⟨rs,er,qr⟩:=EJ qe
 refine⟨rs,wide.toNat,M',?_,?_,by omega,by omega,fun r hr=>⟨by have:=(qr r hr).1;omega,(qr r hr).2⟩,t',?_⟩
 ·have:rs.length=es.length:=by rw[er];simp
  rw[cu] at le
  omega
 ·have:rs.length=es.length:=by rw[er];simp
  rw[cu] at le
  omega
 ·have l3:es.length≤sizeLine:=by rw[le,cu];exact aM (by omega)
  have l4:rs.length≤sizeLine:=by rw[er] at l3;simpa using l3
  have b1:=fun M=>kq (j:=high) (by omega) M
  unfold eX kT
  simp_arith [aW,b1,e1,e2,e3,ee,l4,er]
theorem uB {size:Int}(hm:0≤size)(hm2:size≤900)(h:dA l rest M) :
  ∃(f:Int) (M':aA),(-1000≤f∧f≤1000)∧dA l rest M'∧dD [.mr 0,.int size] M=.ok (.int f) M':=by
 obtain⟨f1,M1,a1,b1,t1,e1⟩:=bB (many:=size+16) (by omega) (aV (by omega) (by omega)) h
 obtain⟨f2,M2,a2,b2,t2,e2⟩:=bB (many:=2001) (by decide) (aV (by decide) (by decide)) t1
 obtain⟨f3,M3,a3,b3,t3,e3⟩:=bB (many:=8) (by decide) (aV (by decide) (by decide)) t2
 have l3:(2:Nat)≤sizeLine:=aM (by decide)
 have c3:Nat.log2 7<9000:=by decide
 have pick:∃g,-1000≤g∧g≤1000∧jL [D.int (f1-8),D.int (f2-1000)] (f3 / 7)=some (.int g):=by
  have:f3 / 7=0∨f3 / 7=1:=by omega
  rcases this with q|q <;> rw[q]
  ·exact⟨_,by omega,by omega,rfl⟩
  ·exact⟨_,by omega,by omega,rfl⟩
 obtain⟨g,g1,g2,ha⟩:=pick
 refine⟨g,M3,⟨g1,g2⟩,t3,?_⟩
 unfold dD mT
 simp_arith [e1,e2,e3,l3,c3,ha]
structure Mv where
 shape:Option Nat
 x:Int
 y:Int
 rank:Int
 turn:Int
noncomputable def Mv.d (m:Mv):D:=.tup [match m.shape with|some k=>.int k|none=>.non,.int m.x,.int m.y,.int m.rank,.int m.turn]
structure zR (n:Nat)(m:Mv):Prop where
 s:∀k,m.shape=some k→k<n
 x:-1000≤m.x∧m.x≤1000
 y:-1000≤m.y∧m.y≤1000
 r:0≤m.rank∧m.rank≤3
 t:0≤m.turn∧m.turn≤3
variable{w:Int}{more:List D}{n:Nat}
theorem Bk {hh:Int}(hw:0≤w∧w≤900)(hh2:0≤hh∧hh≤900)(hn:n≤1000)(h:dA l rest M) :
  ∃(m:Mv) (M':aA),zR n m∧dA l rest M'∧eN [.mr 0,.tup (.int w::.int hh::more),.int n] M=.ok m.d M':=by
 have l4:(5:Nat)≤sizeLine:=aM (by decide)
 have i0:jL (D.int w::D.int hh::more) 0=some (.int w):=dU (j:=0) rfl
 have i1:jL (D.int w::D.int hh::more) 1=some (.int hh):=dU (j:=1) rfl
 have go:∀(s:Option Nat) (M:aA),dA l rest M→(∀k,s=some k→k<n)→∃(m:Mv) (M':aA),zR n m∧m.shape=s∧dA l rest M'∧
   ∃M2 M3 M4,dD [.mr 0,.int w] M=.ok (.int m.x) M2∧dD [.mr 0,.int hh] M2=.ok (.int m.y) M3∧aw [.mr 0,.int 4] M3=.ok (.int m.rank) M4∧aw [.mr 0,.int 4] M4=.ok (.int m.turn) M':=by
  intro s M h hs
  obtain⟨x,M2,a2,t2,e2⟩:=uB hw.1 hw.2 h
  obtain⟨y,M3,a3,t3,e3⟩:=uB hh2.1 hh2.2 t2
  obtain⟨r,M4,a4,b4,t4,e4⟩:=bB (many:=4) (by decide) (aV (by decide) (by decide)) t3
  obtain⟨t,M5,a5,b5,t5,e5⟩:=bB (many:=4) (by decide) (aV (by decide) (by decide)) t4
  have r3:r≤3:=by omega
  have q3:t≤3:=by omega
  exact⟨⟨s,x,y,r,t⟩,M5,⟨hs,a2,a3,⟨a4,r3⟩,⟨a5,q3⟩⟩,rfl,t5,M2,M3,M4,e2,e3,e4,e5⟩
 by_cases h0:0<n
 ·obtain⟨f1,M1,a1,b1,t1,e1⟩:=bB (many:=8) (by decide) (aV (by decide) (by decide)) h
  have h0':(0:Int)<n:=by omega
  by_cases hf:0<f1
  ·obtain⟨f2,M2,a2,b2,t2,e2⟩:=bB (many:=(n:Int)) (by omega) (aV (by omega) (by omega)) t1
   obtain⟨k,rfl⟩:=Int.eq_ofNat_of_zero_le a2
   obtain⟨m,M',ok,sm,t',M3,M4,M5,q1,q2,q3,q4⟩:=go (some k) M2 t2 (fun j hj=>by cases hj;omega)
   refine⟨m,M',ok,t',?_⟩
   unfold eN gf
   simp_arith [e1,e2,q1,q2,q3,q4,l4,i0,i1,h0',h0,hf,Mv.d,sm]
  ·obtain⟨m,M',ok,sm,t',M3,M4,M5,q1,q2,q3,q4⟩:=go none M1 t1 (fun j hj=>by cases hj)
   refine⟨m,M',ok,t',?_⟩
   unfold eN gf
   simp_arith [e1,q1,q2,q3,q4,l4,i0,i1,h0',h0,hf,Mv.d,sm]
 ·have h0':¬(0:Int)<n:=by omega
  obtain⟨m,M',ok,sm,t',M3,M4,M5,q1,q2,q3,q4⟩:=go none M h (fun j hj=>by cases hj)
  refine⟨m,M',ok,t',?_⟩
  unfold eN gf
  simp_arith [q1,q2,q3,q4,l4,i0,i1,h0',h0,Mv.d,sm]
theorem lF {α:Type}{f:α→D}{P:α→Prop}:∀{es:List D},(∀e∈es,∃a,e=f a∧P a)→∃as:List α,es=as.map f∧∀a∈as,P a
 | [],_=>⟨[],rfl,fun _ z=>by cases z⟩
 | e::es,h=>by
  obtain⟨a,ea,pa⟩:=h e (List.mem_cons_self ..)
  obtain⟨as,eas,pas⟩:=lF fun e' he=>h e' (List.mem_cons_of_mem _ he)
  refine⟨a::as,by rw[ea,eas];rfl,fun b hb=>?_⟩
  rcases List.mem_cons.mp hb with q|q
  ·rw[q];exact pa
  ·exact pas b q
noncomputable def bP (rs:List (List Int)):D:=.tup (rs.map fun r=>D.tup (r.map D.int))
noncomputable def mt (most:Int)(rs:List (List Int)):Prop:=1≤rs.length∧(rs.length:Int)≤most∧∃w:Nat,1≤w∧(w:Int)≤most∧∀r∈rs,r.length=w∧∀k∈r,0≤k∧k≤15
structure im where
 floor:List (List Int)
 sx:Int
 sy:Int
 book:List (List (List Int))
 movers:List Mv
 pots:List Int
noncomputable def im.d (s:im):D:=.tup [bP s.floor,.tup [.int s.sx,.int s.sy],.tup (s.book.map bP),.tup (s.movers.map Mv.d),.tup (s.pots.map D.int)]
structure eJ (most:Int)(s:im):Prop where
 floor:mt 16 s.floor
 sx:-1000≤s.sx∧s.sx≤1000
 sy:-1000≤s.sy∧s.sy≤1000
 bl:s.book.length≤8
 book:∀b∈s.book,mt 8 b
 ml:(s.movers.length:Int)≤most
 movers:∀m∈s.movers,zR s.book.length m
 pl:s.pots.length=16
 pots:∀k∈s.pots,0≤k∧k≤63
variable{mm:Int}
theorem Cj {hh:Int}(hw:0≤w∧w≤900)(hh2:0≤hh∧hh≤900)(hm:0≤mm∧mm≤900)(h:dA l rest M) :
  ∃(s:im) (M':aA),eJ mm s∧dA l rest M'∧eQ [.mr 0,.tup (.int w::.int hh::more),.int mm] M=.ok s.d M':=by
 obtain⟨fl,fw,M1,f1,f2,f3,f4,f5,t1,e1⟩:=ww (most:=16) (by decide) (by decide) h
 obtain⟨sx,M2,a2,t2,e2⟩:=uB (size:=9) (by decide) (by decide) t1
 obtain⟨sy,M3,a3,t3,e3⟩:=uB (size:=9) (by decide) (by decide) t2
 obtain⟨d4,M4,a4,b4,t4,e4⟩:=bB (many:=4) (by decide) (aV (by decide) (by decide)) t3
 obtain⟨d5,M5,a5,b5,t5,e5⟩:=bB (many:=9) (by decide) (aV (by decide) (by decide)) t4
 obtain⟨d6,M6,a6,b6,t6,e6⟩:=bB (many:=4) (by decide) (aV (by decide) (by decide)) t5
 have l2:(2:Nat)≤sizeLine:=aM (by decide)
 have l5:(5:Nat)≤sizeLine:=aM (by decide)
 have c3:Nat.log2 3<9000:=by decide
 have pick:∃g,0≤g∧g≤8∧jL [D.int d4,D.int d5] (d6 / 3)=some (.int g):=by
  have:d6 / 3=0∨d6 / 3=1:=by omega
  rcases this with q|q <;> rw[q]
  ·exact⟨_,by omega,by omega,rfl⟩
  ·exact⟨_,by omega,by omega,rfl⟩
 obtain⟨g,g1,g2,ha⟩:=pick
 obtain⟨eb,M7,t7,lb,qb,ee1⟩:=jV (ds0:=bD 0 g.toNat) (ge:=hG) (ρ:=[some (.mr 0),some (.tup (.int w::.int hh::more)),some (.int mm),some (bP fl),some (.tup [.int sx,.int sy]),some (.int g),none,none])
  (P:=dA l rest) (Q:=fun e=>∃b,e=bP b∧mt 8 b) (bD 0 g.toNat) (fun d hd M hM=>by
   obtain⟨rs,rw',M1,q1,q2,q3,q4,q5,t1,e1⟩:=ww (most:=8) (by decide) (by decide) hM
   exact⟨_,M1,t1,⟨rs,rfl,q1,q2,rw',q3,q4,q5⟩,by simp_arith [hG,e1,bP]⟩) M6 t6
 obtain⟨book,hb,okb⟩:=lF qb
 have lbk:book.length=g.toNat:=by rw[←cu 0 g.toNat,←lb,hb,List.length_map]
 obtain⟨d8,M8,a8,b8,t8,e8⟩:=bB (many:=mm+1) (by omega) (aV (by omega) (by omega)) t7
 obtain⟨em,M9,t9,lm,qm,ee2⟩:=jV (ds0:=bD 0 d8.toNat) (ge:=gY) (ρ:=[some (.mr 0),some (.tup (.int w::.int hh::more)),some (.int mm),some (bP fl),some (.tup [.int sx,.int sy]),some (.int g),some (.tup (book.map bP)),none])
  (P:=dA l rest) (Q:=fun e=>∃m,e=Mv.d m∧zR book.length m) (bD 0 d8.toNat) (fun d hd M hM=>by
   obtain⟨m,M1,ok,t1,e1⟩:=Bk (more:=more) (n:=book.length) hw hh2 (by omega) hM
   exact⟨_,M1,t1,⟨m,rfl,ok⟩,by simp_arith [gY,e1]⟩) M8 t8
 obtain⟨movers,hmv,okm⟩:=lF qm
 have lmv:movers.length=d8.toNat:=by rw[←cu 0 d8.toNat,←lm,hmv,List.length_map]
 obtain⟨ep,M10,t10,lp,qp,ee3⟩:=jV (ds0:=bD 0 16) (ge:=hV) (ρ:=[some (.mr 0),some (.tup (.int w::.int hh::more)),some (.int mm),some (bP fl),some (.tup [.int sx,.int sy]),some (.int g),some (.tup (book.map bP)),some (.tup (movers.map Mv.d))])
  (P:=dA l rest) (Q:=fun e=>∃k,e=D.int k∧0≤k∧k≤63) (bD 0 16) (fun d hd M hM=>by
   obtain⟨f1,M1,a1,b1,t1,e1⟩:=bB (many:=64) (by decide) (aV (by decide) (by decide)) hM
   exact⟨_,M1,t1,⟨f1,rfl,a1,by omega⟩,by simp_arith [hV,e1]⟩) M9 t9
 obtain⟨pots,hp,okp⟩:=lF qp
 have lpt:pots.length=16:=by rw[←cu 0 16,←lp,hp,List.length_map]
 refine⟨⟨fl,sx,sy,book,movers,pots⟩,M10,⟨⟨f1,f2,fw,f3,f4,f5⟩,a2,a3,?_,okb,?_,okm,lpt,okp⟩,t10,?_⟩
 ·show book.length≤8
  omega
 ·show(movers.length:Int)≤mm
  omega
 ·have lb1:book.length≤sizeLine:=aM (by omega)
  have lm1:movers.length≤sizeLine:=aM (by omega)
  have lp1:pots.length≤sizeLine:=aM (by omega)
  have r1:=fun M=>kq (j:=g) (by omega) M
  have r2:=fun M=>kq (j:=d8) (by omega) M
  have r3:=fun M=>kq (j:=16) (by omega) M
  rw[hb] at ee1
  rw[hmv] at ee2
  rw[hp] at ee3
  have e1':eX [.mr 0,.int 16] M=.ok (bP fl) M1:=e1
  unfold eQ kB
  simp_arith [aW,e1',e2,e3,e4,e5,e6,e8,l2,l5,c3,ha,r1,r2,r3,ee1,ee2,ee3,lb1,lm1,lp1,im.d]
theorem oM {ds0:List D}{s:GG}{body:GS}{W:Nat→cr→aA→Prop}:∀(ds:List D) (i:Nat),(∀j d,ds[j]?=some d→∀ρ M,W (i+j) ρ M→∃ρ1 ρ2 M2,s d ρ=some ρ1∧body ρ1 M=.ok (.nx ρ2) M2∧W (i+j+1) ρ2 M2)→∀ρ M,W i ρ M→
  ∃ρ' M',W (i+ds.length) ρ' M'∧gJ ⟨ds0,none⟩ s body ds ρ M=.ok (.nx ρ') M'
 | [],i,h,ρ,M,hW=>⟨ρ,M,hW,rfl⟩
 | d::ds,i,h,ρ,M,hW=>by
  obtain⟨ρ1,ρ2,M2,e1,e2,h2⟩:=h 0 d rfl ρ M hW
  obtain⟨ρ',M',h3,e3⟩:=oM (ds0:=ds0) (s:=s) (body:=body) (W:=W) ds (i+1) (fun j d' hd ρ M hW=>by
   have e:i+1+j=i+(j+1):=by omega
   rw[e] at hW ⊢
   exact h (j+1) d' hd ρ M hW) ρ2 M2 h2
  refine⟨ρ',M',?_,by simp[gJ,oN,e1,e2,e3]⟩
  have e:i+(d::ds).length=i+1+ds.length:=by simp;omega
  rw[e];exact h3
noncomputable def xS (s:im)(row:Int)(m:Mv):Bool:=match m.shape with
 | none=>false
 | some k=>decide (m.y≤row)&&decide (row<m.y+((s.book.getD k []).length:Int))
noncomputable def pP (s:im)(row:Int):Nat→List Int
 | 0=>[]
 | n+1=>pP s row n++(match s.movers[n]? with|some m=>if xS s row m then [(n:Int)] else []|none=>[])
theorem nF (s:im)(row:Int):∀n,(pP s row n).length≤n
 | 0=>Nat.le_refl _
 | n+1=>by
  have:=nF s row n
  unfold pP
  rw[List.length_append]
  split
  ·split <;> simp <;> omega
  ·simp;omega
noncomputable def cz (s:im)(row:Int):List Int:=pP s row s.movers.length
noncomputable abbrev Oc (rs:List (List Int)):D:=.tup (rs.map fun r=>D.tup (r.map D.int))
variable{rs:List (List Int)}
theorem wZ (h:n<rs.length):jL (rs.map fun r=>D.tup (r.map D.int)) (n:Int)=some (.tup (rs[n].map D.int)):=dU (by simp[h])
variable{r:List Int}
theorem Gy (h:n<r.length):jL (r.map D.int) (n:Int)=some (.int r[n]):=dU (by simp[h])
noncomputable def m5 (rs:List (List Int))(way:Int)(n:Nat):List Int:=
 let r:=if way=2∨way=3 then rs.getD (rs.length-1-n) [] else rs.getD n []
 if way=1∨way=3 then r.reverse else r
variable{way:Int}
theorem N1 (h0:0≤way)(h1:way<4):way=0∨way=1∨way=2∨way=3:=by omega
theorem qB {s:im}{row:Int}:∀{j:Nat} {n:Int},n∈pP s row j→∃i:Nat,n=i∧i<j∧∃m,s.movers[i]?=some m∧xS s row m=true
 | 0,n,h=>by cases h
 | j+1,n,h=>by
  unfold pP at h
  rcases List.mem_append.mp h with z|z
  ·obtain⟨i,e,hi,r⟩:=qB z
   exact⟨i,e,by omega,r⟩
  ·split at z
   ·rename_i m hm
    split at z
    ·rename_i hl
     exact⟨j,by simpa using z,by omega,m,hm,hl⟩
    ·cases z
   ·cases z
theorem B0 (xs:List Int)(lo hi:Option Int):∃ys:List Int,gG (xs.map D.int) lo hi=ys.map D.int∧ys.length≤xs.length∧∀y∈ys,y∈xs:=by
 refine⟨(xs.drop (HT.sIx xs.length 0 lo)).take (HT.sIx xs.length xs.length hi-HT.sIx xs.length 0 lo),by simp[gG],?_,fun y hy=>List.mem_of_mem_drop (List.mem_of_mem_take hy)⟩
 rw[List.length_take,List.length_drop]
 omega
noncomputable def gW (s:im)(row n:Int):D:=match s.movers[n.toNat]? with
 | some m=>.tup [.int n,.int m.x,.int m.rank,.tup ((m5 (s.book.getD (m.shape.getD 0) []) m.turn (row-m.y).toNat).map D.int)]
 | none=>.non
noncomputable def bM (s:im)(row:Int):List Int:=s.floor.getD ((row+s.sy) % (s.floor.length:Int)).toNat []
noncomputable def gw (s:im)(row x:Int):Int:=(bM s row).getD ((x+s.sx) % ((bM s row).length:Int)).toNat 0
noncomputable def qt (s:im)(m row:Int):List D:=(gG ((cz s row).map D.int) none (some m)).map fun d=>match d with | .int n=>gW s row n|d=>d
noncomputable def gN (s:im)(w m row:Int):D:=.tup [.tup ((List.range w.toNat).map fun(x:Nat)=>D.int (gw s row x)),.tup (qt s m row)]
theorem FX {a b c:GE}{y z:Int}(ha:a ρ M=.ok (.int x) M)(hb:b ρ M=.ok (.int y) M)(hc:x≤y→c ρ M=.ok (.int z) M):nu lq rN a b c ρ M=.ok (.bl (decide (x≤y)&&decide (y<z))) M:=by
 unfold nu
 rw[ha,ao,hb,ao]
 show(bn.ok (D.bl (decide (x≤y))) M).bind _=_
 rw[ao]
 by_cases q:x≤y
 ·rw[decide_eq_true q]
  dsimp only
  rw[hc q,ao]
  rfl
 ·rw[decide_eq_false q]
  rfl
variable{s:im}{row:Int}
theorem Hz :en (bO [2,3,4,5,6]) (ae 0) [some s.d,some (.int row),none,none,none,none,none,none,none,none,none,none,none,none] M=.ok (.nx [some s.d,some (.int row),some (bP s.floor),some (.tup [.int s.sx,.int s.sy]),some (.tup (s.book.map bP)),some (.tup (s.movers.map Mv.d)),some (.tup (s.pots.map D.int)),none,none,none,none,none,none,none]) M:=rfl
noncomputable def NP (o:Option Nat):D:=match o with|some k=>.int k|none=>.non
noncomputable def Lw (bk:List (List (List Int)))(row y:Int):Option Nat→Bool
 | none=>false
 | some k=>decide (y≤row)&&decide (row<y+((bk.getD k []).length:Int))
variable{j:Nat}{b:Bool}
theorem Fk {x0 x2 x3 x5 x6 x10 x12 x13:Option D}{y:Int}{bk:List (List (List Int))}{o:Option Nat}{E:List Int}(ho:∀k,o=some k→k<bk.length)(hE:E.length<1000)
  (hb:b=Lw bk row y o) :
  fN [x0,some (.int row),x2,x3,some (.tup (bk.map bP)),x5,x6,some (.mr M.length),some (.int j),some (NP o),x10,some (.int y),x12,x13] (M++[.lst (E.map D.int)]) =
   .ok (.nx [x0,some (.int row),x2,x3,some (.tup (bk.map bP)),x5,x6,some (.mr M.length),some (.int j),some (NP o),x10,some (.int y),x12,x13]) (M++[.lst ((E++if b then [(j:Int)] else []).map D.int)]):=by
 unfold fN
 have t:cx (aH (g2 (jB true) (ae 9) (gC .non))) (aH (nu lq rN (ae 11) (ae 1) (g2 bS (ae 11) (aC a7 (aa (g2 bi (ae 4) (ae 9)) ag))))) [x0,some (.int row),x2,x3,some (.tup (bk.map bP)),x5,x6,some (.mr M.length),some (.int j),some (NP o),x10,some (.int y),x12,x13] (M++[.lst (E.map D.int)])=.ok b (M++[.lst (E.map D.int)]):=by
  subst hb
  cases o with
  | none=>exact bW (x:=false) (y:=true) rfl (fun z=>by cases z)
  | some k=>
   have hk:=ho k rfl
   have gb:bk[k]?=some bk[k]:=List.getElem?_eq_getElem hk
   have e:bk.getD k []=bk[k]:=by rw[List.getD,gb];rfl
   have ln:aC a7 (aa (g2 bi (ae 4) (ae 9)) ag) [x0,some (.int row),x2,x3,some (.tup (bk.map bP)),x5,x6,some (.mr M.length),some (.int j),some (.int k),x10,some (.int y),x12,x13] (M++[.lst (E.map D.int)])=.ok (.int (bk[k].length:Int)) (M++[.lst (E.map D.int)]):=by
    refine nA (aB (f:=bi) (a:=ae 4) (b:=ae 9) (x:=.tup (bk.map bP)) (y:=.int k) rfl rfl (cV (k:=k) (by rw[List.getElem?_map,gb];rfl))) ?_
    show bn.ok (D.int ((bk[k].map fun r=>D.tup (r.map D.int)).length:Int)) _=_
    rw[List.length_map]
   show _=bn.ok (decide (y≤row)&&decide (row<y+((bk.getD k []).length:Int))) _
   rw[e]
   exact bW (x:=true) rfl fun _=>aU (FX (x:=y) (y:=row) (z:=y+(bk[k].length:Int)) rfl rfl fun _=>aB (f:=bS) (a:=ae 11) (x:=.int y) rfl ln rfl)
 cases b with
 | false=>
  refine(cT t).trans ?_
  rw[if_neg Bool.false_ne_true,List.append_nil]
  rfl
 | true=>
  refine(bH t).trans ?_
  rw[if_pos rfl,List.map_append]
  exact cn (Dg (go:=ae 7) (ge:=ae 8) (d:=.int j) rfl rfl (by rw[List.length_map];omega))
theorem B9 (ok:eJ mm s)(hm:mm≤900)(hM:fR M):kO [s.d,.int row] M=.ok (.lst ((cz s row).map D.int)) M:=by
 have lm:=ok.ml
 generalize hx0:some s.d=x0
 generalize hx2:some (bP s.floor)=x2
 generalize hx3:some (D.tup [.int s.sx,.int s.sy])=x3
 generalize hx6:some (D.tup (s.pots.map D.int))=x6
 obtain⟨ρ',M',⟨x8,x9,x10,x11,x12,x13,rfl,rfl⟩,ef⟩:=oM (ds0:=ju (s.movers.map Mv.d)) (s:=pS [(ej 8),(bO [9,10,11,12,13])]) (body:=fN)
  (W:=fun i ρ N=>∃x8 x9 x10 x11 x12 x13,ρ=[x0,some (.int row),x2,x3,some (.tup (s.book.map bP)),some (.tup (s.movers.map Mv.d)),x6,some (.mr M.length),x8,x9,x10,x11,x12,x13]∧N=M++[.lst ((pP s row i).map D.int)])
  (ju (s.movers.map Mv.d)) 0 (fun j d hd ρ N hW=>by
   obtain⟨x8,x9,x10,x11,x12,x13,rfl,rfl⟩:=hW
   obtain⟨dx,ex,rfl⟩:=o6 hd
   rw[Nat.zero_add]
   rw[List.getElem?_map] at ex
   cases gm:s.movers[j]? with
   | none=>rw[gm] at ex;cases ex
   | some m=>
   rw[gm] at ex
   cases ex
   have hj:=(List.getElem?_eq_some_iff.mp gm).1
   have om:=ok.movers _ (List.mem_of_getElem? gm)
   have ll:(pP s row j).length<1000:=Nat.lt_of_le_of_lt (nF s row j) (by omega)
   have e:=Fk (x0:=x0) (x2:=x2) (x3:=x3) (x5:=some (.tup (s.movers.map Mv.d))) (x6:=x6) (x10:=some (.int m.x)) (x12:=some (.int m.rank)) (x13:=some (.int m.turn)) (row:=row) (y:=m.y) (bk:=s.book) (o:=m.shape) (j:=j) (M:=M) (E:=pP s row j) (b:=xS s row m) om.s ll (by unfold xS Lw;cases m.shape <;> rfl)
   have ey:pP s row (j+1)=pP s row j++(if xS s row m then [(j:Int)] else []):=by
    show pP s row j++(match s.movers[j]? with|some m=>if xS s row m then [(j:Int)] else []|none=>[])=_
    rw[gm]
   exact⟨_,_,_,rfl,e,_,_,_,_,_,_,rfl,by rw[ey]⟩)
  [x0,some (.int row),x2,x3,some (.tup (s.book.map bP)),some (.tup (s.movers.map Mv.d)),x6,some (.mr M.length),none,none,none,none,none,none] (M++[.lst []]) ⟨_,_,_,_,_,_,rfl,rfl⟩
 rw[kP,List.length_map,Nat.zero_add] at ef
 have rt:=wL (M:=M) (xs:=(cz s row).map D.int) (iK 28 _) hM
 have a1:=Hz (s:=s) (row:=row) (M:=M)
 rw[hx0,hx2,hx3,hx6] at a1
 show iQ M.length (aQ (iP [some s.d,some (.int row),none,none,none,none,none,none,none,none,none,none,none,none] M))=_
 rw[hx0]
 unfold iP
 have s7:∀b:GS,ar (aI 7 (jX ag)) b [x0,some (.int row),x2,x3,some (.tup (s.book.map bP)),some (.tup (s.movers.map Mv.d)),x6,none,none,none,none,none,none,none] M=b [x0,some (.int row),x2,x3,some (.tup (s.book.map bP)),some (.tup (s.movers.map Mv.d)),x6,some (.mr M.length),none,none,none,none,none,none] (M++[.lst []]):=fun b=>ay (bT nw)
 have kf:jb (kY (aa (ae 5) ag)) (pS [(ej 8),(bO [9,10,11,12,13])]) fN [x0,some (.int row),x2,x3,some (.tup (s.book.map bP)),some (.tup (s.movers.map Mv.d)),x6,some (.mr M.length),none,none,none,none,none,none] (M++[.lst []])=_:=m7 (t:=⟨ju (s.movers.map Mv.d),none⟩) rfl ef
 rw[ay a1,s7,ay kf]
 exact rt
theorem By (h0:0≤way)(h1:way<4)(hn:n<rs.length) :
  kM [Oc rs,.int way,.int n] M=.ok (.tup ((m5 rs way n).map D.int)) M:=by
 have l2:(2:Nat)≤sizeLine:=aM (by decide)
 have hm:rs.length-1-n<rs.length:=by omega
 have a1:=wZ hn
 have a2:=wZ hm
 have e2:(rs.length:Int)-1-n=((rs.length-1-n:Nat):Int):=by omega
 have gd1:rs[n]?=some rs[n]:=List.getElem?_eq_getElem hn
 have gd2:rs[rs.length-1-n]?=some rs[rs.length-1-n]:=List.getElem?_eq_getElem hm
 have nn:¬((n:Int)<0):=by omega
 have nl:¬(rs.length≤n):=by omega
 have n1:¬(rs.length:Int)≤n:=by omega
 unfold kM nj m5
 rcases N1 h0 h1 with e|e|e|e <;> subst e <;> simp_arith [a1,a2,e2,l2,nn,nl,n1,gd1,gd2,List.map_reverse]
theorem Ah {n:Int}(ok:eJ mm s)(hn:n∈cz s row):gX [s.d,.int n,.int row] M=.ok (gW s row n) M:=by
 obtain⟨i,rfl,hi,m,gm,lz⟩:=qB hn
 have om:=ok.movers m (List.mem_of_getElem? gm)
 unfold xS at lz
 cases hs:m.shape with
 | none=>rw[hs] at lz;cases lz
 | some k=>
  rw[hs] at lz
  have hk:=om.s k hs
  have gb:s.book[k]?=some s.book[k]:=List.getElem?_eq_getElem hk
  have gd:s.book.getD k []=s.book[k]:=by rw[List.getD,gb];rfl
  have lz:(decide (m.y≤row)&&decide (row<m.y+((s.book.getD k []).length:Int)))=true:=lz
  rw[gd,Bool.and_eq_true,decide_eq_true_eq,decide_eq_true_eq] at lz
  have am:jL (s.movers.map Mv.d) (i:Int)=some m.d:=dU (by rw[List.getElem?_map,gm];rfl)
  have ab:jL (s.book.map bP) (k:Int)=some (Oc s.book[k]):=dU (by rw[List.getElem?_map,gb];rfl)
  obtain⟨r,hr⟩:=Int.eq_ofNat_of_zero_le (by omega:0≤row-m.y)
  have ls:=By (rs:=s.book[k]) (way:=m.turn) (n:=r) (M:=M) om.t.1 (by have:=om.t.2;omega) (by omega)
  have l4:(4:Nat)≤sizeLine:=aM (by decide)
  have es:gW s row (i:Int)=.tup [.int i,.int m.x,.int m.rank,.tup ((m5 s.book[k] m.turn r).map D.int)]:=by
   unfold gW
   rw[Int.toNat_natCast,gm]
   have:(row-m.y).toNat=r:=by omega
   simp only[hs,Option.getD_some,gd,this]
  rw[es]
  unfold gX jJ
  simp_arith [im.d,am,Mv.d,hs,ab,hr,ls,l4]
variable{g m:Int}
theorem zd {hh:Int}(ok:eJ mm s)(hw:1≤w∧w≤900) :
  iH [.tup [.int w,.int hh,.int g,.int m],s.d,.int row] M=.ok (.tup ((List.range w.toNat).map fun(x:Nat)=>D.int (gw s row x))) M:=by
 obtain⟨f1,f2,fw,f3,f4,f5⟩:=ok.floor
 have hfl:0≤(row+s.sy) % (s.floor.length:Int)∧(row+s.sy) % (s.floor.length:Int)<s.floor.length:=⟨Int.emod_nonneg _ (by omega),Int.emod_lt_of_pos _ (by omega)⟩
 obtain⟨r,hr⟩:=Int.eq_ofNat_of_zero_le hfl.1
 have hr2:r<s.floor.length:=by omega
 have er:bM s row=s.floor[r]:=by
  unfold bM
  rw[hr,Int.toNat_natCast,List.getD,List.getElem?_eq_getElem hr2];rfl
 have af:jL (s.floor.map fun r=>D.tup (r.map D.int)) ((row+s.sy) % (s.floor.length:Int))=some (.tup ((bM s row).map D.int)):=by rw[hr,er];exact wZ hr2
 obtain⟨lw,lk⟩:=f5 _ (List.getElem_mem hr2)
 rw[←er] at lw lk
 have ec:=fun ρ'=>kh (ds0:=bD 0 w.toNat) (ge:=g9) (ρ:=[some (.tup [.int w,.int hh,.int g,.int m]),some s.d,some (.int row),some (.int w),some (.int hh),some (.int g),some (.int m),some (bP s.floor),some (.int s.sx),some (.int s.sy),some (.tup (s.book.map bP)),some (.tup (s.movers.map Mv.d)),some (.tup (s.pots.map D.int)),some (.tup ((bM s row).map D.int))]++ρ')
  (f:=fun d=>match d with | .int x=>.int (gw s row x)|d=>d) (M:=M) (bD 0 w.toNat) (fun d hd=>by
   obtain⟨x,rfl,x0,x1⟩:=mW hd
   have hx:0≤(x+s.sx) % ((bM s row).length:Int)∧(x+s.sx) % ((bM s row).length:Int)<(bM s row).length:=⟨Int.emod_nonneg _ (by omega),Int.emod_lt_of_pos _ (by omega)⟩
   obtain⟨q,hq⟩:=Int.eq_ofNat_of_zero_le hx.1
   have hq2:q<(bM s row).length:=by omega
   have ai:jL ((bM s row).map D.int) ((x+s.sx) % ((bM s row).length:Int))=some (.int (gw s row x)):=by
    unfold gw
    rw[hq,Int.toNat_natCast,List.getD,List.getElem?_eq_getElem hq2]
    exact Gy hq2
   have lg:((bM s row).length).log2<9000:=by
    have:=aV (x:=((bM s row).length:Int)) (by omega) (by omega)
    simpa using this
   have nz:0<(bM s row).length:=by omega
   simp_arith [g9,ai,lg,nz])
 have em:(bD 0 w.toNat).map (fun d=>match d with | .int x=>.int (gw s row x)|d=>d)=(List.range w.toNat).map fun(x:Nat)=>D.int (gw s row x):=by
  unfold bD
  rw[List.map_map]
  apply List.map_congr_left
  intro x _
  simp
 rw[em] at ec
 have r1:=fun M=>kq (j:=w) (by omega) M
 have lg:(s.floor.length).log2<9000:=by
  have:=aV (x:=(s.floor.length:Int)) (by omega) (by omega)
  simpa using this
 have nz:0<s.floor.length:=by omega
 have lr:w.toNat≤sizeLine:=aM (by omega)
 have ec0:=ec []
 have erd:bP s.floor=.tup (s.floor.map fun r=>D.tup (r.map D.int)):=rfl
 unfold im.d at ec0 ⊢
 rw[List.append_nil,erd] at ec0
 rw[erd]
 unfold iH kW
 simp_arith [pS,mG,aW,lg,nz,af,r1,lr,ec0]
theorem BS {hh:Int}(ok:eJ mm s)(hm:mm≤900)(hM:fR M) :
  mj [.tup [.int w,.int hh,.int g,.int m],s.d,.int row] M=.ok (.lst (gG ((cz s row).map D.int) none (some m))) M:=by
 have e:=B9 (row:=row) ok hm hM
 unfold mj pb
 simp_arith [e]
theorem AJ {hh:Int}(ok:eJ mm s)(hm:mm≤900)(hw:1≤w∧w≤900)(hmo:0≤m∧m≤12)(hM:fR M) :
  nK [.tup [.int w,.int hh,.int g,.int m],s.d,.int row] M=.ok (gN s w m row) M:=by
 obtain⟨ys,ey,ly,qy⟩:=B0 (cz s row) none (some m)
 have ll:(cz s row).length≤900:=by
  have:=nF s row s.movers.length
  have:=ok.ml
  unfold cz
  omega
 have etk:qt s m row=ys.map (gW s row):=by unfold qt;rw[ey,List.map_map];rfl
 have ek:=BS (w:=w) (hh:=hh) (g:=g) (m:=m) (row:=row) ok hm hM
 rw[ey] at ek
 have ef:=zd (w:=w) (hh:=hh) (g:=g) (m:=m) (row:=row) (M:=M) ok hw
 have ec:=kh (ds0:=ys.map D.int) (ge:=nW) (ρ:=[some (.tup [.int w,.int hh,.int g,.int m]),some s.d,some (.int row),none])
  (f:=fun d=>match d with | .int n=>gW s row n|d=>d) (M:=M) (ys.map D.int) (fun d hd=>by
   obtain⟨n,hn,rfl⟩:=List.mem_map.mp hd
   have e:=Ah (M:=M) ok (qy n hn)
   simp_arith [nW,e])
 have em:(ys.map D.int).map (fun d=>match d with | .int n=>gW s row n|d=>d)=ys.map (gW s row):=by
  rw[List.map_map];rfl
 rw[em] at ec
 have l1:ys.length≤sizeLine:=aM (by omega)
 have l2:(2:Nat)≤sizeLine:=aM (by decide)
 unfold gN nK ve
 rw[etk]
 simp_arith [aW,ek,ef,ec,l1,l2]
structure Sn where
 n:Int
 x:Int
 r:Int
 ks:List Int
noncomputable def Sn.d (s:Sn):D:=.tup [.int s.n,.int s.x,.int s.r,.tup (s.ks.map D.int)]
noncomputable def dW (x:Int)(s:Sn):Int:=if s.x≤x∧x<s.x+(s.ks.length:Int) then s.ks.getD (x-s.x).toNat 0 else 0
noncomputable def gE (x:Int)(ss:List Sn):List Sn:=ss.filter fun s=>dW x s != 0
noncomputable def nk (x:Int)(s:Sn):D:=.tup [.int s.r,.int s.n,.int (dW x s)]
theorem ug (x:Int)(ss:List Sn):(gE x ss).length≤ss.length:=List.length_filter_le _ _
variable{ss:List Sn}
theorem Bu {s:Sn}(h:ss[j]?=some s):gE x (ss.take (j+1))=gE x (ss.take j)++(if dW x s=0 then [] else [s]):=by
 rw[List.take_succ,h]
 unfold gE
 rw[List.filter_append]
 congr 1
 by_cases hz:dW x s=0 <;> simp[hz]
theorem Ck {s:Sn}(h1:s.x≤x)(h2:x<s.x+(s.ks.length:Int)):∃i:Nat,x-s.x=i∧jL (s.ks.map D.int) (i:Int)=some (.int (dW x s)):=by
 obtain⟨i,hi⟩:=Int.eq_ofNat_of_zero_le (by omega:0≤x-s.x)
 have hl:i<s.ks.length:=by omega
 refine⟨i,hi,?_⟩
 have e:dW x s=s.ks[i]:=by
  unfold dW
  rw[if_pos ⟨h1,h2⟩,hi,Int.toNat_natCast,List.getD,List.getElem?_eq_getElem hl];rfl
 rw[e]
 exact dU (by simp[hl])
theorem zp {s:Sn}(h:¬(s.x≤x∧x<s.x+(s.ks.length:Int))):dW x s=0:=by unfold dW;rw[if_neg h]
theorem DV {f:Sn→D}(h:∀s,aR 29 (f s)=true)(l:List Sn):(l.map f).all (aR 29)=true:=by
 rw[List.all_eq_true]
 intro d hd
 obtain⟨s,_,e⟩:=List.mem_map.mp hd
 rw[←e];exact h s
theorem AA {x0 x2 x3:Option D}{s:Sn}{E:List D}(hE:E.length<1000) :
  fc [x0,some (.int x),x2,x3,some (.mr M.length),some (.int s.n),some (.int s.x),some (.int s.r),some (.tup (s.ks.map D.int))] (M++[.lst E]) =
   .ok (.nx [x0,some (.int x),x2,x3,some (.mr M.length),some (.int s.n),some (.int s.x),some (.int s.r),some (.tup (s.ks.map D.int))]) (M++[.lst (E++if dW x s=0 then [] else [nk x s])]):=by
 unfold fc
 have ln:aC a7 (aa (ae 8) ag) [x0,some (.int x),x2,x3,some (.mr M.length),some (.int s.n),some (.int s.x),some (.int s.r),some (.tup (s.ks.map D.int))] (M++[.lst E])=.ok (.int (s.ks.length:Int)) (M++[.lst E]):=by
  refine nA (a:=ae 8) (x:=.tup (s.ks.map D.int)) rfl ?_
  show bn.ok (D.int ((s.ks.map D.int).length:Int)) _=_
  rw[List.length_map]
 have c1:=aU (FX (a:=ae 6) (b:=ae 1) (ρ:=[x0,some (.int x),x2,x3,some (.mr M.length),some (.int s.n),some (.int s.x),some (.int s.r),some (.tup (s.ks.map D.int))]) (M:=M++[.lst E]) (x:=s.x) (y:=x) (z:=s.x+(s.ks.length:Int)) rfl rfl fun _=>aB (f:=bS) (a:=ae 6) (x:=.int s.x) rfl ln rfl)
 by_cases h:s.x≤x∧x<s.x+(s.ks.length:Int)
 ·obtain⟨i,hi,ai⟩:=Ck h.1 h.2
  have ix:g2 bi (ae 8) (g2 iF (ae 1) (ae 6)) [x0,some (.int x),x2,x3,some (.mr M.length),some (.int s.n),some (.int s.x),some (.int s.r),some (.tup (s.ks.map D.int))] (M++[.lst E])=.ok (.int (dW x s)) (M++[.lst E]):=by
   refine aB (f:=bi) (a:=ae 8) (x:=.tup (s.ks.map D.int)) (y:=.int (x-s.x)) rfl rfl ?_
   rw[hi]
   show(match jL (s.ks.map D.int) (i:Int) with|some d=>bn.ok d (M++[MO.lst E])|none=>.bad)=_
   rw[ai]
  have t:=bW c1 fun _=>aU (aB (f:=a9 true) ix (b:=gC (.int 0)) (y:=.int 0) rfl (nY (dW x s) 0 _))
  rw[decide_eq_true h.1,decide_eq_true h.2] at t
  by_cases hz:dW x s=0
  ·rw[decide_eq_true hz] at t
   rw[if_pos hz,List.append_nil]
   exact(cT t).trans rfl
  ·rw[decide_eq_false hz] at t
   rw[if_neg hz]
   exact(bH t).trans (cn (Dg (go:=ae 4) (d:=nk x s) rfl (jK (ds:=[.int s.r,.int s.n,.int (dW x s)]) (gR rfl (gR rfl (gR ix rfl))) (by simp)) (by omega)))
 ·have hz:=zp h
  have b:(decide (s.x≤x)&&decide (x<s.x+(s.ks.length:Int)))=false:=by
   rw[←Bool.decide_and]
   exact decide_eq_false h
  rw[b] at c1
  rw[if_pos hz,List.append_nil]
  exact(cT ((bW (y:=true) c1 fun z=>by cases z).trans rfl)).trans rfl
theorem xB {fl:D}(hs:ss.length≤900)(hM:fR M) :
  jf [.tup [fl,.tup (ss.map Sn.d)],.int x] M=.ok (.lst ((gE x ss).map (nk x))) M:=by
 obtain⟨ρ',M',⟨x5,x6,x7,x8,rfl,rfl⟩,ef⟩:=oM (ds0:=ss.map Sn.d) (s:=bO [5,6,7,8]) (body:=fc)
  (W:=fun i ρ N=>∃x5 x6 x7 x8,ρ=[some (.tup [fl,.tup (ss.map Sn.d)]),some (.int x),some fl,some (.tup (ss.map Sn.d)),some (.mr M.length),x5,x6,x7,x8]∧N=M++[.lst ((gE x (ss.take i)).map (nk x))])
  (ss.map Sn.d) 0 (fun j d hd ρ N hW=>by
   obtain⟨x5,x6,x7,x8,rfl,rfl⟩:=hW
   rw[Nat.zero_add]
   rw[List.getElem?_map] at hd
   cases gs:ss[j]? with
   | none=>rw[gs] at hd;cases hd
   | some s=>
   rw[gs] at hd
   cases hd
   rw[Bu gs]
   have ll:((gE x (ss.take j)).map (nk x)).length<1000:=by
    rw[List.length_map]
    exact Nat.lt_of_le_of_lt (ug x _) (by rw[List.length_take];omega)
   have e:=AA (x0:=some (.tup [fl,.tup (ss.map Sn.d)])) (x2:=some fl) (x3:=some (.tup (ss.map Sn.d))) (x:=x) (s:=s) (M:=M) ll
   refine⟨_,_,_,rfl,e,_,_,_,_,rfl,?_⟩
   rw[List.map_append]
   by_cases hz:dW x s=0
   ·rw[if_pos hz,if_pos hz];rfl
   ·rw[if_neg hz,if_neg hz];rfl)
  [some (.tup [fl,.tup (ss.map Sn.d)]),some (.int x),some fl,some (.tup (ss.map Sn.d)),some (.mr M.length),none,none,none,none] (M++[.lst []]) ⟨_,_,_,_,rfl,rfl⟩
 have e0:(0:Nat)+(ss.map Sn.d).length=ss.length:=by simp
 rw[e0,List.take_length] at ef
 have rt:=wL (M:=M) (xs:=(gE x ss).map (nk x)) (DV (fun _=>rfl) _) hM
 show iQ M.length (aQ (hX [some (.tup [fl,.tup (ss.map Sn.d)]),some (.int x),none,none,none,none,none,none,none] M))=_
 unfold hX
 have a1:en (bO [2,3]) (ae 0) [some (.tup [fl,.tup (ss.map Sn.d)]),some (.int x),none,none,none,none,none,none,none] M=.ok (.nx [some (.tup [fl,.tup (ss.map Sn.d)]),some (.int x),some fl,some (.tup (ss.map Sn.d)),none,none,none,none,none]) M:=rfl
 have s4:∀b:GS,ar (aI 4 (jX ag)) b [some (.tup [fl,.tup (ss.map Sn.d)]),some (.int x),some fl,some (.tup (ss.map Sn.d)),none,none,none,none,none] M=b [some (.tup [fl,.tup (ss.map Sn.d)]),some (.int x),some fl,some (.tup (ss.map Sn.d)),some (.mr M.length),none,none,none,none] (M++[.lst []]):=fun b=>ay (bT nw)
 have kf:jb (bJ (ae 3)) (bO [5,6,7,8]) fc [some (.tup [fl,.tup (ss.map Sn.d)]),some (.int x),some fl,some (.tup (ss.map Sn.d)),some (.mr M.length),none,none,none,none] (M++[.lst []])=_:=m7 (t:=⟨ss.map Sn.d,none⟩) (f9 rfl) ef
 rw[ay a1,s4,ay kf]
 exact rt
noncomputable def JF (a b:Sn):Prop:=b.r<a.r∨(a.r=b.r∧a.n≤b.n)
theorem C7 {s:Sn}:xg 0 cK [nk x s] M=.ok (.tup [.int (-s.r),.int s.n]) M:=by
 have l2:(2:Nat)≤sizeLine:=aM (by decide)
 have a0:∀a b c:D,jL [a,b,c] 0=some a:=fun _ _ _=>rfl
 have a1:∀a b c:D,jL [a,b,c] 1=some b:=fun _ _ _=>rfl
 simp_arith [cK,nk,a0,a1,l2]
theorem J2 (a b c d:Int):HT.lexLt [a,b] [c,d]=decide (a<c∨(a=c∧b<d)):=by
 by_cases h1:a<c <;> by_cases h2:a=c <;> by_cases h3:b<d <;> simp[HT.lexLt,h1,h2,h3] <;> omega
theorem Ek (b:Sn):∀s∈[b],JF b s:=fun s hs=>by
 rcases List.mem_cons.mp hs with z|z
 ·subst z;exact .inr ⟨rfl,Int.le_refl _⟩
 ·cases z
theorem wU {x:Int}{M:aA}:∀(cs:List Sn) (b:Sn),∃b',b'∈b::cs∧(∀s∈b::cs,JF b' s)∧pJ (xg 0 cK) (cs.map (nk x)) (nk x b) [-b.r,b.n] M=.ok (nk x b') M
 | [],b=>⟨b,List.mem_cons_self ..,Ek b,rfl⟩
 | s::r,b=>by
  have hk:=C7 (x:=x) (s:=s) (M:=M)
  have hi:sX (.tup [.int (-s.r),.int s.n])=some [-s.r,s.n]:=rfl
  by_cases h:-s.r < -b.r∨(-s.r=-b.r∧s.n<b.n)
  ·obtain⟨b',h1,h2,h3⟩:=wU (x:=x) (M:=M) r s
   refine⟨b',List.mem_cons_of_mem _ h1,fun t ht=>?_,?_⟩
   ·rcases List.mem_cons.mp ht with z|z
    ·subst z
     have:=h2 s (List.mem_cons_self ..)
     unfold JF at *
     omega
    ·exact h2 t z
   ·rw[List.map_cons]
    unfold pJ
    rw[hk]
    dsimp only
    rw[hi]
    dsimp only
    rw[J2,if_pos (decide_eq_true h)]
    exact h3
  ·obtain⟨b',h1,h2,h3⟩:=wU (x:=x) (M:=M) r b
   have hb:=h2 b (List.mem_cons_self ..)
   refine⟨b',?_,fun t ht=>?_,?_⟩
   ·rcases List.mem_cons.mp h1 with z|z
    ·exact z▸List.mem_cons_self ..
    ·exact List.mem_cons_of_mem _ (List.mem_cons_of_mem _ z)
   ·rcases List.mem_cons.mp ht with z|z
    ·exact z▸hb
    ·rcases List.mem_cons.mp z with z|z
     ·subst z
      unfold JF at *
      omega
     ·exact h2 t (List.mem_cons_of_mem _ z)
   ·rw[List.map_cons]
    unfold pJ
    rw[hk]
    dsimp only
    rw[hi]
    dsimp only
    rw[J2,if_neg (by simpa using h)]
    exact h3
variable{cs:List Sn}
theorem CO {fl:Int}:(cs=[]∧bY [.int fl,.lst (cs.map (nk x))] M=.ok (.int fl) M)∨
  ∃b∈cs,(∀s∈cs,JF b s)∧bY [.int fl,.lst (cs.map (nk x))] M=.ok (.int (if 1≤b.r∨fl=0 then dW x b else fl)) M:=by
 cases cs with
 | nil=>
  refine .inl ⟨rfl,?_⟩
  unfold bY fO
  simp_arith [ao]
 | cons s r=>
  obtain⟨b,h1,h2,h3⟩:=wU (x:=x) (M:=M) r s
  refine .inr ⟨b,h1,h2,?_⟩
  have hk:=C7 (x:=x) (s:=s) (M:=M)
  have hm:o9 (xg 0 cK) (nk x s::r.map (nk x)) M=.ok (nk x b) M:=by
   unfold o9
   dsimp only
   rw[hk]
   exact h3
  have hg:∀ρ,pH (xg 0 cK) (ae 1) (some (.int fl)::some (.lst (nk x s::r.map (nk x)))::ρ) M=.ok (.tup [.int b.r,.int b.n,.int (dW x b)]) M:=fun ρ=>by
   show o9 (xg 0 cK) (nk x s::r.map (nk x)) M=_
   exact hm
  rw[List.map_cons]
  by_cases q1:1≤b.r
  ·unfold bY fO
   simp[ar,cJ,bF,xD,en,bO,k9,uj,aX,ka,aQ,aJ,aH,F6,dh,DL.g2,wO,ae,gC,aD,hg,q1,ao]
  ·by_cases q2:fl=0
   ·subst q2
    unfold bY fO
    simp[ar,cJ,bF,xD,en,bO,k9,uj,aX,ka,aQ,aJ,aH,F6,dh,DL.g2,wO,ae,gC,aD,hg,q1,a9,now,aF,jd,ao]
   ·unfold bY fO
    simp[ar,cJ,bF,xD,en,bO,k9,uj,aX,ka,aQ,aJ,aH,F6,dh,DL.g2,wO,ae,gC,aD,hg,q1,q2,a9,now,aF,jd,ao]
noncomputable def aE (lo hi:Int):D→Bool
 | .int i=>decide (lo≤i)&&decide (i≤hi)
 | _=>false
noncomputable def my (d:D):Prop:=∃t,Jb d=some t
theorem dQ {d:D}{lo hi:Int}(h:my d):bK [d,.int lo,.int hi] M=.ok (.bl (aE lo hi d)) M:=by
 obtain⟨t,ht⟩:=h
 have w:kS [d] M=.ok (.bl (match d with | .int _=>true|_=>false)) M:=by
  unfold kS m9
  cases d <;> first|(simp_arith [ao];done)|cases ht
 unfold bK lJ
 cases d with
 | int i=>
  by_cases h0:lo≤i
  ·simp_arith [w,aE,h0]
  ·simp_arith [w,aE,h0]
 | _=>simp_arith [w,aE]
theorem sH {p:D→Bool}:∀xs:List D,d9 (xs.map fun d=>D.bl (p d))=some (xs.map p)
 | []=>rfl
 | x::xs=>by
  show(d9 (xs.map fun d=>D.bl (p d))).map (p x::·)=_
  rw[sH xs]
  rfl
theorem Jt {α:Type}(p:α→Bool)(xs:List α):(xs.map p).all id=xs.all p:=by rw[List.all_map];rfl
variable{xs:List D}
theorem yV (h:∀x∈xs,my x)(hl:xs.length≤3000):cg [.tup xs] M=.ok (.bl (decide (xs.length=2)&&xs.all (aE (-1000) 1000))) M:=by
 have c:=kh (ds0:=xs) (ge:=e9) (ρ:=[some (.tup xs)]) (f:=fun d=>D.bl (aE (-1000) 1000 d)) (M:=M) xs fun d hd=>by
  simp_arith [e9,dQ (h d hd)]
 have l1:xs.length≤sizeLine:=aM (by omega)
 have bm:=sH (p:=aE (-1000) 1000) xs
 have ai:=Jt (aE (-1000) 1000) xs
 have e2:((xs.length:Int)=2)=(xs.length=2):=by simp;omega
 unfold cg dJ
 by_cases h2:xs.length=2
 ·have h2':((xs.length:Int)==2)=true:=by simp;omega
  have l2:(2:Nat)≤sizeLine:=aM (by decide)
  simp_arith [aW,a9,c,l1,bm,ai,h2,h2',l2]
 ·have h2':((xs.length:Int)==2)=false:=by simp;omega
  simp_arith [aW,a9,c,l1,bm,ai,h2,h2']
theorem IM {d:D}(h:my d):nQ [d] M=.ok (.bl (aE 0 15 d)) M:=by
 unfold nQ qF
 simp_arith [dQ h]
theorem Ie {d:D}(h:my d):oq [d] M=.ok (.bl (aE 0 63 d)) M:=by
 unfold oq qQ
 simp_arith [dQ h]
theorem yD {d:D}(h:my d):l0 [d] M=.ok (.bl (aE 0 3 d)) M:=by
 unfold l0 ox
 simp_arith [dQ h]
theorem zI {d:D}(h:my d):mw [d] M=.ok (.bl (aE 0 3 d)) M:=by
 unfold mw oG
 simp_arith [dQ h]
noncomputable def xJ (n:Nat):D→Bool
 | .non=>true
 | d=>aE 0 ((n:Int)-1) d
variable{bk:List D}
theorem zX {d:D}(h:my d):d7 [.tup bk,d] M=.ok (.bl (xJ bk.length d)) M:=by
 have w:=dQ (lo:=0) (hi:=(bk.length:Int)-1) (M:=M) h
 obtain⟨t,ht⟩:=h
 unfold d7 gu
 cases d with
 | non=>simp_arith [xJ]
 | any=>cases ht
 | mr _=>cases ht
 | exc _=>cases ht
 | _=>simp_arith [xJ,w]
noncomputable def o8:D→Bool
 | .tup xs=>xs.all (aE 0 15)
 | _=>false
noncomputable def lx:D→Nat
 | .tup xs=>xs.length
 | _=>0
noncomputable def cU (most:Int):D→Bool
 | .tup rows=>(decide (1≤rows.length)&&decide ((rows.length:Int)≤most))&&(rows.all o8&&((decide (1≤lx (rows.getD 0 .non))&&decide ((lx (rows.getD 0 .non):Int)≤most))&&rows.all fun r=>decide (lx r=lx (rows.getD 0 .non))))
 | _=>false
noncomputable def dS:Nat→D→Prop
 | 0,d=>my d
 | n+1,d=>my d∧∀xs,d=.tup xs→xs.length≤3000∧∀x∈xs,dS n x
theorem dS.ty:∀{n:Nat} {d:D},dS n d→my d
 | 0,_,h=>h
 | _+1,_,h=>h.1
theorem dS.down:∀{n:Nat} {d:D},dS (n+1) d→dS n d
 | 0,_,h=>h.1
 | _+1,_,h=>⟨h.1,fun xs e=>⟨(h.2 xs e).1,fun x hx=>((h.2 xs e).2 x hx).down⟩⟩
noncomputable def bq:D→Bool
 | .tup _=>true
 | _=>false
theorem jC {d:D}(h:bq d=true):∃y,d=.tup y:=by cases d <;> first|exact⟨_,rfl⟩|(cases h)
variable{i:Nat}
theorem dB {d:D}(h:my d)(hv:ae i ρ M=.ok d M):cE "tuple" (ae i) ρ M=.ok (.bl (bq d)) M:=by
 obtain⟨t,ht⟩:=h
 unfold cE
 rw[hv,ao]
 cases d <;> first|(simp[Dm,Jb,wk,bq];done)|cases ht
theorem zm {d:D}(h:dS 1 d):kA [d] M=.ok (.bl (o8 d)) M:=by
 have g1:=dB (i:=0) (ρ:=[some d]) (M:=M) h.1 rfl
 show aQ (iB [some d] M)=_
 unfold iB
 cases d with
 | tup xs=>
  have hx:=h.2 xs rfl
  have a:=fj (ge:=hU) (p:=aE 0 15) (f9 (i:=0) (ρ:=[some (.tup xs)]) (M:=M) rfl) (by omega) fun x hm=>by
   unfold hU
   exact eL (x:=x) rfl (IM (hx.2 x hm))
  rw[b9 (cw g1 fun _=>a)];rfl
 | _=>rw[b9 (cw (y:=false) g1 fun z=>by cases z)];rfl
theorem vP {d:D}(h:dS 2 d):gk [d,.int most] M=.ok (.bl (cU most d)) M:=by
 have g1:=dB (i:=0) (ρ:=[some d,some (.int most),none]) (M:=M) h.1 rfl
 show aQ (fY [some d,some (.int most),none] M)=_
 unfold fY
 cases ht:bq d with
 | false=>
  rw[ht] at g1
  rw[bh ((bH (ce (y:=false) (aS (bg g1)) fun z=>by cases z)).trans rfl)]
  clear g1
  revert h ht
  cases d <;> intro h ht <;> first|rfl|(cases ht)
 | true=>
  obtain⟨rows,rfl⟩:=jC ht
  have hx:=h.2 rows rfl
  have ln:aC a7 (aa (ae 0) ag) [some (.tup rows),some (.int most),none] M=.ok (.int rows.length) M:=rfl
  have ch:nu lq lq (gC (.int 1)) (aC a7 (aa (ae 0) ag)) (ae 1) [some (.tup rows),some (.int most),none] M=.ok (.bl (decide (1≤rows.length)&&decide ((rows.length:Int)≤most))) M:=by
   unfold nu
   show((bn.ok (D.int 1) M).bind _)=_
   rw[ao,ln,ao]
   show((bn.ok (D.bl (decide ((1:Int)≤rows.length))) M).bind _)=_
   rw[ao]
   by_cases k:1≤rows.length
   ·have k':(1:Int)≤rows.length:=by omega
    rw[decide_eq_true k,decide_eq_true k'];rfl
   ·have k':¬(1:Int)≤rows.length:=by omega
    rw[decide_eq_false k,decide_eq_false k'];rfl
  have t1:=ce (aS (bg g1)) fun _=>aS (aU ch)
  by_cases k:1≤rows.length∧(rows.length:Int)≤most
  ·have hk:(decide (1≤rows.length)&&decide ((rows.length:Int)≤most))=true:=by simp[k.1,k.2]
   rw[hk] at t1
   rw[ay ((cT t1).trans rfl)]
   have a:=fj (ge:=fH) (p:=o8) (f9 (i:=0) (ρ:=[some (.tup rows),some (.int most),none]) (M:=M) rfl) (by omega) fun x hm=>by
    unfold fH
    exact eL (x:=x) rfl (zm (hx.2 x hm))
   cases ha:rows.all o8 with
   | false=>
    rw[ha] at a
    have e:cU most (.tup rows)=false:=by simp[cU,ha]
    rw[bh ((bH (aS (bg a))).trans rfl),e];rfl
   | true=>
    rw[ha] at a
    rw[ay ((cT (aS (bg a))).trans rfl)]
    cases rows with
    | nil=>exact absurd k.1 (by simp)
    | cons r0 rs=>
     have hr:=List.all_eq_true.mp ha
     obtain⟨x0,e0⟩:∃x0,r0=.tup x0:=by
      have:=hr r0 List.mem_cons_self
      cases r0 <;> first|exact⟨_,rfl⟩|cases this
     subst e0
     have s2:aC a7 (aa (g2 bi (ae 0) (gC (.int 0))) ag) [some (.tup (.tup x0::rs)),some (.int most),none] M=.ok (.int x0.length) M:=
      nA (x:=.tup x0) (aB rfl rfl (cV (k:=0) rfl)) rfl
     rw[ay (bT s2)]
     have b:=fj (ge:=dG) (p:=fun r=>decide (lx r=x0.length)) (f9 (i:=0) (ρ:=[some (.tup (.tup x0::rs)),some (.int most),some (.int x0.length)]) (M:=M) rfl) (by omega) fun x hm=>by
      obtain⟨y,ey⟩:∃y,x=.tup y:=by
       have:=hr x hm
       cases x <;> first|exact⟨_,rfl⟩|cases this
      subst ey
      unfold dG
      refine aB (x:=.int y.length) (y:=.int x0.length) rfl rfl ((fU _ _ _).trans ?_)
      congr 2
      exact decide_eq_decide.mpr (by show _↔y.length=_;omega)
     have ch2:nu lq lq (gC (.int 1)) (ae 2) (ae 1) [some (.tup (.tup x0::rs)),some (.int most),some (.int x0.length)] M=.ok (.bl (decide (1≤x0.length)&&decide ((x0.length:Int)≤most))) M:=by
      unfold nu
      show((bn.ok (D.int 1) M).bind _)=_
      rw[ao]
      show((bn.ok (D.int x0.length) M).bind _)=_
      rw[ao]
      show((bn.ok (D.bl (decide ((1:Int)≤x0.length))) M).bind _)=_
      rw[ao]
      by_cases k:1≤x0.length
      ·have k':(1:Int)≤x0.length:=by omega
       rw[decide_eq_true k,decide_eq_true k'];rfl
      ·have k':¬(1:Int)≤x0.length:=by omega
       rw[decide_eq_false k,decide_eq_false k'];rfl
     have f:=b9 (cw ch2 fun _=>b)
     have e:cU most (.tup (.tup x0::rs))=((decide (1≤x0.length)&&decide ((x0.length:Int)≤most))&&(D.tup x0::rs).all fun r=>decide (lx r=x0.length)):=by
      show((decide (1≤(D.tup x0::rs).length)&&decide (((D.tup x0::rs).length:Int)≤most))&&((D.tup x0::rs).all o8&&_))=_
      rw[hk,ha];rfl
     rw[e]
     show aQ (aJ (fz (nu lq lq (gC (.int 1)) (ae 2) (ae 1)) (aC fh (aa (aW (bJ (ae 0)) bU dG aL) ag))) [some (.tup (.tup x0::rs)),some (.int most),some (.int x0.length)] M)=_
     rw[f];rfl
  ·have hk:(decide (1≤rows.length)&&decide ((rows.length:Int)≤most))=false:=by
    by_cases k1:1≤rows.length
    ·have:¬(rows.length:Int)≤most:=fun z=>k ⟨k1,z⟩
     simp[this]
    ·simp[k1]
   rw[hk] at t1
   have e:cU most (.tup rows)=false:=by
    show((decide (1≤rows.length)&&decide ((rows.length:Int)≤most))&&_)=false
    rw[hk];rfl
   rw[bh ((bH t1).trans rfl),e];rfl
theorem xH {d:D}(h:dS 2 d):mO [d] M=.ok (.bl (cU 8 d)) M:=by
 show aQ (kK [some d] M)=_
 unfold kK
 rw[b9 (eh (x:=d) (y:=.int 8) rfl rfl (vP h))];rfl
noncomputable def qN:D→Bool
 | .tup xs=>decide (xs.length≤8)&&xs.all (cU 8)
 | _=>false
theorem zr {d:D}(h:dS 3 d):oZ [d] M=.ok (.bl (qN d)) M:=by
 have g1:=dB (i:=0) (ρ:=[some d]) (M:=M) h.1 rfl
 show aQ (mf [some d] M)=_
 unfold mf
 cases d with
 | tup xs=>
  have hx:=h.2 xs rfl
  have l:g2 lq (aC a7 (aa (ae 0) ag)) (gC (.int 8)) [some (.tup xs)] M=.ok (.bl (decide (xs.length≤8))) M:=by
   show bn.ok (D.bl (decide ((xs.length:Int)≤8))) M=_
   congr 2
   exact decide_eq_decide.mpr (by omega)
  have a:=fj (ge:=kR) (p:=cU 8) (f9 (i:=0) (ρ:=[some (.tup xs)]) (M:=M) rfl) (by omega) fun x hm=>by
   unfold kR
   exact eL (x:=x) rfl (xH (hx.2 x hm))
  rw[b9 (cw g1 fun _=>cw l fun _=>a)];rfl
 | _=>rw[b9 (cw (y:=false) g1 fun z=>by cases z)];rfl
noncomputable def tP:D→Bool
 | .tup xs=>decide (xs.length=2)&&xs.all (aE (-1000) 1000)
 | _=>false
theorem Em {d:D}(h:my d)(ht:bq d=false):cg [d] M=.ok (.bl false) M:=by
 have g1:=dB (i:=0) (ρ:=[some d]) (M:=M) h rfl
 rw[ht] at g1
 show aQ (dJ [some d] M)=_
 unfold dJ
 rw[b9 (cw (y:=false) g1 fun z=>by cases z)];rfl
theorem Ao {d:D}(h:dS 1 d):cg [d] M=.ok (.bl (tP d)) M:=by
 cases d with
 | tup xs=>exact yV (fun x hx=>((h.2 xs rfl).2 x hx)) (h.2 xs rfl).1
 | _=>exact Em h.1 rfl
noncomputable def jA (nb:Nat):D→Bool
 | .tup [s,x,y,r,t]=>xJ nb s&&((aE (-1000) 1000 x&&aE (-1000) 1000 y)&&(aE 0 3 r&&aE 0 3 t))
 | _=>false
theorem xm {d:D}(h:dS 1 d):nh [.tup bk,d] M=.ok (.bl (jA bk.length d)) M:=by
 have g1:=dB (i:=1) (ρ:=[some (.tup bk),some d,none,none,none,none,none]) (M:=M) h.1 rfl
 show aQ (kH [some (.tup bk),some d,none,none,none,none,none] M)=_
 unfold kH
 cases ht:bq d with
 | false=>
  rw[ht] at g1
  rw[bh ((bH (ce (y:=false) (aS (bg g1)) fun z=>by cases z)).trans rfl)]
  clear g1
  revert h ht
  cases d <;> intro h ht <;> first|rfl|(cases ht)
 | true=>
  obtain⟨xs,rfl⟩:=jC ht
  have hx:=h.2 xs rfl
  have ne:g2 (a9 true) (aC a7 (aa (ae 1) ag)) (gC (.int 5)) [some (.tup bk),some (.tup xs),none,none,none,none,none] M=.ok (.bl (!decide ((xs.length:Int)=5))) M:=aB (x:=.int xs.length) (y:=.int 5) rfl rfl (nY _ _ _)
  have t1:=ce (aS (bg g1)) fun _=>aU ne
  match xs,hx,t1 with
  | [s,x,y,r,t],hx,t1=>
   rw[ay ((cT t1).trans rfl)]
   have q:∀z∈[s,x,y,r,t],my z:=fun z hz=>hx.2 z hz
   have k1:=zX (bk:=bk) (M:=M) (q s (by simp))
   have k2:=yV (xs:=[x,y]) (M:=M) (fun z hz=>q z (by rcases List.mem_cons.mp hz with h|h <;> simp_all)) (by simp)
   have k3:=yD (M:=M) (q r (by simp))
   have k4:=zI (M:=M) (q t (by simp))
   have two:(2:Nat)≤sizeLine:=aM (by decide)
   have asg:en (bO [2,3,4,5,6]) (ae 1) [some (.tup bk),some (.tup [s,x,y,r,t]),none,none,none,none,none] M=.ok (.nx [some (.tup bk),some (.tup [s,x,y,r,t]),some s,some x,some y,some r,some t]) M:=rfl
   rw[ay asg]
   have tp2:aP (aa (ae 3) (aa (ae 4) ag)) [some (.tup bk),some (.tup [s,x,y,r,t]),some s,some x,some y,some r,some t] M=.ok (.tup [x,y]) M:=by
    show(if [x,y].length≤sizeLine then bn.ok (D.tup [x,y]) M else .bad)=_
    rw[if_pos (show [x,y].length≤sizeLine from two)]
   rw[b9 (cw (eh (x:=.tup bk) (y:=s) rfl rfl k1) fun _=>cw (eL tp2 k2) fun _=>cw (eL (x:=r) rfl k3) fun _=>eL (x:=t) rfl k4)]
   show bn.ok (D.bl _) M=_
   unfold jA
   simp
  | [],_,t1=>rw[bh ((bH t1).trans rfl)];rfl
  | [_],_,t1=>rw[bh ((bH t1).trans rfl)];rfl
  | [_,_],_,t1=>rw[bh ((bH t1).trans rfl)];rfl
  | [_,_,_],_,t1=>rw[bh ((bH t1).trans rfl)];rfl
  | [_,_,_,_],_,t1=>rw[bh ((bH t1).trans rfl)];rfl
  | _::_::_::_::_::_::r,_,t1=>
   have z:(!decide (((r.length+1+1+1+1+1+1:Nat):Int)=5))=true:=by simp;omega
   simp only[List.length_cons] at t1
   rw[z] at t1
   rw[bh ((bH t1).trans rfl)];rfl
noncomputable def ma (nb:Nat):D→Bool
 | .tup xs=>decide (xs.length≤12)&&xs.all (jA nb)
 | _=>false
theorem uh {d:D}(h:dS 2 d):kJ [.tup bk,d] M=.ok (.bl (ma bk.length d)) M:=by
 have g1:=dB (i:=1) (ρ:=[some (.tup bk),some d]) (M:=M) h.1 rfl
 show aQ (iJ [some (.tup bk),some d] M)=_
 unfold iJ
 cases d with
 | tup xs=>
  have hx:=h.2 xs rfl
  have l:g2 lq (aC a7 (aa (ae 1) ag)) (gC (.int 12)) [some (.tup bk),some (.tup xs)] M=.ok (.bl (decide (xs.length≤12))) M:=by
   show bn.ok (D.bl (decide ((xs.length:Int)≤12))) M=_
   congr 2
   exact decide_eq_decide.mpr (by omega)
  have a:=fj (ge:=gZ) (p:=jA bk.length) (f9 (i:=1) (ρ:=[some (.tup bk),some (.tup xs)]) (M:=M) rfl) (by omega) fun x hm=>by
   unfold gZ
   exact eh (x:=.tup bk) (y:=x) rfl rfl (xm (hx.2 x hm))
  rw[b9 (cw g1 fun _=>cw l fun _=>a)];rfl
 | _=>rw[b9 (cw (y:=false) g1 fun z=>by cases z)];rfl
noncomputable def sU:D→Bool
 | .tup xs=>decide (xs.length=16)&&xs.all (aE 0 63)
 | _=>false
theorem yg {d:D}(h:dS 1 d):mJ [d] M=.ok (.bl (sU d)) M:=by
 have g1:=dB (i:=0) (ρ:=[some d]) (M:=M) h.1 rfl
 show aQ (ku [some d] M)=_
 unfold ku
 cases d with
 | tup xs=>
  have hx:=h.2 xs rfl
  have l:g2 (a9 false) (aC a7 (aa (ae 0) ag)) (gC (.int 16)) [some (.tup xs)] M=.ok (.bl (decide (xs.length=16))) M:=by
   refine(aB (x:=.int xs.length) (y:=.int 16) rfl rfl (fU _ _ _)).trans ?_
   congr 2
   exact decide_eq_decide.mpr (by omega)
  have a:=fj (ge:=jy) (p:=aE 0 63) (f9 (i:=0) (ρ:=[some (.tup xs)]) (M:=M) rfl) (by omega) fun x hm=>by
   unfold jy
   exact eL (x:=x) rfl (Ie (hx.2 x hm))
  rw[b9 (cw g1 fun _=>cw l fun _=>a)];rfl
 | _=>rw[b9 (cw (y:=false) g1 fun z=>by cases z)];rfl
noncomputable def ba:D→Bool
 | .tup [f,s,b,m,p]=>(cU 16 f&&(tP s&&sU p))&&(qN b&&ma (lx b) m)
 | _=>false
theorem Ac {d:D}(h:qN d=true):∃b,d=.tup b:=by
 cases d <;> first|exact⟨_,rfl⟩|cases h
theorem mY {d:D}(h:dS 4 d):gQ [d] M=.ok (.bl (ba d)) M:=by
 have g1:=dB (i:=0) (ρ:=[some d,none,none,none,none,none]) (M:=M) h.1 rfl
 show aQ (kD [some d,none,none,none,none,none] M)=_
 unfold kD
 cases ht:bq d with
 | false=>
  rw[ht] at g1
  rw[bh ((bH (ce (y:=false) (aS (bg g1)) fun z=>by cases z)).trans rfl)]
  clear g1
  revert h ht
  cases d <;> intro h ht <;> first|rfl|(cases ht)
 | true=>
  obtain⟨xs,rfl⟩:=jC ht
  have hx:=h.2 xs rfl
  have ne:g2 (a9 true) (aC a7 (aa (ae 0) ag)) (gC (.int 5)) [some (.tup xs),none,none,none,none,none] M=.ok (.bl (!decide ((xs.length:Int)=5))) M:=aB (x:=.int xs.length) (y:=.int 5) rfl rfl (nY _ _ _)
  have t1:=ce (aS (bg g1)) fun _=>aU ne
  match xs,hx,t1 with
  | [f,s,b,m,p],hx,t1=>
   rw[ay ((cT t1).trans rfl)]
   have q:∀z∈[f,s,b,m,p],dS 3 z:=fun z hz=>hx.2 z hz
   have k1:=vP (most:=16) (M:=M) (q f (by simp)).down
   have k2:=Ao (M:=M) (q s (by simp)).down.down
   have k3:=yg (M:=M) (q p (by simp)).down.down
   have k4:=zr (M:=M) (q b (by simp))
   have asg:en (bO [1,2,3,4,5]) (ae 0) [some (.tup [f,s,b,m,p]),none,none,none,none,none] M=.ok (.nx [some (.tup [f,s,b,m,p]),some f,some s,some b,some m,some p]) M:=rfl
   rw[ay asg]
   have t2:=aS (bW (bg (eh (ρ:=[some (.tup [f,s,b,m,p]),some f,some s,some b,some m,some p]) (a:=ae 1) (b:=gC (.int 16)) rfl rfl k1)) fun _=>bW (bg (eL (a:=ae 2) rfl k2)) fun _=>bg (eL (a:=ae 5) rfl k3))
   cases hk:(cU 16 f&&(tP s&&sU p)) with
   | false=>
    rw[hk] at t2
    rw[bh ((bH t2).trans rfl)]
    have e:ba (.tup [f,s,b,m,p])=false:=by
     simp[ba,hk]
    rw[e];rfl
   | true=>
    rw[hk] at t2
    rw[ay ((cT t2).trans rfl)]
    cases hb:qN b with
    | false=>
     rw[hb] at k4
     rw[b9 (cw (y:=false) (eL (a:=ae 3) rfl k4) fun z=>by cases z)]
     have e:ba (.tup [f,s,b,m,p])=false:=by
      simp[ba,hb]
     rw[e];rfl
    | true=>
     obtain⟨bs,rfl⟩:=Ac hb
     have k5:=uh (bk:=bs) (M:=M) (q m (by simp)).down
     rw[hb] at k4
     rw[b9 (cw (eL (a:=ae 3) rfl k4) fun _=>eh (a:=ae 3) (b:=ae 4) rfl rfl k5)]
     have e:ba (.tup [f,s,.tup bs,m,p])=ma bs.length m:=by
      simp[ba,hk,hb,lx]
     rw[e];rfl
  | [],_,t1=>rw[bh ((bH t1).trans rfl)];rfl
  | [_],_,t1=>rw[bh ((bH t1).trans rfl)];rfl
  | [_,_],_,t1=>rw[bh ((bH t1).trans rfl)];rfl
  | [_,_,_],_,t1=>rw[bh ((bH t1).trans rfl)];rfl
  | [_,_,_,_],_,t1=>rw[bh ((bH t1).trans rfl)];rfl
  | _::_::_::_::_::_::r,_,t1=>
   have z:(!decide (((r.length+1+1+1+1+1+1:Nat):Int)=5))=true:=by simp;omega
   simp only[List.length_cons] at t1
   rw[z] at t1
   rw[bh ((bH t1).trans rfl)];rfl
theorem kj {lo hi i:Int}(h:lo≤i∧i≤hi):aE lo hi (.int i)=true:=by simp[aE,h.1,h.2]
theorem dS.int {i:Int}:dS n (.int i):=by
 cases n with
 | zero=>exact⟨_,rfl⟩
 | succ n=>exact⟨⟨_,rfl⟩,fun xs e=>by cases e⟩
theorem dS.tup (hl:xs.length≤3000)(h:∀x∈xs,dS n x):dS (n+1) (.tup xs):=
 ⟨⟨_,rfl⟩,fun ys e=>by cases e;exact⟨hl,h⟩⟩
noncomputable def va:D→Bool
 | .tup [w,h,g,m]=>aE 1 40 w&&(aE 1 40 h&&(aE 0 20 g&&aE 0 12 m))
 | _=>false
theorem rB {d:D}(h:dS 1 d):m8 [d] M=.ok (.bl (va d)) M:=by
 have g1:=dB (i:=0) (ρ:=[some d,none,none,none,none]) (M:=M) h.1 rfl
 show aQ (kN [some d,none,none,none,none] M)=_
 unfold kN
 cases ht:bq d with
 | false=>
  rw[ht] at g1
  rw[bh ((bH (ce (y:=false) (aS (bg g1)) fun z=>by cases z)).trans rfl)]
  clear g1
  revert h ht
  cases d <;> intro h ht <;> first|rfl|(cases ht)
 | true=>
  obtain⟨xs,rfl⟩:=jC ht
  have hx:=h.2 xs rfl
  have ne:g2 (a9 true) (aC a7 (aa (ae 0) ag)) (gC (.int 4)) [some (.tup xs),none,none,none,none] M=.ok (.bl (!decide ((xs.length:Int)=4))) M:=aB (x:=.int xs.length) (y:=.int 4) rfl rfl (nY _ _ _)
  have t1:=ce (aS (bg g1)) fun _=>aU ne
  match xs,hx,t1 with
  | [w,h,g,m],hx,t1=>
   rw[ay ((cT t1).trans rfl)]
   have q:∀z∈[w,h,g,m],my z:=fun z hz=>hx.2 z hz
   have k1:=dQ (lo:=1) (hi:=40) (M:=M) (q w (by simp))
   have k2:=dQ (lo:=1) (hi:=40) (M:=M) (q h (by simp))
   have k3:=dQ (lo:=0) (hi:=20) (M:=M) (q g (by simp))
   have k4:=dQ (lo:=0) (hi:=12) (M:=M) (q m (by simp))
   have asg:en (bO [1,2,3,4]) (ae 0) [some (.tup [w,h,g,m]),none,none,none,none] M=.ok (.nx [some (.tup [w,h,g,m]),some w,some h,some g,some m]) M:=rfl
   rw[ay asg]
   rw[b9 (cw (dX (x:=w) (y:=.int 1) (z:=.int 40) rfl rfl rfl k1) fun _=>cw (dX (x:=h) (y:=.int 1) (z:=.int 40) rfl rfl rfl k2) fun _=>cw (dX (x:=g) (y:=.int 0) (z:=.int 20) rfl rfl rfl k3) fun _=>dX (x:=m) (y:=.int 0) (z:=.int 12) rfl rfl rfl k4)]
   rfl
  | [],_,t1=>rw[bh ((bH t1).trans rfl)];rfl
  | [_],_,t1=>rw[bh ((bH t1).trans rfl)];rfl
  | [_,_],_,t1=>rw[bh ((bH t1).trans rfl)];rfl
  | [_,_,_],_,t1=>rw[bh ((bH t1).trans rfl)];rfl
  | _::_::_::_::_::r,_,t1=>
   have z:(!decide (((r.length+1+1+1+1+1:Nat):Int)=4))=true:=by simp;omega
   simp only[List.length_cons] at t1
   rw[z] at t1
   rw[bh ((bH t1).trans rfl)];rfl
structure rJ (w h g m:Int):Prop where
 w:1≤w∧w≤40
 h:1≤h∧h≤40
 g:0≤g∧g≤20
 m:0≤m∧m≤12
noncomputable def cm (w h g m:Int):D:=.tup [.int w,.int h,.int g,.int m]
variable{h:Int}
theorem Ct (k:rJ w h g m):va (cm w h g m)=true:=by
 show(aE 1 40 (.int w)&&(aE 1 40 (.int h)&&(aE 0 20 (.int g)&&aE 0 12 (.int m))))=true
 rw[kj k.w,kj k.h,kj k.g,kj k.m];rfl
theorem p6 :dS (n+1) (cm w h g m):=by
 refine dS.tup (by simp) fun x hx=>?_
 simp only[List.mem_cons,List.not_mem_nil,or_false] at hx
 rcases hx with rfl|rfl|rfl|rfl <;> exact dS.int
theorem CQ {f s:D}(hf:dS 1 f)(hs:dS 4 s)(bf:va f=true)(bs:ba s=true):aG [f,s] M=.ok .non M:=by
 have k1:=rB (M:=M) hf
 have k2:=mY (M:=M) hs
 rw[bf] at k1
 rw[bs] at k2
 show aQ (dP [some f,some s] M)=_
 unfold dP
 rw[ay ((cT (aS (bg (eL (a:=ae 0) rfl k1)))).trans rfl),cT (aS (bg (eL (a:=ae 1) rfl k2)))]
 rfl
theorem sd {f s:D}(hf:dS 1 f)(hs:dS 4 s)(bf:va f=true)(bs:ba s=false):aG [f,s] M=.err "NoStand" M:=by
 have k1:=rB (M:=M) hf
 have k2:=mY (M:=M) hs
 rw[bf] at k1
 rw[bs] at k2
 show aQ (dP [some f,some s] M)=_
 unfold dP
 rw[ay ((cT (aS (bg (eL (a:=ae 0) rfl k1)))).trans rfl),bH (aS (bg (eL (a:=ae 1) rfl k2)))]
 rfl
structure Bs where
 st:D
 t:Int
 tk:D
 rows:List (List Int)
 tch:List (List dH×D)
 grd:List (dH×D)
 lost:List D
noncomputable def cL (fr:D)(b:Nat)(B:Bs):List (Str×D):=[("frame",fr),("standing",B.st),("ahead",.int B.t),("row_taken",B.tk),("laid_rows",.mr (b+1)),("first_touches",.mr (b+2)),("first_grounds",.mr (b+3)),("lost_pairs",.mr (b+4))]
noncomputable def ie (b n:Nat):List D:=(List.range n).map fun i=>D.mr (b+5+i)
noncomputable def v6 (r:List Int):MO:=.lst (r.map D.int)
noncomputable def og (fr:D)(b:Nat)(B:Bs):aA:=.obj "Beam" (cL fr b B)::.lst (ie b B.rows.length)::.dT B.tch::.dK B.grd::.lst B.lost::B.rows.map v6
noncomputable def aq (M0:aA)(fr:D)(B:Bs):aA:=M0++og fr M0.length B
variable{t:Int}
section
variable {M0:aA}{fr:D}{B:Bs}
theorem sB (k:Nat):(aq M0 fr B)[M0.length+k]?=(og fr M0.length B)[k]?:=by
 unfold aq
 rw[List.getElem?_append_right (by omega),Nat.add_sub_cancel_left]
theorem pd (k:Nat)(o:MO):(aq M0 fr B).set (M0.length+k) o=M0++(og fr M0.length B).set k o:=by
 unfold aq
 rw[List.set_append_right _ _ (by omega),Nat.add_sub_cancel_left]
theorem jM:(aq M0 fr B)[M0.length]?=some (.obj "Beam" (cL fr M0.length B)):=sB 0
theorem Bp:(aq M0 fr B)[M0.length+1]?=some (.lst (ie M0.length B.rows.length)):=sB 1
theorem LU:(aq M0 fr B)[M0.length+2]?=some (.dT B.tch):=sB 2
theorem JR:(aq M0 fr B)[M0.length+3]?=some (.dK B.grd):=sB 3
theorem NC:(aq M0 fr B)[M0.length+4]?=some (.lst B.lost):=sB 4
theorem ye (h:B.rows[i]?=some r):(aq M0 fr B)[M0.length+5+i]?=some (v6 r):=by
 rw[Nat.add_assoc,sB,show 5+i=i+5 by omega]
 show(B.rows.map v6)[i]?=_
 rw[List.getElem?_map,h];rfl
theorem uF:(aq M0 fr B).length=M0.length+5+B.rows.length:=by
 unfold aq og
 simp only[List.length_append,List.length_cons,List.length_map]
 omega
theorem qO {b:Nat}:(cL fr b B).lookup ("frame":Str)=some (fr:D):=rfl
theorem FW {b:Nat}:(cL fr b B).lookup ("standing":Str)=some (B.st:D):=rfl
theorem Al {b:Nat}:(cL fr b B).lookup ("ahead":Str)=some ((.int B.t):D):=rfl
theorem FN {b:Nat}:(cL fr b B).lookup ("row_taken":Str)=some (B.tk:D):=rfl
theorem ua {b:Nat}:(cL fr b B).lookup ("laid_rows":Str)=some ((.mr (b+1)):D):=rfl
theorem GK {b:Nat}:(cL fr b B).lookup ("first_touches":Str)=some ((.mr (b+2)):D):=rfl
theorem HJ {b:Nat}:(cL fr b B).lookup ("first_grounds":Str)=some ((.mr (b+3)):D):=rfl
theorem Fg {b:Nat}:(cL fr b B).lookup ("lost_pairs":Str)=some ((.mr (b+4)):D):=rfl
theorem Lr :(aq M0 fr B).set M0.length (.obj "Beam" (gn "ahead" (.int t) (cL fr M0.length B)))=aq M0 fr {B with t:=t}:=by
 have e:gn "ahead" (.int t) (cL fr M0.length B)=cL fr M0.length {B with t:=t}:=rfl
 rw[e];exact pd 0 _
theorem Hi {tk:D}:(aq M0 fr B).set M0.length (.obj "Beam" (gn "row_taken" tk (cL fr M0.length B)))=aq M0 fr {B with tk:=tk}:=by
 have e:gn "row_taken" tk (cL fr M0.length B)=cL fr M0.length {B with tk:=tk}:=rfl
 rw[e];exact pd 0 _
theorem zC:(aq M0 fr B).set M0.length (.obj "Beam" (gn "lost_pairs" (.mr (M0.length+4)) (cL fr M0.length B)))=aq M0 fr B:=by
 have e:gn "lost_pairs" (.mr (M0.length+4)) (cL fr M0.length B)=cL fr M0.length B:=rfl
 rw[e];exact qX jM
theorem Et {x:List (List dH×D)}:(aq M0 fr B).set (M0.length+2) (.dT x)=aq M0 fr {B with tch:=x}:=pd 2 _
theorem Es {x:List (dH×D)}:(aq M0 fr B).set (M0.length+3) (.dK x)=aq M0 fr {B with grd:=x}:=pd 3 _
theorem BF {x:List D}:(aq M0 fr B).set (M0.length+4) (.lst x)=aq M0 fr {B with lost:=x}:=pd 4 _
theorem FI :(aq M0 fr B).set (M0.length+5+i) (v6 r)=aq M0 fr {B with rows:=B.rows.set i r}:=by
 rw[Nat.add_assoc,pd,show 5+i=i+5 by omega]
 show M0++(_::_::_::_::_::(B.rows.map v6).set i (v6 r))=_
 rw[←List.map_set]
 unfold aq og cL
 rw[List.length_set]
theorem Eu:((aq M0 fr B)++[MO.lst []]).set (M0.length+1) (MO.lst (ie M0.length B.rows.length++[D.mr (aq M0 fr B).length]))=aq M0 fr {B with rows:=B.rows++[[]]}:=by
 rw[uF]
 unfold aq
 rw[List.append_assoc,List.set_append_right _ _ (by omega),Nat.add_sub_cancel_left]
 have e:ie M0.length B.rows.length++[D.mr (M0.length+5+B.rows.length)]=ie M0.length (B.rows++[[]]).length:=by
  unfold ie
  rw[List.length_append,List.length_singleton,List.range_succ,List.map_append];rfl
 rw[e]
 show M0++(_::_::_::_::_::(B.rows.map v6++[.lst []]))=M0++(_::_::_::_::_::((B.rows++[[]]).map v6))
 rw[List.map_append];rfl
structure Bs.Pure (B:Bs):Prop where
 st:aR 30 B.st=true
 tk:aR 30 B.tk=true
 tch:∀p∈B.tch,aR 30 p.2=true
 grd:∀p∈B.grd,aR 30 p.2=true
 lost:∀p∈B.lost,aR 30 p=true
theorem oQ (h0:fR M0)(hf:aR 30 fr=true)(p:B.Pure):fR (aq M0 fr B):=by
 have hl:(aq M0 fr B).length=M0.length+5+B.rows.length:=uF
 unfold fR
 rw[hl]
 unfold aq
 rw[List.all_append,Bool.and_eq_true]
 refine⟨List.all_eq_true.mpr fun x hx=>tM (by omega) (List.all_eq_true.mp h0 x hx),?_⟩
 unfold og
 simp only[List.all_cons,Bool.and_eq_true]
 have f:∀k:Nat,k≤4→gF (M0.length+5+B.rows.length) 30 (.mr (M0.length+k))=true:=fun k hk=>decide_eq_true (by omega)
 refine⟨?_,?_,?_,?_,?_,?_⟩
 ·show(cL fr M0.length B).all (fun p=>gF (M0.length+5+B.rows.length) 30 p.2)=true
  unfold cL
  simp only[List.all_cons,List.all_nil,Bool.and_eq_true]
  exact⟨dj 30 _ hf,dj 30 _ p.st,rfl,dj 30 _ p.tk,f 1 (by decide),f 2 (by decide),f 3 (by decide),f 4 (by decide),trivial⟩
 ·show(ie M0.length B.rows.length).all (gF (M0.length+5+B.rows.length) 30)=true
  refine List.all_eq_true.mpr fun x hx=>?_
  obtain⟨i,hi,rfl⟩:=List.mem_map.mp hx
  exact decide_eq_true (by have:=List.mem_range.mp hi;omega)
 ·exact List.all_eq_true.mpr fun x hx=>dj 30 _ (p.tch x hx)
 ·exact List.all_eq_true.mpr fun x hx=>dj 30 _ (p.grd x hx)
 ·exact List.all_eq_true.mpr fun x hx=>dj 30 _ (p.lost x hx)
 ·refine List.all_eq_true.mpr fun x hx=>?_
  obtain⟨r,_,rfl⟩:=List.mem_map.mp hx
  exact tm (iK 29 r)
end
theorem pr :jq [cm w h g m] M=.ok (.int (w+g)) M:=rfl
theorem jG (k:rJ w h g m):eG [cm w h g m] M=.ok (.int (h*(w+g))) M:=by
 have mu:=GF (i:=h) (j:=w+g) (by have:=k.h;omega) (by have:=k.h;omega) M
 show aQ (kl [some (cm w h g m),none,none,none,none] M)=_
 unfold kl
 have asg:en (bO [1,2,3,4]) (ae 0) [some (cm w h g m),none,none,none,none] M=.ok (.nx [some (cm w h g m),some (.int w),some (.int h),some (.int g),some (.int m)]) M:=rfl
 rw[ay asg,b9 (aB (x:=.int h) rfl (eL (a:=ae 0) rfl pr) mu)];rfl
noncomputable def mV (w g t:Int):D:=if t % (w+g)<w then .tup [.int (t / (w+g)),.int (t % (w+g))] else .tup [.int (t / (w+g)),.non]
theorem nI (f:rJ w h g m)(h0:0≤t)(h1:t<h*(w+g)):ja [cm w h g m,.int t] M=.ok (mV w g t) M:=by
 have e:=pr (w:=w) (h:=h) (g:=g) (m:=m) (M:=M)
 have e2:=jG (M:=M) f
 have p:0<w+g:=by have:=f.w;have:=f.g;omega
 have q:(w+g).natAbs.log2<9000:=aV p (by have:=f.w;have:=f.g;omega)
 have n1:¬t<0:=by omega
 have n2:¬h*(w+g)≤t:=by omega
 have l2:(2:Nat)≤sizeLine:=aM (by decide)
 unfold cm at *
 unfold ja mM mV
 by_cases hz:t % (w+g)<w
 ·have hz':¬w≤t % (w+g):=by omega
  simp_arith [e,e2,p,q,n1,n2,l2,hz,hz']
 ·have hz':w≤t % (w+g):=by omega
  simp_arith [e,e2,p,q,n1,n2,l2,hz,hz']
noncomputable def lB (xs:List Int)(lo hi:Option Int):List Int:=(xs.drop (HT.sIx xs.length 0 lo)).take (HT.sIx xs.length xs.length hi-HT.sIx xs.length 0 lo)
theorem qP (xs:List Int)(lo hi:Option Int):gG (xs.map D.int) lo hi=(lB xs lo hi).map D.int:=by simp[gG,lB]
theorem rj (xs:List Int)(lo hi:Option Int):(lB xs lo hi).length≤xs.length:=by
 unfold lB
 rw[List.length_take,List.length_drop]
 omega
theorem AZ {xs:List Int}{lo hi:Option Int}{y:Int}(h:y∈lB xs lo hi):y∈xs:=List.mem_of_mem_drop (List.mem_of_mem_take h)
noncomputable def xO (s:im)(row n:Int):Sn:=match s.movers[n.toNat]? with
 | some m=>⟨n,m.x,m.rank,m5 (s.book.getD (m.shape.getD 0) []) m.turn (row-m.y).toNat⟩
 | none=>⟨n,0,0,[]⟩
noncomputable def gK (s:im)(m row:Int):List Sn:=(lB (cz s row) none (some m)).map (xO s row)
theorem Cz {n:Int}(h:n∈cz s row):gW s row n=(xO s row n).d:=by
 obtain⟨i,rfl,hi,m,gm,lz⟩:=qB h
 unfold gW xO
 rw[Int.toNat_natCast,gm]
 rfl
theorem zP (s:im)(m row:Int):qt s m row=(gK s m row).map Sn.d:=by
 unfold qt gK
 rw[qP,List.map_map,List.map_map]
 apply List.map_congr_left
 intro n hn
 exact Cz (AZ hn)
noncomputable def DZ (s:im)(w row:Int):List Int:=(List.range w.toNat).map fun(x:Nat)=>gw s row x
theorem sO (s:im)(w m row:Int):gN s w m row=.tup [.tup ((DZ s w row).map D.int),.tup ((gK s m row).map Sn.d)]:=by
 unfold gN
 rw[zP]
 unfold DZ
 rw[List.map_map]
 rfl
theorem xp (ok:eJ mm s)(hm:mm≤12):(cz s row).length≤12:=by
 have:=nF s row s.movers.length
 have:=ok.ml
 unfold cz
 omega
theorem y8 (ok:eJ mm s)(hm:mm≤12):(gK s m row).length≤12:=by
 unfold gK
 rw[List.length_map]
 exact Nat.le_trans (rj _ _ _) (xp ok hm)
theorem rK (s:im)(w m row:Int):aR 30 (gN s w m row)=true:=by
 rw[sO]
 have a:=iK 27 (DZ s w row)
 have b:((gK s m row).map Sn.d).all (aR 28)=true:=List.all_eq_true.mpr fun x hx=>by
  obtain⟨q,_,rfl⟩:=List.mem_map.mp hx
  unfold Sn.d
  have:=iK 25 q.ks
  simp only[oB,List.all_cons,List.all_nil,this]
  rfl
 simp only[oB,List.all_cons,List.all_nil,a,b]
 rfl
theorem Fm (ok:eJ mm s):∀k∈DZ s w row,0≤k∧k≤15:=by
 intro k hk
 obtain⟨x,_,rfl⟩:=List.mem_map.mp hk
 obtain⟨f1,f2,fw,f3,f4,f5⟩:=ok.floor
 unfold gw
 have fr:∀k∈bM s row,0≤k∧k≤15:=by
  intro k hk
  unfold bM at hk
  rw[List.getD] at hk
  cases q:s.floor[((row+s.sy) % (s.floor.length:Int)).toNat]? with
  | none=>rw[q] at hk;cases hk
  | some r=>
   rw[q] at hk
   exact(f5 r (List.mem_of_getElem? q)).2 k hk
 rw[List.getD]
 cases q:(bM s row)[((↑x+s.sx) % ((bM s row).length:Int)).toNat]? with
 | none=>exact⟨by simp,by simp⟩
 | some r=>exact fr r (List.mem_of_getElem? q)
theorem zV (h:∀r∈rs,∀k∈r,0≤k∧k≤15):∀k∈m5 rs way n,0≤k∧k≤15:=by
 have g:∀(i:Nat),∀k∈rs.getD i [],0≤k∧k≤15:=by
  intro i k hk
  rw[List.getD] at hk
  cases q:rs[i]? with
  | none=>rw[q] at hk;cases hk
  | some r=>rw[q] at hk;exact h r (List.mem_of_getElem? q) k hk
 intro k hk
 unfold m5 at hk
 dsimp only at hk
 split at hk
 ·rw[List.mem_reverse] at hk
  split at hk
  ·exact g _ k hk
  ·exact g _ k hk
 ·split at hk
  ·exact g _ k hk
  ·exact g _ k hk
theorem GD (ok:eJ mm s):∀q∈gK s m row,0≤dW x q∧dW x q≤15:=by
 intro q hq
 obtain⟨n,_,rfl⟩:=List.mem_map.mp hq
 have a:∀k∈(xO s row n).ks,0≤k∧k≤15:=by
  intro k hk
  unfold xO at hk
  split at hk
  ·refine zV (fun r hr k hk=>?_) k hk
   rename_i m' _ _
   rw[List.getD] at hr
   cases e:s.book[m'.shape.getD 0]? with
   | none=>rw[e] at hr;cases hr
   | some b=>
    rw[e] at hr
    obtain⟨b1,b2,bw,b3,b4,b5⟩:=ok.book b (List.mem_of_getElem? e)
    exact(b5 r hr).2 k hk
  ·cases hk
 unfold dW
 split
 ·rw[List.getD]
  cases e:(xO s row n).ks[(x-(xO s row n).x).toNat]? with
  | none=>exact⟨by simp,by simp⟩
  | some k=>exact a k (List.mem_of_getElem? e)
 ·exact⟨by simp,by simp⟩
noncomputable def yP (x fl:Int)(cs:List Sn)(k:Int):Prop:=(cs=[]∧k=fl)∨∃b∈cs,(∀s∈cs,JF b s)∧k=if 1≤b.r∨fl=0 then dW x b else fl
theorem Di {fl:Int}:∃k,yP x fl cs k∧bY [.int fl,.lst (cs.map (nk x))] M=.ok (.int k) M:=by
 rcases CO (x:=x) (fl:=fl) (cs:=cs) (M:=M) with⟨e,h⟩|⟨b,hb,hl,h⟩
 ·exact⟨fl,.inl ⟨e,rfl⟩,h⟩
 ·exact⟨_,.inr ⟨b,hb,hl,rfl⟩,h⟩
theorem yP.rng {fl:Int}(h:yP x fl cs k)(hf:0≤fl∧fl≤15)(hc:∀q∈cs,0≤dW x q∧dW x q≤15):0≤k∧k≤15:=by
 rcases h with⟨_,rfl⟩|⟨b,hb,_,rfl⟩
 ·exact hf
 ·split
  ·exact hc b hb
  ·exact hf
theorem Dk (ok:eJ mm s)(hm:mm≤12)(hM:fR M):gM [cm w h g m,s.d,.int row] M=.ok (.lst ((lB (cz s row) (some m) none).map D.int)) M:=by
 have e:=B9 (row:=row) ok (by omega:mm≤900) hM
 unfold cm gM oy
 simp_arith [e,qP]
variable{fr:D}{B:Bs}
theorem xL {b:Nat}:(cL fr b B).length<1000:=by show 8<1000;decide
noncomputable def k8 (row:Int)(ns:List Int):List D:=ns.map fun n=>D.tup [.int row,.int n]
variable{M0:aA}
theorem Dq (h0:fR M0)(p:B.Pure)(hs:B.st=s.d)(ok:eJ mm s)(hm:mm≤12)(f:rJ w h g m)(hl:B.lost.length≤90000)(hr:B.rows.length<100000) :
  fF [.mr M0.length,.int row] (aq M0 (cm w h g m) B)=.ok .non (aq M0 (cm w h g m) {B with tk:=gN s w m row,rows:=B.rows++[[]],lost:=B.lost++k8 row (lB (cz s row) (some m) none)}):=by
 have pf:aR 30 (cm w h g m)=true:=rfl
 have sh:=oQ (fr:=cm w h g m) h0 pf p
 have et:=AJ (w:=w) (hh:=h) (g:=g) (m:=m) (row:=row) ok (by omega) (by have:=f.w;omega) f.m sh
 show aQ (fE [some (.mr M0.length),some (.int row)] _)=_
 unfold fE
 have f1:=fun(B:Bs)=>eB (g:=ae 0) (ρ:=[some (.mr M0.length),some (.int row)]) (M:=aq M0 (cm w h g m) B) (f:="frame") rfl jM qO
 have f2:=fun(B:Bs)=>eB (g:=ae 0) (ρ:=[some (.mr M0.length),some (.int row)]) (M:=aq M0 (cm w h g m) B) (f:="standing") rfl jM FW
 have f3:=fun(B:Bs)=>eB (g:=ae 0) (ρ:=[some (.mr M0.length),some (.int row)]) (M:=aq M0 (cm w h g m) B) (f:="laid_rows") rfl jM ua
 have c1:=dX (F:=nK) (o:=.ok (gN s w m row) (aq M0 (cm w h g m) B)) (f1 B) (f2 B) (c:=ae 1) rfl (by rw[hs];exact et)
 have s1:=yS (c:="Beam") (f:="row_taken") (go:=ae 0) (fs:=cL (cm w h g m) M0.length B) c1 rfl jM xL
 rw[ay s1,Hi]
 generalize hB1:({B with tk:=gN s w m row}:Bs)=B1
 have p1:B1.Pure:=by rw[←hB1];exact⟨p.st,rK s w m row,p.tch,p.grd,p.lost⟩
 have hs1:B1.st=s.d:=by rw[←hB1];exact hs
 have a1:=B8 (f3 B1) Bp nw (by rw[List.getElem?_append_left (by rw[uF];omega)];exact Bp) (by unfold ie;rw[List.length_map,List.length_range,←hB1];show B.rows.length<1000000;omega)
 rw[Eu] at a1
 rw[ay (cn a1)]
 generalize hB2:({B1 with rows:=B1.rows++[[]]}:Bs)=B2
 have p2:B2.Pure:=by rw[←hB2];exact⟨p1.st,p1.tk,p1.tch,p1.grd,p1.lost⟩
 have hs2:B2.st=s.d:=by rw[←hB2];exact hs1
 have hl2:B2.lost=B.lost:=by rw[←hB2,←hB1]
 have sh2:=oQ (fr:=cm w h g m) h0 pf p2
 have el:=Dk (w:=w) (h:=h) (g:=g) (m:=m) (row:=row) ok hm sh2
 have ll:(lB (cz s row) (some m) none).length≤12:=Nat.le_trans (rj _ _ _) (xp ok hm)
 have c2:=dX (F:=gM) (o:=.ok (.lst ((lB (cz s row) (some m) none).map D.int)) (aq M0 (cm w h g m) B2)) (f1 B2) (f2 B2) (c:=ae 1) rfl (by rw[hs2];exact el)
 have ec:=kh (ds0:=(lB (cz s row) (some m) none).map D.int) (ge:=e7) (ρ:=[some (.mr M0.length),some (.int row)]) (f:=fun d=>.tup [.int row,d]) (M:=aq M0 (cm w h g m) B2) ((lB (cz s row) (some m) none).map D.int) (fun d hd=>rfl)
 have em:((lB (cz s row) (some m) none).map D.int).map (fun d=>D.tup [.int row,d])=k8 row (lB (cz s row) (some m) none):=by rw[List.map_map];rfl
 rw[em] at ec
 generalize lB (cz s row) (some m) none=ls at *
 have gi:bJ (aj 3 gM (aa (eT "Beam" "frame" (ae 0)) (aa (eT "Beam" "standing" (ae 0)) (aa (ae 1) ag)))) [some (.mr M0.length),some (.int row)] (aq M0 (cm w h g m) B2)=.ok ⟨ls.map D.int,none⟩ (aq M0 (cm w h g m) B2):=by
  unfold bJ
  rw[c2];rfl
 have gv:aW (bJ (aj 3 gM (aa (eT "Beam" "frame" (ae 0)) (aa (eT "Beam" "standing" (ae 0)) (aa (ae 1) ag))))) bU e7 aL [some (.mr M0.length),some (.int row)] (aq M0 (cm w h g m) B2)=.ok (.lst (k8 row ls)) (aq M0 (cm w h g m) B2):=by
  unfold aW
  rw[gi,ao]
  dsimp only
  rw[ec,ao]
  unfold aL
  rw[if_pos (aM (by unfold k8;rw[List.length_map];omega))]
 have au:=DA (ys:=k8 row ls) (NC (M0:=M0) (fr:=cm w h g m) (B:=B2)) (by rw[hl2];unfold k8;rw[List.length_map];omega)
 rw[BF] at au
 have s3:=FO (c:="Beam") (f:="lost_pairs") (go:=ae 0) (ρ:=[some (.mr M0.length),some (.int row)]) rfl jM Fg gv au jM xL
 rw[s3]
 have fin:=zC (M0:=M0) (fr:=cm w h g m) (B:={B2 with lost:=B2.lost++k8 row ls})
 show bn.ok D.non ((aq M0 (cm w h g m) {B2 with lost:=B2.lost++k8 row ls}).set M0.length (.obj "Beam" (gn "lost_pairs" (.mr (M0.length+4)) (cL (cm w h g m) M0.length {B2 with lost:=B2.lost++k8 row ls}))))=_
 rw[fin,←hB2,←hB1]
theorem lI {κ α:Type}[DecidableEq κ](key:α→κ)(z:D):∀(os:List α) (acc:List (κ×D)),(os.foldl (fun a o=>xi a (key o) z) acc).length≤acc.length+os.length
 | [],acc=>Nat.le_refl _
 | o::os,acc=>by
  rw[List.foldl_cons]
  have:=lI key z os (xi acc (key o) z)
  have:=FG acc (key o) z
  rw[List.length_cons]
  omega
theorem A7 {κ:Type}[DecidableEq κ]{acc:List (κ×D)}{k:κ}{z:D}(hz:aR 30 z=true)(h:∀p∈acc,aR 30 p.2=true):∀p∈xi acc k z,aR 30 p.2=true:=by
 unfold xi
 split
 ·exact h
 ·intro p hp
  rcases List.mem_append.mp hp with q|q
  ·exact h p q
  ·rw[List.mem_singleton] at q;rw[q];exact hz
theorem oV {κ α:Type}[DecidableEq κ](key:α→κ){z:D}(hz:aR 30 z=true):∀(os:List α) (acc:List (κ×D)),(∀p∈acc,aR 30 p.2=true)→∀p∈os.foldl (fun a o=>xi a (key o) z) acc,aR 30 p.2=true
 | [],acc,h=>h
 | o::os,acc,h=>oV key hz os _ (A7 hz h)
noncomputable def su (ns:List Int)(z:D)(g:List (dH×D)):List (dH×D):=ns.foldl (fun a n=>xi a (Sum.inl n) z) g
noncomputable def la (n:Int)(os:List Int)(z:D)(t:List (List dH×D)):List (List dH×D):=os.foldl (fun a o=>xi a [Sum.inl n,Sum.inl o] z) t
noncomputable def iy (ns:List Int)(z:D)(t0:List (List dH×D)):Nat→List (List dH×D)
 | 0=>t0
 | j+1=>match ns[j]? with
  | some n=>la n (ns.drop (j+1)) z (iy ns z t0 j)
  | none=>iy ns z t0 j
theorem oY (ns:List Int)(z:D)(t0:List (List dH×D)):∀j,(iy ns z t0 j).length≤t0.length+j*ns.length
 | 0=>by show t0.length≤_;omega
 | j+1=>by
  have ih:=oY ns z t0 j
  have e:(j+1)*ns.length=j*ns.length+ns.length:=Nat.succ_mul _ _
  unfold iy
  split
  ·rename_i n _
   have:=lI (κ:=List dH) (fun o=>[Sum.inl n,Sum.inl o]) z (ns.drop (j+1)) (iy ns z t0 j)
   unfold la
   rw[List.length_drop] at this
   omega
  ·omega
theorem qV {ns:List Int}{z:D}{t0:List (List dH×D)}(hz:aR 30 z=true)(h:∀p∈t0,aR 30 p.2=true):∀j,∀p∈iy ns z t0 j,aR 30 p.2=true
 | 0=>h
 | j+1=>by
  have ih:=qV (ns:=ns) hz h j
  unfold iy
  split
  ·exact oV _ hz _ _ ih
  ·exact ih
variable{ns:List Int}
theorem C9 (hj:j<ns.length):gG (ns.map D.int) (some ((j:Int)+1)) none=(ns.drop (j+1)).map D.int:=by
 rw[qP]
 unfold lB
 rw[show((j:Int)+1)=((j+1:Nat):Int) from by omega,HT.sIx_nat,HT.sIx_none,Nat.min_eq_left (by omega)]
 rw[List.take_of_length_le (by rw[List.length_drop];omega)]
theorem xG (hl:B.grd.length+ns.length<1000000) :
  fm [.mr M0.length,.lst (ns.map D.int),.int row,.int x] (aq M0 fr B)=.ok .non (aq M0 fr {B with grd:=su ns (.tup [.int row,.int x]) B.grd}):=by
 obtain⟨ρ',M',⟨x4,rfl,rfl⟩,ef⟩:=oM (ds0:=ns.map D.int) (s:=ej 4) (body:=eD)
  (W:=fun i ρ N=>∃x4,ρ=[some (.mr M0.length),some (.lst (ns.map D.int)),some (.int row),some (.int x),x4]∧N=aq M0 fr {B with grd:=su (ns.take i) (.tup [.int row,.int x]) B.grd})
  (ns.map D.int) 0 (fun j d hd ρ N hW=>by
   obtain⟨x4,rfl,rfl⟩:=hW
   rw[Nat.zero_add]
   rw[List.getElem?_map] at hd
   cases gs:ns[j]? with
   | none=>rw[gs] at hd;cases hd
   | some n=>
   rw[gs] at hd
   cases hd
   have hj:=(List.getElem?_eq_some_iff.mp gs).1
   have e1:su (ns.take (j+1)) (.tup [.int row,.int x]) B.grd=xi (su (ns.take j) (.tup [.int row,.int x]) B.grd) (Sum.inl n) (.tup [.int row,.int x]):=by
    unfold su
    rw[List.take_succ,gs,List.foldl_append];rfl
   have lb:(su (ns.take j) (.tup [.int row,.int x]) B.grd).length<1000000:=by
    have:=lI (κ:=dH) (fun n=>Sum.inl n) (.tup [.int row,.int x]) (ns.take j) B.grd
    rw[List.length_take] at this
    unfold su
    omega
   rw[e1]
   generalize su (ns.take j) (.tup [.int row,.int x]) B.grd=gd at *
   have fl:=eB (g:=ae 0) (ρ:=[some (.mr M0.length),some (.lst (ns.map D.int)),some (.int row),some (.int x),some (.int n)]) (M:=aq M0 fr {B with grd:=gd}) (f:="first_grounds") rfl jM HJ
   obtain⟨r,er⟩:=xQ (y:=.int n) (z:=.tup [.int row,.int x]) (JR (M0:=M0) (fr:=fr) (B:={B with grd:=gd})) rfl lb
   rw[Es] at er
   have tp:=jK (ga:=aa (ae 2) (aa (ae 3) ag)) (ρ:=[some (.mr M0.length),some (.lst (ns.map D.int)),some (.int row),some (.int x),some (.int n)]) (M:=aq M0 fr {B with grd:=gd}) (M1:=aq M0 fr {B with grd:=gd}) (ds:=[.int row,.int x]) rfl (by simp)
   exact⟨_,_,_,rfl,cn (sI fl (by rw[JR];rfl) rfl tp er),_,rfl,rfl⟩)
  [some (.mr M0.length),some (.lst (ns.map D.int)),some (.int row),some (.int x),none] (aq M0 fr B) ⟨_,rfl,rfl⟩
 rw[List.length_map,Nat.zero_add,List.take_length] at ef
 show aQ (cW [some (.mr M0.length),some (.lst (ns.map D.int)),some (.int row),some (.int x),none] _)=_
 unfold cW
 rw[m7 (Ep (i:=1) rfl) ef]
 rfl
theorem Ce {os:List Int}{n at_:Int}{t:List (List dH×D)}{x6:Option D}(hl:t.length+os.length<1000000) :
  ∃y6,gJ ⟨os.map D.int,none⟩ (ej 6) cN (os.map D.int) [some (.mr M0.length),some (.lst (ns.map D.int)),some (.int row),some (.int x),some (.int at_),some (.int n),x6] (aq M0 fr {B with tch:=t}) =
   .ok (.nx [some (.mr M0.length),some (.lst (ns.map D.int)),some (.int row),some (.int x),some (.int at_),some (.int n),y6]) (aq M0 fr {B with tch:=la n os (.tup [.int row,.int x]) t}):=by
 obtain⟨ρ',M',⟨y6,rfl,rfl⟩,ef⟩:=oM (ds0:=os.map D.int) (s:=ej 6) (body:=cN)
  (W:=fun i ρ N=>∃x6,ρ=[some (.mr M0.length),some (.lst (ns.map D.int)),some (.int row),some (.int x),some (.int at_),some (.int n),x6]∧N=aq M0 fr {B with tch:=la n (os.take i) (.tup [.int row,.int x]) t})
  (os.map D.int) 0 (fun j d hd ρ N hW=>by
   obtain⟨x6,rfl,rfl⟩:=hW
   rw[Nat.zero_add]
   rw[List.getElem?_map] at hd
   cases gs:os[j]? with
   | none=>rw[gs] at hd;cases hd
   | some o=>
   rw[gs] at hd
   cases hd
   have hj:=(List.getElem?_eq_some_iff.mp gs).1
   have e1:la n (os.take (j+1)) (.tup [.int row,.int x]) t=xi (la n (os.take j) (.tup [.int row,.int x]) t) [Sum.inl n,Sum.inl o] (.tup [.int row,.int x]):=by
    unfold la
    rw[List.take_succ,gs,List.foldl_append];rfl
   have lb:(la n (os.take j) (.tup [.int row,.int x]) t).length<1000000:=by
    have:=lI (κ:=List dH) (fun o=>[Sum.inl n,Sum.inl o]) (.tup [.int row,.int x]) (os.take j) t
    rw[List.length_take] at this
    unfold la
    omega
   rw[e1]
   generalize la n (os.take j) (.tup [.int row,.int x]) t=gd at *
   have fl:=eB (g:=ae 0) (ρ:=[some (.mr M0.length),some (.lst (ns.map D.int)),some (.int row),some (.int x),some (.int at_),some (.int n),some (.int o)]) (M:=aq M0 fr {B with tch:=gd}) (f:="first_touches") rfl jM GK
   obtain⟨r,er⟩:=xw (y:=.tup [.int n,.int o]) (k:=[Sum.inl n,Sum.inl o]) (z:=.tup [.int row,.int x]) (LU (M0:=M0) (fr:=fr) (B:={B with tch:=gd})) rfl lb
   rw[Et] at er
   have tp:=jK (ga:=aa (ae 2) (aa (ae 3) ag)) (ρ:=[some (.mr M0.length),some (.lst (ns.map D.int)),some (.int row),some (.int x),some (.int at_),some (.int n),some (.int o)]) (M:=aq M0 fr {B with tch:=gd}) (M1:=aq M0 fr {B with tch:=gd}) (ds:=[.int row,.int x]) rfl (by simp)
   have tp2:=jK (ga:=aa (ae 5) (aa (ae 6) ag)) (ρ:=[some (.mr M0.length),some (.lst (ns.map D.int)),some (.int row),some (.int x),some (.int at_),some (.int n),some (.int o)]) (M:=aq M0 fr {B with tch:=gd}) (M1:=aq M0 fr {B with tch:=gd}) (ds:=[.int n,.int o]) rfl (by simp)
   exact⟨_,_,_,rfl,cn (sI fl (by rw[LU];rfl) tp2 tp er),_,rfl,rfl⟩)
  [some (.mr M0.length),some (.lst (ns.map D.int)),some (.int row),some (.int x),some (.int at_),some (.int n),x6] (aq M0 fr {B with tch:=t}) ⟨_,rfl,rfl⟩
 rw[List.length_map,Nat.zero_add,List.take_length] at ef
 exact⟨y6,ef⟩
theorem xo (hn:ns.length≤12)(hl:B.tch.length<900000) :
  fo [.mr M0.length,.lst (ns.map D.int),.int row,.int x] (aq M0 fr B)=.ok .non (aq M0 fr {B with tch:=iy ns (.tup [.int row,.int x]) B.tch ns.length}):=by
 obtain⟨ρ',M',⟨x4,x5,x6,rfl,rfl⟩,ef⟩:=oM (ds0:=ju (ns.map D.int)) (s:=bO [4,5]) (body:=cQ)
  (W:=fun i ρ N=>∃x4 x5 x6,ρ=[some (.mr M0.length),some (.lst (ns.map D.int)),some (.int row),some (.int x),x4,x5,x6]∧N=aq M0 fr {B with tch:=iy ns (.tup [.int row,.int x]) B.tch i})
  (ju (ns.map D.int)) 0 (fun j d hd ρ N hW=>by
   obtain⟨x4,x5,x6,rfl,rfl⟩:=hW
   obtain⟨dx,ex,rfl⟩:=o6 hd
   rw[Nat.zero_add]
   rw[List.getElem?_map] at ex
   cases gs:ns[j]? with
   | none=>rw[gs] at ex;cases ex
   | some n=>
   rw[gs] at ex
   cases ex
   have hj:=(List.getElem?_eq_some_iff.mp gs).1
   have e1:iy ns (.tup [.int row,.int x]) B.tch (j+1)=la n (ns.drop (j+1)) (.tup [.int row,.int x]) (iy ns (.tup [.int row,.int x]) B.tch j):=by
    show(match ns[j]? with|some n=>la n (ns.drop (j+1)) (.tup [.int row,.int x]) (iy ns (.tup [.int row,.int x]) B.tch j)|none=>_)=_
    rw[gs]
   have lb:=oY ns (.tup [.int row,.int x]) B.tch j
   have lj:j*ns.length≤12*12:=Nat.mul_le_mul (by omega) hn
   rw[e1]
   generalize iy ns (.tup [.int row,.int x]) B.tch j=td at *
   obtain⟨y6,ei⟩:=Ce (M0:=M0) (B:=B) (fr:=fr) (ns:=ns) (os:=ns.drop (j+1)) (n:=n) (row:=row) (x:=x) (at_:=(j:Int)) (t:=td) (x6:=x6) (by rw[List.length_drop];omega)
   refine⟨[some (.mr M0.length),some (.lst (ns.map D.int)),some (.int row),some (.int x),some (.int (j:Int)),some (.int n),x6],[some (.mr M0.length),some (.lst (ns.map D.int)),some (.int row),some (.int x),some (.int (j:Int)),some (.int n),y6],_,rfl,?_,_,_,_,rfl,rfl⟩
   unfold cQ
   refine m7 (t:=⟨(ns.drop (j+1)).map D.int,none⟩) ?_ ei
   have cf:=C9 hj
   unfold bJ
   have sl:pZ (ae 1) (eI (g2 bS (ae 4) (gC (.int 1)))) bQ [some (.mr M0.length),some (.lst (ns.map D.int)),some (.int row),some (.int x),some (.int (j:Int)),some (.int n),x6] (aq M0 fr {B with tch:=td})=.ok (.lst ((ns.drop (j+1)).map D.int)) (aq M0 fr {B with tch:=td}):=by
    rw[←cf];rfl
   rw[sl];rfl)
  [some (.mr M0.length),some (.lst (ns.map D.int)),some (.int row),some (.int x),none,none,none] (aq M0 fr B) ⟨_,_,_,rfl,rfl⟩
 rw[kP,List.length_map,Nat.zero_add] at ef
 show aQ (cX [some (.mr M0.length),some (.lst (ns.map D.int)),some (.int row),some (.int x),none,none,none] _)=_
 unfold cX
 have ge:kY (aa (ae 1) ag) [some (.mr M0.length),some (.lst (ns.map D.int)),some (.int row),some (.int x),none,none,none] (aq M0 fr B)=.ok ⟨ju (ns.map D.int),none⟩ (aq M0 fr B):=rfl
 rw[m7 ge ef]
 rfl
theorem uo {sg:GG}{g:GE}{ρ1:cr}{M1:aA}{d:D}(h:g ρ M=.ok d M1)(h2:sg d ρ=some ρ1):en sg g ρ M=.ok (.nx ρ1) M1:=by
 unfold en
 rw[h,ao,h2]
theorem tj {ds0:List D}{n:Nat}{sg:GG}{ge:GE}{ρ:cr}{f:D→D}{M:aA}:∀(ds:List D),(∀d∈ds,∃ρ1,sg d (List.replicate n none++ρ)=some ρ1∧ge ρ1 M=.ok (f d) M)→bC ⟨ds0,none⟩ n sg bU ge ds ρ M=.ok (ds.map f) M
 | [],h=>rfl
 | d::ds,h=>by
  obtain⟨ρ1,e1,e2⟩:=h d List.mem_cons_self
  have ih:=tj (ds0:=ds0) (n:=n) (sg:=sg) (ge:=ge) (ρ:=ρ) (f:=f) (M:=M) ds fun x hx=>h x (List.mem_cons_of_mem _ hx)
  unfold bC
  rw[oN,if_pos rfl,e1]
  dsimp only
  rw[show bU ρ1 M=.ok true M from rfl]
  dsimp only
  rw[e2]
  dsimp only
  rw[ih];rfl
theorem KD {k:Nat}{x d:D}{i:Int}(h:M[k]?=some (.lst xs))(ha:jL xs i=some d):bi (.mr k) (.int i) M=.ok d M:=by
 unfold bi cC
 dsimp only
 rw[h]
 dsimp only
 rw[ha]
theorem zS {b:Nat}:jL (ie b (n+1)) (-1)=some (.mr (b+5+n)):=by
 unfold ie
 rw[List.range_succ,List.map_append]
 exact yw _ _
noncomputable def Bs.laid (B:Bs)(s0:im)(w m row x hue:Int)(rs:List (List Int))(last:List Int):Bs:=
 {B with rows:=rs++[last++[hue]],tch:=iy ((gE x (gK s0 m row)).map Sn.n) (.tup [.int row,.int x]) B.tch ((gE x (gK s0 m row)).map Sn.n).length,grd:=if(DZ s0 w row).getD x.toNat 0=0 then B.grd else su ((gE x (gK s0 m row)).map Sn.n) (.tup [.int row,.int x]) B.grd}
variable{last:List Int}
theorem CZ {s0:im}(h0:fR M0)(p:B.Pure)(hs:B.st=s.d)(ok:eJ mm s)(ok0:eJ mm s0)(hm:mm≤12)(f:rJ w h g m)
  (htk:B.tk=gN s0 w m row) (hx:0≤x∧x<w) (hr:B.rows=rs++[last]) (hl:last.length<100000) (ht:B.tch.length<900000) (hg:B.grd.length<900000) :
  ∃ink hue,yP x ((DZ s0 w row).getD x.toNat 0) (gE x (gK s0 m row)) ink∧s.pots[ink.toNat]?=some hue∧0≤ink∧
   il [.mr M0.length,.int row,.int x] (aq M0 (cm w h g m) B)=.ok .non (aq M0 (cm w h g m) (B.laid s0 w m row x hue rs last)):=by
 have pf:aR 30 (cm w h g m)=true:=rfl
 have sh:=oQ (fr:=cm w h g m) h0 pf p
 have fin:=Fm (w:=w) (row:=row) ok0
 have sin:=GD (m:=m) (row:=row) (x:=x) ok0
 have sl:=y8 (m:=m) (row:=row) ok0 hm
 unfold Bs.laid
 rw[sO] at htk
 have fll:(DZ s0 w row).length=w.toNat:=by unfold DZ;rw[List.length_map,List.length_range]
 generalize DZ s0 w row=fl at *
 generalize gK s0 m row=ss at *
 obtain⟨xn,rfl⟩:=Int.eq_ofNat_of_zero_le hx.1
 have hxl:xn<fl.length:=by omega
 have gx:fl[xn]?=some fl[xn]:=List.getElem?_eq_getElem hxl
 have gxd:fl.getD (xn:Int).toNat 0=fl[xn]:=by rw[Int.toNat_natCast,List.getD,gx];rfl
 rw[gxd]
 have fkr:=fin _ (List.getElem_mem hxl)
 generalize fl[xn]=fk at *
 have ax:∀M,bi (.tup (fl.map D.int)) (.int (xn:Int)) M=.ok (.int fk) M:=fun M=>cV (by rw[List.getElem?_map,gx];rfl)
 have ecov:=xB (fl:=.tup (fl.map D.int)) (ss:=ss) (x:=(xn:Int)) (by omega) sh
 obtain⟨ink,hsh,eink⟩:=Di (x:=(xn:Int)) (fl:=fk) (cs:=gE xn ss) (M:=aq M0 (cm w h g m) B)
 have csub:∀q∈gE (xn:Int) ss,q∈ss:=fun q hq=>(List.mem_filter.mp hq).1
 have ir:=hsh.rng fkr (fun q hq=>sin q (csub q hq))
 have cl:(gE (xn:Int) ss).length≤12:=Nat.le_trans (ug _ _) sl
 generalize gE (xn:Int) ss=cs at *
 obtain⟨kn,rfl⟩:=Int.eq_ofNat_of_zero_le ir.1
 have hk:kn<s.pots.length:=by rw[ok.pl];omega
 have gp:s.pots[kn]?=some s.pots[kn]:=List.getElem?_eq_getElem hk
 refine⟨kn,s.pots[kn],hsh,by rw[Int.toNat_natCast];exact gp,ir.1,?_⟩
 generalize s.pots[kn]=hue at *
 have ap:∀M,bi (.tup (s.pots.map D.int)) (.int (kn:Int)) M=.ok (.int hue) M:=fun M=>cV (by rw[List.getElem?_map,gp];rfl)
 generalize hfr:cm w h g m=fr at *
 show aQ (fD [some (.mr M0.length),some (.int row),some (.int (xn:Int)),none,none,none,none,none,none,none,none,none] _)=_
 unfold fD
 have q0:(aq M0 fr B)[M0.length]?=some (.obj "Beam" (cL fr M0.length B)):=jM
 have k1:=uo (sg:=bO [3,4]) (eB (g:=ae 0) (ρ:=[some (.mr M0.length),some (.int row),some (.int (xn:Int)),none,none,none,none,none,none,none,none,none]) (f:="row_taken") rfl q0 FN)
  (ρ1:=[some (.mr M0.length),some (.int row),some (.int (xn:Int)),some (.tup (fl.map D.int)),some (.tup (ss.map Sn.d)),none,none,none,none,none,none,none]) (by rw[htk];rfl)
 rw[ay k1]
 have k2:=bT (i:=5) (eh (F:=jf) (o:=.ok (.lst (cs.map (nk xn))) (aq M0 fr B)) (eB (g:=ae 0) (ρ:=[some (.mr M0.length),some (.int row),some (.int (xn:Int)),some (.tup (fl.map D.int)),some (.tup (ss.map Sn.d)),none,none,none,none,none,none,none]) (f:="row_taken") rfl q0 FN) (b:=ae 2) rfl (by rw[htk];exact ecov))
 rw[ay k2]
 have k3:=uo (sg:=bO [6,7,8,9,10]) (eB (g:=ae 0) (ρ:=[some (.mr M0.length),some (.int row),some (.int (xn:Int)),some (.tup (fl.map D.int)),some (.tup (ss.map Sn.d)),some (.lst (cs.map (nk xn))),none,none,none,none,none,none]) (f:="standing") rfl q0 FW)
  (ρ1:=[some (.mr M0.length),some (.int row),some (.int (xn:Int)),some (.tup (fl.map D.int)),some (.tup (ss.map Sn.d)),some (.lst (cs.map (nk xn))),some (bP s.floor),some (.tup [.int s.sx,.int s.sy]),some (.tup (s.book.map bP)),some (.tup (s.movers.map Mv.d)),some (.tup (s.pots.map D.int)),none]) (by rw[hs];rfl)
 refine(congrArg aQ (ay k3)).trans ?_
 generalize hρ:([some (.mr M0.length),some (.int row),some (.int (xn:Int)),some (.tup (fl.map D.int)),some (.tup (ss.map Sn.d)),some (.lst (cs.map (nk xn))),some (bP s.floor),some (.tup [.int s.sx,.int s.sy]),some (.tup (s.book.map bP)),some (.tup (s.movers.map Mv.d)),some (.tup (s.pots.map D.int)),none]:cr)=ρ
 have v0:∀M,ae 0 ρ M=.ok (.mr M0.length) M:=fun M=>by rw[←hρ];rfl
 have v2:∀M,ae 2 ρ M=.ok (.int (xn:Int)) M:=fun M=>by rw[←hρ];rfl
 have v3:∀M,ae 3 ρ M=.ok (.tup (fl.map D.int)) M:=fun M=>by rw[←hρ];rfl
 have v5:∀M,ae 5 ρ M=.ok (.lst (cs.map (nk xn))) M:=fun M=>by rw[←hρ];rfl
 have v10:∀M,ae 10 ρ M=.ok (.tup (s.pots.map D.int)) M:=fun M=>by rw[←hρ];rfl
 have hrl:B.rows.length=rs.length+1:=by rw[hr,List.length_append];rfl
 have grow:B.rows[rs.length]?=some last:=by rw[hr];simp
 have go:=aB (f:=bi) (eB (g:=ae 0) (ρ:=ρ) (f:="laid_rows") (v0 _) q0 ua) (b:=iU (gC (.int 1))) (y:=.int (-1)) (M2:=aq M0 fr B) rfl (KD (x:=.non) Bp (by rw[hrl];exact zS))
 have gi:=aB (f:=bi) (v10 _) (eh (F:=bY) (aB (f:=bi) (v3 _) (v2 _) (ax _)) (v5 _) eink) (ap _)
 have k4:=B8 go (ye grow) gi (ye grow) (by rw[List.length_map];omega)
 have em:last.map D.int++[D.int hue]=(last++[hue]).map D.int:=by rw[List.map_append];rfl
 have er:B.rows.set rs.length (last++[hue])=rs++[last++[hue]]:=by rw[hr];simp
 have sr:=FI (M0:=M0) (fr:=fr) (B:=B) (i:=rs.length) (r:=last++[hue])
 rw[er] at sr
 rw[em] at k4
 have k4':li (g2 bi (eT "Beam" "laid_rows" (ae 0)) (iU (gC (D.int 1)))) (g2 bi (ae 10) (aj 2 bY (aa (g2 bi (ae 3) (ae 2)) (aa (ae 5) ag)))) ρ (aq M0 fr B)=.ok .non (aq M0 fr {B with rows:=rs++[last++[hue]]}):=k4.trans (congrArg (bn.ok D.non) sr)
 rw[ay (cn k4')]
 generalize hB1:({B with rows:=rs++[last++[hue]]}:Bs)=B1
 have t1:B1.tch=B.tch:=by rw[←hB1]
 have g1:B1.grd=B.grd:=by rw[←hB1]
 have gits:bJ (ae 5) ρ (aq M0 fr B1)=.ok ⟨cs.map (nk xn),none⟩ (aq M0 fr B1):=by
  unfold bJ
  rw[v5];rfl
 have ec:=tj (ds0:=cs.map (nk xn)) (n:=3) (sg:=bO [0,1,2]) (ge:=eP) (ρ:=ρ) (f:=fun d=>match d with | .tup [_,n,_]=>n|d=>d) (M:=aq M0 fr B1) (cs.map (nk xn)) (fun d hd=>by
  obtain⟨q,_,rfl⟩:=List.mem_map.mp hd
  exact⟨[some (.int q.r),some (.int q.n),some (.int (dW xn q))]++ρ,rfl,rfl⟩)
 have em2:(cs.map (nk xn)).map (fun d=>match d with | .tup [_,n,_]=>n|d=>d)=(cs.map Sn.n).map D.int:=by
  rw[List.map_map,List.map_map];rfl
 rw[em2] at ec
 have lns:(cs.map Sn.n).length≤12:=by rw[List.length_map];exact cl
 generalize cs.map Sn.n=ns at *
 have k5:cA (bJ (ae 5)) 3 (bO [0,1,2]) bU eP aL ρ (aq M0 fr B1)=.ok (.lst (ns.map D.int)) (aq M0 fr B1):=by
  unfold cA
  rw[gits,ao]
  dsimp only
  rw[ec,ao]
  unfold aL
  rw[if_pos (aM (by rw[List.length_map];omega))]
 rw[ay (bT k5)]
 generalize hρ2:ρ.set 11 (some (.lst (ns.map D.int)))=ρ2
 have u0:∀M,ae 0 ρ2 M=.ok (.mr M0.length) M:=fun M=>by rw[←hρ2,←hρ];rfl
 have u1:∀M,ae 1 ρ2 M=.ok (.int row) M:=fun M=>by rw[←hρ2,←hρ];rfl
 have u2:∀M,ae 2 ρ2 M=.ok (.int (xn:Int)) M:=fun M=>by rw[←hρ2,←hρ];rfl
 have u3:∀M,ae 3 ρ2 M=.ok (.tup (fl.map D.int)) M:=fun M=>by rw[←hρ2,←hρ];rfl
 have u11:∀M,ae 11 ρ2 M=.ok (.lst (ns.map D.int)) M:=fun M=>by rw[←hρ2,←hρ];rfl
 have args:∀M,aa (ae 11) (aa (ae 1) (aa (ae 2) ag)) ρ2 M=.ok [.lst (ns.map D.int),.int row,.int (xn:Int)] M:=fun M=>gR (u11 M) (gR (u1 M) (gR (u2 M) rfl))
 have k6:=lP (c:="Beam") (m:="keep_touches") (n:=4) (u0 _) (jM (M0:=M0) (fr:=fr) (B:=B1)) rfl (args _) rfl (xo (row:=row) (x:=(xn:Int)) lns (by rw[t1];exact ht))
 rw[ay (cn k6),t1]
 have tst:∀M,aH (g2 (a9 true) (g2 bi (ae 3) (ae 2)) (gC (.int 0))) ρ2 M=.ok (!decide (fk=0)) M:=fun M=>aU (aB (aB (f:=bi) (u3 M) (u2 M) (ax M)) (y:=.int 0) rfl (nY fk 0 M))
 by_cases hz:fk=0
 ·rw[cT ((tst _).trans (by rw[hz];rfl)),if_pos hz,←hB1]
  rfl
 ·rw[bH ((tst _).trans (by rw[decide_eq_false hz];rfl)),if_neg hz]
  have k7:=lP (c:="Beam") (m:="keep_grounds") (n:=4) (u0 _) (jM (M0:=M0) (fr:=fr) (B:={B1 with tch:=iy ns (.tup [.int row,.int (xn:Int)]) B.tch ns.length})) rfl (args _) rfl (xG (row:=row) (x:=(xn:Int)) (ns:=ns) (by show B1.grd.length+_<_;rw[g1];omega))
  rw[cn k7,←hB1]
  rfl
theorem vD {p:Int}(hp:0<p):((t+1) / p=t / p∧(t+1) % p=t % p+1)∨(t+1) % p=0:=by
 have a:=Int.emod_add_mul_ediv (t+1) p
 have b:=Int.emod_add_mul_ediv t p
 have c1:=Int.emod_nonneg t (Int.ne_of_gt hp)
 have c2:=Int.emod_lt_of_pos t hp
 have c3:=Int.emod_nonneg (t+1) (Int.ne_of_gt hp)
 have c4:=Int.emod_lt_of_pos (t+1) hp
 have e1:p*((t+1) / p)-p*(t / p)=1+t % p-(t+1) % p:=by omega
 rw[←Int.mul_sub] at e1
 rcases Int.lt_trichotomy ((t+1) / p-t / p) 0 with z|z|z
 ·have:p*((t+1) / p-t / p)≤p*(-1):=Int.mul_le_mul_of_nonneg_left (by omega) (by omega)
  omega
 ·rw[z] at e1
  exact .inl ⟨by omega,by omega⟩
 ·have:p*1≤p*((t+1) / p-t / p):=Int.mul_le_mul_of_nonneg_left (by omega) (by omega)
  exact .inr (by omega)
structure uD (w g m mm:Int)(s:im)(t:Int)(B:Bs):Prop where
 te:B.t=t
 st:B.st=s.d
 p:B.Pure
 tch:B.tch.length≤144*t.toNat
 grd:B.grd.length≤12*t.toNat
 lost:B.lost.length≤12*t.toNat
 rl:B.rows.length≤t.toNat
 rr:∀r∈B.rows,r.length≤t.toNat
 row:0<t % (w+g)→t % (w+g)<w→∃s0,eJ mm s0∧B.tk=gN s0 w m (t / (w+g))∧B.rows≠[]
theorem wB {M0:aA}{s0:im}{hue:Int}{fs:im}(hm:mm≤12)(ok0:eJ mm s0)(h0:0≤t)(hp:0<w+g)
  (i1:B.t=t) (i2:B.st=s.d) (i3:B.Pure) (i4:B.tch.length≤144*t.toNat) (i5:B.grd.length≤12*t.toNat) (i6:B.lost.length≤12*(t.toNat+1)) (i7:B.rows.length≤t.toNat+1) (i8:∀r∈B.rows,r.length≤t.toNat)
  (htk:B.tk=gN s0 w m (t / (w+g))) (hr:B.rows=rs++[last]):uD w g m mm s (t+1) {B.laid s0 w m (t / (w+g)) (t % (w+g)) hue rs last with t:=t+1}:=by
 have e:(t+1).toNat=t.toNat+1:=by omega
 have pz:aR 30 (.tup [.int (t / (w+g)),.int (t % (w+g))])=true:=rfl
 have sl:((gE (t % (w+g)) (gK s0 m (t / (w+g)))).map Sn.n).length≤12:=by
  rw[List.length_map]
  exact Nat.le_trans (ug _ _) (y8 ok0 hm)
 refine⟨rfl,i2,⟨i3.st,i3.tk,qV pz i3.tch _,?_,i3.lost⟩,?_,?_,?_,?_,?_,?_⟩
 ·unfold Bs.laid
  dsimp only
  split
  ·exact i3.grd
  ·exact oV _ pz _ _ i3.grd
 ·show(iy _ _ B.tch _).length≤_
  have:=oY ((gE (t % (w+g)) (gK s0 m (t / (w+g)))).map Sn.n) (.tup [.int (t / (w+g)),.int (t % (w+g))]) B.tch ((gE (t % (w+g)) (gK s0 m (t / (w+g)))).map Sn.n).length
  have b:((gE (t % (w+g)) (gK s0 m (t / (w+g)))).map Sn.n).length*((gE (t % (w+g)) (gK s0 m (t / (w+g)))).map Sn.n).length≤12*12:=Nat.mul_le_mul sl sl
  omega
 ·unfold Bs.laid
  dsimp only
  split
  ·omega
  ·have:=lI (κ:=dH) (fun n=>Sum.inl n) (.tup [.int (t / (w+g)),.int (t % (w+g))]) ((gE (t % (w+g)) (gK s0 m (t / (w+g)))).map Sn.n) B.grd
   unfold su
   omega
 ·show B.lost.length≤_
  omega
 ·show(rs++[last++[hue]]).length≤_
  rw[hr,List.length_append] at i7
  rw[List.length_append]
  simp only[List.length_singleton] at *
  omega
 ·show∀r∈rs++[last++[hue]],_
  intro r hr'
  rcases List.mem_append.mp hr' with q|q
  ·have:=i8 r (by rw[hr];exact List.mem_append_left _ q)
   omega
  ·rw[List.mem_singleton] at q
   have:=i8 last (by rw[hr];simp)
   rw[q,List.length_append,List.length_singleton]
   omega
 ·intro h1 h2
  have d:(t+1) / (w+g)=t / (w+g):=by
   rcases vD (t:=t) hp with⟨q,_⟩|q
   ·exact q
   ·omega
  refine⟨s0,ok0,?_,?_⟩
  ·show B.tk=_
   rw[htk,d]
  ·show rs++[last++[hue]]≠[]
   simp
theorem EA (h0:fR M0)(ok:eJ mm s)(hm:mm≤12)(f:rJ w h g m)(ht0:0≤t)(ht1:t<h*(w+g))(ht2:t≤3000)(iv:uD w g m mm s t B) :
  ∃B',uD w g m mm s (t+1) B'∧iX [.mr M0.length] (aq M0 (cm w h g m) B)=.ok .non (aq M0 (cm w h g m) B'):=by
 have hp:0<w+g:=by have:=f.w;have:=f.g;omega
 have ep:=nI (M:=aq M0 (cm w h g m) B) f ht0 ht1
 have q0:∀B,(aq M0 (cm w h g m) B)[M0.length]?=some (.obj "Beam" (cL (cm w h g m) M0.length B)):=fun B=>jM
 have f1:=eB (g:=ae 0) (ρ:=[some (.mr M0.length),none,none]) (f:="frame") rfl (q0 B) qO
 have f2:=eB (g:=ae 0) (ρ:=[some (.mr M0.length),none,none]) (f:="ahead") rfl (q0 B) Al
 have c1:=eh (F:=ja) (o:=.ok (mV w g t) (aq M0 (cm w h g m) B)) f1 f2 (by rw[iv.te];exact ep)
 have adv:∀(B:Bs) (x1 x2:Option D),B.t=t→D7 "Beam" "ahead" (ae 0) (gC (.int 1)) [some (.mr M0.length),x1,x2] (aq M0 (cm w h g m) B)=.ok (.nx [some (.mr M0.length),x1,x2]) (aq M0 (cm w h g m) {B with t:=t+1}):=fun B x1 x2 hB=>by
  have a:=FO (c:="Beam") (f:="ahead") (go:=ae 0) (gv:=gC (.int 1)) (ρ:=[some (.mr M0.length),x1,x2]) (z:=.int (t+1)) rfl (q0 B) Al rfl (by rw[hB];rfl) (q0 B) xL
  rw[a,Lr]
 show∃B',_∧aQ (gj [some (.mr M0.length),none,none] _)=_
 unfold gj
 by_cases hz:t % (w+g)<w
 ·have pl:mV w g t=.tup [.int (t / (w+g)),.int (t % (w+g))]:=by unfold mV;rw[if_pos hz]
  rw[pl] at c1
  have k1:=uo (sg:=bO [1,2]) c1 (ρ1:=[some (.mr M0.length),some (.int (t / (w+g))),some (.int (t % (w+g)))]) rfl
  rw[ay k1]
  have x0:=Int.emod_nonneg t (Int.ne_of_gt hp)
  have tst:∀M,aH (g2 (a9 false) (ae 2) (gC (.int 0))) [some (.mr M0.length),some (.int (t / (w+g))),some (.int (t % (w+g)))] M=.ok (decide (t % (w+g)=0)) M:=fun M=>aU (aB (x:=.int (t % (w+g))) (y:=.int 0) rfl rfl (fU _ 0 M))
  have tst2:∀M,aH (g2 (jB true) (ae 2) (gC .non)) [some (.mr M0.length),some (.int (t / (w+g))),some (.int (t % (w+g)))] M=.ok true M:=fun M=>rfl
  by_cases hx:t % (w+g)=0
  ·have k2:=lP (c:="Beam") (m:="take_row") (n:=2) (go:=ae 0) (ga:=aa (ae 1) ag) (ρ:=[some (.mr M0.length),some (.int (t / (w+g))),some (.int (t % (w+g)))]) rfl (q0 B) rfl (ds:=[.int (t / (w+g))]) rfl rfl
    (Dq (row:=t / (w+g)) h0 iv.p iv.st ok hm f (by have:=iv.lost;omega) (by have:=iv.rl;omega))
   have e2:=(bH (b:=aD) ((tst (aq M0 (cm w h g m) B)).trans (by rw[decide_eq_true hx]))).trans (cn k2)
   rw[ay e2]
   generalize hB1:({B with tk:=gN s w m (t / (w+g)),rows:=B.rows++[[]],lost:=B.lost++k8 (t / (w+g)) (lB (cz s (t / (w+g))) (some m) none)}:Bs)=B1
   have j1:B1.t=t:=by rw[←hB1];exact iv.te
   have j2:B1.st=s.d:=by rw[←hB1];exact iv.st
   have jl:(k8 (t / (w+g)) (lB (cz s (t / (w+g))) (some m) none)).length≤12:=by
    unfold k8
    rw[List.length_map]
    exact Nat.le_trans (rj _ _ _) (xp ok hm)
   have j3:B1.Pure:=by
    rw[←hB1]
    refine⟨iv.p.st,rK s w m _,iv.p.tch,iv.p.grd,fun p hp'=>?_⟩
    rcases List.mem_append.mp hp' with q|q
    ·exact iv.p.lost p q
    ·obtain⟨n,_,rfl⟩:=List.mem_map.mp q
     rfl
   have j6:B1.lost.length≤12*(t.toNat+1):=by
    rw[←hB1]
    show(B.lost++_).length≤_
    rw[List.length_append]
    have:=iv.lost
    omega
   have j7:B1.rows.length≤t.toNat+1:=by
    rw[←hB1]
    show(B.rows++[[]]).length≤_
    rw[List.length_append]
    have:=iv.rl
    simp only[List.length_singleton]
    omega
   have j8:∀r∈B1.rows,r.length≤t.toNat:=by
    rw[←hB1]
    intro r hr
    rcases List.mem_append.mp hr with q|q
    ·exact iv.rr r q
    ·rw[List.mem_singleton] at q;rw[q];exact Nat.zero_le _
   have jt:B1.tch=B.tch:=by rw[←hB1]
   have jg:B1.grd=B.grd:=by rw[←hB1]
   have jk:B1.tk=gN s w m (t / (w+g)):=by rw[←hB1]
   have jr:B1.rows=B.rows++[[]]:=by rw[←hB1]
   obtain⟨ink,hue,_,_,_,ey⟩:=CZ (row:=t / (w+g)) (x:=t % (w+g)) h0 j3 j2 ok ok hm f jk ⟨x0,hz⟩ jr (by decide) (by rw[jt];have:=iv.tch;omega) (by rw[jg];have:=iv.grd;omega)
   have k3:=lP (c:="Beam") (m:="lay_spot") (n:=3) (go:=ae 0) (ga:=aa (ae 1) (aa (ae 2) ag)) (ρ:=[some (.mr M0.length),some (.int (t / (w+g))),some (.int (t % (w+g)))]) rfl (q0 B1) rfl (ds:=[.int (t / (w+g)),.int (t % (w+g))]) rfl rfl ey
   have e3:=(bH (b:=aD) (tst2 (aq M0 (cm w h g m) B1))).trans (cn k3)
   rw[ay e3,adv _ _ _ (show(B1.laid s w m (t / (w+g)) (t % (w+g)) hue B.rows []).t=t from j1)]
   exact⟨_,wB (M0:=M0) (fs:=s) hm ok ht0 hp j1 j2 j3 (by rw[jt];exact iv.tch) (by rw[jg];exact iv.grd) j6 j7 j8 jk jr,rfl⟩
  ·have e2:=cT (a:=bo (fA "Beam" "take_row" 2 fF (ae 0) (aa (ae 1) ag))) (b:=aD) ((tst (aq M0 (cm w h g m) B)).trans (by rw[decide_eq_false hx]))
   rw[ay (e2.trans rfl)]
   obtain⟨s0,ok0,jk,jn⟩:=iv.row (by omega) hz
   obtain⟨rs,last,jr⟩:∃rs last,B.rows=rs++[last]:=⟨B.rows.dropLast,B.rows.getLast jn,(List.dropLast_concat_getLast jn).symm⟩
   have jll:last.length<100000:=by
    have:=iv.rr last (by rw[jr];simp)
    omega
   obtain⟨ink,hue,_,_,_,ey⟩:=CZ (row:=t / (w+g)) (x:=t % (w+g)) h0 iv.p iv.st ok ok0 hm f jk ⟨x0,hz⟩ jr jll (by have:=iv.tch;omega) (by have:=iv.grd;omega)
   have k3:=lP (c:="Beam") (m:="lay_spot") (n:=3) (go:=ae 0) (ga:=aa (ae 1) (aa (ae 2) ag)) (ρ:=[some (.mr M0.length),some (.int (t / (w+g))),some (.int (t % (w+g)))]) rfl (q0 B) rfl (ds:=[.int (t / (w+g)),.int (t % (w+g))]) rfl rfl ey
   have e3:=(bH (b:=aD) (tst2 (aq M0 (cm w h g m) B))).trans (cn k3)
   rw[ay e3,adv _ _ _ (show(B.laid s0 w m (t / (w+g)) (t % (w+g)) hue rs last).t=t from iv.te)]
   exact⟨_,wB (M0:=M0) (fs:=s) hm ok0 ht0 hp iv.te iv.st iv.p iv.tch iv.grd (by have:=iv.lost;omega) (by have:=iv.rl;omega) iv.rr jk jr,rfl⟩
 ·have pl:mV w g t=.tup [.int (t / (w+g)),.non]:=by unfold mV;rw[if_neg hz]
  rw[pl] at c1
  have k1:=uo (sg:=bO [1,2]) c1 (ρ1:=[some (.mr M0.length),some (.int (t / (w+g))),some .non]) rfl
  rw[ay k1]
  have tst:∀M,aH (g2 (a9 false) (ae 2) (gC (.int 0))) [some (.mr M0.length),some (.int (t / (w+g))),some .non] M=.ok false M:=fun M=>rfl
  have tst2:∀M,aH (g2 (jB true) (ae 2) (gC .non)) [some (.mr M0.length),some (.int (t / (w+g))),some .non] M=.ok false M:=fun M=>rfl
  rw[ay ((cT (tst _)).trans rfl),ay ((cT (tst2 _)).trans rfl),adv _ _ _ iv.te]
  have e:(t+1).toNat=t.toNat+1:=by omega
  refine⟨{B with t:=t+1},⟨rfl,iv.st,⟨iv.p.st,iv.p.tk,iv.p.tch,iv.p.grd,iv.p.lost⟩,by have:=iv.tch;show B.tch.length≤_;omega,by have:=iv.grd;show B.grd.length≤_;omega,by have:=iv.lost;show B.lost.length≤_;omega,by have:=iv.rl;show B.rows.length≤_;omega,fun r hr=>by have:=iv.rr r hr;omega,?_⟩,rfl⟩
  intro h1 h2
  exfalso
  rcases vD (t:=t) hp with⟨_,q⟩|q <;> omega
theorem wI {M0:aA}{s:im}{w h g m mm e:Int}(h0:fR M0)(ok:eJ mm s)(hm:mm≤12)(f:rJ w h g m)(he:e≤h*(w+g))(he2:e≤3000){x1:Option D}:∀(n fuel:Nat) (t:Int) (B:Bs),0≤t→t+n=e→n<fuel→uD w g m mm s t B→
  ∃B',uD w g m mm s e B'∧dZ gU iW fuel [some (.mr M0.length),x1,some (.int e)] (aq M0 (cm w h g m) B)=.ok (.nx [some (.mr M0.length),x1,some (.int e)]) (aq M0 (cm w h g m) B')
 | n,0,t,B,_,_,hf,_=>by omega
 | 0,fuel+1,t,B,h1,h2,_,iv=>by
  have e1:t=e:=by omega
  subst e1
  refine⟨B,iv,ki ?_⟩
  unfold gU
  exact aU (aB (f:=rN) (eB (g:=ae 0) (ρ:=[some (.mr M0.length),x1,some (.int t)]) (f:="ahead") rfl jM Al) (b:=ae 2) (y:=.int t) rfl (by rw[iv.te];show bn.ok (D.bl (decide (t<t))) _=_;rw[decide_eq_false (by omega)]))
 | n+1,fuel+1,t,B,h1,h2,hf,iv=>by
  obtain⟨B1,iv1,e1⟩:=EA h0 ok hm f h1 (by omega) (by omega) iv
  obtain⟨B',iv',e2⟩:=wI h0 ok hm f he he2 (x1:=x1) n fuel (t+1) B1 (by omega) (by omega) (by omega) iv1
  refine⟨B',iv',?_⟩
  rw[←e2]
  refine vQ (M1:=aq M0 (cm w h g m) B) ?_ ?_
  ·unfold gU
   exact aU (aB (f:=rN) (eB (g:=ae 0) (ρ:=[some (.mr M0.length),x1,some (.int e)]) (f:="ahead") rfl jM Al) (b:=ae 2) (y:=.int e) rfl (by rw[iv.te];show bn.ok (D.bl (decide (t<e))) _=_;rw[decide_eq_true (by omega)]))
  ·unfold iW
   exact cn (lP (c:="Beam") (m:="go_tick") (n:=1) (go:=ae 0) (ga:=ag) (ρ:=[some (.mr M0.length),x1,some (.int e)]) rfl jM rfl (ds:=[]) rfl rfl e1)
theorem LS (h0:fR M0)(ok:eJ mm s)(hm:mm≤12)(f:rJ w h g m)(ht0:0≤t)(hk:0≤k)(he:t+k≤h*(w+g))(iv:uD w g m mm s t B) :
  ∃B',uD w g m mm s (t+k) B'∧l7 [.mr M0.length,.int k] (aq M0 (cm w h g m) B)=.ok .non (aq M0 (cm w h g m) B'):=by
 have hb:h*(w+g)≤40*60:=by
  have a:=f.w;have b:=f.g;have c:=f.h
  exact Int.mul_le_mul (by omega) (by omega) (by omega) (by omega)
 obtain⟨B',iv',ew⟩:=wI (x1:=some (.int k)) h0 ok hm f he (by omega) k.toNat 5000 t B ht0 (by omega) (by omega) iv
 refine⟨B',iv',?_⟩
 show aQ (lZ [some (.mr M0.length),some (.int k),none] _)=_
 unfold lZ
 have q0:(aq M0 (cm w h g m) B)[M0.length]?=some (.obj "Beam" (cL (cm w h g m) M0.length B)):=jM
 have k1:=bT (i:=2) (aB (f:=bS) (o:=.ok (.int (t+k)) (aq M0 (cm w h g m) B)) (eB (g:=ae 0) (ρ:=[some (.mr M0.length),some (.int k),none]) (f:="ahead") rfl q0 Al) (b:=ae 1) (y:=.int k) rfl (by rw[iv.te];rfl))
 rw[ay k1]
 have c1:=eL (F:=eG) (o:=.ok (.int (h*(w+g))) (aq M0 (cm w h g m) B)) (eB (g:=ae 0) (ρ:=[some (.mr M0.length),some (.int k),some (.int (t+k))]) (f:="frame") rfl q0 qO) (jG f)
 have tst:=aU (x:=false) (aB (f:=nr) (a:=ae 2) (ρ:=[some (.mr M0.length),some (.int k),some (.int (t+k))]) (x:=.int (t+k)) rfl c1 (by show bn.ok (D.bl (decide (t+k>h*(w+g)))) _=_;rw[decide_eq_false (by omega)]))
 refine(congrArg aQ (ay ((cT tst).trans rfl))).trans ?_
 show aQ (dZ gU iW 5000 [some (.mr M0.length),some (.int k),some (.int (t+k))] _)=_
 rw[ew];rfl
variable{fs:List (Str×D)}
theorem jj {f:Str}{gv:GE}{L L':aA}{y:D}(hv:gv ρ (M0++(.obj "Beam" fs::L))=.ok y (M0++(.obj "Beam" fs::L')))(hρ:∀M,ae 0 ρ M=.ok (.mr M0.length) M)(hl:fs.length<1000) :
  fW "Beam" f (ae 0) gv ρ (M0++(.obj "Beam" fs::L))=.ok (.nx ρ) (M0++(.obj "Beam" (gn f y fs)::L')):=by
 have e:(M0++(MO.obj "Beam" fs::L'))[M0.length]?=some (.obj "Beam" fs):=by rw[List.getElem?_append_right (Nat.le_refl _)];simp
 rw[yS hv (hρ _) e hl]
 congr 1
 rw[List.set_append_right _ _ (Nat.le_refl _),Nat.sub_self];rfl
theorem yy {L:aA}:jX ag ρ (M0++L)=.ok (.mr (M0.length+L.length)) (M0++(L++[.lst []])):=by
 rw[nw,List.length_append,List.append_assoc]
theorem LJ {L:aA}:wK ρ (M0++L)=.ok (.mr (M0.length+L.length)) (M0++(L++[.dK []])):=by
 show bn.ok (D.mr (M0++L).length) (M0++L++[.dK []])=_
 rw[List.length_append,List.append_assoc]
theorem Lm {L:aA}:vq ρ (M0++L)=.ok (.mr (M0.length+L.length)) (M0++(L++[.dT []])):=by
 show bn.ok (D.mr (M0++L).length) (M0++L++[.dT []])=_
 rw[List.length_append,List.append_assoc]
noncomputable def jQ (st:D):Bs:=⟨st,0,.tup [.tup [],.tup []],[],[],[],[]⟩
variable{st:D}
theorem Eo (hc:∀M,aG [fr,st] M=.ok .non M):bG [.mr M0.length,fr,st] (M0++[.obj "Beam" []])=.ok .non (aq M0 fr (jQ st)):=by
 show aQ (cG [some (.mr M0.length),some fr,some st] _)=_
 unfold cG
 have hρ:∀M,ae 0 [some (.mr M0.length),some fr,some st] M=.ok (.mr M0.length) M:=fun M=>rfl
 have k0:=cn (eh (F:=aG) (a:=ae 1) (b:=ae 2) (ρ:=[some (.mr M0.length),some fr,some st]) (M:=M0++[MO.obj "Beam" []]) rfl rfl (hc _))
 rw[ay k0]
 rw[ay (jj (f:="frame") (gv:=ae 1) (y:=fr) rfl hρ (by decide))]
 rw[ay (jj (f:="standing") (gv:=ae 2) (y:=st) rfl hρ (Nat.lt_of_lt_of_eq (by decide:1<1000) rfl))]
 rw[ay (jj (f:="ahead") (gv:=gC (.int 0)) (y:=.int 0) rfl hρ (Nat.lt_of_lt_of_eq (by decide:2<1000) rfl))]
 rw[ay (jj (f:="row_taken") (y:=.tup [.tup [],.tup []]) (jK (ds:=[.tup [],.tup []]) rfl (by decide)) hρ (Nat.lt_of_lt_of_eq (by decide:3<1000) rfl))]
 rw[ay (jj (f:="laid_rows") (y:=.mr (M0.length+1)) yy hρ (Nat.lt_of_lt_of_eq (by decide:4<1000) rfl))]
 rw[ay (jj (f:="first_touches") (y:=.mr (M0.length+2)) Lm hρ (Nat.lt_of_lt_of_eq (by decide:5<1000) rfl))]
 rw[ay (jj (f:="first_grounds") (y:=.mr (M0.length+3)) LJ hρ (Nat.lt_of_lt_of_eq (by decide:6<1000) rfl))]
 rw[jj (f:="lost_pairs") (y:=.mr (M0.length+4)) yy hρ (Nat.lt_of_lt_of_eq (by decide:7<1000) rfl)]
 rfl
variable{c:Str}
theorem Cv (hc:∀M,aG [fr,st] M=.err c M):bG [.mr M0.length,fr,st] (M0++[.obj "Beam" []])=.err c (M0++[.obj "Beam" []]):=by
 show aQ (cG [some (.mr M0.length),some fr,some st] _)=_
 unfold cG
 have k0:bo (aj 2 aG (aa (ae 1) (aa (ae 2) ag))) [some (.mr M0.length),some fr,some st] (M0++[.obj "Beam" []])=.err c (M0++[.obj "Beam" []]):=by
  unfold bo
  rw[eh (F:=aG) (a:=ae 1) (b:=ae 2) (ρ:=[some (.mr M0.length),some fr,some st]) (M:=M0++[MO.obj "Beam" []]) rfl rfl (hc _)];rfl
 rw[yY k0];rfl
variable{ga:GA}
theorem yB (ha:ga ρ M0=.ok [fr,st] M0)(hc:∀M,aG [fr,st] M=.ok .non M):ib "Beam" 3 bG ga ρ M0=.ok (.mr M0.length) (aq M0 fr (jQ st)):=by
 unfold ib
 rw[ha,ao,if_pos (show [fr,st].length+1=3 from rfl),Eo hc,ao]
theorem AB (ha:ga ρ M0=.ok [fr,st] M0)(hc:∀M,aG [fr,st] M=.err c M):ib "Beam" 3 bG ga ρ M0=.err c (M0++[.obj "Beam" []]):=by
 unfold ib
 rw[ha,ao,if_pos (show [fr,st].length+1=3 from rfl),Cv hc];rfl
theorem NH (ps:aR 30 s.d=true):uD w g m mm s 0 (jQ s.d):=
 ⟨rfl,rfl,⟨ps,rfl,fun _ h=>(by cases h),fun _ h=>(by cases h),fun _ h=>(by cases h)⟩,Nat.zero_le _,Nat.zero_le _,Nat.zero_le _,Nat.zero_le _,fun _ h=>(by cases h),fun h=>(by simp at h)⟩
theorem AM :kU [fr,.lst []] M=.ok (.bl true) M:=by
 have e:lG []=[]:=by simp[lG]
 have so:aC tu (aa (ae 2) ag) [some fr,some (.lst []),some (.lst [])] M=.ok (.lst []) M:=by
  refine nA (a:=ae 2) (x:=.lst []) rfl ?_
  show(if 0<64 then bn.ok (D.lst ((lG []).map D.int)) M else .bad)=_
  rw[e];rfl
 show aQ (iG [some fr,some (.lst []),none] M)=_
 unfold iG
 have k1:aI 2 (cA (bJ (ae 1)) 2 (bO [0,1]) bU jH aL) [some fr,some (.lst []),none] M=.ok (.nx [some fr,some (.lst []),some (.lst [])]) M:=by
  refine bT (d:=.lst []) ?_
  show aL [] M=_
  unfold aL
  rw[if_pos (show([]:List D).length≤sizeLine from Nat.zero_le _)]
 rw[ay k1]
 have k2:aC fh (aa (aW (bJ (ae 2)) bU jD aL) ag) [some fr,some (.lst []),some (.lst [])] M=.ok (.bl true) M:=fj (xs:=[]) (p:=fun _=>true) rfl (by decide) (fun x hx=>by cases hx)
 have k3:=cw (x:=true) (y:=true) (a:=g2 (a9 false) (ae 2) (aC tu (aa (ae 2) ag))) (ρ:=[some fr,some (.lst []),some (.lst [])]) (M:=M) (aB (x:=.lst []) rfl so (by rfl)) (fun _=>k2)
 rw[b9 k3];rfl
theorem AW (hc:aG [fr,st] M=.ok .non M):f7 [fr,st,.lst []] M=.ok .non M:=by
 show aQ (eO [some fr,some st,some (.lst [])] M)=_
 unfold eO
 rw[ay (cn (eh (a:=ae 0) (b:=ae 1) (ρ:=[some fr,some st,some (.lst [])]) rfl rfl hc))]
 have k1:=aS (bg (eh (a:=ae 0) (b:=ae 2) (ρ:=[some fr,some st,some (.lst [])]) rfl rfl (AM (fr:=fr) (M:=M))))
 rw[ay ((cT k1).trans rfl)]
 have k2:aC fh (aa (cA (bJ (ae 2)) 2 (bO [0,1]) bU jF aL) ag) [some fr,some st,some (.lst [])] M=.ok (.bl true) M:=by
  refine nA (x:=.lst []) (M1:=M) ?_ rfl
  show aL [] M=_
  unfold aL
  rw[if_pos (show([]:List D).length≤sizeLine from Nat.zero_le _)]
 rw[cT (aS (bg k2))];rfl
theorem A3 (hc:aG [fr,st] M=.err c M):f7 [fr,st,.lst []] M=.err c M:=by
 show aQ (eO [some fr,some st,some (.lst [])] M)=_
 unfold eO
 have k0:bo (aj 2 aG (aa (ae 0) (aa (ae 1) ag))) [some fr,some st,some (.lst [])] M=.err c M:=by
  unfold bo
  rw[eh (a:=ae 0) (b:=ae 1) (ρ:=[some fr,some st,some (.lst [])]) rfl rfl hc];rfl
 rw[yY k0];rfl
theorem vn (h0:fR M0)(ok:eJ mm s)(hm:mm≤12)(f:rJ w h g m)(ps:aR 30 s.d=true)(hc:∀M,aG [cm w h g m,s.d] M=.ok .non M) :
  ∃B',uD w g m mm s (h*(w+g)) B'∧iM [cm w h g m,s.d,.lst []] M0=.ok (.mr M0.length) (aq M0 (cm w h g m) B'):=by
 have hp:0≤h*(w+g):=Int.mul_nonneg (by have:=f.h;omega) (by have:=f.w;have:=f.g;omega)
 obtain⟨B',iv,eg⟩:=LS (k:=h*(w+g)) h0 ok hm f (Int.le_refl 0) hp (by omega) (NH ps)
 rw[Int.zero_add] at iv
 refine⟨B',iv,?_⟩
 show aQ (oP [some (cm w h g m),some s.d,some (.lst []),none,none,none] M0)=_
 unfold oP
 rw[ay (cn (dX (a:=ae 0) (b:=ae 1) (c:=ae 2) (ρ:=[some (cm w h g m),some s.d,some (.lst []),none,none,none]) rfl rfl rfl (AW (hc M0))))]
 rw[ay (bT (yB (ga:=aa (ae 0) (aa (ae 1) ag)) (ρ:=[some (cm w h g m),some s.d,some (.lst []),none,none,none]) rfl hc))]
 have kf:jb (bJ (ae 2)) (bO [4,5]) p0 [some (cm w h g m),some s.d,some (.lst []),some (.mr M0.length),none,none] (aq M0 (cm w h g m) (jQ s.d))=.ok (.nx [some (cm w h g m),some s.d,some (.lst []),some (.mr M0.length),none,none]) (aq M0 (cm w h g m) (jQ s.d)):=rfl
 rw[ay (show jb (bJ (ae 2)) (bO [4,5]) p0 ([some (cm w h g m),some s.d,some (.lst []),none,none,none].set 3 (some (.mr M0.length))) (aq M0 (cm w h g m) (jQ s.d))=_ from kf)]
 have q0:(aq M0 (cm w h g m) (jQ s.d))[M0.length]?=some (.obj "Beam" (cL (cm w h g m) M0.length (jQ s.d))):=jM
 have kt:ii [.mr M0.length] (aq M0 (cm w h g m) (jQ s.d))=.ok (.int 0) (aq M0 (cm w h g m) (jQ s.d)):=by
  show aQ (js [some (.mr M0.length)] _)=_
  unfold js
  rw[b9 (eB (g:=ae 0) (ρ:=[some (.mr M0.length)]) (f:="ahead") rfl q0 Al)];rfl
 have ks:=aB (f:=iF) (o:=.ok (.int (h*(w+g))) (aq M0 (cm w h g m) (jQ s.d))) (eL (a:=ae 0) (ρ:=[some (cm w h g m),some s.d,some (.lst []),some (.mr M0.length),none,none]) rfl (jG (M:=aq M0 (cm w h g m) (jQ s.d)) f)) (lP (c:="Beam") (m:="tick") (n:=1) (go:=ae 3) (ga:=ag) rfl q0 rfl (ds:=[]) rfl rfl kt) (by show bn.ok (D.int (h*(w+g)-0)) _=_;rw[Int.sub_zero])
 have kg:=lP (c:="Beam") (m:="go") (n:=2) (go:=ae 3) (ρ:=[some (cm w h g m),some s.d,some (.lst []),some (.mr M0.length),none,none]) rfl q0 rfl (ga:=aa (g2 iF (aj 1 eG (aa (ae 0) ag)) (fA "Beam" "tick" 1 ii (ae 3) ag)) ag) (ds:=[.int (h*(w+g))]) (gR ks rfl) rfl eg
 rw[ay (cn kg)]
 rfl
theorem vV (hc:∀M,aG [fr,st] M=.err c M):iM [fr,st,.lst []] M0=.err c M0:=by
 show aQ (oP [some fr,some st,some (.lst []),none,none,none] M0)=_
 unfold oP
 have k0:bo (aj 3 f7 (aa (ae 0) (aa (ae 1) (aa (ae 2) ag)))) [some fr,some st,some (.lst []),none,none,none] M0=.err c M0:=by
  unfold bo
  rw[dX (a:=ae 0) (b:=ae 1) (c:=ae 2) (ρ:=[some fr,some st,some (.lst []),none,none,none]) rfl rfl rfl (A3 (hc M0))];rfl
 rw[yY k0];rfl
noncomputable def je (b:Bool):Nat→D→Bool
 | 0,_=>false
 | n+1,d=>match d with
  | .non=>true
  | .bl _=>b
  | .int _=>true
  | .str x=>PyData.strOk x
  | .tup xs=>decide (xs.length≤1000+n)&&xs.all (je b n)
  | .lst xs=>decide (xs.length≤1000+n)&&xs.all (je b n)
  | _=>false
theorem iE (h:je b (n+1) (.tup xs)=true):xs.length≤1000+n∧∀x∈xs,je b n x=true:=by
 have h:(decide (xs.length≤1000+n)&&xs.all (je b n))=true:=h
 rw[Bool.and_eq_true,decide_eq_true_eq,List.all_eq_true] at h
 exact h
theorem fu (h1:xs.length≤1000+n)(h2:∀x∈xs,je b n x=true):je b (n+1) (.tup xs)=true:=by
 show(decide (xs.length≤1000+n)&&xs.all (je b n))=true
 rw[Bool.and_eq_true,decide_eq_true_eq,List.all_eq_true]
 exact⟨h1,h2⟩
theorem rh (h1:xs.length≤1000+n)(h2:∀x∈xs,je b n x=true):je b (n+1) (.lst xs)=true:=by
 show(decide (xs.length≤1000+n)&&xs.all (je b n))=true
 rw[Bool.and_eq_true,decide_eq_true_eq,List.all_eq_true]
 exact⟨h1,h2⟩
theorem eE {b:Bool}:∀{n m:Nat} {d:D},n≤m→je b n d=true→je b m d=true
 | 0,m,d,_,h=>by cases h
 | n+1,0,d,hm,_=>by omega
 | n+1,m+1,d,hm,h=>by
  cases d with
  | tup xs=>exact fu (by have:=(iE h).1;omega) fun x hx=>eE (by omega) ((iE h).2 x hx)
  | lst xs=>
   have h:(decide (xs.length≤1000+n)&&xs.all (je b n))=true:=h
   rw[Bool.and_eq_true,decide_eq_true_eq,List.all_eq_true] at h
   exact rh (by have:=h.1;omega) fun x hx=>eE (by omega) (h.2 x hx)
  | _=>exact h
theorem yk {d:D}(h:je b n d=true):∃t,Jb d=some t:=by
 cases n with
 | zero=>cases h
 | succ n=>cases d <;> first|exact⟨_,rfl⟩|cases h
inductive fK:D→List Nat→D→Prop where
 | nil {d:D}:fK d [] d
 | cons {xs:List D} {k:Nat} {x h:D} {ks:List Nat}:xs[k]?=some x→fK x ks h→fK (.tup xs) (k::ks) h
noncomputable abbrev iz (ks:List Nat):List D:=ks.map fun(k:Nat)=>D.int (k:Int)
variable{ks:List Nat}
theorem fK.ok {d h:D}(p:fK d ks h):∀{n:Nat},je b n d=true→ks.length<n∧je b (n-ks.length) h=true:=by
 induction p with
 | nil=>
  intro n o
  cases n with
  | zero=>cases o
  | succ n=>exact⟨by simp,o⟩
 | cons e _ ih=>
  intro n o
  cases n with
  | zero=>cases o
  | succ n=>
   have:=ih ((iE o).2 _ (List.mem_of_getElem? e))
   refine⟨by simp only[List.length_cons];omega,?_⟩
   simp only[List.length_cons,Nat.add_sub_add_right]
   exact this.2
theorem fK.snoc {d:D}{k:Nat}{x:D}(p:fK d ks (.tup xs))(e:xs[k]?=some x):fK d (ks++[k]) x:=by
 generalize hh:D.tup xs=h at p
 induction p with
 | nil=>subst hh;exact .cons e .nil
 | cons e1 _ ih=>exact .cons e1 (ih hh)
theorem qH {l:List Int}{rest:aA}{d0:D}{b:Bool}:∀(n:Nat) (d:D) (ks:List Nat) (i c:Int) (fuel:Nat),je b n d=true→n≤fuel→0≤i→ks.length+n≤100→fK d0 ks d→rest=[]→
  ∃d' ks' i' c',0≤i'∧fK d0 ks' d'∧dZ bu eY fuel [some (.mr 0),some d,some (.mr 1)] [tp l i c,.lst (iz ks)]=.ok (.nx [some (.mr 0),some d',some (.mr 1)]) [tp l i' c',.lst (iz ks')]
 | 0,d,ks,i,c,fuel,h,_,_,_,_,_=>by cases h
 | n+1,d,ks,i,c,fuel,h,hf,hi,hk,hp,hr=>by
  cases fuel with
  | zero=>omega
  | succ fuel=>
   by_cases ht:∃xs,d=.tup xs
   ·obtain⟨xs,rfl⟩:=ht
    by_cases h0:xs=[]
    ·subst h0
     exact⟨_,ks,i,c,hi,hp,ki (by simp_arith [bu])⟩
    ·have hl:0<xs.length:=List.length_pos_iff.mpr h0
     have ho:=iE h
     obtain⟨f1,M1,a1,b1,⟨i1,c1,q1,e1'⟩,e1⟩:=bB (many:=8) (l:=l) (rest:=[.lst (iz ks)]) (M:=[tp l i c,.lst (iz ks)]) (by decide) (aV (by decide) (by decide)) ⟨i,c,hi,rfl⟩
     by_cases hz:0<f1
     ·obtain⟨f2,M2,a2,b2,⟨i2,c2,q2,e2'⟩,e2⟩:=bB (many:=xs.length) (l:=l) (rest:=[.lst (iz ks)]) (M:=M1) (by omega) (aV (by omega) (by omega)) ⟨i1,c1,q1,e1'⟩
      obtain⟨k,rfl⟩:=Int.eq_ofNat_of_zero_le a2
      have hk2:k<xs.length:=by omega
      have ek:xs[k]?=some xs[k]:=List.getElem?_eq_getElem hk2
      obtain⟨d',ks',i',c',r1,r2,r3⟩:=qH (l:=l) (rest:=rest) (d0:=d0) (b:=b) n xs[k] (ks++[k]) i2 c2 fuel (ho.2 _ (List.getElem_mem hk2)) (by omega) q2 (by simp;omega) (hp.snoc ek) hr
      refine⟨d',ks',i',c',r1,r2,?_⟩
      rw[←r3]
      have lim:ks.length<sizeLine:=Nat.lt_of_lt_of_le (by omega:ks.length<1000) (aM (by decide))
      have w1:bu [some (.mr 0),some (.tup xs),some (.mr 1)] [tp l i c,.lst (iz ks)]=.ok true M1:=by
       simp_arith [bu,hl,e1,hz]
      have at1:jL xs (k:Int)=some xs[k]:=dU ek
      have bb:eY [some (.mr 0),some (.tup xs),some (.mr 1)] M1=.ok (.nx [some (.mr 0),some xs[k],some (.mr 1)]) [tp l i2 c2,.lst (iz (ks++[k]))]:=by
       have lst':=yw (List.map (fun(k:Nat)=>D.int (k:Int)) ks) (D.int (k:Int))
       have m1:M1[1]?=some (MO.lst (iz ks)):=by rw[e1'];rfl
       simp_arith [eY,m1,e2,e2',lim,lst',at1]
      exact vQ w1 bb
     ·refine⟨_,ks,i1,c1,q1,hp,?_⟩
      rw[ki (M1:=M1) (by simp_arith [bu,hl,e1,hz]),e1']
   ·refine⟨_,ks,i,c,hi,hp,ki ?_⟩
    cases d with
    | tup xs=>exact absurd ⟨_,rfl⟩ ht
    | non=>simp_arith [bu]
    | bl _=>simp_arith [bu]
    | int _=>simp_arith [bu]
    | str _=>simp_arith [bu]
    | lst _=>simp_arith [bu]
    | _=>cases h
theorem DP {d:D}(h:je b n d=true)(hn:n≤50)(hM:dA l [] M):∃ks h' M',dA l [] M'∧fK d ks h'∧fP [.mr 0,d] M=.ok (.lst (iz ks)) M':=by
 obtain⟨i,c,hi,rfl⟩:=hM
 obtain⟨d',ks',i',c',r1,r2,r3⟩:=qH (l:=l) (rest:=[]) (d0:=d) n d [] i c 5000 h (by omega) hi (by simp;omega) .nil rfl
 refine⟨ks',d',[tp l i' c'],⟨i',c',r1,rfl⟩,r2,?_⟩
 have e:aX 1 ig [.mr 0,d] [tp l i c]=.ok (.mr 1) ([tp l i' c']++[.lst (iz ks')]):=by
  have r3':dZ bu eY 5000 [some (.mr 0),some d,some (.mr 1)] [tp l i c,.lst []]=_:=r3
  unfold ig
  simp_arith [o0,r3']
 unfold fP
 rw[e]
 show iQ 1 (.ok (.mr 1) ([tp l i' c']++[.lst (iz ks')]))=_
 have pM:([tp l i' c']:aA).all qK=true:=by simp[tp,qK,sD]
 exact Fu (M:=[tp l i' c']) (List.all_eq_true.mpr fun x hx=>by
  obtain⟨k,_,rfl⟩:=List.mem_map.mp hx
  rfl) pM
theorem HL {d h:D}(p:fK d ks h):gP [d,.lst (iz ks)] M=.ok h M:=by
 have go:∀(ds0:List D) (ks:List Nat) (d h:D) (x2:Option D) (pth:D),fK d ks h→∃y2,gJ ⟨ds0,none⟩ (ej 2) jw (iz ks) [some d,some pth,x2] M=.ok (.nx [some h,some pth,y2]) M:=by
  intro ds0 ks
  induction ks with
  | nil=>intro d h x2 pth p;cases p;exact⟨x2,rfl⟩
  | cons k ks ih=>
   intro d h x2 pth p
   cases p with
   | cons e p'=>
    rename_i xs x
    obtain⟨y2,q⟩:=ih x h (some (.int (k:Int))) pth p'
    refine⟨y2,?_⟩
    have at1:jL xs (k:Int)=some x:=dU e
    rw[←q]
    simp_arith [gJ,oN,jw,at1]
 obtain⟨y2,q⟩:=go (iz ks) ks d h none (.lst (iz ks)) p
 unfold gP mP
 simp_arith [jb,q]
noncomputable def nZ:D→List Nat→D→D
 | d,[],o=>o
 | .tup xs,k::ks,o=>.tup (xs.take k++[nZ (xs.getD k .non) ks o]++xs.drop (k+1))
 | d,_::_,_=>d
theorem Eh {d h o:D}{m:Nat}(p:fK d ks h)(hd:je true n d=true)(ho:je true m o=true):je true (n+m) (nZ d ks o)=true:=by
 induction p generalizing n with
 | nil=>exact eE (by omega) ho
 | cons e p' ih=>
  rename_i xs k x h' ks'
  cases n with
  | zero=>cases hd
  | succ n=>
   have q:=iE hd
   have hx:=ih (q.2 _ (List.mem_of_getElem? e))
   have hk:=(List.getElem?_eq_some_iff.mp e).1
   have eg:xs.getD k .non=x:=by simp[List.getD,e]
   have e1:n+1+m=(n+m)+1:=by omega
   rw[e1]
   show je true (n+m+1) (.tup (xs.take k++[nZ (xs.getD k .non) ks' o]++xs.drop (k+1)))=true
   rw[eg]
   refine fu (by simp;omega) fun y hy=>?_
   simp only[List.mem_append,List.mem_singleton] at hy
   rcases hy with(hy|hy)|hy
   ·exact eE (by omega) (q.2 y (List.mem_of_mem_take hy))
   ·rw[hy];exact hx
   ·exact eE (by omega) (q.2 y (List.mem_of_mem_drop hy))
theorem Ic {d h o:D}(p:fK d ks h):∀{n:Nat} {b:Bool} {m:Nat},ks.length<n→ks.length<40→m≤1000→je b m d=true→bp n [d,.lst (iz ks),o] M=.ok (nZ d ks o) M:=by
 induction p with
 | nil=>
  intro n b m hn _ _ _
  cases n with
  | zero=>omega
  | succ n=>
   unfold bp iN
   simp_arith [a9,nZ]
 | cons e p' ih=>
  rename_i xs k x h' ks'
  intro n b m hn hk hm hok
  cases n with
  | zero=>omega
  | succ n=>
   cases m with
   | zero=>cases hok
   | succ m=>
    have q:=iE hok
    have i1:=ih (n:=n) (b:=b) (m:=m) (by simp only[List.length_cons] at hn;omega) (by simp only[List.length_cons] at hk;omega) (by omega) (q.2 _ (List.mem_of_getElem? e))
    have at1:jL xs (k:Int)=some x:=dU e
    have at0:jL (D.int (k:Int)::iz ks') 0=some (.int (k:Int)):=dU (j:=0) rfl
    have hkl:=(List.getElem?_eq_some_iff.mp e).1
    have eg:xs.getD k .non=x:=by simp[List.getD,e]
    have ck:cq 39 (iz ks')=true:=by
     have z:=pE 39 (ks'.map fun(k:Nat)=>(k:Int))
     rw[List.map_map] at z
     exact z
    have l1:(1:Nat)≤sizeLine:=aM (by decide)
    have c1:gG (D.int (k:Int)::iz ks') (some 1) none=iz ks':=by
     unfold gG
     have z:HT.sIx (D.int (k:Int)::iz ks').length 0 (some 1)=1:=by
      have:=HT.sIx_nat (D.int (k:Int)::iz ks').length 0 1
      rw[show((1:Nat):Int)=1 from rfl] at this
      rw[this];simp
     rw[z,HT.sIx_none]
     exact List.take_of_length_le (by simp)
    have c2:gG xs none (some (k:Int))=xs.take k:=by
     unfold gG
     rw[HT.sIx_nat,HT.sIx_none]
     simp[Nat.min_eq_left (Nat.le_of_lt hkl)]
    have c3:gG xs (some ((k:Int)+1)) none=xs.drop (k+1):=by
     unfold gG
     rw[show((k:Int)+1)=((k+1:Nat):Int) from by omega,HT.sIx_nat,HT.sIx_none]
     rw[Nat.min_eq_left (by omega)]
     exact List.take_of_length_le (by simp)
    have s1:(xs.take k).length+1≤sizeLine:=aM (by simp;omega)
    have s2:(xs.take k++[nZ x ks' o]).length+(xs.drop (k+1)).length≤sizeLine:=aM (by simp;omega)
    have s2':min k xs.length+1+(xs.length-(k+1))≤sizeLine:=aM (by omega)
    have s1':min k xs.length+1≤sizeLine:=aM (by omega)
    show aX 2 (iN (bp n)) [.tup xs,.lst (iz (k::ks')),o] M=.ok (.tup (xs.take k++[nZ (xs.getD k .non) ks' o]++xs.drop (k+1))) M
    rw[eg]
    unfold iN
    simp_arith [a9,ck,at0,at1,c1,c2,c3,i1,l1,s1',s2']
theorem Az (hM:dA l rest M):∃d M',dA l rest M'∧je true 4 d=true∧eC [.mr 0] M=.ok d M':=by
 have lg:(1000000000000000000000000000000:Int).natAbs.log2<9000:=by decide +kernel
 obtain⟨f1,M1,a1,b1,t1,e1⟩:=bB (many:=1000000000000000000000000000000) (by decide) lg hM
 obtain⟨f2,M2,a2,b2,t2,e2⟩:=bB (many:=1000000000000000000000000000000) (by decide) lg t1
 obtain⟨f3,M3,a3,b3,t3,e3⟩:=bB (many:=34) (by decide) (aV (by decide) (by decide)) t2
 obtain⟨k,rfl⟩:=Int.eq_ofNat_of_zero_le a3
 have hk:k<34:=by omega
 have all:∀x∈([.non,.bl true,.bl false,.int (-1),.int 0,.int 1,.int 16,.int 64,.int 40,.int 41,.int 1001,.int (-1001),.int 13,.str "",.str "shift",.str "pot",.lst [],.tup [],
   .tup [.int 0],.tup [.int 0,.int 0],.lst [.int 0,.int 0],.tup [.tup [.int 0]],.tup [.tup [.int 0,.int 1],.tup [.int 1]],.tup [.int 1,.int 2,.int 3,.int 4,.int 5],.tup [.str "move",.int 0,.int 0,.int 0],.tup [.tup [.int 1,.bl true]],.lst [.lst [.int 0]],.int 8,.int 3,.int 4,.str "0",.int 12,.int f1,.int (-f2)]:List D),je true 4 x=true:=by
  intro x hx
  simp only[List.mem_cons,List.mem_nil_iff,or_false] at hx
  rcases hx with h|h|h|h|h|h|h|h|h|h|h|h|h|h|h|h|h|h|h|h|h|h|h|h|h|h|h|h|h|h|h|h|h|h <;> subst h <;> first|rfl|decide +kernel
 have at1:jL ([.non,.bl true,.bl false,.int (-1),.int 0,.int 1,.int 16,.int 64,.int 40,.int 41,.int 1001,.int (-1001),.int 13,.str "",.str "shift",.str "pot",.lst [],.tup [],
   .tup [.int 0],.tup [.int 0,.int 0],.lst [.int 0,.int 0],.tup [.tup [.int 0]],.tup [.tup [.int 0,.int 1],.tup [.int 1]],.tup [.int 1,.int 2,.int 3,.int 4,.int 5],.tup [.str "move",.int 0,.int 0,.int 0],.tup [.tup [.int 1,.bl true]],.lst [.lst [.int 0]],.int 8,.int 3,.int 4,.str "0",.int 12,.int f1,.int (-f2)]:List D) (k:Int)=some _:=dU (List.getElem?_eq_getElem (by simpa using hk))
 refine⟨_,M3,t3,all _ (List.getElem_mem (by simpa using hk)),?_⟩
 have z:∀n:Nat,n≤50→n≤sizeLine:=fun n h=>aM (by omega)
 have z1:=z 1 (by decide);have z2:=z 2 (by decide);have z3:=z 3 (by decide);have z4:=z 4 (by decide);have z5:=z 5 (by decide);have z11:=z 11 (by decide);have z18:=z 18 (by decide);have z21:=z 21 (by decide);have z32:=z 32 (by decide);have z34:=z 34 (by decide)
 unfold eC mS
 simp_arith [e1,e2,e3,z1,z2,z3,z4,z5,z11,z18,z21,z32,z34,at1]
theorem nH (h:je b (n+1) (.tup xs)=true):je b (n+1) (.tup (gG xs none (some (-1))))=true:=by
 have q:=iE h
 unfold gG
 refine fu (by rw[List.length_take,List.length_drop];have:=q.1;omega) fun x hx=>q.2 x (List.mem_of_mem_drop (List.mem_of_mem_take hx))
noncomputable def Od:GS:=(aJ (aj 3 (bp 20) (aa (ae 1) (aa (ae 2) (aa (aj 1 eC (aa (ae 0) ag)) ag)))))
noncomputable def JD (k:Int)(g:GE):GS:=cJ (cx (bF (cE "tuple" (ae 3))) (aH (g2 (a9 false) (ae 4) (gC (.int k))))) (aJ (aj 3 (bp 20) (aa (ae 1) (aa (ae 2) (aa g ag))))) aD
noncomputable def Gs:GS:=cJ (cx (bF (cE "tuple" (ae 3))) (cx (aH (g2 (a9 false) (ae 4) (gC (.int 3)))) (aH (g2 nr (aC a7 (aa (ae 3) ag)) (gC (.int 0)))))) (aJ (aj 3 (bp 20) (aa (ae 1) (aa (ae 2) (aa (g2 bS (ae 3) (pZ (ae 3) bQ (eI (gC (.int 1))))) ag))))) aD
noncomputable def Gd:GS:=cJ (cx (aH (g2 (a9 false) (ae 4) (gC (.int 4)))) (bF (cE "int" (ae 3)))) (aJ (aj 3 (bp 20) (aa (ae 1) (aa (ae 2) (aa (g2 bS (ae 3) (g2 bi (dM (aa (gC (.int 1)) (aa (iU (gC (.int 1))) (aa (gC (.int 64)) (aa (gC (.int 1000)) ag))))) (aj 2 aw (aa (ae 0) (aa (gC (.int 4)) ag))))) ag))))) aD
noncomputable def CD:GS:=ar (JD 1 (aC kZ (aa (ae 3) ag))) (ar (JD 2 (pZ (ae 3) bQ (eI (iU (gC (.int 1)))))) (ar Gs (ar Gd Od)))
theorem Le (ρ:cr)(M:aA):gV ρ M=ar (aI 2 (aj 2 fP (aa (ae 0) (aa (ae 1) ag)))) (ar (aI 3 (aj 2 gP (aa (ae 1) (aa (ae 2) ag)))) (ar (aI 4 (aj 2 aw (aa (ae 0) (aa (gC (.int 5)) ag)))) CD)) ρ M:=rfl
noncomputable def iT:D→Bool
 | .tup _=>true
 | _=>false
variable{here:D}
theorem sT {m:Nat}{x0 x1 x2 x4:D}(hh:je true (m+1) here=true):bF (cE "tuple" (ae 3)) [some x0,some x1,some x2,some here,some x4] M=.ok (iT here) M:=by
 cases here <;> first|rfl|(cases hh)
theorem mR {m:Nat}{x0 x1 x2:D}{g:GE}(hh:je true (m+1) here=true)(h:¬(iT here=true∧way=k)):JD k g [some x0,some x1,some x2,some here,some (.int way)] M=.ok (.nx [some x0,some x1,some x2,some here,some (.int way)]) M:=by
 unfold JD
 refine(cT ((bW (sT hh) fun _=>aU (aB (x:=.int way) (y:=.int k) rfl rfl (fU way k M))).trans ?_)).trans rfl
 congr 1
 cases q:iT here with
 | false=>rfl
 | true=>rw[decide_eq_false fun e=>h ⟨q,e⟩];rfl
theorem ot {g:GE}{M1:aA}{d ks o r:D}(h1:ae 1 ρ M=.ok d M)(h2:ae 2 ρ M=.ok ks M)(hg:g ρ M=.ok o M1)(hp:bp 20 [d,ks,o] M1=.ok r M1):aJ (aj 3 (bp 20) (aa (ae 1) (aa (ae 2) (aa g ag)))) ρ M=.ok (.rt r) M1:=b9 (dX h1 h2 hg hp)
theorem vW {M2:aA}{d:D}{m J:Nat}(hw:0≤way∧way<5)(t2:dA l [] M2)(hh:je true (m+1) here=true)(hJ:m+2≤J)(hJ4:4≤J)(hm9:m≤1000)
  (put:∀(o:D) (M:aA) (j:Nat),je true j o=true→j≤J→bp 20 [d,.lst (iz ks),o] M=.ok (nZ d ks o) M) :
  ∃o j M',je true j o=true∧j≤J∧dA l [] M'∧aQ (CD [some (.mr 0),some d,some (.lst (iz ks)),some here,some (.int way)] M2)=.ok (nZ d ks o) M':=by
 obtain⟨da,Ma,ta,ha,ea⟩:=Az t2
 have hmr:(∃xs,here=.tup xs)∨iT here=false:=by cases here <;> first|exact .inl ⟨_,rfl⟩|exact .inr rfl
 have any:∀(h1:¬(iT here=true∧way=1)) (h2:¬(iT here=true∧way=2)) (h3:∀M,Gs [some (.mr 0),some d,some (.lst (iz ks)),some here,some (.int way)] M=.ok (.nx [some (.mr 0),some d,some (.lst (iz ks)),some here,some (.int way)]) M) (h4:∀M,Gd [some (.mr 0),some d,some (.lst (iz ks)),some here,some (.int way)] M=.ok (.nx [some (.mr 0),some d,some (.lst (iz ks)),some here,some (.int way)]) M),
   ∃o j M',je true j o=true∧j≤J∧dA l [] M'∧aQ (CD [some (.mr 0),some d,some (.lst (iz ks)),some here,some (.int way)] M2)=.ok (nZ d ks o) M':=fun h1 h2 h3 h4=>by
  refine⟨da,4,Ma,ha,hJ4,ta,?_⟩
  unfold CD
  rw[ay (mR hh h1),ay (mR hh h2),ay (h3 M2),ay (h4 M2)]
  unfold Od
  rw[ot rfl rfl (eL (a:=ae 0) rfl ea) (put da Ma 4 ha hJ4)]
  rfl
 have no3:¬(iT here=true∧way=3)→∀M,Gs [some (.mr 0),some d,some (.lst (iz ks)),some here,some (.int way)] M=.ok (.nx [some (.mr 0),some d,some (.lst (iz ks)),some here,some (.int way)]) M:=fun h M=>by
  unfold Gs
  refine(cT ((bW (y:=false) (sT hh) fun q=>?_).trans (by rw[Bool.and_false]))).trans rfl
  refine(bW (x:=false) (y:=true) ((aU (aB (x:=.int way) (y:=.int 3) rfl rfl (fU way 3 M))).trans (by rw[decide_eq_false fun e=>h ⟨q,e⟩])) (fun z=>by cases z)).trans rfl
 have no4:¬way=4→∀M,Gd [some (.mr 0),some d,some (.lst (iz ks)),some here,some (.int way)] M=.ok (.nx [some (.mr 0),some d,some (.lst (iz ks)),some here,some (.int way)]) M:=fun h M=>by
  unfold Gd
  refine(cT ((bW (x:=false) (y:=true) ((aU (aB (x:=.int way) (y:=.int 4) rfl rfl (fU way 4 M))).trans (by rw[decide_eq_false h])) (fun z=>by cases z)).trans rfl)).trans rfl
 have num:way=4→∀(v:Int),(∀M j,bS here (.int j) M=.ok (.int (v+j)) M)→(∀M,bF (cE "int" (ae 3)) [some (.mr 0),some d,some (.lst (iz ks)),some here,some (.int way)] M=.ok true M)→
   ∃o j M',je true j o=true∧j≤J∧dA l [] M'∧aQ (CD [some (.mr 0),some d,some (.lst (iz ks)),some here,some (.int way)] M2)=.ok (nZ d ks o) M':=fun e v ad it=>by
  subst e
  obtain⟨f4,M4,a4,b4,t4,e4⟩:=bB (many:=4) (by decide) (aV (by decide) (by decide)) t2
  obtain⟨j,hj⟩:∃j,jL [D.int 1,D.int (-1),D.int 64,D.int 1000] f4=some (.int j):=by
   have:f4=0∨f4=1∨f4=2∨f4=3:=by omega
   rcases this with rfl|rfl|rfl|rfl <;> exact⟨_,rfl⟩
  refine⟨.int (v+j),1,M4,rfl,by omega,t4,?_⟩
  unfold CD
  rw[ay (mR hh fun z=>by have:=z.2;omega),ay (mR hh fun z=>by have:=z.2;omega),ay (no3 (fun z=>by have:=z.2;omega) M2)]
  have ix:bi (.lst [.int 1,.int (-1),.int 64,.int 1000]) (.int f4) M4=.ok (.int j) M4:=by
   show(match jL [D.int 1,D.int (-1),D.int 64,D.int 1000] f4 with|some d=>bn.ok d M4|none=>.bad)=_
   rw[hj]
  have k4:Gd [some (.mr 0),some d,some (.lst (iz ks)),some here,some (.int 4)] M2=.ok (.rt (nZ d ks (.int (v+j)))) M4:=by
   unfold Gd
   rw[bH ((bW (x:=true) (y:=true) ((aU (aB (x:=.int 4) (y:=.int 4) rfl rfl (fU 4 4 M2))).trans rfl) (fun _=>it M2)).trans rfl)]
   exact ot rfl rfl (aB (f:=bS) (a:=ae 3) (x:=here) rfl (aB (f:=bi) (tZ (ds:=[.int 1,.int (-1),.int 64,.int 1000]) rfl (by decide)) (eh (a:=ae 0) (b:=gC (.int 4)) rfl rfl e4) ix) (ad M4 j)) (put _ M4 1 rfl (by omega))
  rw[bh k4]
  rfl
 have nint:way=4→(∀M,bF (cE "int" (ae 3)) [some (.mr 0),some d,some (.lst (iz ks)),some here,some (.int way)] M=.ok false M)→∀M,Gd [some (.mr 0),some d,some (.lst (iz ks)),some here,some (.int way)] M=.ok (.nx [some (.mr 0),some d,some (.lst (iz ks)),some here,some (.int way)]) M:=fun e it M=>by
  subst e
  unfold Gd
  exact(cT ((bW (x:=true) (y:=false) ((aU (aB (x:=.int 4) (y:=.int 4) rfl rfl (fU 4 4 M))).trans rfl) (fun _=>it M)).trans rfl)).trans rfl
 have h4:way=4→∃o j M',je true j o=true∧j≤J∧dA l [] M'∧aQ (CD [some (.mr 0),some d,some (.lst (iz ks)),some here,some (.int way)] M2)=.ok (nZ d ks o) M':=fun e=>by
  have n1:¬(iT here=true∧way=1):=fun z=>by have:=z.2;omega
  have n2:¬(iT here=true∧way=2):=fun z=>by have:=z.2;omega
  have n3:¬(iT here=true∧way=3):=fun z=>by have:=z.2;omega
  cases here with
  | int i=>exact num e i (fun M j=>rfl) fun M=>rfl
  | bl b=>exact num e (if b=true then 1 else 0) (fun M j=>rfl) fun M=>rfl
  | tup xs=>exact any n1 n2 (no3 n3) (nint e fun M=>rfl)
  | non=>exact any n1 n2 (no3 n3) (nint e fun M=>rfl)
  | str x=>exact any n1 n2 (no3 n3) (nint e fun M=>rfl)
  | lst x=>exact any n1 n2 (no3 n3) (nint e fun M=>rfl)
  | _=>cases hh
 by_cases e4:way=4
 ·exact h4 e4
 rcases hmr with⟨xs,rfl⟩|hn
 ·have q:=iE hh
  have w0:way=0∨way=1∨way=2∨way=3:=by omega
  rcases w0 with rfl|rfl|rfl|rfl
  ·exact any (fun z=>by have:=z.2;omega) (fun z=>by have:=z.2;omega) (no3 fun z=>by have:=z.2;omega) (no4 e4)
  ·refine⟨.lst xs,m+1,M2,rh q.1 q.2,by omega,t2,?_⟩
   unfold CD JD
   rw[bh ((bH ((bW (x:=true) (y:=true) (sT hh) fun _=>(aU (aB (x:=.int 1) (y:=.int 1) rfl rfl (fU 1 1 M2))).trans rfl).trans rfl)).trans (ot rfl rfl (nA (a:=ae 3) (x:=.tup xs) rfl rfl) (put (.lst xs) M2 (m+1) (rh q.1 q.2) (by omega))))]
   rfl
  ·refine⟨.tup (gG xs none (some (-1))),m+1,M2,nH hh,by omega,t2,?_⟩
   unfold CD
   rw[ay (mR hh fun z=>by have:=z.2;omega)]
   unfold JD
   rw[bh ((bH ((bW (x:=true) (y:=true) (sT hh) fun _=>(aU (aB (x:=.int 2) (y:=.int 2) rfl rfl (fU 2 2 M2))).trans rfl).trans rfl)).trans (ot (o:=.tup (gG xs none (some (-1)))) rfl rfl rfl (put _ M2 (m+1) (nH hh) (by omega))))]
   rfl
  ·by_cases h0:0<xs.length
   ·have c1:gG xs none (some 1)=xs.take 1:=by
     unfold gG
     have:=HT.sIx_nat xs.length xs.length 1
     rw[show((1:Nat):Int)=1 from rfl] at this
     rw[this,HT.sIx_none,List.drop_zero,Nat.sub_zero]
     cases xs with
     | nil=>rfl
     | cons x xs=>simp
    have h1:(xs.take 1).length≤1:=by rw[List.length_take];omega
    have ok3:je true (m+2) (.tup (xs++xs.take 1))=true:=fu (n:=m+1) (by rw[List.length_append];have:=q.1;omega) fun x hx=>by
     rcases List.mem_append.mp hx with z|z
     ·exact eE (by omega) (q.2 x z)
     ·exact eE (by omega) (q.2 x (List.mem_of_mem_take z))
    refine⟨.tup (xs++xs.take 1),m+2,M2,ok3,hJ,t2,?_⟩
    unfold CD
    rw[ay (mR hh fun z=>by have:=z.2;omega),ay (mR hh fun z=>by have:=z.2;omega)]
    have sl:pZ (ae 3) bQ (eI (gC (.int 1))) [some (.mr 0),some d,some (.lst (iz ks)),some (.tup xs),some (.int 3)] M2=.ok (.tup (xs.take 1)) M2:=by rw[←c1];rfl
    have ad:bS (.tup xs) (.tup (xs.take 1)) M2=.ok (.tup (xs++xs.take 1)) M2:=by
     show(if xs.length+(xs.take 1).length≤sizeLine then bn.ok (D.tup (xs++xs.take 1)) M2 else .bad)=_
     rw[if_pos (aM (by have:=q.1;omega))]
    have k3:Gs [some (.mr 0),some d,some (.lst (iz ks)),some (.tup xs),some (.int 3)] M2=.ok (.rt (nZ d ks (.tup (xs++xs.take 1)))) M2:=by
     unfold Gs
     have lt:aH (g2 nr (aC a7 (aa (ae 3) ag)) (gC (.int 0))) [some (.mr 0),some d,some (.lst (iz ks)),some (.tup xs),some (.int 3)] M2=.ok true M2:=by
      refine aU (aB (x:=.int xs.length) (y:=.int 0) rfl rfl ?_)
      show bn.ok (D.bl (decide ((xs.length:Int)>0))) M2=_
      rw[decide_eq_true (by omega)]
     rw[bH ((bW (x:=true) (y:=true) (sT hh) fun _=>(bW (x:=true) (y:=true) ((aU (aB (x:=.int 3) (y:=.int 3) rfl rfl (fU 3 3 M2))).trans rfl) fun _=>lt).trans rfl).trans rfl)]
     exact ot rfl rfl (aB (f:=bS) (a:=ae 3) (x:=.tup xs) rfl sl ad) (put _ M2 (m+2) ok3 hJ)
    rw[bh k3]
    rfl
   ·refine any (fun z=>by have:=z.2;omega) (fun z=>by have:=z.2;omega) (fun M=>?_) (no4 e4)
    unfold Gs
    have lt:aH (g2 nr (aC a7 (aa (ae 3) ag)) (gC (.int 0))) [some (.mr 0),some d,some (.lst (iz ks)),some (.tup xs),some (.int 3)] M=.ok false M:=by
     refine aU (aB (x:=.int xs.length) (y:=.int 0) rfl rfl ?_)
     show bn.ok (D.bl (decide ((xs.length:Int)>0))) M=_
     rw[decide_eq_false (by omega)]
    exact(cT ((bW (x:=true) (y:=false) (sT hh) fun _=>(bW (x:=true) (y:=false) ((aU (aB (x:=.int 3) (y:=.int 3) rfl rfl (fU 3 3 M))).trans rfl) fun _=>lt).trans rfl).trans rfl)).trans rfl
 ·have nt:∀k,¬(iT here=true∧way=k):=fun k z=>by rw[hn] at z;cases z.1
  exact any (nt 1) (nt 2) (no3 (nt 3)) (no4 e4)
theorem zG {l:List Int}{M1 M2:aA}{d:D}(e1:fP [.mr 0,d] M=.ok (.lst (iz ks)) M1)(e2:gP [d,.lst (iz ks)] M1=.ok here M1)(e3:aw [.mr 0,.int 5] M1=.ok (.int way) M2) :
  bV [.mr 0,d] M=aQ (CD [some (.mr 0),some d,some (.lst (iz ks)),some here,some (.int way)] M2):=by
 show aQ (gV [some (.mr 0),some d,none,none,none] M)=_
 rw[Le,ay (bT (eh (a:=ae 0) (b:=ae 1) (ρ:=[some (.mr 0),some d,none,none,none]) rfl rfl e1))]
 refine(congrArg aQ (ay (bT (eh (a:=ae 1) (b:=ae 2) (ρ:=[some (.mr 0),some d,some (.lst (iz ks)),none,none]) rfl rfl e2)))).trans ?_
 exact congrArg aQ (ay (bT (eh (a:=ae 0) (b:=gC (.int 5)) (ρ:=[some (.mr 0),some d,some (.lst (iz ks)),some here,none]) rfl rfl e3)))
theorem sF {d:D}(h:je true n d=true)(hn:n≤15)(hM:dA l [] M):∃d' M',dA l [] M'∧je true (2*n+4) d'=true∧bV [.mr 0,d] M=.ok d' M':=by
 obtain⟨ks,here,M1,t1,p,e1⟩:=DP h (by omega) hM
 have e2:=HL (M:=M1) p
 obtain⟨way,M2,a2,b2,t2,e3⟩:=bB (many:=5) (by decide) (aV (by decide) (by decide)) t1
 have hlen:=(p.ok h).1
 have hh:=(p.ok h).2
 obtain⟨m,hm⟩:∃m,n-ks.length=m+1:=⟨n-ks.length-1,by omega⟩
 rw[hm] at hh
 obtain⟨o,j,M',ho,hj,t',e⟩:=vW (J:=n+4) ⟨a2,b2⟩ t2 hh (by omega) (by omega) (by omega) fun o M j ho hj=>Ic p (by omega) (by omega) (by omega) h
 exact⟨_,M',t',eE (by omega) (Eh p h ho),(zG (l:=l) e1 e2 e3).trans e⟩
theorem dr {d:D}{lo hi:Int}(h:my d):bc [d,.int lo,.int hi] M=.ok (.bl (aE lo hi d)) M:=by
 obtain⟨t,ht⟩:=h
 unfold bc kF
 cases d with
 | int i=>
  by_cases h0:lo≤i
  ·simp_arith [aE,h0]
  ·simp_arith [aE,h0]
 | non=>simp_arith [aE]
 | bl _=>simp_arith [aE]
 | str _=>simp_arith [aE]
 | tup _=>simp_arith [aE]
 | lst _=>simp_arith [aE]
 | ro _=>simp_arith [aE]
 | _=>cases ht
theorem re {d:D}(h:dS 2 d):dE [d,.int most] M=.ok (.bl (cU most d)) M:=by
 have g1:=dB (i:=0) (ρ:=[some d,some (.int most),none]) (M:=M) h.1 rfl
 show aQ (fB [some d,some (.int most),none] M)=_
 unfold fB
 cases ht:bq d with
 | false=>
  rw[ht] at g1
  rw[bh ((bH (ce (y:=false) (aS (bg g1)) fun z=>by cases z)).trans rfl)]
  clear g1
  revert h ht
  cases d <;> intro h ht <;> first|rfl|(cases ht)
 | true=>
  obtain⟨rows,rfl⟩:=jC ht
  have hx:=h.2 rows rfl
  have ln:aC a7 (aa (ae 0) ag) [some (.tup rows),some (.int most),none] M=.ok (.int rows.length) M:=rfl
  have ch:nu lq lq (gC (.int 1)) (aC a7 (aa (ae 0) ag)) (ae 1) [some (.tup rows),some (.int most),none] M=.ok (.bl (decide (1≤rows.length)&&decide ((rows.length:Int)≤most))) M:=by
   unfold nu
   show((bn.ok (D.int 1) M).bind _)=_
   rw[ao,ln,ao]
   show((bn.ok (D.bl (decide ((1:Int)≤rows.length))) M).bind _)=_
   rw[ao]
   by_cases k:1≤rows.length
   ·have k':(1:Int)≤rows.length:=by omega
    rw[decide_eq_true k,decide_eq_true k'];rfl
   ·have k':¬(1:Int)≤rows.length:=by omega
    rw[decide_eq_false k,decide_eq_false k'];rfl
  have t1:=ce (aS (bg g1)) fun _=>aS (aU ch)
  by_cases k:1≤rows.length∧(rows.length:Int)≤most
  ·have hk:(decide (1≤rows.length)&&decide ((rows.length:Int)≤most))=true:=by simp[k.1,k.2]
   rw[hk] at t1
   rw[ay ((cT t1).trans rfl)]
   have a:=fj (ge:=eU) (p:=bq) (f9 (i:=0) (ρ:=[some (.tup rows),some (.int most),none]) (M:=M) rfl) (by omega) fun x hm=>by
    unfold eU
    exact dB (i:=0) (hx.2 x hm).ty rfl
   cases ha:rows.all bq with
   | false=>
    rw[ha] at a
    have hrb:rows.all o8=false:=by
     cases q:rows.all o8 with
     | false=>rfl
     | true=>
      exfalso
      have:rows.all bq=true:=List.all_eq_true.mpr fun r hr=>by
       have:=List.all_eq_true.mp q r hr
       cases r <;> first|rfl|cases this
      rw[this] at ha;cases ha
    have e:cU most (.tup rows)=false:=by simp[cU,hrb]
    rw[bh ((bH (aS (bg a))).trans rfl),e];rfl
   | true=>
    rw[ha] at a
    rw[ay ((cT (aS (bg a))).trans rfl)]
    cases rows with
    | nil=>exact absurd k.1 (by simp)
    | cons r0 rs=>
     have hr:=List.all_eq_true.mp ha
     obtain⟨x0,e0⟩:∃x0,r0=.tup x0:=by
      have:=hr r0 List.mem_cons_self
      cases r0 <;> first|exact⟨_,rfl⟩|cases this
     subst e0
     have s2:aC a7 (aa (g2 bi (ae 0) (gC (.int 0))) ag) [some (.tup (.tup x0::rs)),some (.int most),none] M=.ok (.int x0.length) M:=
      nA (x:=.tup x0) (aB rfl rfl (cV (k:=0) rfl)) rfl
     rw[ay (bT s2)]
     have b:=fj (ge:=eV) (p:=fun r=>decide (lx r=x0.length)) (f9 (i:=0) (ρ:=[some (.tup (.tup x0::rs)),some (.int most),some (.int x0.length)]) (M:=M) rfl) (by omega) fun x hm=>by
      obtain⟨y,ey⟩:∃y,x=.tup y:=by
       have:=hr x hm
       cases x <;> first|exact⟨_,rfl⟩|cases this
      subst ey
      unfold eV
      refine aB (x:=.int y.length) (y:=.int x0.length) rfl rfl ((fU _ _ _).trans ?_)
      congr 2
      exact decide_eq_decide.mpr (by show _↔y.length=_;omega)
     have ch2:nu lq lq (gC (.int 1)) (ae 2) (ae 1) [some (.tup (.tup x0::rs)),some (.int most),some (.int x0.length)] M=.ok (.bl (decide (1≤x0.length)&&decide ((x0.length:Int)≤most))) M:=by
      unfold nu
      show((bn.ok (D.int 1) M).bind _)=_
      rw[ao]
      show((bn.ok (D.int x0.length) M).bind _)=_
      rw[ao]
      show((bn.ok (D.bl (decide ((1:Int)≤x0.length))) M).bind _)=_
      rw[ao]
      by_cases k:1≤x0.length
      ·have k':(1:Int)≤x0.length:=by omega
       rw[decide_eq_true k,decide_eq_true k'];rfl
      ·have k':¬(1:Int)≤x0.length:=by omega
       rw[decide_eq_false k,decide_eq_false k'];rfl
     have c:=fj (ge:=eZ) (p:=o8) (f9 (i:=0) (ρ:=[some (.tup (.tup x0::rs)),some (.int most),some (.int x0.length)]) (M:=M) rfl) (by omega) fun x hm=>by
      obtain⟨y,ey⟩:∃y,x=.tup y:=by
       have:=hr x hm
       cases x <;> first|exact⟨_,rfl⟩|cases this
      subst ey
      have hy:=(hx.2 (.tup y) hm).2 y rfl
      unfold eZ
      exact fj (ge:=eW) (p:=aE 0 15) (f9 (i:=0) rfl) (by omega) fun z hz=>by
       unfold eW
       exact dX (x:=z) (y:=.int 0) (z:=.int 15) rfl rfl rfl (dr (hy.2 z hz))
     have e:cU most (.tup (.tup x0::rs))=((D.tup x0::rs).all o8&&((decide (1≤x0.length)&&decide ((x0.length:Int)≤most))&&(D.tup x0::rs).all fun r=>decide (lx r=x0.length))):=by
      show((decide (1≤(D.tup x0::rs).length)&&decide (((D.tup x0::rs).length:Int)≤most))&&((D.tup x0::rs).all o8&&_))=_
      rw[hk];rfl
     rw[e]
     have t2:=ce (aS (aU ch2)) fun _=>aS (bg b)
     generalize (decide (1≤x0.length)&&decide ((x0.length:Int)≤most))=c2 at *
     generalize ((D.tup x0::rs).all fun r=>decide (lx r=x0.length))=al at *
     refine(congrArg aQ (show _=_ from ?_)).trans (?_:aQ (if c2=true∧al=true then .ok (.rt (.bl ((D.tup x0::rs).all o8))) M else .ok (.rt (.bl false)) M)=_)
     ·cases c2 with
      | false=>exact bh ((bH t2).trans rfl)
      | true=>
       cases al with
       | false=>exact bh ((bH t2).trans rfl)
       | true=>exact(ay ((cT t2).trans rfl)).trans (b9 c)
     ·cases c2 <;> cases al <;> cases (D.tup x0::rs).all o8 <;> rfl
  ·have hk:(decide (1≤rows.length)&&decide ((rows.length:Int)≤most))=false:=by
    by_cases k1:1≤rows.length
    ·have:¬(rows.length:Int)≤most:=fun z=>k ⟨k1,z⟩
     simp[this]
    ·simp[k1]
   rw[hk] at t1
   have e:cU most (.tup rows)=false:=by
    show((decide (1≤rows.length)&&decide ((rows.length:Int)≤most))&&_)=false
    rw[hk];rfl
   rw[bh ((bH t1).trans rfl),e];rfl
theorem wv {d:D}(h:dS 1 d):iu [d,.tup bk] M=.ok (.bl (jA bk.length d)) M:=by
 have g1:=dB (i:=0) (ρ:=[some d,some (.tup bk)]) (M:=M) h.1 rfl
 show aQ (fI [some d,some (.tup bk)] M)=_
 unfold fI
 cases ht:bq d with
 | false=>
  rw[ht] at g1
  rw[bh ((bH (ce (y:=false) (aS (bg g1)) fun z=>by cases z)).trans rfl)]
  clear g1
  revert h ht
  cases d <;> intro h ht <;> first|rfl|(cases ht)
 | true=>
  obtain⟨xs,rfl⟩:=jC ht
  have hx:=h.2 xs rfl
  have ne:g2 (a9 true) (aC a7 (aa (ae 0) ag)) (gC (.int 5)) [some (.tup xs),some (.tup bk)] M=.ok (.bl (!decide ((xs.length:Int)=5))) M:=aB (x:=.int xs.length) (y:=.int 5) rfl rfl (nY _ _ _)
  have t1:=ce (aS (bg g1)) fun _=>aU ne
  match xs,hx,t1 with
  | [s,x,y,r,t],hx,t1=>
   rw[ay ((cT t1).trans rfl)]
   have q:∀z∈[s,x,y,r,t],my z:=fun z hz=>hx.2 z hz
   have i0:g2 bi (ae 0) (gC (.int 0)) [some (.tup [s,x,y,r,t]),some (.tup bk)] M=.ok s M:=aB rfl rfl (cV (k:=0) rfl)
   have i1:g2 bi (ae 0) (gC (.int 1)) [some (.tup [s,x,y,r,t]),some (.tup bk)] M=.ok x M:=aB rfl rfl (cV (k:=1) rfl)
   have i2:g2 bi (ae 0) (gC (.int 2)) [some (.tup [s,x,y,r,t]),some (.tup bk)] M=.ok y M:=aB rfl rfl (cV (k:=2) rfl)
   have i3:g2 bi (ae 0) (gC (.int 3)) [some (.tup [s,x,y,r,t]),some (.tup bk)] M=.ok r M:=aB rfl rfl (cV (k:=3) rfl)
   have i4:g2 bi (ae 0) (gC (.int 4)) [some (.tup [s,x,y,r,t]),some (.tup bk)] M=.ok t M:=aB rfl rfl (cV (k:=4) rfl)
   have ws:=dr (lo:=0) (hi:=(bk.length:Int)-1) (M:=M) (q s (by simp))
   have wx:=dr (lo:=-1000) (hi:=1000) (M:=M) (q x (by simp))
   have wy:=dr (lo:=-1000) (hi:=1000) (M:=M) (q y (by simp))
   have wr:=dr (lo:=0) (hi:=3) (M:=M) (q r (by simp))
   have wt:=dr (lo:=0) (hi:=3) (M:=M) (q t (by simp))
   have n1:bj (bF (aj 3 bc (aa (g2 bi (ae 0) (gC (.int 0))) (aa (gC (.int 0)) (aa (g2 iF (aC a7 (aa (ae 1) ag)) (gC (.int 1))) ag))))) [some (.tup [s,x,y,r,t]),some (.tup bk)] M=.ok (!aE 0 ((bk.length:Int)-1) s) M:=aS (bg (dX i0 (y:=.int 0) rfl (z:=.int ((bk.length:Int)-1)) rfl ws))
   have t2:cx (aH (g2 (jB true) (g2 bi (ae 0) (gC (.int 0))) (gC .non))) (bj (bF (aj 3 bc (aa (g2 bi (ae 0) (gC (.int 0))) (aa (gC (.int 0)) (aa (g2 iF (aC a7 (aa (ae 1) ag)) (gC (.int 1))) ag)))))) [some (.tup [s,x,y,r,t]),some (.tup bk)] M=.ok (!xJ bk.length s) M:=by
    have ty:=q s (by simp)
    cases s with
    | non=>exact bW (x:=false) (y:=true) (aU (aB i0 (y:=.non) rfl rfl)) (fun z=>by cases z)
    | any=>obtain⟨_,e⟩:=ty;cases e
    | mr _=>obtain⟨_,e⟩:=ty;cases e
    | _=>exact bW (x:=true) (aU (aB i0 (y:=.non) rfl rfl)) (fun _=>n1)
   have t3:dh (bj (bF (aj 3 bc (aa (g2 bi (ae 0) (gC (.int 1))) (aa (iU (gC (.int 1000))) (aa (gC (.int 1000)) ag)))))) (bj (bF (aj 3 bc (aa (g2 bi (ae 0) (gC (.int 2))) (aa (iU (gC (.int 1000))) (aa (gC (.int 1000)) ag)))))) [some (.tup [s,x,y,r,t]),some (.tup bk)] M=.ok ((!aE (-1000) 1000 x)||!aE (-1000) 1000 y) M:=
    ce (aS (bg (dX i1 (y:=.int (-1000)) rfl (z:=.int 1000) rfl wx))) fun _=>aS (bg (dX i2 (y:=.int (-1000)) rfl (z:=.int 1000) rfl wy))
   have t4:=cw (dX i3 (b:=gC (.int 0)) (c:=gC (.int 3)) rfl rfl wr) fun _=>dX i4 (b:=gC (.int 0)) (c:=gC (.int 3)) rfl rfl wt
   show _=bn.ok (D.bl (xJ bk.length s&&((aE (-1000) 1000 x&&aE (-1000) 1000 y)&&(aE 0 3 r&&aE 0 3 t)))) M
   generalize xJ bk.length s=b1 at *
   generalize aE (-1000) 1000 x=b2 at *
   generalize aE (-1000) 1000 y=b3 at *
   cases b1 with
   | false=>rw[bh ((bH t2).trans rfl)];rfl
   | true=>
    rw[ay ((cT t2).trans rfl)]
    cases b2 with
    | false=>rw[bh ((bH t3).trans rfl)];rfl
    | true=>
     cases b3 with
     | false=>rw[bh ((bH t3).trans rfl)];rfl
     | true=>
      rw[ay ((cT t3).trans rfl),b9 t4];rfl
  | [],_,t1=>rw[bh ((bH t1).trans rfl)];rfl
  | [_],_,t1=>rw[bh ((bH t1).trans rfl)];rfl
  | [_,_],_,t1=>rw[bh ((bH t1).trans rfl)];rfl
  | [_,_,_],_,t1=>rw[bh ((bH t1).trans rfl)];rfl
  | [_,_,_,_],_,t1=>rw[bh ((bH t1).trans rfl)];rfl
  | _::_::_::_::_::_::r,_,t1=>
   have z:(!decide (((r.length+1+1+1+1+1+1:Nat):Int)=5))=true:=by simp;omega
   simp only[List.length_cons] at t1
   rw[z] at t1
   rw[bh ((bH t1).trans rfl)];rfl
noncomputable def A1:GS:=(cJ (dh (bj (bF (cE "tuple" (ae 0)))) (dh (aH (g2 (a9 true) (aC a7 (aa (ae 0) ag)) (gC (.int 5)))) (bj (bF (aj 2 dE (aa (g2 bi (ae 0) (gC (.int 0))) (aa (gC (.int 16)) ag))))))) (aJ (gC (.bl false))) aD)
noncomputable def G8:GS:=(cJ (dh (bj (bF (aC fh (aa (aW (bJ (pZ (ae 0) (eI (gC (.int 1))) bQ)) bU cY aL) ag)))) (dh (aH (g2 (a9 true) (aC a7 (aa (g2 bi (ae 0) (gC (.int 1))) ag)) (gC (.int 2)))) (aH (g2 nr (aC a7 (aa (g2 bi (ae 0) (gC (.int 2))) ag)) (gC (.int 8)))))) (aJ (gC (.bl false))) aD)
noncomputable def K9:GS:=(cJ (bj (bF (aC fh (aa (aW (bJ (g2 bi (ae 0) (gC (.int 1)))) bU dk aL) ag)))) (aJ (gC (.bl false))) aD)
noncomputable def KY:GS:=(cJ (dh (bj (bF (aC fh (aa (aW (bJ (g2 bi (ae 0) (gC (.int 2)))) bU df aL) ag)))) (dh (aH (g2 nr (aC a7 (aa (g2 bi (ae 0) (gC (.int 3))) ag)) (gC (.int 12)))) (aH (g2 (a9 true) (aC a7 (aa (g2 bi (ae 0) (gC (.int 4))) ag)) (gC (.int 16)))))) (aJ (gC (.bl false))) aD)
noncomputable def LA:GS:=(cJ (bj (bF (aC fh (aa (aW (bJ (g2 bi (ae 0) (gC (.int 4)))) bU dg aL) ag)))) (aJ (gC (.bl false))) aD)
noncomputable def Ki:GS:=(aJ (aC fh (aa (aW (bJ (g2 bi (ae 0) (gC (.int 3)))) bU cZ aL) ag)))
theorem za {t:GT}(h:t ρ M=.ok b M):cJ t (aJ (gC (.bl false))) aD ρ M=bif b then .ok (.rt (.bl false)) M else .ok (.nx ρ) M:=by
 cases b with
 | true=>exact(bH h).trans rfl
 | false=>exact(cT h).trans rfl
theorem MX {g1 g2 g3 g4 g5:GS}{b1 b2 b3 b4 r:Bool}(h1:g1 ρ M=bif b1 then .ok (.rt (.bl false)) M else .ok (.nx ρ) M)(h2:g2 ρ M=bif b2 then .ok (.rt (.bl false)) M else .ok (.nx ρ) M)(h3:g3 ρ M=bif b3 then .ok (.rt (.bl false)) M else .ok (.nx ρ) M)(h4:g4 ρ M=bif b4 then .ok (.rt (.bl false)) M else .ok (.nx ρ) M)
  (h5:g5 ρ M=.ok (.rt (.bl r)) M):aQ (ar g1 (ar g2 (ar g3 (ar g4 g5))) ρ M)=.ok (.bl (!b1&&(!b2&&(!b3&&(!b4&&r))))) M:=by
 cases b1 with
 | true=>rw[bh h1];rfl
 | false=>
  rw[ay h1]
  cases b2 with
  | true=>rw[bh h2];rfl
  | false=>
   rw[ay h2]
   cases b3 with
   | true=>rw[bh h3];rfl
   | false=>
    rw[ay h3]
    cases b4 with
    | true=>rw[bh h4];rfl
    | false=>rw[ay h4,h5];rfl
theorem Lu:∀b1 b2 b3 b4 c1 c2 c3 c4:Bool,(!(!true||(!b1||!b2))&&(!(!c1)&&(!(!c2||(!b3||!b4))&&(!(!c4)&&c3))))=((true&&((b1&&c1)&&(b4&&c4)))&&((b2&&c2)&&(b3&&c3))):=by decide
theorem DG {d:D}(h:bq d=false):tP d=false:=by cases d <;> first|rfl|(cases h)
theorem E8 {d:D}(h:bq d=false):sU d=false:=by cases d <;> first|rfl|(cases h)
theorem Fz {d:D}(h:bq d=false):qN d=false:=by cases d <;> first|rfl|(cases h)
theorem zE {d:D}(h:bq d=false):ma n d=false:=by cases d <;> first|rfl|(cases h)
theorem Ov {s b m p:D}(h:[s,b,m,p].all bq=false):((true&&(tP s&&sU p))&&(qN b&&ma (lx b) m))=false:=by
 have h:(bq s&&(bq b&&(bq m&&(bq p&&true))))=false:=h
 cases q1:bq s with
 | false=>rw[DG q1];rfl
 | true=>
  cases q2:bq b with
  | false=>rw[Fz q2];simp
  | true=>
   cases q3:bq m with
   | false=>rw[zE q3];simp
   | true=>
    cases q4:bq p with
    | false=>rw[E8 q4];simp
    | true=>rw[q1,q2,q3,q4] at h;cases h
theorem Hb (ρ:cr)(M:aA):fG ρ M=(ar A1 (ar G8 (ar K9 (ar KY (ar LA Ki))))) ρ M:=rfl
theorem vY {d:D}(h:dS 4 d):dF [d] M=.ok (.bl (ba d)) M:=by
 have g1:=dB (i:=0) (ρ:=[some d]) (M:=M) h.1 rfl
 show aQ (fG [some d] M)=_
 rw[Hb]
 cases ht:bq d with
 | false=>
  have e:ba d=false:=by cases d <;> first|rfl|(cases ht)
  rw[ht] at g1
  have k:A1 [some d] M=.ok (.rt (.bl false)) M:=(bH (ce (y:=false) (aS (bg g1)) fun z=>by cases z)).trans rfl
  rw[bh k,e];rfl
 | true=>
  obtain⟨xs,rfl⟩:∃xs,d=.tup xs:=by cases d <;> first|exact⟨_,rfl⟩|(cases ht)
  have hx:=h.2 xs rfl
  have ne:g2 (a9 true) (aC a7 (aa (ae 0) ag)) (gC (.int 5)) [some (.tup xs)] M=.ok (.bl (!decide ((xs.length:Int)=5))) M:=aB (x:=.int xs.length) (y:=.int 5) rfl rfl (nY _ _ _)
  by_cases hl:xs.length=5
  ·obtain⟨f,s,b,m,p,rfl⟩:∃f s b m p,xs=[f,s,b,m,p]:=by
    match xs,hl with
    | [f,s,b,m,p],_=>exact⟨f,s,b,m,p,rfl⟩
   have q:∀z∈[f,s,b,m,p],dS 3 z:=fun z hz=>hx.2 z hz
   have i0:g2 bi (ae 0) (gC (.int 0)) [some (.tup [f,s,b,m,p])] M=.ok f M:=aB rfl rfl (cV (k:=0) rfl)
   have i1:g2 bi (ae 0) (gC (.int 1)) [some (.tup [f,s,b,m,p])] M=.ok s M:=aB rfl rfl (cV (k:=1) rfl)
   have i2:g2 bi (ae 0) (gC (.int 2)) [some (.tup [f,s,b,m,p])] M=.ok b M:=aB rfl rfl (cV (k:=2) rfl)
   have i3:g2 bi (ae 0) (gC (.int 3)) [some (.tup [f,s,b,m,p])] M=.ok m M:=aB rfl rfl (cV (k:=3) rfl)
   have i4:g2 bi (ae 0) (gC (.int 4)) [some (.tup [f,s,b,m,p])] M=.ok p M:=aB rfl rfl (cV (k:=4) rfl)
   have kf:=re (most:=16) (M:=M) (q f (by simp)).down
   have t1:=ce (aS (bg g1)) fun _=>ce (aU ne) fun _=>aS (bg (eh i0 (y:=.int 16) (b:=gC (.int 16)) rfl kf))
   show _=bn.ok (D.bl ((cU 16 f&&(tP s&&sU p))&&(qN b&&ma (lx b) m))) M
   cases hf:cU 16 f with
   | false=>
    rw[hf] at t1
    rw[bh (show A1 [some (.tup [f,s,b,m,p])] M=.ok (.rt (.bl false)) M from(bH t1).trans rfl)];rfl
   | true=>
    rw[hf] at t1
    rw[ay (show A1 [some (.tup [f,s,b,m,p])] M=.ok (.nx [some (.tup [f,s,b,m,p])]) M from(cT t1).trans rfl)]
    have gsl:pZ (ae 0) (eI (gC (.int 1))) bQ [some (.tup [f,s,b,m,p])] M=.ok (.tup [s,b,m,p]) M:=rfl
    have gi:bJ (pZ (ae 0) (eI (gC (.int 1))) bQ) [some (.tup [f,s,b,m,p])] M=.ok ⟨[s,b,m,p],none⟩ M:=by
     unfold bJ
     rw[gsl];rfl
    have a:=fj (ge:=cY) (p:=bq) gi (by simp) fun x hm=>by
     unfold cY
     exact dB (i:=0) (q x (List.mem_cons_of_mem _ hm)).ty rfl
    cases ha:[s,b,m,p].all bq with
    | false=>
     rw[ha] at a
     have e:=Ov ha
     rw[bh (show G8 [some (.tup [f,s,b,m,p])] M=.ok (.rt (.bl false)) M from(bH (ce (y:=false) (aS (bg a)) fun z=>by cases z)).trans rfl),e];rfl
    | true=>
     rw[ha] at a
     have ha4:(bq s&&(bq b&&(bq m&&(bq p&&true))))=true:=ha
     rw[Bool.and_true,Bool.and_eq_true,Bool.and_eq_true,Bool.and_eq_true] at ha4
     obtain⟨ss,es⟩:=jC ha4.1
     obtain⟨bs,eb⟩:=jC ha4.2.1
     obtain⟨ms,em⟩:=jC ha4.2.2.1
     obtain⟨ps,ep⟩:=jC ha4.2.2.2
     subst es eb em ep
     have qs:=(q (.tup ss) (by simp)).2 ss rfl
     have qb:=(q (.tup bs) (by simp)).2 bs rfl
     have qm:=(q (.tup ms) (by simp)).2 ms rfl
     have qp:=(q (.tup ps) (by simp)).2 ps rfl
     have l1:g2 (a9 true) (aC a7 (aa (g2 bi (ae 0) (gC (.int 1))) ag)) (gC (.int 2)) [some (.tup [f,.tup ss,.tup bs,.tup ms,.tup ps])] M=.ok (.bl (!decide ((ss.length:Int)=2))) M:=aB (nA (F:=a7) (o:=.ok (.int ss.length) M) i1 rfl) (y:=.int 2) rfl (nY _ _ _)
     have l2:g2 nr (aC a7 (aa (g2 bi (ae 0) (gC (.int 2))) ag)) (gC (.int 8)) [some (.tup [f,.tup ss,.tup bs,.tup ms,.tup ps])] M=.ok (.bl (decide ((bs.length:Int)>8))) M:=aB (nA (F:=a7) (o:=.ok (.int bs.length) M) i2 rfl) (y:=.int 8) rfl rfl
     have t2:=ce (aS (bg a)) fun _=>ce (aU l1) fun _=>aU l2
     have iti:∀(k:Int) (ys:List D),g2 bi (ae 0) (gC (.int k)) [some (.tup [f,.tup ss,.tup bs,.tup ms,.tup ps])] M=.ok (.tup ys) M→bJ (g2 bi (ae 0) (gC (.int k))) [some (.tup [f,.tup ss,.tup bs,.tup ms,.tup ps])] M=.ok ⟨ys,none⟩ M:=fun k ys e=>by
      unfold bJ
      rw[e];rfl
     have a2:=fj (ge:=dk) (p:=aE (-1000) 1000) (iti 1 ss i1) (by omega) fun x hm=>by
      unfold dk
      exact dX (x:=x) (y:=.int (-1000)) (z:=.int 1000) rfl rfl rfl (dr (qs.2 x hm).ty)
     have a3:=fj (ge:=df) (p:=cU 8) (iti 2 bs i2) (by omega) fun x hm=>by
      unfold df
      exact eh (x:=x) (y:=.int 8) (b:=gC (.int 8)) rfl rfl (re (qb.2 x hm))
     have a4:=fj (ge:=dg) (p:=aE 0 63) (iti 4 ps i4) (by omega) fun x hm=>by
      unfold dg
      exact dX (x:=x) (y:=.int 0) (z:=.int 63) rfl rfl rfl (dr (qp.2 x hm).ty)
     have a5:=fj (ge:=cZ) (p:=jA bs.length) (iti 3 ms i3) (by omega) fun x hm=>by
      unfold cZ
      exact eh (x:=x) (y:=.tup bs) (b:=g2 bi (ae 1) (gC (.int 2))) rfl (aB rfl rfl (cV (k:=2) rfl)) (wv (qm.2 x hm).down)
     have l3:g2 nr (aC a7 (aa (g2 bi (ae 0) (gC (.int 3))) ag)) (gC (.int 12)) [some (.tup [f,.tup ss,.tup bs,.tup ms,.tup ps])] M=.ok (.bl (decide ((ms.length:Int)>12))) M:=aB (nA (F:=a7) (o:=.ok (.int ms.length) M) i3 rfl) (y:=.int 12) rfl rfl
     have l4:g2 (a9 true) (aC a7 (aa (g2 bi (ae 0) (gC (.int 4))) ag)) (gC (.int 16)) [some (.tup [f,.tup ss,.tup bs,.tup ms,.tup ps])] M=.ok (.bl (!decide ((ps.length:Int)=16))) M:=aB (nA (F:=a7) (o:=.ok (.int ps.length) M) i4 rfl) (y:=.int 16) rfl (nY _ _ _)
     have t4:=ce (aS (bg a3)) fun _=>ce (aU l3) fun _=>aU l4
     have e1:(!decide ((ss.length:Int)=2))=!decide (ss.length=2):=by congr 1;exact decide_eq_decide.mpr (by omega)
     have e2:decide ((bs.length:Int)>8)=!decide (bs.length≤8):=by
      by_cases z:bs.length≤8
      ·rw[decide_eq_true z,decide_eq_false (by omega)];rfl
      ·rw[decide_eq_false z,decide_eq_true (by omega)];rfl
     have e3:decide ((ms.length:Int)>12)=!decide (ms.length≤12):=by
      by_cases z:ms.length≤12
      ·rw[decide_eq_true z,decide_eq_false (by omega)];rfl
      ·rw[decide_eq_false z,decide_eq_true (by omega)];rfl
     have e4:(!decide ((ps.length:Int)=16))=!decide (ps.length=16):=by congr 1;exact decide_eq_decide.mpr (by omega)
     rw[e1,e2] at t2
     rw[e3,e4] at t4
     show _=bn.ok (D.bl ((true&&((decide (ss.length=2)&&ss.all (aE (-1000) 1000))&&(decide (ps.length=16)&&ps.all (aE 0 63))))&&((decide (bs.length≤8)&&bs.all (cU 8))&&(decide (ms.length≤12)&&ms.all (jA bs.length))))) M
     have k1:G8 [some (.tup [f,.tup ss,.tup bs,.tup ms,.tup ps])] M=_:=za t2
     have k2:K9 [some (.tup [f,.tup ss,.tup bs,.tup ms,.tup ps])] M=_:=za (aS (bg a2))
     have k3:KY [some (.tup [f,.tup ss,.tup bs,.tup ms,.tup ps])] M=_:=za t4
     have k4:LA [some (.tup [f,.tup ss,.tup bs,.tup ms,.tup ps])] M=_:=za (aS (bg a4))
     have k5:Ki [some (.tup [f,.tup ss,.tup bs,.tup ms,.tup ps])] M=_:=b9 a5
     rw[MX k1 k2 k3 k4 k5,Lu]
  ·have e:ba (.tup xs)=false:=by
    match xs,hl with
    | [],_=>rfl
    | [_],_=>rfl
    | [_,_],_=>rfl
    | [_,_,_],_=>rfl
    | [_,_,_,_],_=>rfl
    | [_,_,_,_,_],hl=>exact absurd rfl hl
    | _::_::_::_::_::_::r,_=>rfl
   rw[decide_eq_false (by omega)] at ne
   have k:A1 [some (.tup xs)] M=.ok (.rt (.bl false)) M:=(bH (ce (y:=true) (aS (bg g1)) fun _=>ce (y:=true) (aU ne) fun z=>by cases z)).trans rfl
   rw[bh k,e];rfl
theorem jU {lo hi:Int}{x:D}(h:aE lo hi x=true):∃i,x=.int i∧lo≤i∧i≤hi:=by
 cases x with
 | int i=>exact⟨i,rfl,by simpa[aE] using h⟩
 | _=>cases h
theorem qu {lo hi:Int}(h:xs.all (aE lo hi)=true):∃r:List Int,xs=r.map D.int∧∀k∈r,lo≤k∧k≤hi:=
 lF fun e he=>let ⟨i,e1,e2⟩:=jU (List.all_eq_true.mp h e he);⟨i,e1,e2⟩
theorem sM {d:D}(h:cU most d=true):∃rs,d=bP rs∧mt most rs:=by
 cases d with
 | tup rows=>
  have h:((decide (1≤rows.length)&&decide ((rows.length:Int)≤most))&&(rows.all o8&&((decide (1≤lx (rows.getD 0 .non))&&decide ((lx (rows.getD 0 .non):Int)≤most))&&rows.all fun r=>decide (lx r=lx (rows.getD 0 .non)))))=true:=h
  simp only[Bool.and_eq_true,decide_eq_true_eq] at h
  obtain⟨⟨h1,h2⟩,h3,⟨h4,h5⟩,h6⟩:=h
  obtain⟨rs,er,hr⟩:=lF (f:=fun r:List Int=>D.tup (r.map D.int)) (P:=fun r=>∀k∈r,0≤k∧k≤15) (es:=rows) fun e he=>by
   have:=List.all_eq_true.mp h3 e he
   cases e with
   | tup xs=>
    obtain⟨r,e1,e2⟩:=qu (show xs.all (aE 0 15)=true from this)
    exact⟨r,by rw[e1],e2⟩
   | _=>cases this
  refine⟨rs,by rw[er];rfl,?_⟩
  have l:rows.length=rs.length:=by rw[er,List.length_map]
  refine⟨by omega,by omega,lx (rows.getD 0 .non),h4,h5,fun r hr'=>⟨?_,hr r hr'⟩⟩
  have:=List.all_eq_true.mp h6 (.tup (r.map D.int)) (by rw[er];exact List.mem_map.mpr ⟨r,hr',rfl⟩)
  have:=of_decide_eq_true this
  rw[←this]
  show r.length=(r.map D.int).length
  rw[List.length_map]
 | _=>cases h
theorem z8 {d:D}(h:jA n d=true):∃m:Mv,d=m.d∧zR n m:=by
 unfold jA at h
 split at h
 ·rename_i s x y r t
  simp only[Bool.and_eq_true] at h
  obtain⟨h1,⟨h2,h3⟩,h4,h5⟩:=h
  obtain⟨x,rfl,bx⟩:=jU h2
  obtain⟨y,rfl,by'⟩:=jU h3
  obtain⟨r,rfl,br⟩:=jU h4
  obtain⟨t,rfl,bt⟩:=jU h5
  have:∃so:Option Nat,s=(match so with|some k=>.int k|none=>.non)∧∀k,so=some k→k<n:=by
   cases s with
   | non=>exact⟨none,rfl,fun k e=>by cases e⟩
   | int i=>
    have h1:(decide (0≤i)&&decide (i≤(n:Int)-1))=true:=h1
    simp only[Bool.and_eq_true,decide_eq_true_eq] at h1
    obtain⟨j,rfl⟩:=Int.eq_ofNat_of_zero_le h1.1
    exact⟨some j,rfl,fun k e=>by cases e;omega⟩
   | _=>cases h1
  obtain⟨so,es,hs⟩:=this
  exact⟨⟨so,x,y,r,t⟩,by rw[es];rfl,⟨hs,bx,by',br,bt⟩⟩
 ·cases h
theorem zl {d:D}(h:ba d=true):∃s:im,d=s.d∧eJ 12 s:=by
 unfold ba at h
 split at h
 ·rename_i f s b m p
  simp only[Bool.and_eq_true] at h
  obtain⟨⟨h1,h2,h3⟩,h4,h5⟩:=h
  obtain⟨fl,rfl,okf⟩:=sM h1
  cases s with
  | tup ss=>
   have h2:(decide (ss.length=2)&&ss.all (aE (-1000) 1000))=true:=h2
   simp only[Bool.and_eq_true,decide_eq_true_eq] at h2
   obtain⟨sh,rfl,hsh⟩:=qu h2.2
   cases p with
   | tup ps=>
    have h3:(decide (ps.length=16)&&ps.all (aE 0 63))=true:=h3
    simp only[Bool.and_eq_true,decide_eq_true_eq] at h3
    obtain⟨po,rfl,hpo⟩:=qu h3.2
    cases b with
    | tup bs=>
     have h4:(decide (bs.length≤8)&&bs.all (cU 8))=true:=h4
     simp only[Bool.and_eq_true,decide_eq_true_eq] at h4
     obtain⟨bk,rfl,hbk⟩:=lF (f:=bP) (P:=mt 8) (es:=bs) fun e he=>sM (List.all_eq_true.mp h4.2 e he)
     cases m with
     | tup ms=>
      have h5:(decide (ms.length≤12)&&ms.all (jA (bk.map bP).length))=true:=h5
      simp only[Bool.and_eq_true,decide_eq_true_eq,List.length_map] at h5
      obtain⟨mv,rfl,hmv⟩:=lF (f:=Mv.d) (P:=zR bk.length) (es:=ms) fun e he=>z8 (List.all_eq_true.mp h5.2 e he)
      have l2:sh.length=2:=by rw[←h2.1,List.length_map]
      match sh,l2,hsh with
      | [sx,sy],_,hsh=>
       refine⟨⟨fl,sx,sy,bk,mv,po⟩,rfl,⟨okf,hsh sx (by simp),hsh sy (by simp),by have:=h4.1;rw[List.length_map] at this;exact this,hbk,?_,hmv,by have:=h3.1;rw[List.length_map] at this;exact this,hpo⟩⟩
       have:=h5.1
       show(mv.length:Int)≤12
       rw[List.length_map] at this
       omega
     | _=>cases h5
    | _=>cases h4
   | _=>cases h3
  | _=>cases h2
 ·cases h
theorem AN {x:Str}{k:Nat}(hM:fR M)(hc:(c,x)∈[(("NoFrame":Str),("frame":Str)),("NoStand","stand")]):hZ [.exc c] M=.ok (.tup [.str x]) M:=by
 have l3:(3:Nat)≤sizeLine:=aM (by decide)
 have l6:(6:Nat)≤sizeLine:=aM (by decide)
 have l9:(9:Nat)<sizeLine:=by rw[sizeLine_eq];decide
 have l9':(9:Nat)≤sizeLine:=aM (by decide)
 have l10:(10:Nat)≤sizeLine:=aM (by decide)
 have l1:(1:Nat)≤sizeLine:=aM (by decide)
 have at0:∀a b c d e f g h i j:D,jL [a,b,c,d,e,f,g,h,i,j] 0=some a:=fun _ _ _ _ _ _ _ _ _ _=>rfl
 have at1:∀a b c d e f g h i j:D,jL [a,b,c,d,e,f,g,h,i,j] 1=some b:=fun _ _ _ _ _ _ _ _ _ _=>rfl
 have b1:(("NoFrame":Str)==("NoDeed":Str))=false:=by decide
 have b2:(("NoStand":Str)==("NoDeed":Str))=false:=by decide
 have b3:(("NoStand":Str)==("NoFrame":Str))=false:=by decide
 have e:∃E,aX 2 fL [.exc c] M=.ok (.tup [.str x]) (M++E):=by
  simp only[List.mem_cons,List.not_mem_nil,or_false,Prod.mk.injEq] at hc
  rcases hc with⟨rfl,rfl⟩|⟨rfl,rfl⟩
  ·unfold fL
   simp_arith [l3,l6,l9,l9',l10,l1,List.lookup,a9,List.findIdx?_cons,at0,b1]
  ·unfold fL
   simp_arith [l3,l6,l9,l9',l10,l1,List.lookup,a9,List.findIdx?_cons,at1,b2,b3]
 obtain⟨E,e⟩:=e
 unfold hZ
 rw[e]
 exact uK rfl hM
theorem BH (hM:fR M):fR (M++[.obj "Beam" []]):=by
 unfold fR at *
 rw[List.all_append,Bool.and_eq_true]
 exact⟨List.all_eq_true.mpr fun x hx=>tM (by simp) (List.all_eq_true.mp hM x hx),rfl⟩
theorem sZ (n:Nat)(rs:List (List Int)):aR (n+3) (bP rs)=true:=by
 refine List.all_eq_true.mpr fun x hx=>?_
 obtain⟨r,_,rfl⟩:=List.mem_map.mp hx
 exact iK n r
theorem xP (n:Nat)(m:Mv):aR (n+2) m.d=true:=by
 obtain⟨so,x,y,r,t⟩:=m
 cases so <;> rfl
theorem A0 (s:im):aR 30 s.d=true:=by
 unfold im.d
 have a:=sZ 26 s.floor
 have b:(s.book.map bP).all (aR 28)=true:=List.all_eq_true.mpr fun x hx=>by
  obtain⟨r,_,rfl⟩:=List.mem_map.mp hx
  exact sZ 25 r
 have c:(s.movers.map Mv.d).all (aR 28)=true:=List.all_eq_true.mpr fun x hx=>by
  obtain⟨r,_,rfl⟩:=List.mem_map.mp hx
  exact xP 26 r
 have d:=iK 27 s.pots
 simp only[oB,List.all_cons,List.all_nil,a,b,c,d]
 rfl
theorem AY (b:Nat)(n:Nat):jR (ie b n) (ie b n)=true:=iS _
theorem tN {t:vf}{ge:GE}{ρ:cr}{f:D→D}{M:aA}(ht:t.ok M=true):∀(ds:List D),(∀d∈ds,ge (some d::ρ) M=.ok (f d) M)→iq t bU ge ds ρ M=.ok (ds.map f) M
 | [],h=>by
  unfold iq
  rw[ht,if_pos rfl];rfl
 | d::ds,h=>by
  have ih:=tN (ge:=ge) (ρ:=ρ) (f:=f) ht ds fun x hx=>h x (List.mem_cons_of_mem _ hx)
  unfold iq
  rw[ht,if_pos rfl,show bU (some d::ρ) M=.ok true M from rfl]
  dsimp only
  rw[h d List.mem_cons_self]
  dsimp only
  rw[ih];rfl
theorem xl (hr:B.rows.length≤90000):de [.mr M0.length] (aq M0 fr B)=.ok (.lst (B.rows.map fun r=>.lst (r.map D.int))) (aq M0 fr B):=by
 show aQ (fV [some (.mr M0.length)] _)=_
 unfold fV
 have fl:=eB (g:=ae 0) (ρ:=[some (.mr M0.length)]) (M:=aq M0 fr B) (f:="laid_rows") rfl jM ua
 have gi:bJ (eT "Beam" "laid_rows" (ae 0)) [some (.mr M0.length)] (aq M0 fr B)=.ok ⟨ie M0.length B.rows.length,some (M0.length+1)⟩ (aq M0 fr B):=by
  unfold bJ
  rw[fl,ao]
  unfold vL
  dsimp only
  rw[Bp]
 have ht:(⟨ie M0.length B.rows.length,some (M0.length+1)⟩:vf).ok (aq M0 fr B)=true:=by
  unfold vf.ok
  dsimp only
  rw[Bp]
  exact AY _ _
 have ec:=tN (ge:=dL) (ρ:=[some (.mr M0.length)]) (f:=fun d=>match d with | .mr k=>.lst ((B.rows.getD (k-(M0.length+5)) []).map D.int)|d=>d) ht (ie M0.length B.rows.length) (fun d hd=>by
  obtain⟨i,hi,rfl⟩:=List.mem_map.mp hd
  have hi:=List.mem_range.mp hi
  have gr:B.rows[i]?=some B.rows[i]:=List.getElem?_eq_getElem hi
  unfold dL
  refine nA (a:=ae 0) (x:=.mr (M0.length+5+i)) rfl ?_
  unfold kZ cC
  dsimp only
  rw[ye gr]
  show bn.ok (D.lst (B.rows[i].map D.int)) _=_
  have e:(B.rows.getD (M0.length+5+i-(M0.length+5)) [])=B.rows[i]:=by
   rw[Nat.add_sub_cancel_left,List.getD,gr];rfl
  rw[e])
 have em:(ie M0.length B.rows.length).map (fun d=>match d with | .mr k=>.lst ((B.rows.getD (k-(M0.length+5)) []).map D.int)|d=>d)=B.rows.map fun r=>D.lst (r.map D.int):=by
  unfold ie
  rw[List.map_map]
  apply List.ext_getElem
  ·simp
  ·intro i q1 q2
   simp at q1 q2 ⊢
   simp[q2]
 rw[em] at ec
 have gc:aW (bJ (eT "Beam" "laid_rows" (ae 0))) bU dL aL [some (.mr M0.length)] (aq M0 fr B)=.ok (.lst (B.rows.map fun r=>.lst (r.map D.int))) (aq M0 fr B):=by
  unfold aW
  rw[gi,ao]
  dsimp only
  rw[ec,ao]
  unfold aL
  rw[if_pos (aM (by rw[List.length_map];omega))]
 rw[b9 gc];rfl
theorem E5 {go:GE}{F:FD}{M1 M2:aA}{k:Nat}{m:Str}{ds:List D}{r:bn D}(h:go ρ M=.ok (.mr k) M1)(hM:M1[k]?=some (.obj c fs))(hn:fs.lookup m=none)
  (ha:ga ρ M1=.ok ds M2) (hl:ds.length+1=n) (hF:F (.mr k::ds) M2=r):fA c m n F go ga ρ M=r:=by
 unfold fA
 rw[h,ao,rg hM]
 dsimp only
 rw[if_pos hn,ha,ao,if_pos hl,hF]
theorem xZ {E:aA}{k:Nat}(hM:fR M)(hk:M.length≤k)(he:(M++E)[k]?=some (.lst xs))(hx:xs.all (aR 29)=true):iQ M.length (.ok (.mr k) (M++E))=.ok (.lst xs) M:=by
 have hlt:=(List.getElem?_eq_some_iff.mp he).1
 have nl:¬(M++E).length=M.length:=by omega
 have f2:frz M.length (M++E) 30 (.mr k)=some (.lst xs):=by
  have o:bv (frz M.length (M++E) 29) xs=some xs:=bR fun x h=>eA 29 x (List.all_eq_true.mp hx x h)
  show(if k<M.length then some (D.mr k) else match (M++E)[k]? with|some (MO.lst ys)=>(bv (frz M.length (M++E) 29) ys).map D.lst|_=>none)=_
  rw[if_neg (by omega),he]
  dsimp only
  rw[o];rfl
 unfold iQ
 dsimp only
 rw[if_neg nl,List.take_left,f2,iY hM]
theorem zw (h0:fR M)(ok:eJ mm s)(hm:mm≤12)(f:rJ w h g m)(ps:aR 30 s.d=true)(hc:∀M,aG [cm w h g m,s.d] M=.ok .non M) :
  lY [cm w h g m,s.d,.lst []] M=.ok (.lst []) M:=by
 obtain⟨B',iv,el⟩:=vn h0 ok hm f ps hc
 have hb:h*(w+g)≤40*60:=by
  have a:=f.w;have b:=f.g;have c:=f.h
  exact Int.mul_le_mul (by omega) (by omega) (by omega) (by omega)
 have rl:=iv.rl
 show iQ M.length (aQ (kX [some (cm w h g m),some s.d,some (.lst []),none,none,none,none,none,none,none,none] M))=_
 unfold kX
 have k1:=bT (i:=3) (E5 (c:="Beam") (m:="picture") (n:=1) (go:=aj 3 iM (aa (ae 0) (aa (ae 1) (aa (ae 2) ag)))) (ga:=ag) (ρ:=[some (cm w h g m),some s.d,some (.lst []),none,none,none,none,none,none,none,none]) (dX (a:=ae 0) (b:=ae 1) (c:=ae 2) rfl rfl rfl el) jM rfl (ds:=[]) rfl rfl (xl (by omega)))
 rw[ay k1]
 generalize (B'.rows.map fun r=>D.lst (r.map D.int))=pic
 rw[ay (bT (i:=4) nw)]
 have kf:jb (kY (aa (ae 2) ag)) (pS [(ej 5),(bO [6,7])]) p8 [some (cm w h g m),some s.d,some (.lst []),some (.lst pic),some (.mr (aq M (cm w h g m) B').length),none,none,none,none,none,none] (aq M (cm w h g m) B'++[.lst []])=.ok (.nx [some (cm w h g m),some s.d,some (.lst []),some (.lst pic),some (.mr (aq M (cm w h g m) B').length),none,none,none,none,none,none]) (aq M (cm w h g m) B'++[.lst []]):=rfl
 refine(congrArg (fun o=>iQ M.length (aQ o)) (ay kf)).trans ?_
 show iQ M.length (.ok (.mr (aq M (cm w h g m) B').length) (aq M (cm w h g m) B'++[.lst []]))=_
 have e:aq M (cm w h g m) B'++[MO.lst []]=M++(og (cm w h g m) M.length B'++[.lst []]):=by
  unfold aq
  rw[List.append_assoc]
 have ek:(aq M (cm w h g m) B'++[MO.lst []])[(aq M (cm w h g m) B').length]?=some (.lst []):=by simp
 rw[e] at ek ⊢
 exact xZ h0 (by rw[uF];omega) ek rfl
theorem zH (hc:∀M,aG [fr,st] M=.err c M):lY [fr,st,.lst []] M=.err c M:=by
 show iQ M.length (aQ (kX [some fr,some st,some (.lst []),none,none,none,none,none,none,none,none] M))=_
 unfold kX
 have k0:aI 3 (fA "Beam" "picture" 1 de (aj 3 iM (aa (ae 0) (aa (ae 1) (aa (ae 2) ag)))) ag) [some fr,some st,some (.lst []),none,none,none,none,none,none,none,none] M=.err c M:=by
  unfold aI fA
  rw[dX (a:=ae 0) (b:=ae 1) (c:=ae 2) (ρ:=[some fr,some st,some (.lst []),none,none,none,none,none,none,none,none]) rfl rfl rfl (vV hc)];rfl
 rw[yY k0]
 show(if M.length=M.length then bn.err c M else _)=_
 rw[if_pos rfl]
noncomputable def F1:GS:=(cJ (aH (g2 (a9 false) (ae 0) (gC (.int 0)))) (bo (ib "Beam" 3 bG (aa (aP (aa (gC (.int 3)) (aa (gC (.int 2)) (aa (gC (.int 1)) (aa (gC (.int 4)) ag))))) (aa (ae 1) ag)))) (cJ (aH (g2 (a9 false) (ae 0) (gC (.int 1)))) (bo (aj 3 iM (aa (aP (aa (gC (.int 3)) (aa (gC (.int 2)) (aa (gC (.int 1)) (aa (gC (.int 4)) ag))))) (aa (ae 1) (aa (dM ag) ag))))) (bo (aj 3 lY (aa (aP (aa (gC (.int 3)) (aa (gC (.int 2)) (aa (gC (.int 1)) (aa (gC (.int 4)) ag))))) (aa (ae 1) (aa (dM ag) ag)))))))
theorem E0 (ρ:cr)(M:aA):ia ρ M=(ar (aI 2 (gC .non)) (ar (n6 3 (List.contains ["NoDeed","NoFrame","NoStand","NoTick","Over"]) F1 (aI 2 (ae 3))) (ar (cJ (aH (g2 (jB false) (ae 2) (gC .non))) (aJ (aP (aa (gC (.str "made")) ag))) aD) (aJ (aj 1 hZ (aa (ae 2) ag)))))) ρ M:=rfl
theorem yu {d:D}{x:Str}(hM:fR M)(hs:(∃E,F1 [some (.int k),some d,some .non,none] M=.ok (.nx [some (.int k),some d,some .non,none]) (M++E)∧x="made")∨
  (∃E,F1 [some (.int k),some d,some .non,none] M=.err "NoStand" (M++E)∧x="stand"∧fR (M++E))) :
  ji [.int k,d] M=.ok (.tup [.str x]) M:=by
 show iQ M.length (aQ (ia [some (.int k),some d,none,none] M))=_
 rw[E0]
 rw[ay (show aI 2 (gC .non) [some (.int k),some d,none,none] M=.ok (.nx [some (.int k),some d,some .non,none]) M from rfl)]
 rcases hs with⟨E,e,ex⟩|⟨E,e,ex,hE⟩
 ·subst ex
  have k1:n6 3 (List.contains ["NoDeed","NoFrame","NoStand","NoTick","Over"]) F1 (aI 2 (ae 3)) [some (.int k),some d,some .non,none] M=.ok (.nx [some (.int k),some d,some .non,none]) (M++E):=by
   unfold n6
   rw[e]
  rw[ay k1]
  have k2:cJ (aH (g2 (jB false) (ae 2) (gC .non))) (aJ (aP (aa (gC (.str "made")) ag))) aD [some (.int k),some d,some .non,none] (M++E)=.ok (.rt (.tup [.str "made"])) (M++E):=(bH (M1:=M++E) rfl).trans (b9 (jK (ds:=[.str "made"]) rfl (by decide)))
  rw[bh k2]
  exact uK rfl hM
 ·subst ex
  have inl:List.contains (["NoDeed","NoFrame","NoStand","NoTick","Over"]:List Str) "NoStand"=true:=by decide
  have k1:n6 3 (List.contains ["NoDeed","NoFrame","NoStand","NoTick","Over"]) F1 (aI 2 (ae 3)) [some (.int k),some d,some .non,none] M=.ok (.nx [none,none,some (.exc "NoStand"),none]) (M++E):=by
   unfold n6
   rw[e]
   dsimp only
   rw[inl,if_pos rfl];rfl
  rw[ay k1]
  have k2:cJ (aH (g2 (jB false) (ae 2) (gC .non))) (aJ (aP (aa (gC (.str "made")) ag))) aD [none,none,some (.exc "NoStand"),none] (M++E)=.ok (.nx [none,none,some (.exc "NoStand"),none]) (M++E):=(cT (M1:=M++E) rfl).trans rfl
  rw[ay k2,b9 (eL (a:=ae 2) (x:=.exc "NoStand") rfl (AN (k:=0) hE (x:="stand") (by simp)))]
  exact uK rfl hM
theorem Hr:rJ 3 2 1 4:=⟨by decide,by decide,by decide,by decide⟩
theorem JK :aP (aa (gC (.int 3)) (aa (gC (.int 2)) (aa (gC (.int 1)) (aa (gC (.int 4)) ag)))) ρ M=.ok (cm 3 2 1 4) M:=jK (ds:=[.int 3,.int 2,.int 1,.int 4]) rfl (by decide)
theorem Ds {d:D}(hM:fR M)(hk:k=0∨k=1∨k=2)(hd:dS 4 d):ji [.int k,d] M=.ok (.tup [.str (if ba d=true then "made" else "stand")]) M:=by
 have bf:=Ct Hr
 have w0:∀(k:Int),k=0→∀ρ,F1 (some (.int k)::ρ) M=bo (ib "Beam" 3 bG (aa (aP (aa (gC (.int 3)) (aa (gC (.int 2)) (aa (gC (.int 1)) (aa (gC (.int 4)) ag))))) (aa (ae 1) ag))) (some (.int k)::ρ) M:=fun k hk ρ=>bH (M1:=M) (aU (aB (x:=.int k) (y:=.int 0) rfl rfl ((fU k 0 M).trans (by rw[decide_eq_true hk]))))
 have w1:∀(k:Int),k=1→∀ρ,F1 (some (.int k)::ρ) M=bo (aj 3 iM (aa (aP (aa (gC (.int 3)) (aa (gC (.int 2)) (aa (gC (.int 1)) (aa (gC (.int 4)) ag))))) (aa (ae 1) (aa (dM ag) ag)))) (some (.int k)::ρ) M:=fun k hk ρ=>(cT (M1:=M) (aU (aB (x:=.int k) (y:=.int 0) rfl rfl ((fU k 0 M).trans (by rw[decide_eq_false (by omega)]))))).trans (bH (M1:=M) (aU (aB (x:=.int k) (y:=.int 1) rfl rfl ((fU k 1 M).trans (by rw[decide_eq_true hk])))))
 have w2:∀(k:Int),k=2→∀ρ,F1 (some (.int k)::ρ) M=bo (aj 3 lY (aa (aP (aa (gC (.int 3)) (aa (gC (.int 2)) (aa (gC (.int 1)) (aa (gC (.int 4)) ag))))) (aa (ae 1) (aa (dM ag) ag)))) (some (.int k)::ρ) M:=fun k hk ρ=>(cT (M1:=M) (aU (aB (x:=.int k) (y:=.int 0) rfl rfl ((fU k 0 M).trans (by rw[decide_eq_false (by omega)]))))).trans (cT (M1:=M) (aU (aB (x:=.int k) (y:=.int 1) rfl rfl ((fU k 1 M).trans (by rw[decide_eq_false (by omega)])))))
 have el:∀ρ,dM ag ρ M=.ok (.lst []) M:=fun ρ=>tZ (ds:=[]) rfl (by decide)
 cases hb:ba d with
 | false=>
  have hc:∀M,aG [cm 3 2 1 4,d] M=.err "NoStand" M:=fun M=>sd p6 hd bf hb
  refine yu hM (.inr ?_)
  rcases hk with rfl|rfl|rfl
  ·refine⟨[.obj "Beam" []],?_,rfl,BH hM⟩
   rw[w0 0 rfl]
   unfold bo
   rw[AB (ρ:=[some (.int 0),some d,some .non,none]) (gR JK (gR (d:=d) rfl rfl)) hc];rfl
  ·refine⟨[],?_,rfl,by rw[List.append_nil];exact hM⟩
   rw[w1 1 rfl]
   unfold bo
   rw[dX JK (b:=ae 1) (ρ:=[some (.int 1),some d,some .non,none]) rfl (el _) (vV hc),List.append_nil];rfl
  ·refine⟨[],?_,rfl,by rw[List.append_nil];exact hM⟩
   rw[w2 2 rfl]
   unfold bo
   rw[dX JK (b:=ae 1) (ρ:=[some (.int 2),some d,some .non,none]) rfl (el _) (zH hc),List.append_nil];rfl
 | true=>
  have hc:∀M,aG [cm 3 2 1 4,d] M=.ok .non M:=fun M=>CQ p6 hd bf hb
  obtain⟨s,rfl,ok⟩:=zl hb
  have ps:=A0 s
  refine yu hM (.inl ?_)
  rcases hk with rfl|rfl|rfl
  ·refine⟨og (cm 3 2 1 4) M.length (jQ s.d),?_,rfl⟩
   rw[w0 0 rfl]
   exact cn (yB (ρ:=[some (.int 0),some s.d,some .non,none]) (gR JK (gR (d:=s.d) rfl rfl)) hc)
  ·obtain⟨B',_,e⟩:=vn hM ok (by decide) Hr ps hc
   refine⟨og (cm 3 2 1 4) M.length B',?_,rfl⟩
   rw[w1 1 rfl]
   exact cn (dX JK (b:=ae 1) (ρ:=[some (.int 1),some s.d,some .non,none]) rfl (el _) e)
  ·refine⟨[],?_,rfl⟩
   rw[w2 2 rfl,List.append_nil]
   exact cn (dX JK (b:=ae 1) (ρ:=[some (.int 2),some s.d,some .non,none]) rfl (el _) (zw hM ok (by decide) Hr ps hc))
theorem sR:∀(n m:Nat) {d:D},m≤100→je true m d=true→dS n d
 | 0,m,d,_,h=>yk h
 | n+1,0,d,_,h=>by cases h
 | n+1,m+1,d,hm,h=>by
  refine⟨yk h,fun xs e=>?_⟩
  subst e
  have q:=iE h
  exact⟨by have:=q.1;omega,fun x hx=>sR n m (by omega) (q.2 x hx)⟩
theorem vI (h:mt most rs)(hm:most≤900):je true (n+3) (bP rs)=true:=by
 obtain⟨h1,h2,w,h3,h4,h5⟩:=h
 refine fu (by rw[List.length_map];omega) fun x hx=>?_
 obtain⟨r,hr,rfl⟩:=List.mem_map.mp hx
 refine fu (by rw[List.length_map,(h5 r hr).1];omega) fun y hy=>?_
 obtain⟨k,_,rfl⟩:=List.mem_map.mp hy
 rfl
theorem Fv (ok:eJ mm s)(hm:mm≤900):je true 5 s.d=true:=by
 refine fu (by simp) fun x hx=>?_
 have hx:x∈[bP s.floor,.tup [.int s.sx,.int s.sy],.tup (s.book.map bP),.tup (s.movers.map Mv.d),.tup (s.pots.map D.int)]:=hx
 simp only[List.mem_cons,List.not_mem_nil,or_false] at hx
 rcases hx with rfl|rfl|rfl|rfl|rfl
 ·exact vI (n:=1) ok.floor (by decide)
 ·rfl
 ·refine fu (by rw[List.length_map];have:=ok.bl;omega) fun x hx=>?_
  obtain⟨b,hb,rfl⟩:=List.mem_map.mp hx
  exact vI (n:=0) (ok.book b hb) (by decide)
 ·refine fu (by rw[List.length_map];have:=ok.ml;omega) fun x hx=>?_
  obtain⟨m,_,rfl⟩:=List.mem_map.mp hx
  obtain⟨so,a,b,c,d⟩:=m
  cases so <;> rfl
 ·refine fu (by rw[List.length_map];have:=ok.pl;omega) fun x hx=>?_
  obtain⟨k,_,rfl⟩:=List.mem_map.mp hx
  rfl
noncomputable def CC (b:Bool):D:=.tup [.str (if b=true then "made" else "stand")]
theorem Er :a9 true (CC b) (CC b) M=.ok (.bl false) M:=by
 cases b <;> exact En (by decide +kernel) (by decide +kernel) (fun _=>rfl) M
theorem JP {x0 x1 x2 x4 x6:Option D}{d:D}(hM:fR M)(hk:k=0∨k=1∨k=2)(hd:dS 4 d) :
  oJ [x0,x1,x2,some d,x4,some (.bl (ba d)),x6,some (.int k)] M=.ok (.nx [x0,x1,x2,some d,x4,some (.bl (ba d)),x6,some (.int k)]) M:=by
 have em:=Ds hM hk hd
 unfold oJ
 have ll:=tZ (ga:=aa (aP (aa (gC (.str "stand")) ag)) (aa (aP (aa (gC (.str "made")) ag)) ag)) (ρ:=[x0,x1,x2,some d,x4,some (.bl (ba d)),x6,some (.int k)]) (M:=M) (ds:=[.tup [.str "stand"],.tup [.str "made"]]) (gR (jK (ds:=[.str "stand"]) rfl (by decide)) (gR (jK (ds:=[.str "made"]) rfl (by decide)) rfl)) (by decide)
 have r:g2 bi (dM (aa (aP (aa (gC (.str "stand")) ag)) (aa (aP (aa (gC (.str "made")) ag)) ag))) (aC uM (aa (ae 5) ag)) [x0,x1,x2,some d,x4,some (.bl (ba d)),x6,some (.int k)] M=.ok (CC (ba d)) M:=by
  generalize ba d=b at *
  cases b with
  | true=>exact aB ll (y:=.int 1) (M2:=M) rfl rfl
  | false=>exact aB ll (y:=.int 0) (M2:=M) rfl rfl
 have s3:=aU (aB (f:=a9 true) (eh (a:=ae 7) (b:=ae 3) (ρ:=[x0,x1,x2,some d,x4,some (.bl (ba d)),x6,some (.int k)]) rfl rfl em) r Er)
 rw[cT s3];rfl
theorem EF {x0 x3 x4 x5 x6 x7:Option D}{turn:Int}(ht:0≤turn)(t:dA ns [] M) :
  ∃y3 y4 y5 y6 y7 M',dA ns [] M'∧rL [x0,some (.mr 0),some (.int turn),x3,x4,x5,x6,x7] M=.ok (.nx [x0,some (.mr 0),some (.int turn),y3,y4,y5,y6,y7]) M':=by
 obtain⟨mm,hmm,em⟩:∃mm:Int,(0≤mm∧mm≤12)∧jL [D.int 4,D.int 12] (turn % 2)=some (.int mm):=by
  have:turn % 2=0∨turn % 2=1:=by omega
  rcases this with e|e <;> rw[e]
  ·exact⟨4,by decide,rfl⟩
  ·exact⟨12,by decide,rfl⟩
 obtain⟨s,M1,ok,t1,e1⟩:=Cj (w:=9) (hh:=9) (more:=[.int 0,.int 4]) (mm:=mm) (by decide) (by decide) (by omega) t
 obtain⟨way,M2,a2,b2,t2,e2⟩:=bB (many:=8) (by decide) (aV (by decide) (by decide)) t1
 have oks:=Fv ok (by omega)
 have tst:∀(k:Int) (d:D) (M:aA),aH (g2 (a9 false) (ae 4) (gC (.int k))) [x0,some (.mr 0),some (.int turn),some d,some (.int way),x5,x6,x7] M=.ok (decide (way=k)) M:=fun k d M=>aU (aB (x:=.int way) (y:=.int k) rfl rfl (fU _ _ M))
 have tgt:∀(d:D) (M:aA),aH (g2 nr (ae 4) (gC (.int 1))) [x0,some (.mr 0),some (.int turn),some d,some (.int way),x5,x6,x7] M=.ok (decide (way>1)) M:=fun d M=>aU (aB (x:=.int way) (y:=.int 1) rfl rfl rfl)
 have p1:∃d M3,je true 14 d=true∧dA ns [] M3∧cJ (aH (g2 nr (ae 4) (gC (.int 1)))) (aI 3 (aj 2 bV (aa (ae 1) (aa (ae 3) ag)))) aD [x0,some (.mr 0),some (.int turn),some s.d,some (.int way),x5,x6,x7] M2=.ok (.nx [x0,some (.mr 0),some (.int turn),some d,some (.int way),x5,x6,x7]) M3:=by
  by_cases h:way>1
  ·obtain⟨d,M3,t3,o3,e3⟩:=sF oks (by decide) t2
   exact⟨d,M3,o3,t3,(bH ((tgt _ _).trans (by rw[decide_eq_true h]))).trans (bT (eh (a:=ae 1) (b:=ae 3) rfl rfl e3))⟩
  ·exact⟨s.d,M2,eE (by decide) oks,t2,(cT ((tgt _ _).trans (by rw[decide_eq_false h]))).trans rfl⟩
 obtain⟨d1,M3,o1,t3,k3⟩:=p1
 have isi:cE "tuple" (ae 3) [x0,some (.mr 0),some (.int turn),some d1,some (.int way),x5,x6,x7] M3=.ok (.bl (bq d1)) M3:=dB (i:=3) (yk o1) rfl
 have p2:∃d M4,je true 32 d=true∧dA ns [] M4∧cJ (cx (aH (g2 (a9 false) (ae 4) (gC (.int 7)))) (bF (cE "tuple" (ae 3)))) (aI 3 (aj 2 bV (aa (ae 1) (aa (ae 3) ag)))) aD [x0,some (.mr 0),some (.int turn),some d1,some (.int way),x5,x6,x7] M3=.ok (.nx [x0,some (.mr 0),some (.int turn),some d,some (.int way),x5,x6,x7]) M4:=by
  have ta:=bW (tst 7 d1 M3) fun _=>bg isi
  cases hb:(decide (way=7)&&bq d1) with
  | true=>
   rw[hb] at ta
   obtain⟨d,M4,t4,o4,e4⟩:=sF o1 (by decide) t3
   exact⟨d,M4,o4,t4,(bH ta).trans (bT (eh (a:=ae 1) (b:=ae 3) rfl rfl e4))⟩
  | false=>
   rw[hb] at ta
   exact⟨d1,M3,eE (by decide) o1,t3,(cT ta).trans rfl⟩
 obtain⟨d2,M4,o2,t4,k4⟩:=p2
 have p3:∃d M5,je true 32 d=true∧dA ns [] M5∧cJ (aH (g2 (a9 false) (ae 4) (gC (.int 1)))) (aI 3 (aj 1 eC (aa (ae 1) ag))) aD [x0,some (.mr 0),some (.int turn),some d2,some (.int way),x5,x6,x7] M4=.ok (.nx [x0,some (.mr 0),some (.int turn),some d,some (.int way),x5,x6,x7]) M5:=by
  by_cases h:way=1
  ·obtain⟨d,M5,t5,o5,e5⟩:=Az t4
   exact⟨d,M5,eE (by decide) o5,t5,(bH ((tst 1 _ _).trans (by rw[decide_eq_true h]))).trans (bT (eL (a:=ae 1) rfl e5))⟩
  ·exact⟨d2,M4,o2,t4,(cT ((tst 1 _ _).trans (by rw[decide_eq_false h]))).trans rfl⟩
 obtain⟨d,M5,o3,t5,k5⟩:=p3
 have hd:dS 4 d:=sR 4 32 (by decide) o3
 have sh:fR M5:=by
  obtain⟨i,c,_,rfl⟩:=t5
  exact fR.pure (by simp[tp,qK,sD])
 have s1:aI 3 (aj 3 eQ (aa (ae 1) (aa (aP (aa (gC (.int 9)) (aa (gC (.int 9)) (aa (gC (.int 0)) (aa (gC (.int 4)) ag))))) (aa (g2 bi (dM (aa (gC (.int 4)) (aa (gC (.int 12)) ag))) (g2 ij (ae 2) (gC (.int 2)))) ag)))) [x0,some (.mr 0),some (.int turn),x3,x4,x5,x6,x7] M=.ok (.nx [x0,some (.mr 0),some (.int turn),some s.d,x4,x5,x6,x7]) M1:=by
  refine bT (dX (a:=ae 1) rfl (jK (ds:=[.int 9,.int 9,.int 0,.int 4]) rfl (by decide)) (z:=.int mm) (aB (tZ (ds:=[.int 4,.int 12]) (M1:=M) rfl (by decide)) (y:=.int (turn % 2)) (M2:=M) rfl ?_) e1)
  show(match jL [D.int 4,D.int 12] (turn % 2) with|some d=>bn.ok d M|none=>.bad)=_
  rw[em]
 have s2:aI 4 (aj 2 aw (aa (ae 1) (aa (gC (.int 8)) ag))) [x0,some (.mr 0),some (.int turn),some s.d,x4,x5,x6,x7] M1=.ok (.nx [x0,some (.mr 0),some (.int turn),some s.d,some (.int way),x5,x6,x7]) M2:=bT (eh (a:=ae 1) (b:=gC (.int 8)) rfl rfl e2)
 have s3:aI 5 (aj 1 dF (aa (ae 3) ag)) [x0,some (.mr 0),some (.int turn),some d,some (.int way),x5,x6,x7] M5=.ok (.nx [x0,some (.mr 0),some (.int turn),some d,some (.int way),some (.bl (ba d)),x6,x7]) M5:=bT (eL (a:=ae 3) rfl (vY hd))
 have s4:aI 6 (aj 1 gQ (aa (ae 3) ag)) [x0,some (.mr 0),some (.int turn),some d,some (.int way),some (.bl (ba d)),x6,x7] M5=.ok (.nx [x0,some (.mr 0),some (.int turn),some d,some (.int way),some (.bl (ba d)),some (.bl (ba d)),x7]) M5:=bT (eL (a:=ae 3) rfl (mY hd))
 have s5:cJ (dh (bj (bF (cE "bool" (ae 6)))) (aH (g2 (a9 true) (ae 6) (ae 5)))) (aJ (gC (.bl false))) aD [x0,some (.mr 0),some (.int turn),some d,some (.int way),some (.bl (ba d)),some (.bl (ba d)),x7] M5=.ok (.nx [x0,some (.mr 0),some (.int turn),some d,some (.int way),some (.bl (ba d)),some (.bl (ba d)),x7]) M5:=by
  cases ba d <;> rfl
 obtain⟨ρ',M',⟨y7,rfl,eM⟩,ef⟩:=uO (ds0:=bD 0 3) (s:=ej 7) (body:=oJ) (W:=fun ρ N=>∃x7,ρ=[x0,some (.mr 0),some (.int turn),some d,some (.int way),some (.bl (ba d)),some (.bl (ba d)),x7]∧N=M5) (bD 0 3)
  (fun a ha ρ N hW=>by
   obtain⟨x7,rfl,rfl⟩:=hW
   obtain⟨k,rfl,k0,k1⟩:=mW ha
   exact⟨_,_,_,rfl,JP (x0:=x0) (x1:=some (.mr 0)) (x2:=some (.int turn)) (x4:=some (.int way)) (x6:=some (.bl (ba d))) (k:=k) sh (by omega) hd,_,rfl,rfl⟩) [x0,some (.mr 0),some (.int turn),some d,some (.int way),some (.bl (ba d)),some (.bl (ba d)),x7] M5 ⟨_,rfl,rfl⟩
 rw[eM] at ef
 refine⟨some d,some (.int way),some (.bl (ba d)),some (.bl (ba d)),y7,M5,t5,?_⟩
 rw[show rL [x0,some (.mr 0),some (.int turn),x3,x4,x5,x6,x7] M=(ar (aI 3 (aj 3 eQ (aa (ae 1) (aa (aP (aa (gC (.int 9)) (aa (gC (.int 9)) (aa (gC (.int 0)) (aa (gC (.int 4)) ag))))) (aa (g2 bi (dM (aa (gC (.int 4)) (aa (gC (.int 12)) ag))) (g2 ij (ae 2) (gC (.int 2)))) ag))))) (ar (aI 4 (aj 2 aw (aa (ae 1) (aa (gC (.int 8)) ag)))) (ar (cJ (aH (g2 nr (ae 4) (gC (.int 1)))) (aI 3 (aj 2 bV (aa (ae 1) (aa (ae 3) ag)))) aD) (ar (cJ (cx (aH (g2 (a9 false) (ae 4) (gC (.int 7)))) (bF (cE "tuple" (ae 3)))) (aI 3 (aj 2 bV (aa (ae 1) (aa (ae 3) ag)))) aD) (ar (cJ (aH (g2 (a9 false) (ae 4) (gC (.int 1)))) (aI 3 (aj 1 eC (aa (ae 1) ag))) aD) (ar (aI 5 (aj 1 dF (aa (ae 3) ag))) (ar (aI 6 (aj 1 gQ (aa (ae 3) ag))) (ar (cJ (dh (bj (bF (cE "bool" (ae 6)))) (aH (g2 (a9 true) (ae 6) (ae 5)))) (aJ (gC (.bl false))) aD) (jb (gH (aa (gC (.int 3)) ag)) (ej 7) oJ))))))))) [x0,some (.mr 0),some (.int turn),x3,x4,x5,x6,x7] M from rfl]
 rw[ay s1,ay s2,ay k3,ay k4,ay k5,ay s3,ay s4,ay s5]
 exact m7 (y9 (n:=3) rfl (by decide)) ef
theorem law_true (ns:List Int)(hl:ns.length≤63):∃M',yX [.ro (ns.map D.int)] []=.ok (.bl true) M':=by
 obtain⟨ρ2,M2,_,ef⟩:=uO (ds0:=bD 0 8) (s:=ej 2) (body:=rL) (W:=fun ρ M=>∃x2 x3 x4 x5 x6 x7,dA ns [] M∧ρ=[some (.ro (ns.map D.int)),some (.mr 0),x2,x3,x4,x5,x6,x7]) (bD 0 8)
  (fun d hd ρ M hW=>by
   obtain⟨x2,x3,x4,x5,x6,x7,t,rfl⟩:=hW
   obtain⟨k,rfl,k0,k1⟩:=mW hd
   obtain⟨y3,y4,y5,y6,y7,M',t',e⟩:=EF (x0:=some (.ro (ns.map D.int))) (x3:=x3) (x4:=x4) (x5:=x5) (x6:=x6) (x7:=x7) k0 t
   exact⟨_,_,M',rfl,e,_,_,_,_,_,_,t',rfl⟩) [some (.ro (ns.map D.int)),some (.mr 0),none,none,none,none,none,none] [tp ns 0 0] ⟨_,_,_,_,_,_,⟨0,0,by decide,rfl⟩,rfl⟩
 have l3:(3:Nat)≤sizeLine:=aM (by decide)
 refine⟨M2,?_⟩
 show aQ (yI [some (.ro (ns.map D.int)),none,none,none,none,none,none,none] [])=_
 unfold yI
 have s1:aI 1 (jX (aa (aC kZ (aa (ae 0) ag)) (aa (gC (.int 0)) (aa (gC (.int 0)) ag)))) [some (.ro (ns.map D.int)),none,none,none,none,none,none,none] []=.ok (.nx [some (.ro (ns.map D.int)),some (.mr 0),none,none,none,none,none,none]) [tp ns 0 0]:=by
  refine bT (d:=.mr 0) (M1:=[tp ns 0 0]) ?_
  show(if [D.lst (ns.map D.int),.int 0,.int 0].length≤sizeLine then bn.ok (D.mr 0) [MO.lst [D.lst (ns.map D.int),.int 0,.int 0]] else .bad)=_
  rw[if_pos (show [D.lst (ns.map D.int),.int 0,.int 0].length≤sizeLine from l3)];rfl
 rw[ay s1,ay (m7 (y9 (n:=8) rfl (by decide)) ef)]
 rfl
end K05
theorem PySem.Challenge.cw_glowrow_k05_what_is_a_stand_holds : PySem.Challenge.rw_glowrow_k05_what_is_a_stand.Holds :=
 K05.pre K05.law_true
