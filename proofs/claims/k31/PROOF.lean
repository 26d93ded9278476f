import PyProof.Rows.All
import Wide.All
import KE.KNestM
import OpenK.KOwn
import OpenK.KRaise
import KE.KIsAll
import KE.KTypeName
import Wide.FinOn
import Lean
import PyProof.EqAt
import PyProof.EqKinds
import PyProof.TupleCall
import PyProof.Draws
import PyProof.EnumMake
import KE.KLam
import KE.KMinKey
import PyProof.StrCalls2
import PyProof.Rows.StrIndexOr
import PyProof.CollectIter
import PyProof.ListStr
import KE.KDictLaws
import PyProof.P3Eq
import KE.KSortTup
import KE.KDictList
import PyProof.ZipIter
import PyProof.Rows.ZipGen
import PySem.Challenge.RW_glowrow_k31_whole_film_rounds
set_option Elab.async false
set_option linter.all false
set_option maxRecDepth 100000
set_option maxHeartbeats 4000000
namespace L2
open PySem PySem.Spec PyProof.Rows List
abbrev bF:=Sum Int Str
def ky:bF→Value→Bool
 | .inl k,v=>Value.isInt k v
 | .inr x,v=>Value.isStrOf x v
def Dh (w:World):bF→Int
 | .inl k=>hashInt k
 | .inr x=>hashStr w x
theorem bt:∀{k:bF} {v:Value},ky k v=true→(∃i t,k=Sum.inl i∧v=Value.int i t)∨(∃x t,k=Sum.inr x∧v=Value.str x t)
 | .inl i,v,h=>by
  obtain⟨t,e⟩:=Value.isInt_shape (k:=i) (v:=v) h;exact .inl ⟨i,t,rfl,e⟩
 | .inr x,v,h=>by
  obtain⟨t,e⟩:=Value.isStrOf_shape (x:=x) (v:=v) h;exact .inr ⟨x,t,rfl,e⟩
theorem o6 (i:Int)(t:Tok):ky (.inl i) (.int i t)=true:=by simp[ky,Value.isInt]
theorem pU (x:Str)(t:Tok):ky (.inr x) (.str x t)=true:=by simp[ky,Value.isStrOf]
theorem zk (a b:Int):decide ((Sum.inl a:bF)=Sum.inl b)=(a==b):=by
 by_cases e:a=b
 ·subst e;simp
 ·have h:¬(Sum.inl a:bF)=Sum.inl b:=fun q=>e (Sum.inl.inj q)
  rw[decide_eq_false h];exact(beq_eq_false_iff_ne.mpr e).symm
theorem zr (a b:Str):decide ((Sum.inr a:bF)=Sum.inr b)=decide (a=b):=by
 by_cases e:a=b
 ·subst e;simp
 ·have h:¬(Sum.inr a:bF)=Sum.inr b:=fun q=>e (Sum.inr.inj q)
  rw[decide_eq_false h,decide_eq_false e]
theorem xB (a:Int)(b:Str):decide ((Sum.inl a:bF)=Sum.inr b)=false:=decide_eq_false (fun q=>nomatch q)
theorem xI (a:Str)(b:Int):decide ((Sum.inr a:bF)=Sum.inl b)=false:=decide_eq_false (fun q=>nomatch q)
def bW (prog:Program)(w:World):PySem.KeyKind prog w bF where
 is:=ky
 hash:=Dh w
 inj:=fun v a b ha hb=>by
  rcases bt ha with⟨i,t,rfl,rfl⟩|⟨x,t,rfl,rfl⟩
  ·rcases bt hb with⟨j,u,rfl,e⟩|⟨y,u,rfl,e⟩
   ·injection e with e1 _;rw[e1]
   ·exact nomatch e
  ·rcases bt hb with⟨j,u,rfl,e⟩|⟨y,u,rfl,e⟩
   ·exact nomatch e
   ·injection e with e1 _;rw[e1]
 byValue:=fun k v h=>by
  rcases bt h with⟨i,t,rfl,rfl⟩|⟨x,t,rfl,rfl⟩ <;> rfl
 pyHash:=fun hv h=>by
  rcases bt hv with⟨i,t,rfl,rfl⟩|⟨x,t,rfl,rfl⟩
  ·exact wpAny_pyHash_int h
  ·exact wpAny_pyHash_str h
 eqBool:=fun hu hv h=>by
  rcases bt hu with⟨i,t,rfl,rfl⟩|⟨x,t,rfl,rfl⟩
  ·rcases bt hv with⟨j,u,rfl,rfl⟩|⟨y,u,rfl,rfl⟩
   ·rw[zk] at h;exact wpAny_eqBool_int h
   ·rw[xB] at h;exact SeqAt.EqAt.int_str i t y u _ _ _ _ h
  ·rcases bt hv with⟨j,u,rfl,rfl⟩|⟨y,u,rfl,rfl⟩
   ·rw[xI] at h;exact SeqAt.EqAt.str_int x t j u _ _ _ _ h
   ·rw[zr] at h;exact wpAny_eqBool_str h
 «strs»:=fun k x t v h=>by
  rcases bt h with⟨i,u,rfl,e⟩|⟨y,u,rfl,e⟩
  ·exact nomatch e
  ·injection e with e1 _
   subst e1;cases v <;> rfl
theorem lY (prog:Program)(w:World)(i:Int)(t:Tok):(bW prog w).is (.inl i) (.int i t)=true:=o6 i t
theorem mv (prog:Program)(w:World)(x:Str)(t:Tok):(bW prog w).is (.inr x) (.str x t)=true:=pU x t
inductive V where
 | non|bl (b:Bool)|int (i:Int)|str (x:Str)|byt (b:Array UInt8)|flt (b:UInt64)|ref (a:Addr)|ty (n:String)
 deriving DecidableEq
def aI:V→Value→Prop
 | .non,u=>u=Value.none
 | .bl b,u=>u=Value.bool b
 | .int i,u=>∃t,u=Value.int i t
 | .str x,u=>∃t,u=Value.str x t
 | .byt b,u=>∃t,u=Value.bytes b t
 | .flt b,u=>∃t,u=Value.float b t
 | .ref a,u=>u=Value.ref a
 | .ty n,u=>u=Value.type n
abbrev aD:List V→List Value→Prop:=Paired aI
theorem aD.length {xs:List V}{us:List Value}(r:aD xs us):xs.length=us.length:=Paired.length r
theorem aD.get:∀{xs:List V} {us:List Value} {i:Nat} {x:V},aD xs us→xs[i]?=some x→∃u,us[i]?=some u∧aI x u
 | _,_,_,_,.nil,e=>by simp at e
 | _,_,0,_,.cons r _,e=>by simp at e;subst e;exact⟨_,rfl,r⟩
 | _,_,i+1,x,.cons _ t,e=>by
  obtain⟨u,h1,h2⟩:=aD.get (i:=i) (x:=x) t (by simpa using e);exact⟨u,by simpa using h1,h2⟩
theorem aD.set {x:V}{u:Value}(r:aI x u):∀{xs:List V} {us:List Value} (i:Nat),aD xs us→aD (xs.set i x) (us.set i u)
 | _,_,_,.nil=>.nil
 | _,_,0,.cons _ t=>.cons r t
 | _,_,i+1,.cons q t=>.cons q (aD.set r i t)
theorem aD.append:∀{xs ys:List V} {us ws:List Value},aD xs us→aD ys ws→aD (xs++ys) (us++ws)
 | _,_,_,_,.nil,s=>s
 | _,_,_,_,.cons r t,s=>.cons r (aD.append t s)
theorem aD.take:∀{xs:List V} {us:List Value} (n:Nat),aD xs us→aD (xs.take n) (us.take n)
 | _,_,0,_=>.nil
 | _,_,_+1,.nil=>.nil
 | _,_,n+1,.cons r t=>.cons r (aD.take n t)
theorem aD.drop:∀{xs:List V} {us:List Value} (n:Nat),aD xs us→aD (xs.drop n) (us.drop n)
 | _,_,0,r=>r
 | _,_,_+1,.nil=>.nil
 | _,_,n+1,.cons _ t=>aD.drop n t
def jW:Option V→Option Value→Prop
 | some v,some u=>aI v u
 | none,none=>True
 | _,_=>False
def KV {κ:Type}:List (κ×V)→List (κ×Value)→Prop:=Paired fun(p:κ×V) (q:κ×Value)=>p.1=q.1∧aI p.2 q.2
def kV:bF→V
 | .inl i=>.int i
 | .inr x=>.str x
inductive HO where
 | lst (xs:List V)
 | tup (xs:List V)
 | dK (kvs:List (bF×V))|dT (kvs:List (List bF×V))
 | set (S:Int→Bool) (n:Nat)
 | ins (C dx:Addr) (fs:List (Str×V))
 | own (x:Addr)
 | xd (fs:List (Str×V))
 | met (f x:Addr)
 | rng (lo hi:Int)
 | frz (o:Obj) (u:HO)
 | tbl (ps:Array Value)
 | ext (φ:Heap→Prop)
abbrev Hp:=Addr→Option HO
def bX (H:Hp)(a:Addr)(o:HO):Hp:=fun b=>if b=a then some o else H b
theorem cj {H:Hp}{a:Addr}{o:HO}:bX H a o a=some o:=by unfold bX;rw[if_pos rfl]
theorem aq {H:Hp}{a b:Addr}{o:HO}(h:b≠a):bX H a o b=H b:=by unfold bX;rw[if_neg h]
theorem lZ {H:Hp}{a b:Addr}{o u:HO}(h:H a=some o)(h':H b=some u)(d:o≠u):a≠b:=by
 intro e;subst e;rw[h] at h';exact d (Option.some.inj h')
theorem aX {H:Hp}{a b:Addr}{o:HO}(h:H a=some o)(h':H b=none):a≠b:=by
 intro e;subst e;rw[h] at h';cases h'
section
variable (P:Program)(w:World)
def bH (H:Hp)(h:Heap)(a:Addr):HO→Prop
 | .lst xs=>xs.length≤sizeLine∧∃(its:List Value) (n:Nat),aD xs its∧h.get? a=some {cls:=.type "list",data:=.seq its.toArray n}
 | .tup xs=>xs.length≤sizeLine∧∃its:List Value,aD xs its∧IsTup h a its.toArray
 | .dK kvs=>kvs.length≤sizeLine∧(a==sysModules)=false∧∃vs,KV kvs vs∧h.DictOf (bW P w) a vs
 | .dT kvs=>kvs.length≤sizeLine∧(a==sysModules)=false∧∃xs:List (List bF×Addr×Value),
   Paired (fun(p:List bF×V) (q:List bF×Addr×Value)=>p.1=q.1∧H q.2.1=some (.tup (p.1.map kV))∧aI p.2 q.2.2) kvs xs∧
   ∃o es ep,h.get? a=some o∧o.ExactDict∧o.data=.dict es ep∧es.toList=xs.map (entryOfKey (tupleKind (bW P w)))∧(xs.map (·.1)).Nodup
 | .set S n=>h.SetOf (intKind P w) a S n
 | .ins C dx fs=>H dx=some (.own a)∧fs.length≤1000∧dx≠a∧h.get? a=some (W.instObj C dx)∧
   ∃mA,h.Ns1 dx mA∧(∀f,jW (fs.lookup f) (mA f))∧PySem.Within mA (fs.map (·.1))
 | .own _=>∃o,h.get? a=some o
 | .xd fs=>∃mA,h.Ns1 a mA∧∀f,jW (fs.lookup f) (mA f)
 | .rng lo hi=>∃t u v,h.get? a=some {cls:=.type "range",data:=.fields #[.int lo t,.int hi u,.int 1 v]}
 | .frz o u=>h.get? a=some o∧bH H h a u
 | .tbl ps=>h.get? a=some {cls:=.none,data:=.fields ps}
 | .met f x=>h.get? a=some (W.methodObj (.ref f) (.ref x))
 | .ext φ=>φ h∧(∃o,h.get? a=some o)∧∀h1 h2:Heap,φ h1→(∀o,h1.get? a=some o→h2.get? a=some o)→φ h2
def fZ (H:Hp)(h:Heap):Prop:=∀a o,H a=some o→bH P w H h a o
end
section
variable {P:Program}{w:World}{H H':Hp}{h h':Heap}{a:Addr}{o:HO}
theorem bH.lt (x:bH P w H h a o):a<h.objs.size:=by
 cases o with
 | lst xs=>obtain⟨_,_,_,_,e⟩:=x;exact Heap.lt_size e
 | tup xs=>obtain⟨_,_,_,p⟩:=x;exact p.lt
 | dK kvs=>obtain⟨_,_,_,_,o,_,_,e,_⟩:=x;exact Heap.lt_size e
 | dT kvs=>obtain⟨_,_,_,_,o,_,_,e,_⟩:=x;exact Heap.lt_size e
 | set S n=>obtain⟨o,_,_,_,e,_⟩:=x;exact Heap.lt_size e
 | ins C dx fs=>obtain⟨_,_,_,e,_⟩:=x;exact Heap.lt_size e
 | own y=>obtain⟨_,e⟩:=x;exact Heap.lt_size e
 | xd fs=>obtain⟨_,⟨_,_,_,e,_⟩,_⟩:=x;exact Heap.lt_size e
 | rng lo hi=>obtain⟨_,_,_,e⟩:=x;exact Heap.lt_size e
 | frz ob u=>obtain⟨e,_⟩:=x;exact Heap.lt_size e
 | tbl ps=>exact Heap.lt_size (show h.get? a=some _ from x)
 | met f y=>exact Heap.lt_size (show h.get? a=some _ from x)
 | ext φ=>obtain⟨_,⟨_,e⟩,_⟩:=x;exact Heap.lt_size e
theorem Paired.mapP {α β:Type}{F G:α→β→Prop}:∀{l₁:List α} {l₂:List β},Paired F l₁ l₂→(∀a b,F a b→G a b)→Paired G l₁ l₂
 | _,_,.nil,_=>.nil
 | _,_,.cons r t,f=>.cons (f _ _ r) (Paired.mapP t f)
theorem bH.stay (x:bH P w H h a o)(k:∀b u,(b=a∨H b=some (.own a))→h.get? b=some u→h'.get? b=some u)
  (ho:∀b,H b=some (.own a)→H' b=some (.own a)) (ht:∀b xs,H b=some (.tup xs)→H' b=some (.tup xs)):bH P w H' h' a o:=by
 induction o with
 | lst xs=>obtain⟨z,its,n,r,e⟩:=x;exact⟨z,its,n,r,k _ _ (.inl rfl) e⟩
 | tup xs=>obtain⟨z,its,r,ob,e,c⟩:=x;exact⟨z,its,r,ob,k _ _ (.inl rfl) e,c⟩
 | dK kvs=>obtain⟨z,y,vs,r,ob,es,ep,e,c⟩:=x;exact⟨z,y,vs,r,ob,es,ep,k _ _ (.inl rfl) e,c⟩
 | dT kvs=>
  obtain⟨z,y,xs,r,ob,es,ep,e,c⟩:=x;exact⟨z,y,xs,Paired.mapP r fun p q z=>⟨z.1,ht _ _ z.2.1,z.2.2⟩,ob,es,ep,k _ _ (.inl rfl) e,c⟩
 | set S n=>obtain⟨ob,es,ep,t,e,c⟩:=x;exact⟨ob,es,ep,t,k _ _ (.inl rfl) e,c⟩
 | ins C dx fs=>
  obtain⟨d,z,ne,e,mA,⟨od,es,ep,e2,c⟩,r⟩:=x;exact⟨ho _ d,z,ne,k _ _ (.inl rfl) e,mA,⟨od,es,ep,k _ _ (.inr d) e2,c⟩,r⟩
 | own y=>obtain⟨ob,e⟩:=x;exact⟨ob,k _ _ (.inl rfl) e⟩
 | xd fs=>obtain⟨mA,⟨od,es,ep,e,c⟩,r⟩:=x;exact⟨mA,⟨od,es,ep,k _ _ (.inl rfl) e,c⟩,r⟩
 | rng lo hi=>obtain⟨t,u,v,e⟩:=x;exact⟨t,u,v,k _ _ (.inl rfl) e⟩
 | frz ob u ih=>obtain⟨e,q⟩:=x;exact⟨k _ _ (.inl rfl) e,ih q⟩
 | tbl ps=>
  have e:h.get? a=some {cls:=.none,data:=.fields ps}:=x;show h'.get? a=some {cls:=.none,data:=.fields ps};exact k a _ (.inl rfl) e
 | met f y=>
  have e:h.get? a=some (W.methodObj (.ref f) (.ref y)):=x;show h'.get? a=some (W.methodObj (.ref f) (.ref y));exact k a _ (.inl rfl) e
 | ext φ=>obtain⟨p,⟨o,e⟩,st⟩:=x;exact⟨st _ _ p fun o q=>k _ _ (.inl rfl) q,⟨o,k _ _ (.inl rfl) e⟩,st⟩
theorem fZ.lt (x:fZ P w H h)(e:H a=some o):a<h.objs.size:=(x a o e).lt
theorem fZ.fresh (x:fZ P w H h)(e:h.objs.size≤a):H a=none:=by
 cases q:H a with
 | none=>rfl
 | some u=>exact absurd (Nat.lt_of_lt_of_le (x.lt q) e) (Nat.lt_irrefl _)
theorem fZ.kept (x:fZ P w H h)(k:∀b u,h.get? b=some u→h'.get? b=some u):fZ P w H h':=fun a o e=>
 (x a o e).stay (fun b u _ q=>k b u q) (fun _ q=>q) fun _ _ q=>q
theorem fZ.laid (x:fZ P w H h)(k:∀b u,h.get? b=some u→h'.get? b=some u)(hp:h.objs.size≤a)(new:bH P w (bX H a o) h' a o):fZ P w (bX H a o) h':=fun b u e=>by
 have hn:=x.fresh hp
 by_cases hb:b=a
 ·subst hb;rw[cj] at e;cases e;exact new
 ·rw[aq hb] at e;exact(x b u e).stay (fun c v _ q=>k c v q) (fun c q=>by rw[aq (aX q hn)];exact q) fun c xs q=>by rw[aq (aX q hn)];exact q
end
def Rd (H:Hp)(a:Addr)(u:HO):Prop:=H a=some u∨∃o,H a=some (.frz o u)
theorem Rd.ok {P:Program}{w:World}{H:Hp}{h:Heap}{a:Addr}{u:HO}(r:Rd H a u)(x:fZ P w H h):bH P w H h a u:=by
 rcases r with r|⟨o,r⟩
 ·exact x a u r
 ·obtain⟨_,q⟩:=x a _ r;exact q
def AI:Option HO→Prop
 | some (.lst _)=>True
 | some (.dK _)=>True
 | some (.dT _)=>True
 | some (.set _ _)=>True
 | some (.ins _ _ _)=>True
 | some (.ext _)=>True
 | _=>False
section
variable {P:Program}{w:World}{H:Hp}{h h':Heap}{x e:Addr}{o':HO}
theorem fZ.write (ok:fZ P w H h)(mu:AI (H x))(he:e=x∨H e=some (.own x))(k:∀b u,b≠e→h.get? b=some u→h'.get? b=some u)(heo:∃u,h'.get? e=some u)
  (new:bH P w (bX H x o') h' x o'):fZ P w (bX H x o') h':=fun b u q=>by
 have nown:∀c y,H c=some (.own y)→c≠x:=fun c y r z=>by subst z;rw[r] at mu;exact mu
 have ntup:∀c xs,H c=some (.tup xs)→c≠x:=fun c xs r z=>by subst z;rw[r] at mu;exact mu
 by_cases hb:b=x
 ·subst hb;rw[cj] at q;cases q;exact new
 ·rw[aq hb] at q
  by_cases hbe:b=e
  ·have q':H b=some (.own x):=by
    rcases he with z|z
    ·exact absurd (hbe.trans z) hb
    ·rw[hbe];exact z
   rw[q] at q';cases q';obtain⟨v,hv⟩:=heo;exact⟨v,by rw[hbe];exact hv⟩
  ·refine(ok b u q).stay (fun c v hc r=>k c v ?_ r) (fun c r=>by rw[aq (nown c b r)];exact r) fun c xs r=>by rw[aq (ntup c xs r)];exact r
   rcases hc with rfl|hc
   ·exact hbe
   ·rintro rfl;rcases he with z|z
    ·exact nown c b hc z
    ·rw[hc] at z;cases z;exact hb rfl
end
structure Un (fs ex:List Addr)(H H':Hp)(h h':Heap):Prop where
 keep:∀b o,h.get? b=some o→H b=none→b∉fs→b∉ex→h'.get? b=some o
 slot:∀b o,h.get? b=some o→H b=none→b∈fs→b∉ex→∃sl,h'.get? b=some {o with slots:=sl}
 free:∀b o,h.get? b=some o→H b=none→b∉ex→H' b=none
 there:∀b o,h.get? b=some o→b∉ex→∃o',h'.get? b=some o'
 tups:∀b xs,H b=some (.tup xs)→H' b=some (.tup xs)
 frzs:∀b o u,H b=some (.frz o u)→H' b=some (.frz o u)
 tbls:∀b ps,H b=some (.tbl ps)→∃more,H' b=some (.tbl (ps++more))
section
variable {fs fs' ex ex':List Addr}{H H1 H2:Hp}{h h1 h2 h':Heap}{a x e:Addr}{o:HO}
theorem Un.any (u:Un fs ex H H1 h h1){b:Addr}{ob:Obj}(q:h.get? b=some ob)(n:H b=none)(hx:b∉ex):∃sl,h1.get? b=some {ob with slots:=sl}:=by
 by_cases hb:b∈fs
 ·exact u.slot b ob q n hb hx
 ·exact⟨ob.slots,u.keep b ob q n hb hx⟩
theorem Un.kept (k:∀b u,h.get? b=some u→h'.get? b=some u):Un fs ex H H h h':=
 ⟨fun b ob q _ _ _=>k b ob q,fun b ob q _ _ _=>⟨ob.slots,k b ob q⟩,fun _ _ _ n _=>n,fun b ob q _=>⟨ob,k b ob q⟩,fun _ _ q=>q,fun _ _ _ q=>q,fun _ ps q=>⟨#[],by rw[q];simp⟩⟩
theorem Un.refl:Un fs ex H H h h:=Un.kept fun _ _ q=>q
theorem Un.laid (k:∀b u,h.get? b=some u→h'.get? b=some u)(hp:h.objs.size≤a)(hn:H a=none):Un fs ex H (bX H a o) h h' where
 keep:=fun b u q _ _ _=>k b u q
 slot:=fun b u q _ _ _=>⟨u.slots,k b u q⟩
 free:=fun b u q n _=>by rw[aq (Nat.ne_of_lt (Nat.lt_of_lt_of_le (Heap.lt_size q) hp))];exact n
 there:=fun b u q _=>⟨u,k b u q⟩
 tups:=fun b xs q=>by rw[aq (aX q hn)];exact q
 frzs:=fun b u xs q=>by rw[aq (aX q hn)];exact q
 tbls:=fun b ps q=>⟨#[],by rw[aq (aX q hn),q];simp⟩
theorem Un.write (mu:AI (H x))(he:e=x∨H e=some (.own x))(k:∀b u,b≠e→h.get? b=some u→h'.get? b=some u)(heo:∃u,h'.get? e=some u):Un fs ex H (bX H x o) h h':=by
 have hx:∀b,H b=none→b≠x:=fun b n z=>by subst z;rw[n] at mu;exact mu
 have hb:∀b,H b=none→b≠e:=fun b n z=>by
  subst z;rcases he with r|r
  ·exact hx b n r
  ·rw[n] at r;cases r
 have hm:∀b u,H b=some u→¬AI (some u)→b≠x:=fun b u q nm z=>by subst z;rw[q] at mu;exact nm mu
 refine⟨fun b u q n _ _=>k b u (hb b n) q,fun b u q n _ _=>⟨u.slots,k b u (hb b n) q⟩,fun b u q n _=>by rw[aq (hx b n)];exact n,fun b u q _=>?_,
  fun b xs q=>by rw[aq (hm b _ q fun z=>z)];exact q,fun b u xs q=>by rw[aq (hm b _ q fun z=>z)];exact q,fun b ps q=>⟨#[],by rw[aq (hm b _ q fun z=>z),q];simp⟩⟩
 by_cases hbe:b=e
 ·subst hbe;exact heo
 ·exact⟨u,k b u hbe q⟩
end
def trk (h:Heap)(H:Hp):List Addr:=(List.range h.objs.size).filter fun a=>(H a).isSome
def lj (h:Heap)(H:Hp):Heap:=W.hideAll h (trk h H)
theorem oU (h:Heap)(H:Hp):(lj h H).objs.size=h.objs.size:=W.hideAll_size _ _
theorem rL {h:Heap}{H:Hp}{b:Addr}{o:Obj}(e:h.get? b=some o)(n:H b=none):(lj h H).get? b=some o:=
 W.hideAll_get _ e fun hm=>by
  have q:(H b).isSome=true:=(mem_filter.mp hm).2;rw[n] at q;simp at q
theorem wc {h:Heap}{H:Hp}{b:Addr}{o:Obj}(e:(lj h H).get? b=some o):h.get? b=some o∧H b=none:=by
 have e':h.get? b=some o:=W.of_hideAll (trk h H) e;refine⟨e',?_⟩;cases q:H b with
 | none=>rfl
 | some x=>
  have hm:b∈trk h H:=mem_filter.mpr ⟨mem_range.mpr (Heap.lt_size e'),by simp[q]⟩;have z:(lj h H).get? b=none:=W.hideAll_none (trk h H) hm;rw[z] at e;cases e
def vD (g h:Heap)(L:Addr):List (Addr×Obj):=(List.range h.objs.size).filterMap fun a=>if a=L∨(g.get? a).isSome=true then none else(h.get? a).map fun o=>(a,o)
def rest (g h:Heap)(L d:Addr):List (Addr×Obj):=(vD g h L).filter fun p=>decide (p.1≠d)
structure Mod (K:W.Frag)(mg:Str→Option Value)(base:Heap):Prop where
 kin:K.In base
 glob:base.Ns mainGlobals mg
 blt:∃mb,base.Ns builtinsNs mb∧∀x:Str,x≠"__name__"→mb x=bootBuiltins x
 nolimit:base.NoLimit
structure Cx where
 prog:Program
 w:World
 K:W.Frag
 mg:Str→Option Value
 base:Heap
 A:Around
 N:List Str
 s₀:Shared
 H₀:Hp
 env:Env
 outer:List Env
 stack:List Env
 ex:List Addr
 fn:Str→Bool
 calm:Bool
 pn:List (Addr×Obj)
 xe:Value→Shared→Prop
def i5 (l:List Env):List Addr:=l.filterMap (·.frame)
abbrev Cx.fs (X:Cx):List Addr:=i5 X.outer
def Aa (sc:Scope)(x:Str):Prop:=sc.names.lookup x=some .local∨sc.names.lookup x=some .cell∨sc.names.lookup x=some .free
def tR (sc:Scope)(x:Str):Prop:=sc.names.lookup x=some .local∨sc.names.lookup x=some .cell
def CH (env:Env)(h:Heap)(m:Str→Option Value)(x:Str)(u:Value):Prop:=
 (env.kindOf x=some .local∧m x=some u)∨((env.kindOf x=some .cell∨env.kindOf x=some .free)∧∃c,env.cells.lookup x=some c∧h.IsCell c (some u))
structure Cx.Ok (X:Cx):Prop where
 mod:Mod X.K X.mg X.base
 kind:X.env.scope.kind=.function
 glob:X.env.globals=mainGlobals
 blt:X.env.builtins=builtinsNs
 above:X.s₀.heap.objs.size≤X.env.locals
 inj:∀x y c,X.env.cells.lookup x=some c→X.env.cells.lookup y=some c→x=y
 has:∀x,(X.env.kindOf x=some .cell∨X.env.kindOf x=some .free)→∃c,X.env.cells.lookup x=some c
 cab:∀x c,X.fn x=true→X.env.cells.lookup x=some c→X.s₀.heap.objs.size≤c
 hd:X.calm=true→X.A.handled=none
 frames:X.A.frames=some X.stack
 stk:X.stack=X.outer∨(X.stack=X.env::X.outer∧X.env.frame=some X.env.locals)
 exf:∀b∈X.ex,b≠X.env.locals∧∀x c,X.env.cells.lookup x=some c→c≠b
 bs:∀b o,X.base.get? b=some o→X.s₀.heap.get? b=some o∧X.H₀ b=none
 bsz:X.base.objs.size≤X.s₀.heap.objs.size
 noex:∀b o,X.base.get? b=some o→b∉X.ex
 exfs:∀b∈X.ex,b∉X.fs
 funs:X.s₀.heap.FunFrames X.base X.outer
 frf:∀b∈X.fs,X.H₀ b=none
structure Inv (X:Cx)(af:List (Addr×Obj))(σ:List (Option V))(H:Hp)(s:Shared):Prop where
 ok:X.Ok
 os:s.os=X.s₀.os
 bare:AllBare s.gens
 base:Un X.fs X.ex X.H₀ H X.s₀.heap s.heap
 loc:∃m,s.heap.Ns X.env.locals m∧∀(i:Nat) (x:Str) (v:V),X.N[i]?=some x→σ[i]?=some (some v)→Aa X.env.scope x→∃u,aI v u∧CH X.env s.heap m x u
 cell:∀x c,X.env.cells.lookup x=some c→∃v,s.heap.IsCell c v
 free:H X.env.locals=none
 freeC:∀x c,X.env.cells.lookup x=some c→H c=none
 pin:∀p∈X.pn++af,s.heap.get? p.1=some p.2∧H p.1=none∧p.1≠X.env.locals∧p.1∉X.fs∧∀v,p.2.data≠.cell v
 hok:fZ X.prog X.w H s.heap
 len:σ.length=X.N.length
section
variable {X:Cx}{af:List (Addr×Obj)}{σ:List (Option V)}{H H':Hp}{s:Shared}{h':Heap}
theorem Cx.Ok.nofr (ok:X.Ok){b:Addr}{o:Obj}(e:X.base.get? b=some o):b∉X.fs:=fun hb=>by
 have:=(ok.funs.mem hb).1;rw[e] at this;cases this
theorem Inv.bs (I:Inv X af σ H s):∀b o,X.base.get? b=some o→s.heap.get? b=some o∧H b=none:=fun b o e=>
 ⟨I.base.keep b o (I.ok.bs b o e).1 (I.ok.bs b o e).2 (I.ok.nofr e) (I.ok.noex b o e),I.base.free b o (I.ok.bs b o e).1 (I.ok.bs b o e).2 (I.ok.noex b o e)⟩
theorem Inv.bk (I:Inv X af σ H s):∀b o,X.base.get? b=some o→s.heap.get? b=some o:=fun b o e=>(I.bs b o e).1
theorem Inv.mod (I:Inv X af σ H s):Mod X.K X.mg X.base:=I.ok.mod
theorem Inv.kIn (I:Inv X af σ H s):X.K.In s.heap:=I.ok.mod.kin.keeps I.bk
theorem Inv.lt (I:Inv X af σ H s):X.env.locals<s.heap.objs.size:=let ⟨_,hn,_⟩:=I.loc;hn.lt
theorem Inv.sz (I:Inv X af σ H s):X.s₀.heap.objs.size≤s.heap.objs.size:=Nat.le_trans I.ok.above (Nat.le_of_lt I.lt)
theorem Inv.nofs (I:Inv X af σ H s){a:Addr}(h:s.heap.objs.size≤a):a∉X.fs:=fun hb=>by
 obtain⟨_,o,ho,_⟩:=I.ok.funs.mem hb;exact absurd (Nat.lt_of_lt_of_le (Heap.lt_size ho) (Nat.le_trans I.sz h)) (Nat.lt_irrefl _)
theorem Inv.cne (I:Inv X af σ H s):∀x c,X.env.cells.lookup x=some c→c≠X.env.locals:=fun x c e z=>by
 obtain⟨v,o,ho,hd⟩:=I.cell x c e;obtain⟨m,⟨o',es,ep,ho',hd',_⟩,_⟩:=I.loc;rw[z,ho'] at ho;cases ho;rw[hd'] at hd;cases hd
theorem Inv.funs (I:Inv X af σ H s):s.heap.FunFrames X.base X.outer:=by
 have all:∀(l:List Env),(∀b∈i5 l,b∈X.fs)→X.s₀.heap.FunFrames X.base l→s.heap.FunFrames X.base l:=by
  intro l
  induction l with
  | nil=>intro _ _;trivial
  | cons env r ih=>
   intro hs hl;obtain⟨hk,⟨L,o,hf,hn,ho,hd⟩,hr⟩:=hl;have hL:L∈X.fs:=hs L (by unfold i5;rw[filterMap_cons,hf];exact mem_cons_self);obtain⟨sl,e⟩:=I.base.slot L o ho (I.ok.frf L hL) hL fun z=>I.ok.exfs L z hL
   exact⟨hk,⟨L,_,hf,hn,e,hd⟩,ih (fun b hb=>hs b (by unfold i5;rw[filterMap_cons,hf];exact mem_cons_of_mem _ hb)) hr⟩
 exact all X.outer (fun _ hb=>hb) I.ok.funs
theorem Inv.stack (I:Inv X af σ H s):s.heap.FunFrames X.base X.stack:=by
 rcases I.ok.stk with e|⟨e,hf⟩
 ·rw[e];exact I.funs
 ·rw[e];obtain⟨m,hn,_⟩:=I.loc;refine .cons (by rw[I.ok.kind];decide) hf hn ?_ I.funs;exact Heap.get?_none_of_le (Nat.le_trans I.ok.bsz I.ok.above)
theorem Inv.stkSub (I:Inv X af σ H s):∀b∈i5 X.stack,b∈X.env.locals::X.fs:=fun b hb=>by
 rcases I.ok.stk with e|⟨e,hf⟩
 ·rw[e] at hb;exact mem_cons_of_mem _ hb
 ·rw[e] at hb;unfold i5 at hb;rw[filterMap_cons,hf] at hb;exact hb
theorem Inv.stkFree (I:Inv X af σ H s):∀b∈i5 X.stack,H b=none:=fun b hb=>by
 rcases mem_cons.mp (I.stkSub b hb) with e|hb
 ·rw[e];exact I.free
 ·obtain⟨_,o,ho,_⟩:=I.ok.funs.mem hb;exact I.base.free b o ho (I.ok.frf b hb) fun z=>I.ok.exfs b z hb
theorem Inv.step {g':Array GenState}{t':Nat}{d':Drawn}{ch:List Addr}(I:Inv X af σ H s)
  (hch:∀b∈ch,(b∈X.ex∨X.s₀.heap.objs.size≤b)∧b≠X.env.locals∧(∀x c,X.env.cells.lookup x=some c→c≠b)∧∀p∈X.pn++af,p.1≠b)
  (keep:∀b o,b≠X.env.locals→b∉X.fs→b∉ch→s.heap.get? b=some o→H b=none→h'.get? b=some o)
  (slot:∀b o,b≠X.env.locals→b∈X.fs→b∉ch→s.heap.get? b=some o→H b=none→∃sl,h'.get? b=some {o with slots:=sl}) (free:∀b o,b∉ch→s.heap.get? b=some o→H b=none→H' b=none)
  (there:∀b o,b∉ch→s.heap.get? b=some o→∃o',h'.get? b=some o')
  (tups:∀b xs,H b=some (.tup xs)→H' b=some (.tup xs)) (frzs:∀b o u,H b=some (.frz o u)→H' b=some (.frz o u)) (tbls:∀b ps,H b=some (.tbl ps)→∃more,H' b=some (.tbl (ps++more)))
  (ns:∀m,s.heap.Ns X.env.locals m→h'.Ns X.env.locals m) (hok:fZ X.prog X.w H' h') (hg:AllBare g') :
  Inv X af σ H' {s with heap:=h',gens:=g',drawn:=d',toks:=t'}:=by
 have neL:∀b o,X.s₀.heap.get? b=some o→b≠X.env.locals:=fun b o e=>Nat.ne_of_lt (Nat.lt_of_lt_of_le (Heap.lt_size e) I.ok.above)
 have neC:∀b o,X.s₀.heap.get? b=some o→b∉X.ex→b∉ch:=fun b o e hx hb=>by
  rcases(hch b hb).1 with z|z
  ·exact hx z
  ·exact absurd (Nat.lt_of_lt_of_le (Heap.lt_size e) z) (Nat.lt_irrefl _)
 have cellK:∀x c,X.env.cells.lookup x=some c→∀v,s.heap.IsCell c v→h'.IsCell c v:=fun x c e v hxx=>by
  obtain⟨o,ho,hd⟩:=hxx;have nch:c∉ch:=fun z=>(hch c z).2.2.1 x c e rfl
  by_cases hc:c∈X.fs
  ·obtain⟨sl,q⟩:=slot c o (I.cne x c e) hc nch ho (I.freeC x c e);exact⟨_,q,hd⟩
  ·exact⟨o,keep c o (I.cne x c e) hc nch ho (I.freeC x c e),hd⟩
 refine⟨I.ok,I.os,hg,⟨fun b o e n hb hx=>?_,fun b o e n hb hx=>?_,fun b o e n hx=>?_,fun b o e hx=>?_,fun b xs e=>tups b xs (I.base.tups b xs e),fun b o xs e=>frzs b o xs (I.base.frzs b o xs e),fun b ps e=>?_⟩,?_,fun x c e=>?_,?_,fun x c e=>?_,fun p hp=>?_,hok,I.len⟩
 ·exact keep b o (neL b o e) hb (neC b o e hx) (I.base.keep b o e n hb hx) (I.base.free b o e n hx)
 ·obtain⟨sl,e1⟩:=I.base.slot b o e n hb hx;obtain⟨sl',e2⟩:=slot b _ (neL b o e) hb (neC b o e hx) e1 (I.base.free b o e n hx);exact⟨sl',e2⟩
 ·obtain⟨o',e1⟩:=I.base.there b o e hx;exact free b o' (neC b o e hx) e1 (I.base.free b o e n hx)
 ·obtain⟨o',e1⟩:=I.base.there b o e hx;exact there b o' (neC b o e hx) e1
 ·obtain⟨m1,e1⟩:=I.base.tbls b ps e;obtain⟨m2,e2⟩:=tbls b _ e1;exact⟨m1++m2,by rw[e2,Array.append_assoc]⟩
 ·obtain⟨m,hn,hl⟩:=I.loc;refine⟨m,ns m hn,fun i x v e1 e2 e3=>?_⟩;obtain⟨u,r,l⟩:=hl i x v e1 e2 e3;refine⟨u,r,?_⟩;rcases l with l|⟨k,c,e,z⟩
  ·exact .inl l
  ·exact .inr ⟨k,c,e,cellK x c e _ z⟩
 ·obtain⟨v,z⟩:=I.cell x c e;exact⟨v,cellK x c e v z⟩
 ·obtain⟨m,⟨o,_,_,ho,_⟩,_⟩:=I.loc;exact free _ o (fun z=>(hch _ z).2.1 rfl) ho I.free
 ·obtain⟨v,o,ho,hd⟩:=I.cell x c e;exact free c o (fun z=>(hch c z).2.2.1 x c e rfl) ho (I.freeC x c e)
 ·obtain⟨e,n,ne,nf,d⟩:=I.pin p hp;have nch:p.1∉ch:=fun z=>(hch p.1 z).2.2.2 p hp rfl
  exact⟨keep p.1 p.2 ne nf nch e n,free p.1 p.2 nch e n,ne,nf,d⟩
theorem Inv.un {t':Nat}(I:Inv X af σ H s)(u:Un X.fs [] H H' s.heap h')(hok:fZ X.prog X.w H' h'):Inv X af σ H' {s with heap:=h',toks:=t'}:=by
 obtain⟨m,⟨o,es,ep,ho,r⟩,_⟩:=id I.loc;obtain⟨sl,hL⟩:=u.any ho I.free (by simp);exact I.step (g':=s.gens) (d':=s.drawn) (ch:=[]) (fun _ z=>nomatch z) (fun b o _ hb _ e n=>u.keep b o e n hb (by simp)) (fun b o _ hb _ e n=>u.slot b o e n hb (by simp)) (fun b o _ e n=>u.free b o e n (by simp)) (fun b o _ e=>u.there b o e (by simp)) u.tups u.frzs u.tbls (fun m' hm=>by
  obtain⟨o',es',ep',ho',r'⟩:=hm;rw[ho] at ho';cases ho';exact⟨_,es',ep',hL,r'⟩) hok I.bare
theorem Inv.call {g':Array GenState}{t':Nat}{d':Drawn}{ch:List Addr}(I:Inv X af σ H s)(u:Un (i5 X.stack) ch H H' s.heap h')(hok:fZ X.prog X.w H' h')(hg:AllBare g')
  (hch:∀b∈ch,(b∈X.ex∨X.s₀.heap.objs.size≤b)∧b≠X.env.locals∧(∀x c,X.env.cells.lookup x=some c→c≠b)∧∀p∈X.pn++af,p.1≠b) :
  Inv X af σ H' {s with heap:=h',gens:=g',drawn:=d',toks:=t'}:=by
 obtain⟨m,⟨o,es,ep,ho,r⟩,_⟩:=id I.loc;obtain⟨sl,hL⟩:=u.any ho I.free fun z=>(hch _ z).2.1 rfl
 exact I.step (ch:=ch) hch (fun b o hL hb hc e n=>u.keep b o e n (fun z=>(mem_cons.mp (I.stkSub b z)).elim hL hb) hc) (fun b o _ _ hc e n=>u.any e n hc) (fun b o hc e n=>u.free b o e n hc) (fun b o hc e=>u.there b o e hc) u.tups u.frzs u.tbls (fun m' hm=>by
  obtain⟨o',es',ep',ho',r'⟩:=hm;rw[ho] at ho';cases ho';exact⟨_,es',ep',hL,r'⟩) hok hg
theorem Inv.turned {t':Nat}{it:Addr}(I:Inv X af σ H s)(k:∀b o,b≠it→s.heap.get? b=some o→h'.get? b=some o)(hn:H it=none)(hL:it≠X.env.locals)
  (h1:it∈X.ex∨X.s₀.heap.objs.size≤it) (h2:∀x c,X.env.cells.lookup x=some c→c≠it) (h3:∀p∈X.pn++af,p.1≠it):Inv X af σ H {s with heap:=h',toks:=t'}:=by
 have nit:∀b u,H b=some u→b≠it:=fun b u e z=>by rw[z,hn] at e;cases e
 refine I.step (g':=s.gens) (d':=s.drawn) (ch:=[it]) (fun b hb=>?_) (fun b o _ _ hc e _=>k b o (fun z=>hc (by simp[z])) e) (fun b o _ _ hc e _=>⟨o.slots,k b o (fun z=>hc (by simp[z])) e⟩) (fun _ _ _ _ n=>n)
  (fun b o hc e=>⟨o,k b o (fun z=>hc (by simp[z])) e⟩) (fun _ _ e=>e) (fun _ _ _ e=>e) (fun b ps e=>⟨#[],by rw[e];simp⟩) (fun m hm=>?_) (fun b u e=>?_) I.bare
 ·have e:b=it:=by simpa using hb
  subst e;exact⟨h1,hL,h2,h3⟩
 ·obtain⟨o,es,ep,ho,r⟩:=hm;exact⟨o,es,ep,k _ o (Ne.symm hL) ho,r⟩
 ·refine(I.hok b u e).stay (fun c v hc q=>k c v ?_ q) (fun _ q=>q) fun _ _ q=>q
  rcases hc with z|z
  ·rw[z];exact nit b u e
  ·exact nit c _ z
theorem Inv.tok (I:Inv X af σ H s)(t:Nat):Inv X af σ H {s with toks:=t}:=I.un (h':=s.heap) (t':=t) Un.refl I.hok
theorem Inv.kept {t':Nat}(I:Inv X af σ H s)(k:∀b u,s.heap.get? b=some u→h'.get? b=some u):Inv X af σ H {s with heap:=h',toks:=t'}:=I.un (Un.kept k) (I.hok.kept k)
theorem Inv.laid {a:Addr}{o:HO}{t':Nat}(I:Inv X af σ H s)(k:∀b u,s.heap.get? b=some u→h'.get? b=some u)(hp:s.heap.objs.size≤a)(new:bH X.prog X.w (bX H a o) h' a o) :
  Inv X af σ (bX H a o) {s with heap:=h',toks:=t'}:=I.un (Un.laid k hp (I.hok.fresh hp)) (I.hok.laid k hp new)
theorem Inv.write {x e:Addr}{o:HO}{t':Nat}(I:Inv X af σ H s)(mu:AI (H x))(he:e=x∨H e=some (.own x))(k:∀b u,b≠e→s.heap.get? b=some u→h'.get? b=some u)(heo:∃u,h'.get? e=some u)
  (new:bH X.prog X.w (bX H x o) h' x o):Inv X af σ (bX H x o) {s with heap:=h',toks:=t'}:=I.un (Un.write mu he k heo) (I.hok.write mu he k heo new)
theorem Inv.pins_of {pins':List (Addr×Obj)}(I:Inv X af σ H s)(h:∀p∈pins',s.heap.get? p.1=some p.2∧H p.1=none∧p.1≠X.env.locals∧p.1∉X.fs∧∀v,p.2.data≠.cell v):Inv X pins' σ H s:=
 ⟨I.ok,I.os,I.bare,I.base,I.loc,I.cell,I.free,I.freeC,fun p hp=>(mem_append.mp hp).elim (fun z=>I.pin p (mem_append_left _ z)) (h p),I.hok,I.len⟩
theorem l9 {N:List Str}(hN:N.Nodup){i j:Nat}{x:Str}(a:N[i]?=some x)(b:N[j]?=some x):i=j:=by
 obtain⟨h1,e1⟩:=List.getElem?_eq_some_iff.mp a;obtain⟨h2,e2⟩:=List.getElem?_eq_some_iff.mp b;exact(getElem_inj hN).mp (e1.trans e2.symm)
theorem pY {M:Model}{A:Around}{E:Value→Shared→Prop}{i:Nat}{x:Str}{v:V}{u:Value}{Q:Unit→Shared→Prop}(I:Inv X af σ H s)(hN:X.N.Nodup)(hi:X.N[i]?=some x)(hx:tR X.env.scope x)(r:aI v u)
  (h:∀s',Inv X af (σ.set i (some v)) H s'→(∃a,Heap.SameBut a s.heap s'.heap∧(a=X.env.locals∨X.env.cells.lookup x=some a))→Q () s') (hf:X.fn x=true∨X.env.scope.names.lookup x=some .local:=by first|exact .inl rfl|exact .inr rfl|assumption):wpAny M A (storeName X.env x u) Q E s:=by
 obtain⟨m,hn,hl⟩:=id I.loc;have hcls:(X.env.scope.kind==.class||(X.env.scope.kind==.module&&X.env.locals != X.env.globals))=false:=by rw[I.ok.kind];rfl
 have hiσ:i<σ.length:=by rw[I.len];exact(List.getElem?_eq_some_iff.mp hi).1
 have cne:=I.cne;have tracked:∀{a:Addr} {h':Heap},(∃o,s.heap.get? a=some o∧H a=none)→Heap.SameBut a s.heap h'→fZ X.prog X.w H h':=fun {a h'} ha hs b ob e=>by
  obtain⟨_,_,hfree⟩:=ha;refine(I.hok b ob e).stay (fun c w' hc q=>(hs.2 c ?_).trans q) (fun _ q=>q) fun _ _ q=>q
  rintro rfl;rcases hc with rfl|hc
  ·rw[hfree] at e;cases e
  ·rw[hfree] at hc;cases hc
 rcases hx with hk|hk
 ·refine wpAny_storeName_local hk hn (fun h' hn' hs=>?_) hcls;obtain⟨oL,_,_,hoL,_⟩:=id hn;refine h _ ⟨I.ok,I.os,I.bare,⟨fun b o e n hb hx=>?_,fun b o e n hb hx=>?_,I.base.free,fun b o e hx=>?_,I.base.tups,I.base.frzs,I.base.tbls⟩,⟨_,hn',fun j y v' e1 e2 e3=>?_⟩,fun y c e=>?_,I.free,I.freeC,fun p hp=>?_,tracked ⟨oL,hoL,I.free⟩ hs,by simpa using I.len⟩ ⟨_,hs,.inl rfl⟩
  ·exact(hs.2 b (Nat.ne_of_lt (Nat.lt_of_lt_of_le (Heap.lt_size e) I.ok.above))).trans (I.base.keep b o e n hb hx)
  ·obtain⟨sl,e1⟩:=I.base.slot b o e n hb hx;exact⟨sl,(hs.2 b (Nat.ne_of_lt (Nat.lt_of_lt_of_le (Heap.lt_size e) I.ok.above))).trans e1⟩
  ·obtain⟨o',e1⟩:=I.base.there b o e hx;exact⟨o',(hs.2 b (Nat.ne_of_lt (Nat.lt_of_lt_of_le (Heap.lt_size e) I.ok.above))).trans e1⟩
  ·by_cases hj:j=i
   ·subst hj;rw[hi] at e1;cases e1;rw[getElem?_set_self hiσ] at e2;cases e2;exact⟨u,r,.inl ⟨hk,by simp⟩⟩
   ·rw[getElem?_set_ne (Ne.symm hj)] at e2;obtain⟨u',r',q⟩:=hl j y v' e1 e2 e3;refine⟨u',r',?_⟩;rcases q with⟨k,e⟩|⟨k,c,e,z⟩
    ·refine .inl ⟨k,?_⟩;have:y≠x:=fun e=>hj (l9 hN e1 (e▸hi))
     simp[this,e]
    ·exact .inr ⟨k,c,e,z.sameBut hs (cne y c e)⟩
  ·obtain⟨w',z⟩:=I.cell y c e;exact⟨w',z.sameBut hs (cne y c e)⟩
  ·obtain⟨e,n,ne,nf,d⟩:=I.pin p hp;exact⟨(hs.2 p.1 ne).trans e,n,ne,nf,d⟩
 ·have hfn:X.fn x=true:=by
   rcases hf with z|z
   ·exact z
   ·rw[z] at hk;cases hk
  obtain⟨c,hc⟩:=I.ok.has x (.inl hk);obtain⟨w',z⟩:=I.cell x c hc;refine wpAny_storeName_cell I.ok.kind hk hc z (fun h' hc' hs=>?_);obtain⟨oc,hoc,hocd⟩:=id z;refine h {s with heap:=h'} ⟨I.ok,I.os,I.bare,⟨fun b o e n hb hx=>?_,fun b o e n hb hx=>?_,I.base.free,fun b o e hx=>?_,I.base.tups,I.base.frzs,I.base.tbls⟩,⟨m,hn.sameBut hs (Ne.symm (cne x c hc)),fun j y v' e1 e2 e3=>?_⟩,fun y c' e=>?_,I.free,I.freeC,fun p hp=>?_,tracked ⟨oc,hoc,I.freeC x c hc⟩ hs,by simpa using I.len⟩ ⟨c,hs,.inr hc⟩
  ·exact(hs.2 b (Nat.ne_of_lt (Nat.lt_of_lt_of_le (Heap.lt_size e) (I.ok.cab x c hfn hc)))).trans (I.base.keep b o e n hb hx)
  ·obtain⟨sl,e1⟩:=I.base.slot b o e n hb hx;exact⟨sl,(hs.2 b (Nat.ne_of_lt (Nat.lt_of_lt_of_le (Heap.lt_size e) (I.ok.cab x c hfn hc)))).trans e1⟩
  ·obtain⟨o',e1⟩:=I.base.there b o e hx;exact⟨o',(hs.2 b (Nat.ne_of_lt (Nat.lt_of_lt_of_le (Heap.lt_size e) (I.ok.cab x c hfn hc)))).trans e1⟩
  ·by_cases hj:j=i
   ·subst hj;rw[hi] at e1;cases e1;rw[getElem?_set_self hiσ] at e2;cases e2;exact⟨u,r,.inr ⟨.inl hk,c,hc,hc'⟩⟩
   ·rw[getElem?_set_ne (Ne.symm hj)] at e2;obtain⟨u',r',q⟩:=hl j y v' e1 e2 e3;refine⟨u',r',?_⟩;rcases q with q|⟨k,c',e,z'⟩
    ·exact .inl q
    ·refine .inr ⟨k,c',e,z'.sameBut hs ?_⟩;rintro rfl;exact hj (l9 hN e1 (I.ok.inj _ _ _ e hc▸hi))
  ·by_cases hcc:c'=c
   ·subst hcc;exact⟨_,hc'⟩
   ·obtain⟨w2,z2⟩:=I.cell y c' e;exact⟨w2,z2.sameBut hs hcc⟩
  ·obtain⟨e,n,ne,nf,d⟩:=I.pin p hp;refine⟨(hs.2 p.1 ?_).trans e,n,ne,nf,d⟩;intro q;rw[q,hoc] at e;have q':oc=p.2:=Option.some.inj e;exact d w' (by rw[←q'];exact hocd)
theorem hU {M:Model}{A:Around}{E:Value→Shared→Prop}{i:Nat}{x:Str}{v:V}{u:Value}{Q:Unit→Shared→Prop}(I:Inv X af σ H s)(hN:X.N.Nodup)(hi:X.N[i]?=some x)(hx:tR X.env.scope x)(r:aI v u)
  (h:∀s',Inv X af (σ.set i (some v)) H s'→Q () s') (hf:X.fn x=true∨X.env.scope.names.lookup x=some .local:=by first|exact .inl rfl|exact .inr rfl|assumption):wpAny M A (storeName X.env x u) Q E s:=
 pY I hN hi hx r (fun s' I' _=>h s' I') hf
theorem Inv.call' {s':Shared}{ch:List Addr}(I:Inv X af σ H s)(ho:s'.os=s.os)(u:Un (i5 X.stack) ch H H' s.heap s'.heap)(hok:fZ X.prog X.w H' s'.heap)(hg:AllBare s'.gens)
  (hch:∀b∈ch,(b∈X.ex∨X.s₀.heap.objs.size≤b)∧b≠X.env.locals∧(∀x c,X.env.cells.lookup x=some c→c≠b)∧∀p∈X.pn++af,p.1≠b):Inv X af σ H' s':=by
 obtain⟨h',g',d',t',o'⟩:=s';have e:o'=s.os:=ho;subst e;exact I.call (g':=g') (t':=t') (d':=d') u hok hg hch
end
abbrev XK:=Value→Option Addr→Hp→Prop
abbrev St:=List (Option V)
abbrev VK:=V→Hp→Prop
abbrev TE:=St→Hp→VK→Prop
abbrev TT:=St→Hp→(Bool→Hp→Prop)→Prop
abbrev TA:=St→Hp→(List V→Hp→Prop)→Prop
structure pL where
 nx:St→Hp→Prop
 rt:VK
 bk:St→Hp→Prop:=fun _ _=>False
 ct:St→Hp→Prop:=fun _ _=>False
abbrev TS:=pL→St→Hp→Prop
def EP (X:Cx)(af:List (Addr×Obj))(σ:St)(Q:VK)(u:Value)(s':Shared):Prop:=∃v H',Inv X af σ H' s'∧aI v u∧Q v H'
def TP (X:Cx)(af:List (Addr×Obj))(σ:St)(Q:Bool→Hp→Prop)(b:Bool)(s':Shared):Prop:=∃H',Inv X af σ H' s'∧Q b H'
def AP (X:Cx)(af:List (Addr×Obj))(σ:St)(Q:List V→Hp→Prop)(us:List Value)(s':Shared):Prop:=∃vs H',Inv X af σ H' s'∧aD vs us∧Q vs H'
def SP (X:Cx)(af:List (Addr×Obj))(D:pL)(f:Flow)(s':Shared):Prop:=
 match f with
 | .next=>∃σ' H',Inv X af σ' H' s'∧D.nx σ' H'
 | .brk=>∃σ' H',Inv X af σ' H' s'∧D.bk σ' H'
 | .cont=>∃σ' H',Inv X af σ' H' s'∧D.ct σ' H'
 | .ret u=>∃v σ' H',Inv X af σ' H' s'∧aI v u∧D.rt v H'
def PE (X:Cx)(e:Expr)(t:TE):Prop:=
 ∀(af:List (Addr×Obj)) (s:Shared) (σ:St) (H:Hp) (Q:VK),Inv X af σ H s→t σ H Q→wpAny (model X.prog X.w) X.A (eval e X.env) (EP X af σ Q) X.xe s
def PT (X:Cx)(e:Expr)(t:TT):Prop:=
 ∀(af:List (Addr×Obj)) (s:Shared) (σ:St) (H:Hp) (Q:Bool→Hp→Prop),Inv X af σ H s→t σ H Q→wpAny (model X.prog X.w) X.A (isTrue e X.env (eval e X.env)) (TP X af σ Q) X.xe s
def PW (X:Cx)(e:Expr)(t:TT):Prop:=
 ∀(whole:Sem Value) (af:List (Addr×Obj)) (s:Shared) (σ:St) (H:Hp) (Q:Bool→Hp→Prop),Inv X af σ H s→t σ H Q→wpAny (model X.prog X.w) X.A (isTrue e X.env whole) (TP X af σ Q) X.xe s
theorem PW.pt {X:Cx}{e:Expr}{t:TT}(h:PW X e t):PT X e t:=h _
def PA (X:Cx)(es:List Expr)(t:TA):Prop:=
 ∀(pos:Pos) (af:List (Addr×Obj)) (s:Shared) (σ:St) (H:Hp) (Q:List V→Hp→Prop),Inv X af σ H s→t σ H Q→wpAny (model X.prog X.w) X.A (spliced (backTo pos (starEach es X.env))) (AP X af σ Q) X.xe s
def PS (X:Cx)(st:Stmt)(t:TS):Prop:=
 ∀(af:List (Addr×Obj)) (s:Shared) (σ:St) (H:Hp) (D:pL),Inv X af σ H s→t D σ H→wpAny (model X.prog X.w) X.A (exec st X.env) (SP X af D) X.xe s
def PSs (X:Cx)(st:List Stmt)(t:TS):Prop:=
 ∀(af:List (Addr×Obj)) (s:Shared) (σ:St) (H:Hp) (D:pL),Inv X af σ H s→t D σ H→wpAny (model X.prog X.w) X.A (execs st X.env) (SP X af D) X.xe s
theorem bA {α:Type}{t:Sem α}{Q Q':α→Shared→Prop}{M:Model}{A:Around}{E:Value→Shared→Prop}{s:Shared}(h:wpAny M A t Q E s)(hQ:∀a s,Q a s→Q' a s):wpAny M A t Q' E s:=wpAny_mono h hQ fun _ _ x=>x
section
variable {X:Cx}
def BI (i:Nat):TE:=fun σ H Q=>∃v,σ[i]?=some (some v)∧Q v H
def tC (v:V):TE:=fun _ H Q=>Q v H
theorem xW {i:Nat}{x:Str}{pos:Pos}(hN:X.N[i]?=some x)(hv:Aa X.env.scope x)(hd:(x==("__debug__":Str))=false:=by decide)(hcd:(x==("__classdict__":Str))=false:=by decide):PE X (.Name x pos) (BI i):=by
 intro af s σ H Q I h;obtain⟨v,e,h⟩:=h;obtain⟨m,hn,hl⟩:=I.loc;obtain⟨u,r,l⟩:=hl i x v hN e hv;have fin:EP X af σ Q u s:=⟨v,H,I,r,h⟩;rcases l with⟨hk,hm⟩|⟨hk,c,hc,hcell⟩
 ·exact wpAny_Name (wpAny_loadName_local I.ok.kind hk hn hm fin) hd
 ·rcases hk with hk|hk
  ·exact wpAny_Name (wpAny_loadName_cell I.ok.kind hk hc hcell fin) hd
  ·exact wpAny_Name (wpAny_loadName_free I.ok.kind hk hc hcell fin hcd) hd
theorem zu {i j pos}:PE X (.Constant (.int i) j pos) (tC (.int i)):=fun _ _ _ H _ I h=>wpAny_Constant_int ⟨.int i,H,I.tok _,⟨_,rfl⟩,h⟩
theorem Bc {b j pos}:PE X (.Constant (.bool b) j pos) (tC (.bl b)):=fun _ _ _ H _ I h=>Constant_bool ⟨.bl b,H,I,rfl,h⟩
theorem yD {j pos}:PE X (.Constant .none j pos) (tC .non):=fun _ _ _ H _ I h=>Constant_none ⟨.non,H,I,rfl,h⟩
def Gl (X:Cx)(x:Str):Prop:=X.env.kindOf x=some .globalImplicit
theorem v6 {E:Value→Shared→Prop}{af:List (Addr×Obj)}{s:Shared}{σ:St}{H:Hp}{x:Str}{u:Value}{pos:Pos}{Q:Value→Shared→Prop}(I:Inv X af σ H s)(hg:Gl X x)(hm:X.mg x=some u)(h:Q u s)
  (hd:(x==("__debug__":Str))=false:=by decide):wpAny (model X.prog X.w) X.A (eval (.Name x pos) X.env) Q E s:=
 Calls.Name_function_global I.ok.kind hg (Calls.loadGlobal_global (by rw[I.ok.glob];exact I.mod.glob.keeps I.bk) hm h) hd
theorem jB {E:Value→Shared→Prop}{af:List (Addr×Obj)}{s:Shared}{σ:St}{H:Hp}{x:Str}{u:Value}{pos:Pos}{Q:Value→Shared→Prop}(I:Inv X af σ H s)(hg:Gl X x)(hm:X.mg x=none)(hv:bootBuiltins x=some u)(h:Q u s)
  (hn:x≠"__name__":=by decide) (hd:(x==("__debug__":Str))=false:=by decide):wpAny (model X.prog X.w) X.A (eval (.Name x pos) X.env) Q E s:=by
 obtain⟨mb,h1,h2⟩:=I.mod.blt;exact Calls.Name_function_global I.ok.kind hg (Calls.loadGlobal_builtin (by rw[I.ok.glob];exact I.mod.glob.keeps I.bk) hm (by rw[I.ok.blt];exact h1.keeps I.bk) ((h2 x hn).trans hv) h) hd
theorem u7 {x:Str}{v:V}{u:Value}{pos:Pos}(hg:Gl X x)(hm:X.mg x=none)(hv:bootBuiltins x=some u)(r:aI v u)(hn:x≠"__name__":=by decide)(hd:(x==("__debug__":Str))=false:=by decide):PE X (.Name x pos) (tC v):=
 fun _ _ _ H _ I h=>jB I hg hm hv ⟨v,H,I,r,h⟩ hn hd
variable {a b:Expr}{ta tb:TE}{pos:Pos}
variable {tA tB':TT}{rest:List Expr}
def Cb (t u:TT):TT:=fun σ H Q=>t σ H fun c H1=>if c=true then u σ H1 Q else Q false H1
def Dy (t u:TT):TT:=fun σ H Q=>t σ H fun c H1=>if c=true then Q true H1 else u σ H1 Q
def C9 (t:TT):TT:=fun σ H Q=>t σ H fun c H1=>Q (!c) H1
theorem vn (ha:PT X a tA):PW X (.BoolOp .And [a] pos) tA:=by
 intro wh af s σ H Q I h;refine isTrue_and (bA (ha af s σ H Q I h) fun c s1 e=>?_);cases c with
 | true=>exact isTrue_and_nil e
 | false=>exact e
theorem yg (ha:PT X a tA):PW X (.BoolOp .Or [a] pos) tA:=by
 intro wh af s σ H Q I h;refine isTrue_or (bA (ha af s σ H Q I h) fun c s1 e=>?_);cases c with
 | false=>exact isTrue_or_nil e
 | true=>exact e
theorem yd (ha:PT X a tA)(hb:PW X (.BoolOp .And (b::rest) pos) tB'):PW X (.BoolOp .And (a::b::rest) pos) (Cb tA tB'):=by
 intro wh af s σ H Q I h;refine isTrue_and (bA (ha af s σ H _ I h) fun c s1 hxx=>?_);obtain⟨H1,I1,q1⟩:=hxx;cases c with
 | true=>exact hb wh af s1 σ H1 Q I1 q1
 | false=>exact⟨H1,I1,q1⟩
theorem Be (ha:PT X a tA)(hb:PW X (.BoolOp .Or (b::rest) pos) tB'):PW X (.BoolOp .Or (a::b::rest) pos) (Dy tA tB'):=by
 intro wh af s σ H Q I h;refine isTrue_or (bA (ha af s σ H _ I h) fun c s1 hxx=>?_);obtain⟨H1,I1,q1⟩:=hxx;cases c with
 | true=>exact⟨H1,I1,q1⟩
 | false=>exact hb wh af s1 σ H1 Q I1 q1
theorem xx (ha:PT X a tA):PT X (.UnaryOp .Not a pos) (C9 tA):=by
 intro af s σ H Q I h;exact isTrue_not (ha af s σ H (fun c H1=>Q (!c) H1) I h)
theorem xQ {op}{t:TE}(h:PE X a t):PE X (.BoolOp op [a] pos) t:=fun af s σ H Q I hw=>BoolOp_one (h af s σ H Q I hw)
end
def iJ (K:W.Frag)(H:Hp)(a:Addr)(xs:List V):Prop:=
 Rd H a (.lst xs)∨
  ∃(o:Obj) (its:Array Value) (n:Nat),K.lookup a=some o∧o.cls=.type "list"∧o.dict=none∧o.data=.seq its n∧its.size≤sizeLine∧aD xs its.toList
def io (K:W.Frag)(H:Hp)(a:Addr)(xs:List V):Prop:=
 Rd H a (.tup xs)∨
  ∃(o:Obj) (its:Array Value) (n:Nat),K.lookup a=some o∧o.cls=.type "tuple"∧o.data=.seq its n∧its.size≤sizeLine∧aD xs its.toList
def Dm:Value→Option V
 | .none=>some .non
 | .bool b=>some (.bl b)
 | .int i _=>some (.int i)
 | .str x _=>some (.str x)
 | .bytes b _=>some (.byt b)
 | .float b _=>some (.flt b)
 | .ref a=>some (.ref a)
 | .type n=>some (.ty n)
 | _=>none
theorem aI.abs {x:V}{u:Value}(r:aI x u):Dm u=some x:=by
 cases x with
 | non=>cases r;rfl
 | bl _=>cases r;rfl
 | int _=>obtain⟨t,rfl⟩:=r;rfl
 | str _=>obtain⟨t,rfl⟩:=r;rfl
 | byt _=>obtain⟨t,rfl⟩:=r;rfl
 | flt _=>obtain⟨t,rfl⟩:=r;rfl
 | ref _=>cases r;rfl
 | ty _=>cases r;rfl
theorem aI.inj {x y:V}{u:Value}(r:aI x u)(q:aI y u):x=y:=Option.some.inj (r.abs.symm.trans q.abs)
theorem aD.inj:∀{xs ys:List V} {us:List Value},aD xs us→aD ys us→xs=ys
 | _,_,_,.nil,.nil=>rfl
 | _,_,_,.cons r t,.cons r' t'=>by rw[r.inj r',aD.inj t t']
section
variable {X:Cx}{af:List (Addr×Obj)}{σ:St}{H:Hp}{s:Shared}{a:Addr}{xs ys:List V}
theorem Inv.list (I:Inv X af σ H s)(h:iJ X.K H a xs):∃its:List Value,aD xs its∧PlainL s.heap a its.toArray∧xs.length≤sizeLine:=by
 rcases h with h|⟨o,its,n,hk,hc,hd,hs,hz,r⟩
 ·obtain⟨z,its,n,r,e⟩:=h.ok I.hok;exact⟨its,r,⟨_,n,e,rfl,rfl,rfl⟩,z⟩
 ·refine⟨its.toList,r,⟨o,n,I.kIn a o hk,hc,hd,by simpa using hs⟩,?_⟩;have e:=r.length;simp only[Array.length_toList] at e;omega
theorem Inv.tuple (I:Inv X af σ H s)(h:io X.K H a xs):∃its:List Value,aD xs its∧IsTup s.heap a its.toArray∧xs.length≤sizeLine:=by
 rcases h with h|⟨o,its,n,hk,hc,hs,hz,r⟩
 ·obtain⟨z,its,r,p⟩:=h.ok I.hok;exact⟨its,r,p,z⟩
 ·refine⟨its.toList,r,⟨o,I.kIn a o hk,hc,n,by simpa using hs⟩,?_⟩;have e:=r.length;simp only[Array.length_toList] at e;omega
theorem Inv.list_inj (I:Inv X af σ H s)(h:iJ X.K H a xs)(h':iJ X.K H a ys):xs=ys:=by
 obtain⟨its,r,⟨o,n,e,_,_,d⟩,_⟩:=I.list h;obtain⟨its',r',⟨o',n',e',_,_,d'⟩,_⟩:=I.list h';rw[e] at e';cases e';rw[d] at d';injection d' with d1 _
 have:its=its':=by simpa using congrArg Array.toList d1
 subst this;exact r.inj r'
theorem Inv.tuple_inj (I:Inv X af σ H s)(h:io X.K H a xs)(h':io X.K H a ys):xs=ys:=by
 obtain⟨its,r,⟨o,e,_,n,d⟩,_⟩:=I.tuple h;obtain⟨its',r',⟨o',e',_,n',d'⟩,_⟩:=I.tuple h';rw[e] at e';cases e';rw[d] at d';injection d' with d1 _
 have:its=its':=by simpa using congrArg Array.toList d1
 subst this;exact r.inj r'
end
section
variable {X:Cx}{st:Stmt}{rest:List Stmt}{t u:TS}{e:Expr}{te:TE}{pos:Pos}
def AE:TS:=fun D σ H=>D.nx σ H
def Cp (t u:TS):TS:=fun D σ H=>t {D with nx:=u D} σ H
theorem ut:PSs X [] AE:=fun _ _ σ H _ I h=>wpAny_execs_nil ⟨σ,H,I,h⟩
theorem qC (h1:PS X st t)(h2:PSs X rest u):PSs X (st::rest) (Cp t u):=by
 intro af s σ H D I h;refine wpAny_execs_cons (bA (h1 af s σ H {D with nx:=u D} I h) fun f s1 q=>?_);cases f with
 | next=>
  obtain⟨σ',H',I',q⟩:=q;exact h2 af s1 σ' H' D I' q
 | ret v=>exact q
 | brk=>exact q
 | cont=>exact q
theorem uq (h1:PS X st t):PSs X [st] t:=by
 intro af s σ H D I h;refine wpAny_execs_cons (bA (h1 af s σ H D I h) fun f s1 q=>?_);cases f with
 | next=>exact wpAny_execs_nil q
 | ret v=>exact q
 | brk=>exact q
 | cont=>exact q
theorem Inv.quiet {af:List (Addr×Obj)}{σ:St}{H:Hp}{s:Shared}(I:Inv X af σ H s):interactive X.env=false:=by simp[interactive,I.ok.kind]
def A5 (te:TE):TS:=fun D σ H=>te σ H fun _ H1=>D.nx σ H1
theorem vk (he:PE X e te)(hs:swapsWith e none pos.line X.env=pure false:=by rfl):PS X (.Expr e pos) (A5 te):=by
 intro af s σ H D I h;exact wpAny_Expr_any (bA (he af s σ H _ I h) fun v s1 ⟨x,H1,I1,r1,q1⟩=>⟨σ,H1,I1,q1⟩) I.quiet hs
def CI (te:TE):TS:=fun D σ H=>te σ H D.rt
theorem xy (he:PE X e te):PS X (.Return (some e) pos) (CI te):=by
 intro af s σ H D I h;exact wpAny_Return_some (bA (he af s σ H _ I h) fun v s1 ⟨x,H1,I1,r1,q1⟩=>⟨x,σ,H1,I1,r1,q1⟩)
def Dd (c:TT)(t u:TS):TS:=fun D σ H=>c σ H fun b H1=>if b=true then t D σ H1 else u D σ H1
theorem BM {c:Expr}{a b:List Stmt}{tc:TT}(hc:PT X c tc)(ha:PSs X a t)(hb:PSs X b u):PS X (.If c a b pos) (Dd tc t u):=by
 intro af s σ H D I h;refine wpAny_If (bA (hc af s σ H _ I h) fun d s1 hxx=>?_);obtain⟨H1,I1,q1⟩:=hxx;cases d with
 | true=>exact ha af s1 σ H1 D I1 q1
 | false=>exact hb af s1 σ H1 D I1 q1
end
abbrev TG:=V→St→Hp→(St→Hp→Prop)→Prop
abbrev wB:=List V→St→Hp→(St→Hp→Prop)→Prop
def PG (X:Cx)(target:Expr)(t:TG):Prop:=
 ∀(af:List (Addr×Obj)) (s:Shared) (σ:St) (H:Hp) (v:V) (u:Value) (Q:St→Hp→Prop),Inv X af σ H s→aI v u→t v σ H Q→
  wpAny (model X.prog X.w) X.A (assign target X.env u) (fun _ s'=>∃σ' H',Inv X af σ' H' s'∧Q σ' H') X.xe s
def uw (X:Cx)(ts:List Expr)(t:wB):Prop:=
 ∀(af:List (Addr×Obj)) (s:Shared) (σ:St) (H:Hp) (vs:List V) (us:List Value) (Q:St→Hp→Prop),Inv X af σ H s→aD vs us→t vs σ H Q→
  wpAny (model X.prog X.w) X.A (assignInOrder ((assignEach ts X.env).map (·.2)) us) (fun _ s'=>∃σ' H',Inv X af σ' H' s'∧Q σ' H') X.xe s
abbrev yH:=V→V→V→Hp→(Hp→Prop)→Prop
def Br (X:Cx)(t:yH):Prop:=
 ∀(af:List (Addr×Obj)) (s:Shared) (σ:St) (H:Hp) (o i v:V) (ov iv u:Value) (Q:Hp→Prop),Inv X af σ H s→aI o ov→aI i iv→aI v u→t o i v H Q→
  wpAny (model X.prog X.w) X.A (setItem ov iv u) (fun _ s'=>∃H',Inv X af σ H' s'∧Q H') X.xe s
section
variable {X:Cx}{pos:Pos}
def wm (i:Nat):TG:=fun v σ H Q=>Q (σ.set i (some v)) H
theorem wb {i:Nat}{x:Str}(hN:X.N.Nodup)(hi:X.N[i]?=some x)(hx:tR X.env.scope x)(hf:X.fn x=true∨X.env.scope.names.lookup x=some .local:=by first|exact .inl rfl|exact .inr rfl|assumption):PG X (.Name x pos) (wm i):=by
 intro af s σ H v u Q I r h;exact wpAny_assign_Name (hU I hN hi hx r (fun s' I'=>⟨_,H,I',h⟩) hf)
def Cv:wB:=fun vs σ H Q=>vs=[]∧Q σ H
def AX (t:TG)(u:wB):wB:=fun vs σ H Q=>∃v r,vs=v::r∧t v σ H fun σ' H'=>u r σ' H' Q
theorem vI:uw X [] Cv:=by
 intro af s σ H vs us Q I r h;obtain⟨e,h⟩:=h;subst e;cases r;exact assignInOrder_nil ⟨σ,H,I,h⟩
theorem tJ {e:Expr}{es:List Expr}{t:TG}{u:wB}(h1:PG X e t)(h2:uw X es u)
  (hs:(assignEach (e::es) X.env).map (·.2)=assign e X.env::(assignEach es X.env).map (·.2):=by rfl):uw X (e::es) (AX t u):=by
 intro af s σ H vs us Q I r h;obtain⟨v,vr,e1,h⟩:=h;subst e1;cases r with
 | cons r rr=>
  rw[hs];refine assignInOrder_cons (bA (h1 af s σ H _ _ _ I r h) fun _ s1 hxx=>?_);obtain⟨σ1,H1,I1,q1⟩:=hxx;exact h2 af s1 σ1 H1 _ _ Q I1 rr q1
def CW (K:W.Frag)(n:Nat)(t:wB):TG:=fun v σ H Q=>∃a xs,v=.ref a∧io K H a xs∧xs.length=n∧t xs σ H Q
theorem yO {es:List Expr}{k:Nat}{t:wB}{n:Nat}(hc:X.calm=true)(h:uw X es t)
  (hn:(assignEach es X.env).length=n:=by rfl) (hst:(assignEach es X.env).findIdx? (·.1)=none:=by rfl):PG X (.Tuple es k pos) (CW X.K n t):=by
 intro af s σ H v u Q I r hw;obtain⟨a,xs,e1,hq,hl,hw⟩:=hw;subst e1;cases r;obtain⟨its,rv,ht,hz⟩:=I.tuple hq;refine assign_Tuple_tuple (I.ok.hd hc) ht (by simp[hn,←hl,rv.length]) hst fun h' hx=>?_
 have I1:Inv X af σ H {s with heap:=h'}:=I.kept (t':=s.toks) fun b o e=>hx b o (Nat.ne_of_lt (Heap.lt_size e)) e
 exact h af _ σ H xs _ Q I1 (by simpa using rv) hw
def C6 (to ti:TE)(t:yH):TG:=fun v σ H Q=>to σ H fun o H1=>ti σ H1 fun i H2=>t o i v H2 fun H3=>Q σ H3
theorem wJ {o i:Expr}{to ti:TE}{t:yH}(ho:PE X o to)(hi:PE X i ti)(hs:Br X t)
  (ha:∀v,assign (.Subscript o i pos) X.env v=(do
   let ov ←holding [v] (eval o X.env)
   let iv ←holding [v,ov] (eval i X.env)
   standAt pos
   holding [v,ov,iv] (setItem ov iv v)
   release [v,ov,iv] []):=by intro _;rfl):PG X (.Subscript o i pos) (C6 to ti t):=by
 intro af s σ H v u Q I r h;rw[ha];refine wpAny_bind (wpAny_holding (bA (ho af s σ H _ I h) fun ov s1 hxx=>?_));obtain⟨x,H1,I1,r1,q1⟩:=hxx;refine wpAny_bind (wpAny_holding (bA (hi af s1 σ H1 _ I1 q1) fun iv s2 hxx=>?_));obtain⟨y,H2,I2,r2,q2⟩:=hxx;refine wpAny_bind (wpAny_standAt (wpAny_bind (wpAny_holding (bA (hs af s2 σ H2 x y v ov iv u _ I2 r1 r2 r q2) fun _ s3 hxx=>?_))));obtain⟨H3,I3,q3⟩:=hxx;exact wpAny_release ⟨σ,H3,I3,q3⟩
def Ak (te:TE)(g:TG):TS:=fun D σ H=>te σ H fun x H1=>g x σ H1 D.nx
theorem rJ {tg e:Expr}{te:TE}{g:TG}(he:PE X e te)(hg:PG X tg g)(hs:swapsWithSole [tg] e pos.line X.env=pure false:=by rfl)(hw:swappedStores [tg] e X.env=pure none:=by rfl)
  (h1:(assignEach [tg] X.env).map (·.2)=[assign tg X.env]:=by rfl):PS X (.Assign [tg] e pos) (Ak te g):=by
 intro af s σ H D I h;refine wpAny_Assign_stores (bA (he af s σ H _ I h) fun v s1 hxx=>?_) hs hw;obtain⟨x,H1,I1,r1,q1⟩:=hxx;rw[h1];exact bA (hg af s1 σ H1 x v _ I1 r1 q1) fun _ s2 q=>q
theorem zp {i:Nat}{x:Str}{e:Expr}{te:TE}{pos':Pos}(hN:X.N.Nodup)(hi:X.N[i]?=some x)(hx:tR X.env.scope x)(he:PE X e te)(hs:swapsWith e (some (.Name x pos')) pos.line X.env=pure false:=by rfl)(hf:X.fn x=true∨X.env.scope.names.lookup x=some .local:=by first|exact .inl rfl|exact .inr rfl|assumption) :
  PS X (.Assign [.Name x pos'] e pos) (Ak te (wm i)):=by
 intro af s σ H D I h;refine wpAny_Assign_Name (bA (he af s σ H _ I h) fun v s1 hxx=>?_) hs;obtain⟨y,H1,I1,r1,q1⟩:=hxx;exact hU I1 hN hi hx r1 (fun s2 I2=>⟨_,H1,I2,q1⟩) hf
def Cq (i j:Nat)(ta:TA):TS:=fun D σ H=>ta σ H fun vs H1=>∃v w,vs=[v,w]∧D.nx ((σ.set i (some v)).set j (some w)) H1
theorem yj {i j:Nat}{x y:Str}{a b:Expr}{ta:TA}{px py pt:Pos}{kt k2 pt2}(hc:X.calm=true)(hN:X.N.Nodup)(hi:X.N[i]?=some x)(hj:X.N[j]?=some y)(hij:i≠j)
  (hx:X.env.scope.names.lookup x=some .local) (hy:X.env.scope.names.lookup y=some .local) (ha:PA X [a,b] ta)
  (hw:swappedStores [.Tuple [.Name x px,.Name y py] kt pt] (.Tuple [a,b] k2 pt2) X.env=pure (some [x,y]))
  (hs:swapsWithSole [.Tuple [.Name x px,.Name y py] kt pt] (.Tuple [a,b] k2 pt2) pos.line X.env=pure false:=by rfl) :
  PS X (.Assign [.Tuple [.Name x px,.Name y py] kt pt] (.Tuple [a,b] k2 pt2) pos) (Cq i j ta):=by
 intro af s σ H D I h;rw[exec_Assign_arm];refine wpAny_bind (wpAny_standAt ?_);rw[hs];refine wpAny_bind (wpAny_pure ?_);rw[if_neg (by decide)];refine wpAny_bind (Tuple_ (bA (ha _ af s σ H _ I h) fun us s1 hxx=>?_));obtain⟨vs,H1,I1,r1,q1⟩:=hxx;obtain⟨v,w,e1,q1⟩:=q1;subst e1;obtain⟨u1,u2,rfl,rv,rw'⟩:∃u1 u2,us=[u1,u2]∧aI v u1∧aI w u2:=by
  cases r1 with
  | cons p q=>
   cases q with
   | cons p' q'=>
    cases q';exact⟨_,_,rfl,p,p'⟩
 refine wpAny_newObj_type ?_ (by show 2≤sizeLine;decide);have I2:Inv X af σ H1 {s1 with heap:=s1.heap.push {cls:=.type "tuple",data:=.seq [u1,u2].toArray}}:=I1.kept (t':=s1.toks) fun b o e=>Heap.get?_push_of_some _ e
 rw[hw];refine wpAny_bind (wpAny_pure ?_);show wpAny (model X.prog X.w) X.A (do rule "assign.swapped-stores";let items ←unpackItems (.ref s1.heap.objs.size) 2 none;assignInOrder [fun v=>bindName X.env y v,fun v=>bindName X.env x v] items.reverse;pure Flow.next) _ _ _;refine wpAny_bind (wpAny_rule (wpAny_bind (unpackItems_tuple (items:=#[u1,u2]) (I.ok.hd hc) (IsTup.new s1.heap _) fun h' hx'=>?_)));have I3:=I2.kept (h':=h') (t':=s1.toks) fun b o e=>hx' b o (Nat.ne_of_lt (Heap.lt_size e)) e
 show wpAny _ _ (assignInOrder [fun v=>bindName X.env y v,fun v=>bindName X.env x v] [u2,u1] >>= fun _=>pure Flow.next) _ _ _;refine wpAny_bind (assignInOrder_cons (wpAny_bindName (hU I3 hN hj (.inl hy) rw' (fun s2 I4=>?_) (.inr hy))));refine assignInOrder_cons (wpAny_bindName (hU I4 hN hi (.inl hx) rv (fun s3 I5=>assignInOrder_nil (wpAny_pure ?_)) (.inr hx)));rw[set_comm _ _ (Ne.symm hij)] at I5;exact⟨_,H1,I5,q1⟩
end
section
variable {X:Cx}{pos:Pos}
def xF (c:TT)(tb:TS):TS:=fun D σ H=>∃W:Nat→St→Hp→Prop,(∃m,W m σ H)∧∀m σ H,W m σ H→
 c σ H fun b H1=>if b=true then∃N:St→Hp→Prop,(∀σ' H',N σ' H'→∃m',m'<m∧W m' σ' H')∧tb {D with nx:=N,ct:=N,bk:=D.nx} σ H1 else D.nx σ H1
theorem sT {c:Expr}{body:List Stmt}{tc:TT}{tb:TS}(hp:PassesOwn (model X.prog X.w) X.A X.env X.xe)(hc:PT X c tc)(hb:PSs X body tb):PS X (.While c body [] pos) (xF tc tb):=by
 intro af s σ H D I h;obtain⟨W,⟨m0,w0⟩,turn⟩:=h;refine wpAny_While (codeAny_whileLoop (fun n s'=>∃σ' H',Inv X af σ' H' s'∧W n σ' H') ?_ m0 ⟨σ,H,I,w0⟩);rintro n s1 ⟨σ1,H1,I1,w1⟩;refine wpAny_passesOwn hp (bA (hc af s1 σ1 H1 _ I1 (turn n σ1 H1 w1)) fun b s2 hxx=>?_);obtain⟨H2,I2,q2⟩:=hxx;cases b with
 | true=>
  obtain⟨N,hN,q2⟩:=q2;rw[if_pos rfl];refine wpAny_passesOwn hp (bA (hb af s2 σ1 H2 _ I2 q2) fun f s3 q3=>?_);cases f with
  | next=>
   obtain⟨σ3,H3,I3,n3⟩:=q3;obtain⟨m',hm,w3⟩:=hN σ3 H3 n3;exact⟨m',hm,σ3,H3,I3,w3⟩
  | cont=>
   obtain⟨σ3,H3,I3,n3⟩:=q3;obtain⟨m',hm,w3⟩:=hN σ3 H3 n3;exact⟨m',hm,σ3,H3,I3,w3⟩
  | brk=>exact q3
  | ret v=>exact q3
 | false=>
  rw[if_neg Bool.false_ne_true];exact wpAny_execs_nil ⟨σ1,H2,I2,q2⟩
end
structure It where
 go:Nat→Hp→Prop
 yld:Nat→Hp→V→Hp→Prop
 stop:Nat→Hp→Prop
def fD (X:Cx)(af:List (Addr×Obj))(H:Hp)(b:Addr):Prop:=
 H b=none∧b≠X.env.locals∧b∉X.fs∧(b∈X.ex∨X.s₀.heap.objs.size≤b)∧(∀x c,X.env.cells.lookup x=some c→c≠b)∧∀p∈X.pn++af,p.1≠b
theorem Inv.fpOk {X:Cx}{af:List (Addr×Obj)}{σ:St}{H H':Hp}{s:Shared}{b:Addr}(I:Inv X af σ H s)(hb:s.heap.objs.size≤b)(hn:H' b=none):fD X af H' b:=by
 refine⟨hn,Nat.ne_of_gt (Nat.lt_of_lt_of_le I.lt hb),I.nofs hb,.inr (Nat.le_trans I.sz hb),fun x c e z=>?_,fun p hp z=>?_⟩
 ·obtain⟨v,q⟩:=I.cell x c e;exact absurd (Nat.lt_of_lt_of_le q.lt (by rw[z];exact hb)) (Nat.lt_irrefl _)
 ·exact absurd (Nat.lt_of_lt_of_le (Heap.lt_size (I.pin p hp).1) (by rw[z];exact hb)) (Nat.lt_irrefl _)
structure mB (P:Program)(w:World)(K:W.Frag)(tg:Expr)(J:It)(fp:List Addr)(it:Addr)(tn:Nat→Heap→Prop):Prop where
 mem:it∈fp
 obj:∀i h,tn i h→∀b∈fp,∃o,h.get? b=some o∧∀v,o.data≠.cell v
 keep:∀i h h',tn i h→(∀b∈fp,∀o,h.get? b=some o→h'.get? b=some o)→tn i h'
 item:∀(X:Cx),X.prog=P→X.w=w→X.K=K→X.calm=true→∀(i:Nat) (af:List (Addr×Obj)) (s:Shared) (σ:St) (H:Hp) (E:Value→Shared→Prop),Inv X af σ H s→(∀b∈fp,fD X af H b)→tn i s.heap→J.go i H→
  wpAny (model P w) X.A (pyNext (.ref it)) (fun r s1=>∃u,r=some u∧
   wpAny (model P w) X.A (letOwnedTupleGo tg (.ref it) u) (fun _ s2=>∃x H',Inv X af σ H' s2∧aI x u∧J.yld i H x H'∧tn (i+1) s2.heap∧∀b∈fp,H' b=none) E s1) E s
 done:∀(X:Cx),X.prog=P→X.w=w→X.K=K→X.calm=true→∀(i:Nat) (af:List (Addr×Obj)) (s:Shared) (σ:St) (H:Hp) (E:Value→Shared→Prop),Inv X af σ H s→(∀b∈fp,fD X af H b)→tn i s.heap→J.stop i H→
  wpAny (model P w) X.A (pyNext (.ref it)) (fun r s1=>r=none∧Inv X af σ H s1) E s
 self:∀(A:Around) (i:Nat) (s:Shared) (Q:Value→Shared→Prop) (E:Value→Shared→Prop),tn i s.heap→Q (.ref it) s→wpAny (model P w) A (pyIter (.ref it)) Q E s
abbrev TI:=St→Hp→(It→Hp→Prop)→Prop
def Dn (X:Cx)(af:List (Addr×Obj))(σ:St)(tg:Expr)(R:It→Hp→Prop)(itv:Value)(s2:Shared):Prop:=
 ∃(it:Addr) (fp:List Addr) (tn:Nat→Heap→Prop) (J:It) (H':Hp),itv=.ref it∧Inv X af σ H' s2∧mB X.prog X.w X.K tg J fp it tn∧tn 0 s2.heap∧(∀b∈fp,fD X af H' b)∧R J H'
def PI (X:Cx)(tg iter:Expr)(wi:TI):Prop:=
 ∀(af:List (Addr×Obj)) (s:Shared) (σ:St) (H:Hp) (R:It→Hp→Prop),Inv X af σ H s→wi σ H R→
  wpAny (model X.prog X.w) X.A (eval iter X.env) (fun v s1=>wpAny (model X.prog X.w) X.A (pyIter v) (Dn X af σ tg R) X.xe s1) X.xe s
theorem qF {M:Model}{A:Around}{E:Value→Shared→Prop}{s:Shared}{tg:Expr}{it:Addr}{u:Value}{o:Obj}{n:String}{vs:Array Value}{Q:Unit→Shared→Prop}(ho:s.heap.get? it=some o)(hc:o.cls=.type n)(hd:o.data=.fields vs)
  (hn:["enumerate","zip","dict_itemiterator","dict_reverseitemiterator","odict_iterator","itertools.zip_longest","itertools.pairwise"].contains n=false) (hQ:Q () s):wpAny M A (letOwnedTupleGo tg (.ref it) u) Q E s:=by
 unfold letOwnedTupleGo;cases tg <;> first
  | exact wpAny_pure hQ
  | (cases u <;> first
    | exact wpAny_pure hQ
    | (refine wpAny_bind (wpAny_load ho ?_)
       rw[hc,hd];show wpAny M A (if(["enumerate","zip","dict_itemiterator","dict_reverseitemiterator","odict_iterator","itertools.zip_longest","itertools.pairwise"].contains n&&vs[0]?==some (rawInt _))=true then _ else _) Q E s;rw[if_neg (by intro h;rw[hn,Bool.false_and] at h;cases h)];exact wpAny_pure hQ))
def BW (K:W.Frag)(a:Addr):It:=
 ⟨fun i H=>∃xs x,iJ K H a xs∧xs[i]?=some x,fun i H x H'=>H'=H∧∀xs,iJ K H a xs→xs[i]?=some x,fun i H=>∃xs,iJ K H a xs∧xs.length≤i⟩
def CQ (K:W.Frag)(a:Addr):It:=
 ⟨fun i H=>∃xs x,io K H a xs∧xs[i]?=some x,fun i H x H'=>H'=H∧∀xs,io K H a xs→xs[i]?=some x,fun i H=>∃xs,io K H a xs∧xs.length≤i⟩
def B3 (lo:Int)(n:Nat):It:=⟨fun i _=>i<n,fun i H x H'=>H'=H∧x=.int (lo+i),fun i _=>n≤i⟩
theorem pM {P:Program}{w:World}{K:W.Frag}{tg:Expr}(a it:Addr):mB P w K tg (BW K a) [it] it (fun i h=>h.IsListIter it a i) where
 mem:=by simp
 obj:=fun i h st b hb=>by
  have e:b=it:=by simpa using hb
  subst e;obtain⟨o,e,c,d⟩:=st;exact⟨o,e,fun v z=>by rw[d] at z;cases z⟩
 keep:=fun i h h' st k=>st.at fun o e=>k it (by simp) o e
 item:=by
  intro X hP hw hK hc i af s σ H E I hf st hg;subst hP hw hK;obtain⟨xs,x,hq,hx⟩:=hg;obtain⟨its,rv,p,hz⟩:=I.list hq;obtain⟨u,hu,ru⟩:=rv.get hx;obtain⟨f0,f1,f2,f3,f4,f5⟩:=hf it (by simp);refine wpAny_pyNext_list_item st p.isList (x:=u) (by simpa using hu) fun h' st' sb=>?_
  have I1:Inv X af σ H {s with heap:=h'}:=I.turned (t':=s.toks) (fun b o hb e=>(sb.2 b hb).trans e) f0 f1 f3 f4 f5;obtain⟨o,e,c,d⟩:=id st';exact⟨u,rfl,qF (s:={s with heap:=h'}) e c d (by decide) ⟨x,H,I1,ru,⟨rfl,fun ys hy=>by rw[I.list_inj hy hq];exact hx⟩,st',fun b hb=>(hf b hb).1⟩⟩
 done:=by
  intro X hP hw hK hc i af s σ H E I hf st hg;subst hP hw hK;obtain⟨xs,hq,hx⟩:=hg;obtain⟨its,rv,p,hz⟩:=I.list hq;obtain⟨f0,f1,f2,f3,f4,f5⟩:=hf it (by simp);have hl:=rv.length;exact wpAny_pyNext_list_end (I.ok.hd hc) st p.isList (by simp;omega) fun h' eb=>⟨rfl,I.turned (t':=s.toks) (fun b o hb e=>eb b o hb e) f0 f1 f3 f4 f5⟩
 self:=fun _ _ _ _ _ st h=>wpAny_pyIter_listiter st h
theorem nN {P:Program}{w:World}{K:W.Frag}{tg:Expr}(a it:Addr):mB P w K tg (CQ K a) [it] it (fun i h=>h.IsTupleIter it a i) where
 mem:=by simp
 obj:=fun i h st b hb=>by
  have e:b=it:=by simpa using hb
  subst e;obtain⟨o,e,c,d⟩:=st;exact⟨o,e,fun v z=>by rw[d] at z;cases z⟩
 keep:=fun i h h' st k=>st.at fun o e=>k it (by simp) o e
 item:=by
  intro X hP hw hK hc i af s σ H E I hf st hg;subst hP hw hK;obtain⟨xs,x,hq,hx⟩:=hg;obtain⟨its,rv,p,hz⟩:=I.tuple hq;obtain⟨u,hu,ru⟩:=rv.get hx;obtain⟨f0,f1,f2,f3,f4,f5⟩:=hf it (by simp);refine wpAny_pyNext_tuple_item st (show s.heap.IsTuple a its.toArray from p) (x:=u) (by simpa using hu) fun h' st' sb=>?_
  have I1:Inv X af σ H {s with heap:=h'}:=I.turned (t':=s.toks) (fun b o hb e=>(sb.2 b hb).trans e) f0 f1 f3 f4 f5;obtain⟨o,e,c,d⟩:=id st';exact⟨u,rfl,qF (s:={s with heap:=h'}) e c d (by decide) ⟨x,H,I1,ru,⟨rfl,fun ys hy=>by rw[I.tuple_inj hy hq];exact hx⟩,st',fun b hb=>(hf b hb).1⟩⟩
 done:=by
  intro X hP hw hK hc i af s σ H E I hf st hg;subst hP hw hK;obtain⟨xs,hq,hx⟩:=hg;obtain⟨its,rv,p,hz⟩:=I.tuple hq;obtain⟨f0,f1,f2,f3,f4,f5⟩:=hf it (by simp);have hl:=rv.length;exact wpAny_pyNext_tuple_end (I.ok.hd hc) st (show s.heap.IsTuple a its.toArray from p) (by simp;omega) fun h' eb=>⟨rfl,I.turned (t':=s.toks) (fun b o hb e=>eb b o hb e) f0 f1 f3 f4 f5⟩
 self:=fun _ _ _ _ _ st h=>wpAny_pyIter_tupleiter st h
theorem nl {P:Program}{w:World}{K:W.Frag}{tg:Expr}(it:Addr)(lo:Int)(n:Nat):mB P w K tg (B3 lo n) [it] it (fun i h=>IsRangeIter h it (lo+(i:Nat)*1) ((n:Int)-(i:Nat)) 1) where
 mem:=by simp
 obj:=fun i h st b hb=>by
  have e:b=it:=by simpa using hb
  subst e;exact⟨_,st,fun v z=>by
   have z':Data.fields _=Data.cell v:=z;cases z'⟩
 keep:=fun i h h' st k=>k it (by simp) _ st
 item:=by
  intro X hP hw hK hc i af s σ H E I hf st hg;subst hP hw hK;obtain⟨f0,f1,f2,f3,f4,f5⟩:=hf it (by simp);have W:=Walks.range (prog:=X.prog) (w:=X.w) (I.ok.hd hc) it lo 1 n;refine W.item i s _ _ hg st fun v h' tk hv st' kk=>?_
  obtain⟨t,rfl⟩:=hv;have I1:Inv X af σ H {s with heap:=h',toks:=tk}:=I.turned (fun b o hb e=>kk b o (by simpa using hb) e) f0 f1 f3 f4 f5;refine⟨_,rfl,qF (s:={s with heap:=h',toks:=tk}) (n:="range_iterator") st' rfl rfl (by decide) ⟨.int (lo+i),H,I1,⟨t,?_⟩,⟨rfl,rfl⟩,st',fun b hb=>(hf b hb).1⟩⟩;rw[Int.mul_one]
 done:=by
  intro X hP hw hK hc i af s σ H E I hf st hg;subst hP hw hK;obtain⟨f0,f1,f2,f3,f4,f5⟩:=hf it (by simp);exact wpAny_pyNext_range_end (I.ok.hd hc) st (by have:n≤i:=hg;omega) fun h' eb=>⟨rfl,I.turned (t':=s.toks) (fun b o hb e=>eb b o hb e) f0 f1 f3 f4 f5⟩
 self:=fun _ _ _ _ _ st h=>wpAny_pyIter_rangeiter st h
section
variable {X:Cx}{tg:Expr}
theorem qD {af:List (Addr×Obj)}{σ:St}{H:Hp}{s:Shared}{R:It→Hp→Prop}{E:Value→Shared→Prop}{lo hi:Int}{t u v:Tok}{tk:Nat}(I:Inv X af σ H s)(h1:-(2 ^ 62)≤lo)(h2:lo<2 ^ 62)(h3:-(2 ^ 62)≤hi)(h4:hi<2 ^ 62)
  (q:R (B3 lo (hi-lo).toNat) H):wpAny (model X.prog X.w) X.A (pyIter (.ref s.heap.objs.size)) (Dn X af σ tg R) E {s with heap:=s.heap.push {cls:=.type "range",data:=.fields #[.int lo t,.int hi u,.int 1 v]},toks:=tk}:=by
 refine wpAny_pyIter_range (IsRange.new ..) (small_one h1 h2 h3 h4) ?_;have I1:Inv X af σ H {s with heap:=s.heap.push {cls:=.type "range",data:=.fields #[.int lo t,.int hi u,.int 1 v]},toks:=tk}:=I.kept fun b o e=>Heap.get?_push_of_some _ e
 refine⟨(s.heap.push {cls:=.type "range",data:=.fields #[.int lo t,.int hi u,.int 1 v]}).objs.size,[(s.heap.push {cls:=.type "range",data:=.fields #[.int lo t,.int hi u,.int 1 v]}).objs.size],_,_,H,rfl,
  I1.kept (t':=tk) fun b o e=>Heap.get?_push_of_some _ e,nl _ lo (hi-lo).toNat,?_,fun b hb=>?_,q⟩
 ·have e1:lo+((0:Nat):Int)*1=lo:=by simp
  have e2:(((hi-lo).toNat:Nat):Int)-((0:Nat):Int)=Builtin.Range.rangeSize lo hi 1:=by rw[rangeSize_one];split <;> omega
  show IsRangeIter _ _ (lo+((0:Nat):Int)*1) ((((hi-lo).toNat:Nat):Int)-((0:Nat):Int)) 1;rw[e1,e2];exact Heap.get?_push_size _ rfl
 ·have e:b=(s.heap.push {cls:=.type "range",data:=.fields #[.int lo t,.int hi u,.int 1 v]}).objs.size:=by simpa using hb
  subst e;exact I1.fpOk (Nat.le_refl _) (I1.hok.fresh (Nat.le_refl _))
def z5 (ta:TA):TI:=fun σ H R=>ta σ H fun vs H1=>∃j:Int,vs=[.int j]∧-(2 ^ 62)≤j∧j<2 ^ 62∧R (B3 0 j.toNat) H1
theorem qh {a:Expr}{ta:TA}{p pos:Pos}(hg:Gl X "range")(hm:X.mg "range"=none)(ha:PA X [a] ta)(hs:starEach [a] X.env=[(false,eval a X.env)]:=by rfl):PI X tg (.Call (.Name "range" p) [a] [] pos) (z5 ta):=by
 intro af s σ H R I h;refine Call_ (jB I hg hm boot_range (PyProof.Rows.callWith_type1 (bA (ha pos af s σ H _ I h) fun us s1 hxx=>?_) hs rfl));obtain⟨vs,H1,I1,r1,q1⟩:=hxx;obtain⟨j,e,q1,q2,q⟩:=q1;subst e;cases r1 with
 | cons r rr=>
  cases rr;obtain⟨t,rfl⟩:=r;exact call_range_1 (qD I1 (by omega) (by omega) q1 q2 (by simpa using q))
def C3 (wi:TI)(g:TG)(tb:TS):TS:=fun D σ H=>wi σ H fun J H1=>∃W:Nat→Nat→St→Hp→Prop,(∃m,W 0 m σ H1)∧∀i m σ H,W i m σ H→
 (J.stop i H∧D.nx σ H)∨(J.go i H∧∃N:St→Hp→Prop,(∀σ' H',N σ' H'→∃m',m'<m∧W (i+1) m' σ' H')∧∀x H',J.yld i H x H'→g x σ H' fun σ2 H2=>tb {D with nx:=N,ct:=N,bk:=D.nx} σ2 H2)
def dW (fp:List Addr)(h:Heap):List (Addr×Obj):=fp.filterMap fun b=>(h.get? b).map fun o=>(b,o)
theorem bv {fp:List Addr}{h:Heap}{b:Addr}{o:Obj}(hb:b∈fp)(e:h.get? b=some o):(b,o)∈dW fp h:=mem_filterMap.mpr ⟨b,hb,by rw[e];rfl⟩
theorem ka {fp:List Addr}{h:Heap}{p:Addr×Obj}(hp:p∈dW fp h):p.1∈fp∧h.get? p.1=some p.2:=by
 obtain⟨b,hb,e⟩:=mem_filterMap.mp hp;cases q:h.get? b with
 | none=>rw[q] at e;cases e
 | some o=>
  rw[q] at e;have e':(b,o)=p:=Option.some.inj e;subst e';exact⟨hb,q⟩
theorem Inv.pinned {af:List (Addr×Obj)}{σ:St}{H:Hp}{s:Shared}{fp:List Addr}(I:Inv X af σ H s)(hf:∀b∈fp,fD X af H b)(ho:∀b∈fp,∃o,s.heap.get? b=some o∧∀v,o.data≠.cell v):Inv X (af++dW fp s.heap) σ H s:=
 I.pins_of fun p hp=>(mem_append.mp hp).elim (fun z=>I.pin p (mem_append_right _ z)) fun z=>by
  obtain⟨hb,e⟩:=ka z;obtain⟨f0,f1,f2,_⟩:=hf p.1 hb;obtain⟨o,e',d⟩:=ho p.1 hb;rw[e] at e';cases e';exact⟨e,f0,f1,f2,d⟩
theorem Inv.unpinned {af pl:List (Addr×Obj)}{σ:St}{H:Hp}{s:Shared}(I:Inv X (af++pl) σ H s):Inv X af σ H s:=I.pins_of fun p hp=>I.pin p (mem_append_right _ (mem_append_left _ hp))
theorem yn {iter:Expr}{body:List Stmt}{wi:TI}{g:TG}{tb:TS}{pos:Pos}(hp:PassesOwn (model X.prog X.w) X.A X.env X.xe)(hc:X.calm=true)(hi:PI X tg iter wi)(hg:PG X tg g)(hb:PSs X body tb)
  (hs:∀x,foldedSetIterable iter X.env x=pure x:=by intro _;rfl):PS X (.For tg iter body [] pos) (C3 wi g tb):=by
 intro af s σ H D I h;refine wpAny_For (bA (hi af s σ H _ I h) fun v s1 h1=>bA h1 fun itv s2 h2=>?_) hs;obtain⟨it,fp,tn,J,H2,e,I2,T,st2,f2,W,⟨m0,w0⟩,turn⟩:=h2;subst e;have stat:∀{H':Hp},(∀b∈fp,H' b=none)→∀b∈fp,fD X af H' b:=fun hn b hb=>⟨hn b hb,(f2 b hb).2⟩
 refine codeAny_forLoop_any (fun n s'=>∃i σ' H',Inv X af σ' H' s'∧tn i s'.heap∧(∀b∈fp,H' b=none)∧W i n σ' H') ?_ m0 ⟨0,σ,H2,I2,st2,fun b hb=>(f2 b hb).1,w0⟩;rintro n s3 ⟨i,σ3,H3,I3,st3,fr3,w3⟩;rcases turn i n σ3 H3 w3 with⟨stop,qn⟩|⟨go,N,hN,step⟩
 ·refine wpAny_passesOwn hp (bA (T.done X rfl rfl rfl hc i af s3 σ3 H3 X.xe I3 (stat fr3) st3 stop) fun r s4 hxx=>?_);obtain⟨hr,I4⟩:=hxx;subst hr;exact wpAny_execs_nil ⟨σ3,H3,I4,qn⟩
 ·refine wpAny_passesOwn hp (bA (T.item X rfl rfl rfl hc i af s3 σ3 H3 X.xe I3 (stat fr3) st3 go) fun r s4 hxx=>?_);obtain⟨u,hr,h4⟩:=hxx;subst hr;refine wpAny_passesOwn hp (bA h4 fun _ s5 hxx=>?_);obtain⟨x,H5,I5,r5,y5,st5,fr5⟩:=hxx;have I5':=I5.pinned (stat fr5) (T.obj _ _ st5);refine wpAny_passesOwn hp (bA (hg _ s5 σ3 H5 x u _ I5' r5 (step x H5 y5)) fun _ s6 hxx=>?_);obtain⟨σ6,H6,I6,q6⟩:=hxx;refine wpAny_passesOwn hp (bA (hb _ s6 σ6 H6 _ I6 q6) fun f s7 q7=>?_);have again:∀{σ7:St} {H7:Hp},Inv X (af++dW fp s5.heap) σ7 H7 s7→N σ7 H7→∃m,m<n∧∃i σ' H',Inv X af σ' H' s7∧tn i s7.heap∧(∀b∈fp,H' b=none)∧W i m σ' H':=fun {σ7 H7} I7 n7=>by
   obtain⟨m',hm,w7⟩:=hN σ7 H7 n7;refine⟨m',hm,i+1,σ7,H7,I7.unpinned,T.keep _ _ _ st5 fun b hb o e=>(I7.pin (b,o) (mem_append_right _ (mem_append_right _ (bv hb e)))).1,fun b hb=>?_,w7⟩;obtain⟨o,e,d⟩:=T.obj _ _ st5 b hb;exact(I7.pin (b,o) (mem_append_right _ (mem_append_right _ (bv hb e)))).2.1
  cases f with
  | next=>obtain⟨σ7,H7,I7,n7⟩:=q7;exact again I7 n7
  | cont=>obtain⟨σ7,H7,I7,n7⟩:=q7;exact again I7 n7
  | brk=>obtain⟨σ7,H7,I7,q7⟩:=q7;exact⟨σ7,H7,I7.unpinned,q7⟩
  | ret v=>obtain⟨x7,σ7,H7,I7,r7,q7⟩:=q7;exact⟨x7,σ7,H7,I7.unpinned,r7,q7⟩
end
abbrev R2:=V→V→Hp→VK→Prop
def dO (X:Cx)(f:Value→Value→Sem Value)(r:R2):Prop:=
 ∀(af:List (Addr×Obj)) (s:Shared) (σ:St) (H:Hp) (x y:V) (v u:Value) (Q:VK),Inv X af σ H s→aI x v→aI y u→r x y H Q→
  wpAny (model X.prog X.w) X.A (f v u) (EP X af σ Q) X.xe s
def Dk (X:Cx)(f:Value→Sem Value)(r:V→Hp→VK→Prop):Prop:=
 ∀(af:List (Addr×Obj)) (s:Shared) (σ:St) (H:Hp) (x:V) (v:Value) (Q:VK),Inv X af σ H s→aI x v→r x H Q→
  wpAny (model X.prog X.w) X.A (f v) (EP X af σ Q) X.xe s
def bY (X:Cx)(f:Value)(r:List V→Hp→VK→Prop):Prop:=
 ∀(af:List (Addr×Obj)) (s:Shared) (σ:St) (H:Hp) (xs:List V) (us:List Value) (Q:VK),Inv X af σ H s→aD xs us→r xs H Q→
  wpAny (model X.prog X.w) X.A (call f us) (EP X af σ Q) X.xe s
def Dc (X:Cx)(r:V→Hp→(Bool→Hp→Prop)→Prop):Prop:=
 ∀(af:List (Addr×Obj)) (s:Shared) (σ:St) (H:Hp) (x:V) (v:Value) (Q:Bool→Hp→Prop),Inv X af σ H s→aI x v→r x H Q→
  wpAny (model X.prog X.w) X.A (truthy v) (TP X af σ Q) X.xe s
def Ae (r:R2)(ta tb:TE):TE:=fun σ H Q=>ta σ H fun x H1=>tb σ H1 fun y H2=>r x y H2 Q
def DE (r:V→Hp→VK→Prop)(ta:TE):TE:=fun σ H Q=>ta σ H fun x H1=>r x H1 Q
def rI (C:Int→Int→Prop)(g:Int→Int→V):R2:=fun x y H Q=>∃i j,x=.int i∧y=.int j∧C i j∧Q (g i j) H
def wn (g:Int→Int→V):R2:=fun x y H Q=>∃i j,x=.int i∧y=.int j∧Q (g i j) H
def rU (g:Int→V):V→Hp→VK→Prop:=fun x H Q=>∃i,x=.int i∧Q (g i) H
section
variable {X:Cx}{a b c:Expr}{ta tb tc:TE}{pos:Pos}
theorem yY (ha:PE X a ta)(hb:PE X b tb){af:List (Addr×Obj)}{s:Shared}{σ:St}{H:Hp}{R:V→V→Hp→Prop}(I:Inv X af σ H s)
  (h:ta σ H fun x H1=>tb σ H1 fun y H2=>R x y H2) {Q:Value→Shared→Prop} {f:Value→Value→Sem Value}
  (hf:∀v u s2 x y H2,Inv X af σ H2 s2→aI x v→aI y u→R x y H2→wpAny (model X.prog X.w) X.A (f v u) Q X.xe s2) :
  wpAny (model X.prog X.w) X.A (eval a X.env) (fun v s₁=>wpAny (model X.prog X.w) X.A (eval b X.env) (fun u s₂=>wpAny (model X.prog X.w) X.A (f v u) Q X.xe s₂) X.xe s₁) X.xe s:=by
 refine bA (ha af s σ H _ I h) fun v s1 hxx=>?_
 obtain⟨x,H1,I1,r1,q1⟩:=hxx;refine bA (hb af s1 σ H1 _ I1 q1) fun u s2 hxx=>?_
 obtain⟨y,H2,I2,r2,q2⟩:=hxx;exact hf v u s2 x y H2 I2 r1 r2 q2
theorem zR {op:Operator}{r:R2}(ho:dO X (binaryOp op) r)(ha:PE X a ta)(hb:PE X b tb):PE X (.BinOp a op b pos) (Ae r ta tb):=by
 intro af s σ H Q I h;exact wpAny_BinOp (yY ha hb I h fun v u s2 x y H2 I2 rx ry q=>ho af s2 σ H2 x y v u Q I2 rx ry q)
theorem Bx {op:UnaryOp}{r:V→Hp→VK→Prop}(ho:Dk X (unaryOp op) r)(ha:PE X a ta):PE X (.UnaryOp op a pos) (DE r ta):=by
 intro af s σ H Q I h;exact UnaryOp_ (bA (ha af s σ H _ I h) fun v s1 ⟨x,H1,I1,r1,q1⟩=>ho af s1 σ H1 x v Q I1 r1 q1)
theorem CS {f:Value→Value→Sem Value}{C:Int→Int→Prop}{g:Int→Int→Int}
  (rule:∀(i j:Int) (t u:Tok) (s:Shared) (Q:Value→Shared→Prop) (E:Value→Shared→Prop),C i j→Q (.int (g i j) s.toks) {s with toks:=s.toks+1}→wpAny (model X.prog X.w) X.A (f (.int i t) (.int j u)) Q E s) :
  dO X f (rI C fun i j=>.int (g i j)):=by
 intro af s σ H x y v u Q I rx ry h;obtain⟨i,j,rfl,rfl,hc,q⟩:=h;obtain⟨t,rfl⟩:=rx;obtain⟨t',rfl⟩:=ry;exact rule i j t t' s _ _ hc ⟨.int (g i j),H,I.tok _,⟨_,rfl⟩,q⟩
theorem A0 {f:Value→Value→Sem Value}{g:Int→Int→Int}
  (rule:∀(i j:Int) (t u:Tok) (s:Shared) (Q:Value→Shared→Prop) (E:Value→Shared→Prop),Q (.int (g i j) s.toks) {s with toks:=s.toks+1}→wpAny (model X.prog X.w) X.A (f (.int i t) (.int j u)) Q E s) :
  dO X f (wn fun i j=>.int (g i j)):=by
 intro af s σ H x y v u Q I rx ry h;obtain⟨i,j,rfl,rfl,q⟩:=h;obtain⟨t,rfl⟩:=rx;obtain⟨t',rfl⟩:=ry;exact rule i j t t' s _ _ ⟨.int (g i j),H,I.tok _,⟨_,rfl⟩,q⟩
theorem we {f:Value→Value→Sem Value}{g:Int→Int→Bool}
  (rule:∀(i j:Int) (t u:Tok) (s:Shared) (Q:Value→Shared→Prop) (E:Value→Shared→Prop),Q (.bool (g i j)) s→wpAny (model X.prog X.w) X.A (f (.int i t) (.int j u)) Q E s) :
  dO X f (wn fun i j=>.bl (g i j)):=by
 intro af s σ H x y v u Q I rx ry h;obtain⟨i,j,rfl,rfl,q⟩:=h;obtain⟨t,rfl⟩:=rx;obtain⟨t',rfl⟩:=ry;exact rule i j t t' s _ _ ⟨.bl (g i j),H,I,rfl,q⟩
def Cy (i j:Int):Prop:=0≤j∧j≤1000000∧i.natAbs<2 ^ 64
def yE (i j:Int):Prop:=(-(2 ^ 64)<i∧i<2 ^ 64)∨(-(2 ^ 64)<j∧j<2 ^ 64)
theorem yE.ok {i j:Int}(h:yE i j):IntMulOk i j:=by
 rcases h with⟨h1,h2⟩|⟨h1,h2⟩
 ·exact .of_left (intBits_le_64 h1 h2)
 ·exact .of_right (intBits_le_64 h1 h2)
theorem ym:dO X (binaryOp .Add) (wn fun i j=>.int (i+j)):=A0 fun _ _ _ _ _ _ _ q=>add_int q
theorem xa:dO X (binaryOp .Sub) (wn fun i j=>.int (i-j)):=A0 fun _ _ _ _ _ _ _ q=>sub_int q
theorem wQ:dO X (binaryOp .Mult) (rI yE fun i j=>.int (i*j)):=CS fun _ _ _ _ _ _ _ hc q=>mul_int q hc.ok
theorem xm:dO X (binaryOp .Mod) (rI (fun _ j=>0<j) fun i j=>.int (i % j)):=CS fun i j _ _ _ _ _ hc q=>by
 have h1:(0:Int)<j:=hc;exact mod_int' (by omega) (by rw[Int.fmod_eq_emod_of_nonneg i (by omega)];exact q)
theorem yT:dO X (binaryOp .Pow) (rI Cy fun i j=>.int (i ^ j.toNat)):=CS fun _ _ _ _ _ _ _ hc q=>pow_int_small hc.1 hc.2.1 hc.2.2 q
theorem Dw {f:Value→Sem Value}{g:Int→Int}
  (rule:∀(i:Int) (t:Tok) (s:Shared) (Q:Value→Shared→Prop) (E:Value→Shared→Prop),Q (.int (g i) s.toks) {s with toks:=s.toks+1}→wpAny (model X.prog X.w) X.A (f (.int i t)) Q E s) :
  Dk X f (rU fun i=>.int (g i)):=by
 intro af s σ H x v Q I rx h;obtain⟨i,rfl,q⟩:=h;obtain⟨t,rfl⟩:=rx;exact rule i t s _ _ ⟨.int (g i),H,I.tok _,⟨_,rfl⟩,q⟩
theorem xR:Dk X (unaryOp .USub) (rU fun i=>.int (-i)):=Dw fun _ _ _ _ _ q=>neg_int q
end
section
variable {X:Cx}{a b c:Expr}{ta tb tc:TE}{pos:Pos}
theorem Bz:dO X (compareOp .Lt) (wn fun i j=>.bl (decide (i<j))):=we fun _ _ _ _ _ _ _ q=>lt_int q
theorem zT:dO X (compareOp .LtE) (wn fun i j=>.bl (decide (i≤j))):=we fun _ _ _ _ _ _ _ q=>le_int q
theorem AK:dO X (compareOp .Gt) (wn fun i j=>.bl (decide (j<i))):=we fun _ _ _ _ _ _ _ q=>gt_int q
theorem AZ:dO X (compareOp .GtE) (wn fun i j=>.bl (decide (j≤i))):=we fun _ _ _ _ _ _ _ q=>ge_int q
def BR:HO→Bool
 | .lst _=>true
 | .ins _ _ _=>true
 | _=>false
theorem zD {af:List (Addr×Obj)}{s:Shared}{σ:St}{H:Hp}{a:Addr}{o:HO}(I:Inv X af σ H s)(h:H a=some o)(p:BR o=true):∃ob,s.heap.get? a=some ob∧ob.cls≠.type "tuple":=by
 cases o with
 | lst xs=>
  obtain⟨_,its,n,_,e⟩:xs.length≤sizeLine∧∃(its:List Value) (n:Nat),aD xs its∧s.heap.get? a=some {cls:=.type "list",data:=.seq its.toArray n}:=I.hok a _ h;exact⟨_,e,(by show Value.type "list"≠.type "tuple";decide +kernel)⟩
 | ins C dx fs=>
  have x:=I.hok a _ h;obtain⟨_,_,_,e,_⟩:=x;exact⟨_,e,(by show Value.ref C≠.type "tuple";exact fun z=>by cases z)⟩
 | _=>exact absurd (show false=true from p) Bool.false_ne_true
theorem zi (b:Expr){op:CmpOp}(h:op≠.In:=by decide)(h2:op≠.NotIn:=by decide):behindInMarks op b=false:=by
 have e1:(op==CmpOp.In)=false:=by cases op <;> first|rfl|exact absurd rfl h
 have e2:(op==CmpOp.NotIn)=false:=by cases op <;> first|rfl|exact absurd rfl h2
 cases b <;> simp[behindInMarks,e1,e2]
theorem vL {op:CmpOp}{r:R2}(ho:dO X (compareOp op) r)(ha:PE X a ta)(hb:PE X b tb)(hm:behindInMarks op b=false):PE X (.Compare a [op] [b] pos) (Ae r ta tb):=by
 intro af s σ H Q I h;exact wpAny_Compare1 (yY ha hb I h fun v u s2 x y H2 I2 rx ry q=>ho af s2 σ H2 x y v u Q I2 rx ry q) hm
def ww (t:TE):TT:=fun σ H Q=>t σ H fun x H'=>∃k,x=.bl k∧Q k H'
theorem uP {op:CmpOp}{r:R2}(ho:dO X (compareOp op) r)(ha:PE X a ta)(hb:PE X b tb)(hm:behindInMarks op b=false):PT X (.Compare a [op] [b] pos) (ww (Ae r ta tb)):=by
 intro af s σ H Q I h;refine wpAny_isTrue_Compare1 (bA (ha af s σ H _ I h) fun v s1 ⟨x,H1,I1,r1,q1⟩=>bA (hb af s1 σ H1 _ I1 q1) fun u s2 ⟨y,H2,I2,r2,q2⟩=>
  bA (ho af s2 σ H2 x y v u _ I2 r1 r2 q2) fun c s3 hxx=>?_) hm
 obtain⟨z,H3,I3,r3,k,e,q3⟩:=hxx;subst e;cases r3;exact wpAny_truthy_bool ⟨H3,I3,q3⟩
def qU (r r':R2)(ta tb tc:TE):TE:=fun σ H Q=>ta σ H fun x H1=>tb σ H1 fun y H2=>r x y H2 fun z H3=>∃k,z=.bl k∧
 (if k=true then tc σ H3 fun w' H4=>r' y w' H4 Q else Q (.bl false) H3)
theorem sA {op op':CmpOp}{r r':R2}(ho:dO X (compareOp op) r)(ho':dO X (compareOp op') r')(ha:PE X a ta)(hb:PE X b tb)(hc:PE X c tc)
  (hm:lastMarks [op,op'] [b,c]=false:=by with_unfolding_all rfl):PT X (.Compare a [op,op'] [b,c] pos) (ww (qU r r' ta tb tc)):=by
 intro af s σ H Q I h;refine isTrue_chain (bA (ha af s σ H _ I h) fun v s1 ⟨x,H1,I1,r1,q1⟩=>test_link (bA (hb af s1 σ H1 _ I1 q1) fun u s2 ⟨y,H2,I2,r2,q2⟩=>
  bA (ho af s2 σ H2 x y v u _ I2 r1 r2 q2) fun d s3 hxx=>?_)) hm
 obtain⟨z,H3,I3,r3,k,e,q3⟩:=hxx;subst e;cases r3;refine wpAny_truthy_bool ?_;cases k with
 | false=>
  obtain⟨k',e',q'⟩:=q3;cases e';exact ite_ff ⟨H3,I3,q'⟩
 | true=>
  refine ite_tt (test_last (bA (hc af s3 σ H3 _ I3 q3) fun w' s4 ⟨z',H4,I4,r4,q4⟩=>bA (ho' af s4 σ H4 y z' u w' _ I4 r2 r4 q4) fun d' s5 hxx=>?_));obtain⟨z2,H5,I5,r5,k2,e2,q5⟩:=hxx;subst e2;cases r5;exact wpAny_truthy_bool ⟨H5,I5,q5⟩
def BA (K:W.Frag)(x:V)(H:Hp)(k:Bool):Prop:=
 match x with
 | .non=>k=false
 | .bl b=>k=b
 | .int i=>k=(i != 0)
 | .str y=>y.length≤sizeLine∧k=((y.length:Int) != 0)
 | .byt y=>y.size≤sizeLine∧k=((y.size:Int) != 0)
 | .ref p=>(∃xs,iJ K H p xs∧k=!xs.isEmpty)∨(∃xs,io K H p xs∧k=!xs.isEmpty)∨∃kvs,H p=some (.dK kvs)∧k=!kvs.isEmpty
 | _=>False
theorem nJ {κ:Type}{kvs:List (κ×V)}{vs:List (κ×Value)}(r:KV kvs vs):(!vs.isEmpty)=!kvs.isEmpty:=by
 cases r <;> rfl
theorem jb {xs:List V}{its:List Value}(r:aD xs its):(!its.toArray.isEmpty)=!xs.isEmpty:=by
 cases r <;> simp
theorem gD:(sizeLine:Nat)<2 ^ 63:=by rw[sizeLine_eq];decide
theorem nj:Dc X (fun x H Q=>∃k,BA X.K x H k∧Q k H):=by
 intro af s σ H x v Q I rx h;obtain⟨k,e,q⟩:=h;have hl:=gD;have hs:sizeLine=16777216:=sizeLine_eq;cases x with
 | non=>
  cases rx;have e':k=false:=e;subst e';exact truthy_none ⟨H,I,q⟩
 | bl b=>
  cases rx;have e':k=b:=e;subst e';exact wpAny_truthy_bool ⟨H,I,q⟩
 | int i=>
  obtain⟨t,rfl⟩:=rx;have e':k=(i != 0):=e;subst e';exact PySem.P.truthy_int ⟨H,I,q⟩
 | str y=>
  obtain⟨t,rfl⟩:=rx;obtain⟨hy,e'⟩:y.length≤sizeLine∧k=((y.length:Int) != 0):=e;subst e';exact PySem.P.truthy_str (by omega) ⟨H,I.tok _,q⟩
 | byt y=>
  obtain⟨t,rfl⟩:=rx;obtain⟨hy,e'⟩:y.size≤sizeLine∧k=((y.size:Int) != 0):=e;subst e';exact W.truthy_bytes (by omega) ⟨H,I.tok _,q⟩
 | ref p=>
  cases rx;have e':(∃xs,iJ X.K H p xs∧k=!xs.isEmpty)∨(∃xs,io X.K H p xs∧k=!xs.isEmpty)∨∃kvs,H p=some (.dK kvs)∧k=!kvs.isEmpty:=e;rcases e' with⟨xs,hx,e'⟩|⟨xs,hx,e'⟩|⟨kvs,hx,e'⟩
  ·subst e';obtain⟨its,r,pl,hz⟩:=I.list hx;have hlen:=r.length;exact wpAny_truthy_list pl.isList (by simp only[size_toArray];omega) ⟨H,I.tok _,by rw[jb r];exact q⟩
  ·subst e';obtain⟨its,r,pl,hz⟩:=I.tuple hx;have hlen:=r.length;exact truthy_tuple pl (by simp only[size_toArray];omega) ⟨H,I.tok _,by rw[jb r];exact q⟩
  ·subst e';obtain⟨hz,hS,vs,r,m⟩:kvs.length≤sizeLine∧(p==sysModules)=false∧∃vs,KV kvs vs∧s.heap.DictOf (bW X.prog X.w) p vs:=I.hok p _ hx;have hlen:kvs.length=vs.length:=Paired.length r;exact wpAny_truthy_dict hS m (by omega) ⟨H,I.tok _,by rw[nJ r];exact q⟩
 | _=>exact(show False from e).elim
theorem rq (ha:PE X a ta)(he:∀whole,isTrue a X.env whole=(do let v ←whole;standAt a.pos;holding [v] (truthy v))) :
  PT X a (fun σ H Q=>ta σ H fun x H'=>∃k,BA X.K x H' k∧Q k H'):=by
 intro af s σ H Q I h;exact isTrue_plain (bA (ha af s σ H _ I h) fun v s1 ⟨x,H1,I1,r1,q1⟩=>nj af s1 σ H1 x v Q I1 r1 q1) (he _)
theorem nh:dO X (binaryOp .Add) (fun x y H Q=>∃i j,x=.str i∧y=.str j∧i.length+j.length≤sizeLine∧Q (.str (i++j)) H):=by
 intro af s σ H x y v u Q I rx ry h;obtain⟨i,j,rfl,rfl,hz,q⟩:=h;obtain⟨t,rfl⟩:=rx;obtain⟨t',rfl⟩:=ry;exact add_str (fun t' tk=>⟨.str (i++j),H,I.tok _,⟨_,rfl⟩,q⟩) hz
theorem j9 {x:V}{us:List Value}(r:aD [x] us):∃u,us=[u]∧aI x u:=by
 cases r with
 | cons r1 r2=>cases r2;exact⟨_,rfl,r1⟩
theorem qQ {x y:V}{us:List Value}(r:aD [x,y] us):∃u w',us=[u,w']∧aI x u∧aI y w':=by
 cases r with
 | cons r1 r2=>
  cases r2 with
  | cons r3 r4=>cases r4;exact⟨_,_,rfl,r1,r3⟩
theorem pN (hc:X.calm=true):bY X (.builtin "max") (fun xs H Q=>∃i j,xs=[.int i,.int j]∧Q (.int (if j>i then j else i)) H):=by
 intro af s σ H xs us Q I r h;obtain⟨i,j,rfl,q⟩:=h;obtain⟨u,w',rfl,⟨t,rfl⟩,⟨t',rfl⟩⟩:=qQ r;refine max_two_ints (I.ok.hd hc) fun h' tk k=>⟨_,H,I.kept k,?_,q⟩
 by_cases hj:j>i
 ·rw[if_pos hj,if_pos hj];exact⟨_,rfl⟩
 ·rw[if_neg hj,if_neg hj];exact⟨_,rfl⟩
theorem o5 (hc:X.calm=true):bY X (.builtin "min") (fun xs H Q=>∃i j,xs=[.int i,.int j]∧Q (.int (if j<i then j else i)) H):=by
 intro af s σ H xs us Q I r h;obtain⟨i,j,rfl,q⟩:=h;obtain⟨u,w',rfl,⟨t,rfl⟩,⟨t',rfl⟩⟩:=qQ r;refine min_two_ints (I.ok.hd hc) fun h' tk k=>⟨_,H,I.kept k,?_,q⟩
 by_cases hj:j<i
 ·rw[if_pos hj,if_pos hj];exact⟨_,rfl⟩
 ·rw[if_neg hj,if_neg hj];exact⟨_,rfl⟩
theorem ku:bY X (.type "int") (fun xs H Q=>(∃i,xs=[.int i]∧Q (.int i) H)∨∃k,xs=[.bl k]∧Q (.int (if k then 1 else 0)) H):=by
 intro af s σ H xs us Q I r h;rcases h with⟨i,rfl,q⟩|⟨k,rfl,q⟩
 ·obtain⟨u,rfl,t,rfl⟩:=j9 r;exact call_int_int ⟨.int i,H,I,⟨_,rfl⟩,q⟩
 ·obtain⟨u,rfl,r1⟩:=j9 r;cases r1;exact call_int_bool ⟨.int (if k then 1 else 0),H,I.tok _,⟨_,rfl⟩,q⟩
end
theorem jW.some_of {v:V}{o:Option Value}(r:jW (some v) o):∃u,o=some u∧aI v u:=by
 cases o with
 | none=>exact(show False from r).elim
 | some u=>exact⟨u,rfl,r⟩
structure DB (K:W.Frag)(C:Addr):Prop where
 pg:W.plainGet K C Str.empty=true
 hd:W.hasDictIn K C=true
 po:W.plainOver K C=true
 sa:W.findIn K (.ref C) "__setattr__"=some (some (.builtin "object.__setattr__"))
def zv (K:W.Frag)(C:Addr)(f:Str):Prop:=W.findIn K (.ref C) f=some none
structure Ce (K:W.Frag)(C:Addr)(m:Str)(f:Addr):Prop where
 at_:W.findIn K (.ref C) m=some (some (.ref f))
 fn:W.isFn K (.ref f)=true
 kp:W.keepIn K (.ref f)=true
structure cq (k:Nat)(A:Around):Prop where
 hd:A.handled=none
 dp:A.depth+3*k+5<recursionLimit
 un:A.units+16*k+200<cLine
theorem cq.mono {j k:Nat}{A:Around}(r:cq k A)(h:j≤k):cq j A:=⟨r.hd,by have:=r.dp;omega,by have:=r.un;omega⟩
theorem cq.deeper {k:Nat}{A:Around}(r:cq (k+1) A)(env:Env):cq k (A.deeper env):=
 ⟨r.hd,by have:=r.dp;show A.depth+1+3*k+5<_;omega,by have:=r.un;show A.units+3+16*k+200<_;omega⟩
theorem cq.depth {k:Nat}{A:Around}(r:cq k A):A.depth<recursionLimit:=by have:=r.dp;omega
theorem cq.units {k:Nat}{A:Around}(r:cq k A):A.units+64<cLine:=by have:=r.un;omega
def AC:TA:=fun _ H Q=>Q [] H
def wt (ta:TE)(tr:TA):TA:=fun σ H Q=>ta σ H fun x H1=>tr σ H1 fun xs H2=>Q (x::xs) H2
section
variable {X:Cx}{e:Expr}{es:List Expr}{te:TE}{t:TA}{pos:Pos}
theorem lq:PA X [] AC:=fun _ _ _ _ H Q I h=>Calls.spliced_nil ⟨[],H,I,.nil,h⟩
theorem g6 (ha:PE X e te)(hr:PA X es t)(hs:starEach (e::es) X.env=(false,eval e X.env)::starEach es X.env:=by rfl):PA X (e::es) (wt te t):=by
 intro pos af s σ H Q I h;rw[hs];show wpAny _ _ (spliced ((false,eval e X.env)::backTo pos (starEach es X.env))) _ _ s;refine Calls.spliced_cons (bA (ha af s σ H _ I h) fun u s1 hxx=>?_);obtain⟨x,H1,I1,r1,q1⟩:=hxx;exact bA (hr pos af s1 σ H1 _ I1 q1) fun us s2 ⟨xs,H2,I2,r2,q2⟩=>⟨x::xs,H2,I2,.cons r1 r2,q2⟩
def CK (t:TA):TE:=fun σ H Q=>t σ H fun xs H1=>xs.length≤sizeLine∧∀p,H1 p=none→Q (.ref p) (bX H1 p (.tup xs))
def Cg (t:TA):TE:=fun σ H Q=>t σ H fun xs H1=>xs.length≤sizeLine∧∀p,H1 p=none→Q (.ref p) (bX H1 p (.lst xs))
theorem xw {x1}(h:PA X es t):PE X (.Tuple es x1 pos) (CK t):=by
 intro af s σ H Q I hq;refine wpAny_Tuple_spliced (bA (h pos af s σ H _ I hq) fun us s1 ⟨xs,H1,I1,r,z,q⟩=>⟨by rw[←r.length];exact z,?_⟩);have hf:H1 s1.heap.objs.size=none:=I1.hok.fresh (Nat.le_refl _);refine⟨.ref s1.heap.objs.size,bX H1 s1.heap.objs.size (.tup xs),I1.laid (t':=s1.toks) (fun b u e=>Heap.get?_push_of_some _ e) (Nat.le_refl _) ?_,rfl,q _ hf⟩;exact⟨z,us,r,⟨_,Heap.get?_push_size _ rfl,rfl,_,rfl⟩⟩
theorem sX (h:PA X es t):PE X (.List es pos) (Cg t):=by
 intro af s σ H Q I hq;refine wpAny_List_spliced (bA (h pos af s σ H _ I hq) fun us s1 ⟨xs,H1,I1,r,z,q⟩=>⟨by rw[←r.length];exact z,?_⟩);have hf:H1 s1.heap.objs.size=none:=I1.hok.fresh (Nat.le_refl _);refine⟨.ref s1.heap.objs.size,bX H1 s1.heap.objs.size (.lst xs),I1.laid (t':=s1.toks) (fun b u e=>Heap.get?_push_of_some _ e) (Nat.le_refl _) ?_,rfl,q _ hf⟩;exact⟨z,us,0,r,Heap.get?_push_size _ rfl⟩
end
abbrev Sp:=List V→Hp→VK→XK→Prop
abbrev qu:=List Env→Hp→Shared→XK→Value→Shared→Prop
structure uO (P:Program)(w:World)(K:W.Frag)(mg:Str→Option Value)(base:Heap)(A:Around)(outer:List Env)(s:Shared)(H:Hp):Prop where
 frames:A.frames=some outer
 mod:Mod K mg base
 bs:∀b o,base.get? b=some o→s.heap.get? b=some o∧H b=none
 bsz:base.objs.size≤s.heap.objs.size
 funs:s.heap.FunFrames base outer
 frf:∀b∈i5 outer,H b=none
 hok:fZ P w H s.heap
 bare:AllBare s.gens
def CE (outer:List Env)(P:Program)(w:World)(H:Hp)(s:Shared)(Q:VK)(u:Value)(s':Shared):Prop:=
 ∃v H',s'.os=s.os∧AllBare s'.gens∧Un (i5 outer) [] H H' s.heap s'.heap∧fZ P w H' s'.heap∧aI v u∧Q v H'
def CR (CX:qu)(outer:List Env)(P:Program)(w:World)(H:Hp)(s:Shared)(Q:VK)(E:XK)(r:Result)(s':Shared):Prop:=
 match r with
 | .ok (.ret u)=>CE outer P w H s Q u s'
 | .ok _=>False
 | .error e=>CX outer H s E e s'
structure ej (P:Program)(w:World)(K:W.Frag)(mg:Str→Option Value)(base:Heap)(CX:qu)(k:Nat)(f:Addr)(fd:FuncData)(ps:List Str)(sp:Sp):Prop where
 len:∀vs H Q E,sp vs H Q E→vs.length=ps.length
 run:∀(A:Around) (outer:List Env) (s:Shared) (H:Hp) (args:Args) (us:List Value) (vs:List V) (Q:VK) (E:XK),cq k A→uO P w K mg base A outer s H→BindsTo s fd args (ps.zip us)→aD vs us→sp vs H Q E→
  codeAny (model P w) A (.call (.ref f) args) (CR CX outer P w H s Q E) s
theorem ej.imp {P:Program}{w:World}{K:W.Frag}{mg:Str→Option Value}{base:Heap}{CX:qu}{k:Nat}{f:Addr}{fd:FuncData}{ps:List Str}{sp sp':Sp}(F:ej P w K mg base CX k f fd ps sp)
  (h:∀vs H Q E,sp' vs H Q E→sp vs H Q E):ej P w K mg base CX k f fd ps sp':=
 ⟨fun vs H Q E q=>F.len vs H Q E (h _ _ _ _ q),fun A outer s H args us vs Q E hr he hb hv hs=>F.run A outer s H args us vs Q E hr he hb hv (h _ _ _ _ hs)⟩
section
variable {X:Cx}{af:List (Addr×Obj)}{σ:St}{H:Hp}{s s':Shared}
theorem Inv.env0 (I:Inv X af σ H s):uO X.prog X.w X.K X.mg X.base X.A X.stack s H:=
 ⟨I.ok.frames,I.ok.mod,I.bs,Nat.le_trans I.ok.bsz I.sz,I.stack,I.stkFree,I.hok,I.bare⟩
theorem Inv.after {Q:VK}{u:Value}(I:Inv X af σ H s)(h:CE X.stack X.prog X.w H s Q u s'):EP X af σ Q u s':=by
 obtain⟨v,H',os,bare,un,hok,r,q⟩:=h;obtain⟨hh,g,d,t,os'⟩:=s';obtain rfl:os'=s.os:=os;exact⟨v,H',I.call (h':=hh) (g':=g) (d':=d) (t':=t) (ch:=[]) un hok bare (fun b z=>absurd z (by simp)),r,q⟩
end
def Ar (sp:Sp)(dvs:List V)(E:XK)(t:TA):TE:=fun σ H Q=>t σ H fun vs H1=>sp (vs++dvs) H1 Q E
def fz (K:W.Frag)(fd:FuncData)(ps:List Str)(ds:List Value):Prop:=
 ∀(s:Shared) (us:List Value),K.In s.heap→(us++ds).length=ps.length→BindsTo s fd ⟨us,[]⟩ (ps.zip (us++ds))
theorem fz.all {K:W.Frag}{fd:FuncData}{ps:List Str}(h:∀us:List Value,us.length=ps.length→bindArgs fd ⟨us,[]⟩=pure (ps.zip us)):fz K fd ps []:=fun s us _ hl=>by
 rw[append_nil] at hl ⊢;exact .of_eq (h us hl)
def ny (CX:qu)(X:Cx)(E:XK):Prop:=∀(af:List (Addr×Obj)) (σ:St) (H:Hp) (s:Shared) (e:Value) (s':Shared),Inv X af σ H s→CX X.stack H s E e s'→X.xe e s'
section
variable {X:Cx}{CX:qu}{k:Nat}{f C:Addr}{fd:FuncData}{ps:List Str}{sp:Sp}{dvs:List V}{ds:List Value}{E:XK}{x m:Str}{p pos apos:Pos}{e o:Expr}{es:List Expr}{ta:TE}{t:TA}
theorem zC {af:List (Addr×Obj)}{σ:St}{H:Hp}{s:Shared}{Q:VK}{us:List Value}{vs:List V}(F:ej X.prog X.w X.K X.mg X.base CX k f fd ps sp)(hr:cq k X.A)(hb:fz X.K fd ps ds)(hd:aD dvs ds)(hx:ny CX X E)
  (I:Inv X af σ H s) (r:aD vs us) (h:sp (vs++dvs) H Q E):wpAny (model X.prog X.w) X.A (call (.ref f) us) (EP X af σ Q) X.xe s:=by
 have r2:aD (vs++dvs) (us++ds):=r.append hd;have hl:(us++ds).length=ps.length:=by rw[←r2.length];exact F.len _ _ _ _ h
 refine wpAny_call (codeAny_mono (F.run X.A X.stack s H ⟨us,[]⟩ (us++ds) (vs++dvs) Q E hr I.env0 (hb s us I.kIn hl) r2 h) fun r s' hq=>?_);cases r with
 | error e=>exact hx af σ H s e s' I hq
 | ok fl=>
  cases fl with
  | ret u=>exact I.after hq
  | next=>exact False.elim hq
  | brk=>exact False.elim hq
  | cont=>exact False.elim hq
theorem uI (F:ej X.prog X.w X.K X.mg X.base CX k f fd ps sp)(hr:cq k X.A)(hg:Gl X x)(hm:X.mg x=some (.ref f))(hk:W.keepIn X.K (.ref f)=true)(hb:fz X.K fd ps ds)(hd:aD dvs ds)(hx:ny CX X E)
  (ha:PA X (e::es) t) (hdb:(x==("__debug__":Str))=false:=by decide) (he:starEach (e::es) X.env=(false,eval e X.env)::starEach es X.env:=by rfl) (hpl:(backTo pos (starEach es X.env)).any (·.1)=false:=by rfl) :
  PE X (.Call (.Name x p) (e::es) [] pos) (Ar sp dvs E t):=by
 intro af s σ H Q I h;refine wpAny_Call_Name_kw (v6 I hg hm ?_ hdb);refine W.callWith_K (h₀:=X.base) I.ok.mod.kin hk (bA (ha pos af s σ H _ I h) fun us s1 ⟨vs,H1,I1,r,q⟩=>⟨I1.kIn,?_⟩) he hpl;exact zC F hr hb hd hx I1 r q
end
structure fM (N P:List Str)(sc:Scope):Prop where
 kind:sc.kind=.function
 co:sc.isCoroutine=false
 gen:sc.isGenerator=false
 nd:N.Nodup
 pre:N.take P.length=P
 par:∀x∈P,sc.names.lookup x=some .local∨sc.names.lookup x=some .cell
 nofree:∀y∈sc.names,y.2≠.free
theorem kq {kindOf:Str→Option NameKind}{x:Str}:∀{binds:List (Str×Value)} {m:Str→Option Value},(∀v,(x,v)∉binds)→bindL kindOf binds m x=m x
 | [],_,_=>rfl
 | (n,v)::r,m,h=>by
  unfold bindL;rw[kq fun w hw=>h w (mem_cons_of_mem _ hw)];split
  ·have:x≠n:=by rintro rfl;exact h v mem_cons_self
   simp[this]
  ·rfl
theorem kL {kindOf:Str→Option NameKind}{x:Str}:∀{binds:List (Str×Value)} {m:Str→Option Value},(∀v,(x,v)∉binds)→bindC kindOf binds m x=m x
 | [],_,_=>rfl
 | (n,v)::r,m,h=>by
  unfold bindC;rw[kL fun w hw=>h w (mem_cons_of_mem _ hw)];split
  ·rfl
  ·have:x≠n:=by rintro rfl;exact h v mem_cons_self
   simp[this]
theorem j4 {kindOf:Str→Option NameKind}{x:Str}{v:Value}:∀{P:List Str} {vs:List Value} {i:Nat} {m:Str→Option Value},P.Nodup→P[i]?=some x→vs[i]?=some v→kindOf x=some .local→
  bindL kindOf (P.zip vs) m x=some v
 | [],_,_,_,_,h,_,_=>by simp at h
 | _::_,[],_,_,_,_,h,_=>by simp at h
 | p::P,w::vs,0,m,nd,h1,h2,hk=>by
  simp at h1 h2;subst h1;subst h2;show bindL kindOf ((p,w)::P.zip vs) m p=_;unfold bindL;rw[kq fun v hv=>(nodup_cons.mp nd).1 (of_mem_zip hv).1,if_pos hk];simp
 | p::P,w::vs,i+1,m,nd,h1,h2,hk=>by
  show bindL kindOf ((p,w)::P.zip vs) m x=_;unfold bindL;exact j4 (i:=i) (nodup_cons.mp nd).2 (by simpa using h1) (by simpa using h2) hk
theorem kK {kindOf:Str→Option NameKind}{x:Str}{v:Value}:∀{P:List Str} {vs:List Value} {i:Nat} {m:Str→Option Value},P.Nodup→P[i]?=some x→vs[i]?=some v→kindOf x≠some .local→
  bindC kindOf (P.zip vs) m x=some v
 | [],_,_,_,_,h,_,_=>by simp at h
 | _::_,[],_,_,_,_,h,_=>by simp at h
 | p::P,w::vs,0,m,nd,h1,h2,hk=>by
  simp at h1 h2;subst h1;subst h2;show bindC kindOf ((p,w)::P.zip vs) m p=_;unfold bindC;rw[kL fun v hv=>(nodup_cons.mp nd).1 (of_mem_zip hv).1,if_neg hk];simp
 | p::P,w::vs,i+1,m,nd,h1,h2,hk=>by
  show bindC kindOf ((p,w)::P.zip vs) m x=_;unfold bindC;exact kK (i:=i) (nodup_cons.mp nd).2 (by simpa using h1) (by simpa using h2) hk
def start (N:List Str)(vs:List V):St:=vs.map some++List.replicate (N.length-vs.length) none
def gZ (CX:qu)(P:Program)(w:World)(K:W.Frag)(mg:Str→Option Value)(base:Heap)(N:List Str)(qual:Str)(scope:Scope)(f:Addr)(cd:Value)(A:Around)(outer:List Env)(s:Shared)(H:Hp)(E:XK):Cx where
 prog:=P
 w:=w
 K:=K
 mg:=mg
 base:=base
 A:=A.deeper (envOfC qual scope s.heap.objs.size f cd)
 N:=N
 s₀:=s
 H₀:=H
 env:=envOfC qual scope s.heap.objs.size f cd
 outer:=outer
 stack:=envOfC qual scope s.heap.objs.size f cd::outer
 ex:=[]
 calm:=true
 fn:=fun _=>true
 pn:=[]
 xe:=fun e s'=>wpAny (model P w) (A.deeper (envOfC qual scope s.heap.objs.size f cd)) (leaving (envOfC qual scope s.heap.objs.size f cd) e) (fun _ s''=>CX outer H s E e s'') (fun e' s''=>CX outer H s E e' s'') s'
theorem mi {sc:Scope}{n:Nat}{x:Str}(h:sc.names.lookup x=some .cell):∃c,(cellsFrom n sc.names []).lookup x=some c:=by
 have q:=W.cellsFrom_some sc.names n [] (.inl h);exact Option.isSome_iff_exists.mp q
theorem pJ {CX:qu}{P:Program}{w:World}{K:W.Frag}{mg:Str→Option Value}{base:Heap}{N ps:List Str}{qual:Str}{scope:Scope}{f:Addr}{cd:Value}{A:Around}{outer:List Env}{s s1:Shared}{H:Hp}{E:XK}{us:List Value}{vs:List V}
  (S:fM N ps scope) (hd:A.handled=none) (e0:uO P w K mg base A outer s H) (hl:vs.length=ps.length) (r:aD vs us)
  (x:InCallC s s.heap.objs.size (bindL (envOfC qual scope s.heap.objs.size f cd).kindOf (ps.zip us) fun _=>none) (cellsFrom (s.heap.objs.size+1) scope.names []) (bindC (envOfC qual scope s.heap.objs.size f cd).kindOf (ps.zip us) fun _=>none) s1) :
  Inv (gZ CX P w K mg base N qual scope f cd A outer s H E) [] (start N vs) H s1:=by
 have hpl:ps.length≤N.length:=by have:=congrArg List.length S.pre;rw[length_take] at this;omega
 obtain⟨h1,tk,rfl,hk⟩:=x.done;have noA:∀b:Addr,b∉(gZ CX P w K mg base N qual scope f cd A outer s H E).ex:=fun b z=>absurd (show b∈([]:List Addr) from z) (by simp)
 refine⟨⟨e0.mod,S.kind,rfl,rfl,Nat.le_refl _,fun y z c h1 h2=>?_,fun y hy=>?_,fun y c _ h=>?_,fun _=>hd,Around.frames_deeper e0.frames,.inr ⟨rfl,rfl⟩,fun b z=>absurd z (noA b),e0.bs,e0.bsz,fun b _ _=>noA b,fun b z=>absurd z (noA b),e0.funs,e0.frf⟩,
  rfl,e0.bare,Un.kept hk,⟨_,x.toInCall.ns,fun i y v h1 h2 h3=>?_⟩,fun y c h=>⟨_,x.cell y c h⟩,e0.hok.fresh (Nat.le_refl _),fun y c h=>?_,fun p hp=>absurd (show p∈([]:List (Addr×Obj)) from hp) (by simp),e0.hok.kept hk,?_⟩
 ·exact name_of_addr x.apart (PySem.mem_of_lookup h1) (PySem.mem_of_lookup h2)
 ·have hy:scope.names.lookup y=some .cell∨scope.names.lookup y=some .free:=hy;rcases hy with hy|hy
  ·exact mi hy
  ·exact absurd rfl (S.nofree _ (PySem.mem_of_lookup hy))
 ·exact Nat.le_of_lt (x.above y c (PySem.mem_of_lookup h))
 ·have hi:i<vs.length:=by
   unfold start at h2
   by_cases hi:i<vs.length
   ·exact hi
   ·rw[getElem?_append_right (by simpa using hi)] at h2;rw[getElem?_replicate] at h2;split at h2 <;> cases h2
  have ha:vs[i]?=some v:=by
   unfold start at h2;rw[getElem?_append_left (by simpa using hi),getElem?_map] at h2;cases e:vs[i]? with
   | none=>rw[e] at h2;cases h2
   | some a=>rw[e] at h2;cases h2;rfl
  obtain⟨u,hu,rv⟩:=r.get ha;have hp:ps[i]?=some y:=by
   rw[←S.pre,getElem?_take_of_lt (by omega)];exact h1
  have ndP:ps.Nodup:=by rw[←S.pre];exact S.nd.sublist (take_sublist _ _)
  refine⟨u,rv,?_⟩;rcases S.par y (mem_of_getElem? hp) with k|k
  ·exact .inl ⟨k,j4 ndP hp hu k⟩
  ·obtain⟨c,e⟩:=mi (n:=s.heap.objs.size+1) k;refine .inr ⟨.inl k,c,e,?_⟩;have q:=x.cell y c e;rw[kK ndP hp hu (by show scope.names.lookup y≠_;rw[k];decide)] at q;exact q
 ·exact e0.hok.fresh (Nat.le_of_lt (x.above y c (PySem.mem_of_lookup h)))
 ·unfold start;show _=N.length;rw[length_append,length_map,length_replicate];omega
theorem zU {CX:qu}{P:Program}{w:World}{K:W.Frag}{mg:Str→Option Value}{base:Heap}{k:Nat}{f:Addr}{name qual:Str}{params:Arguments}{body:List Stmt}{scope:Scope}{dV kV doc pm cdv ct oc:Value}{an od:Option Addr}
  {osl:Array (Option Value)} {N ps:List Str} {sp:Sp} (lk:K.lookup f=some ⟨oc,od,.func (W.fnOf name qual params body scope dV kV doc pm an cdv ct),osl⟩) (hcd:W.codeIn K cdv qual=true) (S:fM N ps scope)
  (len:∀vs H Q E,sp vs H Q E→vs.length=ps.length)
  (hbody:∀(A:Around) (outer:List Env) (s:Shared) (H:Hp) (vs:List V) (Q:VK) (E:XK),cq k (A.deeper (envOfC qual scope s.heap.objs.size f cdv))→sp vs H Q E→
   ∃t,PSs (gZ CX P w K mg base N qual scope f cdv A outer s H E) body t∧t {nx:=fun _ H'=>Q .non H',rt:=Q} (start N vs) H) :
  ej P w K mg base CX (k+1) f (W.fnOf name qual params body scope dV kV doc pm an cdv ct) ps sp:=by
 refine⟨len,fun A outer s H args us vs Q E hr e0 hb r hsp=>?_⟩;have hl:=len _ _ _ _ hsp;have KX:K.In s.heap:=e0.mod.kin.keeps fun b o e=>(e0.bs b o e).1
 have lim:s.heap.NoLimit:=e0.mod.nolimit.keeps fun b o e=>(e0.bs b o e).1
 have hkind:∀y∈ps.zip us,scope.names.lookup y.1=some .local∨(scope.names.lookup y.1=some .cell∧((cellsFrom (s.heap.objs.size+1) scope.names []).lookup y.1).isSome=true):=fun⟨n,v⟩ hy=>by
  rcases S.par n (of_mem_zip hy).1 with q|q
  ·exact .inl q
  ·exact .inr ⟨q,W.cellsFrom_some _ _ _ (.inl q)⟩
 refine codeAny_call_function hr.depth (KX _ _ lk) rfl S.co S.gen rfl (W.codeRec_of KX hcd) (hb _ _ _ _ ?_);refine wpAny_newFunctionEnv_cells S.kind hkind fun env he s1 x=>?_
 subst he;refine⟨lim.keeps x.toInCall.keep,codeAny_func ?_⟩;obtain⟨t,ht,hq⟩:=hbody A outer s H vs Q E (hr.deeper _) hsp;have I:Inv (gZ CX P w K mg base N qual scope f cdv A outer s H E) [] (start N vs) H s1:=pJ S hr.hd e0 hl r x;refine wpAny_mono (ht [] s1 (start N vs) H _ I hq) (fun fl s' hs=>?_) fun e s' hs=>hs
 have fin:∀{σ':St} {H':Hp} {v:V} {u:Value},Inv (gZ CX P w K mg base N qual scope f cdv A outer s H E) [] σ' H' s'→aI v u→Q v H'→CE outer P w H s Q u s':=
  fun {σ' H' v u} J rv q=>⟨v,H',J.os,J.bare,J.base,J.hok,rv,q⟩
 cases fl with
 | ret u=>
  obtain⟨v,σ',H',J,rv,q⟩:=hs;exact fin J rv q
 | next=>
  obtain⟨σ',H',J,q⟩:=hs;exact fin (v:=V.non) (u:=Value.none) J rfl q
 | brk=>
  obtain⟨_,_,_,q⟩:=hs;exact False.elim q
 | cont=>
  obtain⟨_,_,_,q⟩:=hs;exact False.elim q
section
variable {X:Cx}{x:Str}{p pos:Pos}{e:Expr}{es:List Expr}{t:TA}{id T:String}{r:List V→Hp→VK→Prop}
def C0 (r:List V→Hp→VK→Prop)(t:TA):TE:=fun σ H Q=>t σ H fun vs H1=>r vs H1 Q
theorem mZ (hc:bY X (.builtin id) r)(hg:Gl X x)(hm:X.mg x=none)(hv:bootBuiltins x=some (.builtin id))(ha:PA X (e::es) t)(hn:x≠"__name__":=by decide)(hdb:(x==("__debug__":Str))=false:=by decide)
  (he:starEach (e::es) X.env=(false,eval e X.env)::starEach es X.env:=by rfl) (hpl:(backTo pos (starEach es X.env)).any (·.1)=false:=by rfl):PE X (.Call (.Name x p) (e::es) [] pos) (C0 r t):=by
 intro af s σ H Q I h;refine wpAny_Call_Name_kw (jB I hg hm hv ?_ hn hdb);exact PyProof.Rows.callWith_builtin1 (bA (ha pos af s σ H _ I h) fun us s1 ⟨vs,H1,I1,r1,q1⟩=>hc af s1 σ H1 vs us Q I1 r1 q1) he hpl
theorem p3 (hc:bY X (.type T) r)(hg:Gl X x)(hm:X.mg x=none)(hv:bootBuiltins x=some (.type T))(ha:PA X (e::es) t)(hn:x≠"__name__":=by decide)(hdb:(x==("__debug__":Str))=false:=by decide)
  (he:starEach (e::es) X.env=(false,eval e X.env)::starEach es X.env:=by rfl) (hpl:(backTo pos (starEach es X.env)).any (·.1)=false:=by rfl):PE X (.Call (.Name x p) (e::es) [] pos) (C0 r t):=by
 intro af s σ H Q I h;refine wpAny_Call_Name_kw (jB I hg hm hv ?_ hn hdb);exact PyProof.Rows.callWith_type1 (bA (ha pos af s σ H _ I h) fun us s1 ⟨vs,H1,I1,r1,q1⟩=>hc af s1 σ H1 vs us Q I1 r1 q1) he hpl
end
end L2
namespace HT
open PySem PyProof.Rows
def lexLt:List Int→List Int→Bool
 | [],[]=>false
 | [],_::_=>true
 | _::_,[]=>false
 | x::xs,y::ys=>if x=y then lexLt xs ys else decide (x<y)
section
open PySem.SeqAt
open PySem.AutoSeq1 (wpAny_loadPart')
open PySem.MeetsSeq PySem.MeetsSeq2 PySem.MeetsSeq3
end
section
variable {prog:Program}{w:World}{A:Around}{E:Value→Shared→Prop}{s:Shared}
theorem cat_tup {t b:Addr}{vs ws:List Value}{Q:Value→Shared→Prop}(ht:IsTup s.heap t vs.toArray)(hb:IsTup s.heap b ws.toArray)(hv:vs≠[])
  (h1:ws=[]→Q (.ref t) s) (h2:ws≠[]→Q (.ref s.heap.objs.size) {s with heap:=s.heap.push {cls:=.type "tuple",data:=.seq (vs++ws).toArray}})
  (hsz:vs.length+ws.length≤sizeLine):wpAny (model prog w) A (binaryOp .Add (.ref t) (.ref b)) Q E s:=by
 obtain⟨⟨cls,dd,data,sl⟩,ho,hc,n,hd⟩:=id ht;obtain⟨⟨cls2,dd2,data2,sl2⟩,ho2,hc2,n2,hd2⟩:=id hb;simp only at hc hd hc2 hd2;subst hc hd hc2 hd2;have e:vs.toArray++ws.toArray=(vs++ws).toArray:=by simp
 by_cases hw:ws=[]
 ·exact concat_meets ⟨_,ho,rfl⟩ ⟨_,ho2,rfl⟩ noFill_tuple_add seq_tuple_add PySem.F.slot_tuple_add PySem.F.entry_tuple_add (PySem.F.args_tuple_add_2 _ _)
   (tuple_addW1 t b vs.toArray ws.toArray n n2 dd dd2 sl sl2 (by simpa using hv) (by simp[hw])) ⟨ho,ho2,h1 hw⟩
 ·refine concat_meets ⟨_,ho,rfl⟩ ⟨_,ho2,rfl⟩ noFill_tuple_add seq_tuple_add PySem.F.slot_tuple_add PySem.F.entry_tuple_add (PySem.F.args_tuple_add_2 _ _)
   (tuple_addW2 t b vs.toArray ws.toArray n n2 dd dd2 sl sl2 (by simpa using hv) (by simpa using hw) (by rw[List.size_toArray,List.size_toArray];exact hsz)) ⟨ho,ho2,?_⟩
  rw[e];exact h2 hw
def sIx (n d:Nat):Option Int→Nat
 | none=>d
 | some v=>if v<0 then(v+(n:Int)).toNat else min v.toNat n
theorem yc (n d:Nat)(hd:d≤n)(o:Option Int):sIx n d o≤n:=by
 cases o with
 | none=>exact hd
 | some v=>
  show(if v<0 then(v+(n:Int)).toNat else min v.toNat n)≤n
  by_cases hv:v<0
  ·rw[if_pos hv];omega
  ·rw[if_neg hv];exact Nat.min_le_right _ _
theorem n1 (v:Int)(n d:Nat):(if v<0 then max (v+(n:Int)) 0 else min v (n:Int))=((sIx n d (some v):Nat):Int):=by
 show(if v<0 then max (v+(n:Int)) 0 else min v (n:Int))=(((if v<0 then(v+(n:Int)).toNat else min v.toNat n):Nat):Int)
 by_cases hv:v<0
 ·simp only[if_pos hv];omega
 ·simp only[if_neg hv];omega
theorem ni (lo hi:Option Int)(n:Nat):Builtin.Slice.sliceAdjust lo hi 1 (n:Int)=(((sIx n 0 lo:Nat):Int),((sIx n n hi:Nat):Int)):=by
 have h1:¬((1:Int)<0):=by omega
 unfold Builtin.Slice.sliceAdjust;simp only[h1,if_false];refine Prod.ext ?_ ?_
 ·cases lo with
  | none=>rfl
  | some v=>exact n1 v n 0
 ·cases hi with
  | none=>rfl
  | some v=>exact n1 v n n
theorem nC (i j:Nat):Builtin.Slice.slicePlaces (i:Int) (j:Int) 1=j-i:=by
 unfold Builtin.Slice.slicePlaces;have h1:(1:Int)>0:=by omega
 simp only[h1,if_true,Int.ediv_one];split <;> omega
theorem jD {v:Value}{o:Option Int}{Q:Option Int→Shared→Prop}(p:IsPart v o)(h:Q o s):wpAny (model prog w) A (Builtin.Slice.slicePartIndex v) Q E s:=by
 cases p with
 | none=>exact slicePart_none h
 | int i t=>exact slicePart_int h
theorem sliceApplied_gen {sl:Addr}{vl vu:Value}{lo hi:Option Int}{n:Nat}{Q:Int×Int×Nat→Shared→Prop}(hs:s.heap.IsSliceOf sl vl vu .none)(pl:IsPart vl lo)(pu:IsPart vu hi)
  (h:Q (((sIx n 0 lo:Nat):Int),1,sIx n n hi-sIx n 0 lo) s):wpAny (model prog w) A (Builtin.Slice.sliceApplied (.ref sl) (pure (n:Int))) Q E s:=by
 obtain⟨os,hos,hcs,hds⟩:=id hs;unfold Builtin.Slice.sliceApplied Builtin.Slice.sliceFields;refine wpAny_bind (wpAny_bind (wpAny_field hos hds (x:=vl) rfl (wpAny_bind (wpAny_field hos hds (x:=vu) rfl (wpAny_bind (wpAny_field hos hds (x:=.none) rfl (wpAny_pure ?_)))))));refine wpAny_bind (slicePart_none ?_);show wpAny _ _ (if((1:Int)==0)=true then _ else _) _ _ s;rw[if_neg (by decide)];refine wpAny_bind (jD pl (wpAny_bind (jD pu (wpAny_bind (wpAny_pure ?_)))));show wpAny _ _ (match Builtin.Slice.sliceAdjust lo hi 1 (n:Int) with|(lo,hi)=>pure (lo,(1:Int),Builtin.Slice.slicePlaces lo hi 1)) _ _ s;rw[ni lo hi n];show wpAny _ _ (pure (((sIx n 0 lo:Nat):Int),(1:Int),Builtin.Slice.slicePlaces ((sIx n 0 lo:Nat):Int) ((sIx n n hi:Nat):Int) 1)) _ _ s;rw[nC];exact wpAny_pure h
theorem rY (xs:Array Value)(i k:Nat):((List.range k).filterMap fun(m:Nat)=>xs[((i:Int)+(m:Int)*1).toNat]?).toArray=((xs.toList.drop i).take k).toArray:=by
 have e:(fun(m:Nat)=>xs[((i:Int)+(m:Int)*1).toNat]?)=fun m=>xs[i+m]?:=by
  funext m;have:((i:Int)+(m:Int)*1).toNat=i+m:=by omega
  rw[this]
 rw[e];have:=pick_run xs i k;rw[List.filterMap_map] at this;have e2:((fun x=>xs[x]?) ∘ fun x=>i+x)=fun m=>xs[i+m]?:=rfl
 rw[e2] at this;rw[this]
theorem getItem_tuple_cut {t sl:Addr}{items:Array Value}{vl vu:Value}{lo hi:Option Int}{Q:Value→Shared→Prop}(ht:IsTup s.heap t items)(hs:s.heap.IsSliceOf sl vl vu .none)(pl:IsPart vl lo)(pu:IsPart vu hi)
  (hw:¬(sIx items.size 0 lo=0∧sIx items.size items.size hi=items.size))
  (h:Q (.ref s.heap.objs.size) {s with heap:=s.heap.push {cls:=.type "tuple",data:=.seq ((items.toList.drop (sIx items.size 0 lo)).take (sIx items.size items.size hi-sIx items.size 0 lo)).toArray}})
  (hsz:items.size≤sizeLine):wpAny (model prog w) A (getItem (.ref t) (.ref sl)) Q E s:=by
 have htake:sizeOk (.seq ((items.toList.drop (sIx items.size 0 lo)).take (sIx items.size items.size hi-sIx items.size 0 lo)).toArray):=by
  show((items.toList.drop (sIx items.size 0 lo)).take (sIx items.size items.size hi-sIx items.size 0 lo)).toArray.size≤sizeLine;rw[List.size_toArray,List.length_take,List.length_drop,Array.length_toList];omega
 have hj:sIx items.size items.size hi≤items.size:=yc _ _ (Nat.le_refl _) hi;obtain⟨os,hos,hcs,hds⟩:=id hs;have hTs:s.TypeIs (.ref sl) "slice":=⟨os,hos,hcs⟩;unfold getItem
 try with_reducible refine wpAny_holding ?_
 first|refine wpAny_bind (wpAny_pure ?_)|skip
 refine wpAny_bind (wpAny_sequenceKey ht.typeIs (by decide) ?_);refine wpAny_bind (wpAny_callSpecial?_slot (name:=Str.ofString "__getitem__") ht.typeIs PyProof.Rows.slot_tuple_getitem
  (wpAny_call_entry PyProof.Rows.slot_tuple_getitem ht.typeIs entry_tuple_getitem ?_ (args_tuple_getitem _ _)))
 show wpAny _ _ (Builtin.Tuple.tupleItemsOf (.ref t) >>= _) _ _ s;refine wpAny_bind (tupleItemsOf_ ht ?_);refine wpAny_bind (wpAny_typeOf hTs ?_);rw[if_pos (by decide)];refine wpAny_bind (sliceApplied_gen hs pl pu ?_);have hno:¬((((sIx items.size 0 lo:Nat):Int)==0&&(1:Int)==1&&(sIx items.size items.size hi-sIx items.size 0 lo)==items.size)=true):=by
  intro q;rw[Bool.and_eq_true,Bool.and_eq_true] at q;have q1:((sIx items.size 0 lo:Nat):Int)=0:=eq_of_beq q.1.1;have q2:sIx items.size items.size hi-sIx items.size 0 lo=items.size:=eq_of_beq q.2;exact hw ⟨by omega,by omega⟩
 show wpAny _ _ (if(((sIx items.size 0 lo:Nat):Int)==0&&(1:Int)==1&&(sIx items.size items.size hi-sIx items.size 0 lo)==items.size)=true then _ else _) _ _ s;rw[if_neg hno,rY]
 first
  | exact wpAny_bind (m:=Builtin.Tuple.tupleExact _) (wpAny_newObj_type (wpAny_pure ⟨_,rfl,wpAny_pure h⟩) htake)
  | exact wpAny_bind (m:=Builtin.Tuple.tupleExact _) (wpAny_newObj_type (wpAny_bind (wpAny_pure (wpAny_pure ⟨_,rfl,wpAny_pure h⟩))) htake)
  | exact wpAny_bind (wpAny_bind (m:=Builtin.Tuple.tupleExact _) (wpAny_newObj_type (wpAny_pure (wpAny_pure ⟨_,rfl,wpAny_pure h⟩)) htake))
  | exact wpAny_bind (wpAny_bind (m:=Builtin.Tuple.tupleExact _) (wpAny_newObj_type (wpAny_pure ⟨_,rfl,wpAny_pure h⟩) htake))
end
end HT
namespace L2
open PySem PySem.Spec PyProof.Rows List
abbrev TO:=St→Hp→(Option Int→Hp→Prop)→Prop
def PO (X:Cx)(e:Option Expr)(t:TO):Prop:=
 ∀(af:List (Addr×Obj)) (s:Shared) (σ:St) (H:Hp) (Q:Option Int→Hp→Prop),Inv X af σ H s→t σ H Q→
  wpAny (model X.prog X.w) X.A (evalPart e X.env) (fun u s'=>∃o H',Inv X af σ H' s'∧IsPart u o∧Q o H') X.xe s
def vR:TO:=fun _ H Q=>Q none H
def Ax (t:TE):TO:=fun σ H Q=>t σ H fun x H1=>∃i,x=.int i∧Q (some i) H1
section
variable {X:Cx}{e:Expr}{te:TE}{lo hi:Option Expr}{tl th:TO}{pos p2:Pos}
theorem uV:PO X none vR:=by
 intro af s σ H Q I h;rw[evalPart_none];exact wpAny_pure ⟨none,H,I,.none,h⟩
theorem vm (h:PE X e te):PO X (some e) (Ax te):=by
 intro af s σ H Q I hw;rw[evalPart_some];refine bA (h af s σ H _ I hw) fun u s1 hxx=>?_
 obtain⟨x,H1,I1,r1,q1⟩:=hxx;obtain⟨i,rfl,q⟩:=q1;obtain⟨t,rfl⟩:=r1;exact⟨some i,H1,I1,.int i t,q⟩
def B0 (X:Cx)(r:V→Option Int→Option Int→Hp→VK→Prop):Prop:=
 ∀(af:List (Addr×Obj)) (s:Shared) (σ:St) (H:Hp) (x:V) (v vl vu:Value) (lo hi:Option Int) (sl:Addr) (Q:VK),Inv X af σ H s→aI x v→s.heap.IsSliceOf sl vl vu .none→IsPart vl lo→IsPart vu hi→r x lo hi H Q→
  ∃T id,typeLookup (.type T) "__getitem__"=pure (some (.builtin id))∧s.TypeIs v T∧wpAny (model X.prog X.w) X.A (getItem v (.ref sl)) (EP X af σ Q) X.xe s
def DD (r:V→Option Int→Option Int→Hp→VK→Prop)(te:TE)(tl th:TO):TE:=fun σ H Q=>te σ H fun x H1=>tl σ H1 fun l H2=>th σ H2 fun u H3=>r x l u H3 Q
theorem rO {r:V→Option Int→Option Int→Hp→VK→Prop}(hr:B0 X r)(he:PE X e te)(hl:PO X lo tl)(hu:PO X hi th):PE X (.Subscript e (.Slice lo hi none p2) pos) (DD r te tl th):=by
 intro af s σ H Q I h;refine Subscript_ (bA (he af s σ H _ I h) fun v s1 hxx=>?_);obtain⟨x,H1,I1,r1,q1⟩:=hxx;refine wpAny_Slice (bA (hl af s1 σ H1 _ I1 q1) fun vl s2 ⟨l,H2,I2,pl,q2⟩=>bA (hu af s2 σ H2 _ I2 q2) fun vu s3 hxx=>?_);obtain⟨u,H3,I3,pu,q3⟩:=hxx;rw[evalPart_none];refine wpAny_pure ?_;have I4:Inv X af σ H3 {s3 with heap:=s3.heap.push {cls:=.type "slice",data:=.fields #[vl,vu,.none]}}:=I3.kept (t':=s3.toks) fun b ob q=>Heap.get?_push_of_some _ q
 obtain⟨T,id,hT,ht,hg⟩:=hr af {s3 with heap:=s3.heap.push {cls:=.type "slice",data:=.fields #[vl,vu,.none]}} σ H3 x v vl vu l u s3.heap.objs.size Q I4 r1 (Heap.IsSliceOf.new ..) pl pu q3;show wpAny (model X.prog X.w) X.A (subscriptTail e (.Slice lo hi none p2) v (.ref s3.heap.objs.size)) (EP X af σ Q) X.xe {s3 with heap:=s3.heap.push {cls:=.type "slice",data:=.fields #[vl,vu,.none]}};exact tail_any (ops:=[.ref s3.heap.objs.size,v]) ht hT hg (by with_unfolding_all rfl)
def mj (xs:List V)(lo hi:Option Int):List V:=(xs.drop (HT.sIx xs.length 0 lo)).take (HT.sIx xs.length xs.length hi-HT.sIx xs.length 0 lo)
theorem iI (xs:List V)(lo hi:Option Int):(mj xs lo hi).length≤xs.length:=by
 unfold mj;rw[length_take,length_drop];omega
def CU (K:W.Frag):V→Option Int→Option Int→Hp→VK→Prop:=fun x lo hi H Q=>∃a xs,x=.ref a∧io K H a xs∧
 ¬(HT.sIx xs.length 0 lo=0∧HT.sIx xs.length xs.length hi=xs.length)∧∀p,H p=none→Q (.ref p) (bX H p (.tup (mj xs lo hi)))
theorem xS:B0 X (CU X.K):=by
 intro af s σ H x v vl vu lo hi sl Q I rx hs pl pu h;obtain⟨a,xs,rfl,hx,hw,q⟩:=h;cases rx;obtain⟨its,r,ht,hz⟩:=I.tuple hx;have hlen:its.toArray.size=xs.length:=by rw[size_toArray];exact r.length.symm
 refine⟨"tuple",_,PyProof.Rows.slot_tuple_getitem.lookup,ht.typeIs,?_⟩;refine HT.getItem_tuple_cut ht hs pl pu (by rw[hlen];exact hw) ?_ (by rw[hlen];exact hz);rw[hlen];refine⟨.ref s.heap.objs.size,_,I.laid (t':=s.toks) (o:=.tup (mj xs lo hi)) (fun b ob q=>Heap.get?_push_of_some _ q) (Nat.le_refl _) ?_,rfl,q _ (I.hok.fresh (Nat.le_refl _))⟩;exact⟨Nat.le_trans (iI xs lo hi) hz,_,(r.drop (HT.sIx xs.length 0 lo)).take (HT.sIx xs.length xs.length hi-HT.sIx xs.length 0 lo),IsTup.new _ _⟩
def Ay (K:W.Frag):R2:=fun x y H Q=>∃a b xs ys,x=.ref a∧y=.ref b∧io K H a xs∧io K H b ys∧xs≠[]∧xs.length+ys.length≤sizeLine∧
 (ys=[]→Q (.ref a) H)∧(ys≠[]→∀p,H p=none→Q (.ref p) (bX H p (.tup (xs++ys))))
theorem aD.nil_iff {xs:List V}{us:List Value}(r:aD xs us):us=[]↔xs=[]:=by
 cases r with
 | nil=>simp
 | cons _ _=>simp
theorem uN:dO X (binaryOp .Add) (Ay X.K):=by
 intro af s σ H x y v u Q I rx ry h;obtain⟨a,b,xs,ys,rfl,rfl,ha,hb,hx,hz,q1,q2⟩:=h;cases rx;cases ry;obtain⟨its,r1,p1,_⟩:=I.tuple ha;obtain⟨its2,r2,p2,_⟩:=I.tuple hb;refine HT.cat_tup p1 p2 (fun z=>hx (r1.nil_iff.mp z)) (fun z=>⟨.ref a,H,I,rfl,q1 (r2.nil_iff.mp z)⟩) (fun z=>?_) (by rw[←r1.length,←r2.length];exact hz);refine⟨.ref s.heap.objs.size,_,I.laid (t':=s.toks) (o:=.tup (xs++ys)) (fun b ob q=>Heap.get?_push_of_some _ q) (Nat.le_refl _) ?_,rfl,q2 (fun w=>z (r2.nil_iff.mpr w)) _ (I.hok.fresh (Nat.le_refl _))⟩;exact⟨by rw[length_append];exact hz,_,r1.append r2,IsTup.new _ _⟩
end
def tV (n:Nat)(i:Int):Option Nat:=if 0≤i then(if i<n then some i.toNat else none) else if -(n:Int)≤i then some (i+n).toNat else none
def j5 {α:Type}(xs:List α)(i:Int):Option α:=(tV xs.length i).bind fun j=>xs[j]?
theorem ol {n:Nat}{i:Int}{j:Nat}(h:tV n i=some j):seqIndex? i n=some j∧j<n∧-(n:Int)≤i∧i<n:=by
 unfold tV at h
 by_cases h0:0≤i
 ·rw[if_pos h0] at h
  by_cases h1:i<n
  ·rw[if_pos h1] at h;have e:i.toNat=j:=Option.some.inj h;exact⟨by rw[seqIndex_of h0 h1,e],by omega,by omega,h1⟩
  ·rw[if_neg h1] at h;cases h
 ·rw[if_neg h0] at h
  by_cases h1:-(n:Int)≤i
  ·rw[if_pos h1] at h;have e:(i+n).toNat=j:=Option.some.inj h;exact⟨by rw[seqIndex_neg (by omega) h1,e],by omega,h1,by omega⟩
  ·rw[if_neg h1] at h;cases h
theorem n5 {α:Type}{xs:List α}{i:Int}{v:α}(h:j5 xs i=some v):∃j,seqIndex? i xs.length=some j∧xs[j]?=some v∧j<xs.length∧-(xs.length:Int)≤i∧i<xs.length:=by
 unfold j5 at h;cases e:tV xs.length i with
 | none=>rw[e] at h;cases h
 | some j=>
  rw[e] at h;obtain⟨h1,h2,h3,h4⟩:=ol e;exact⟨j,h1,h,h2,h3,h4⟩
theorem lK {α:Type}{xs:List α}{j:Nat}{v:α}(h:xs[j]?=some v):j5 xs (j:Int)=some v:=by
 have hj:j<xs.length:=(List.getElem?_eq_some_iff.mp h).1;have e:tV xs.length (j:Int)=some j:=by
  unfold tV;rw[if_pos (by omega),if_pos (by omega)];simp
 unfold j5;rw[e];exact h
def lA (b:Expr):Prop:=∀o i,subscripted b false o i=operate [o,i] (getItem o i)
def BS (X:Cx)(r:R2):Prop:=
 ∀(value slice:Expr) (af:List (Addr×Obj)) (s:Shared) (σ:St) (H:Hp) (x y:V) (v u:Value) (Q:VK),Inv X af σ H s→aI x v→aI y u→r x y H Q→
  subscripted slice false v u=operate [v,u] (getItem v u)→wpAny (model X.prog X.w) X.A (subscriptTail value slice v u) (EP X af σ Q) X.xe s
def Dv (X:Cx)(id:String)(r:V→List V→Hp→VK→Prop):Prop:=
 ∀(af:List (Addr×Obj)) (s:Shared) (σ:St) (H:Hp) (x:V) (xs:List V) (v:Value) (us:List Value) (Q:VK),Inv X af σ H s→aI x v→aD xs us→r x xs H Q→
  wpAny (model X.prog X.w) X.A (call (.builtin id) (v::us)) (EP X af σ Q) X.xe s
section
variable {X:Cx}{a b:Expr}{ta tb:TE}{pos:Pos}
theorem AM {r:R2}(hr:BS X r)(ha:PE X a ta)(hb:PE X b tb)(hs:lA b):PE X (.Subscript a b pos) (Ae r ta tb):=by
 intro af s σ H Q I h;exact Subscript_ (yY ha hb I h fun v u s2 x y H2 I2 rx ry q=>hr a b af s2 σ H2 x y v u Q I2 rx ry q (hs _ _))
def CN (K:W.Frag):R2:=fun x y H Q=>∃p xs i v,x=.ref p∧y=.int i∧iJ K H p xs∧j5 xs i=some v∧Q v H
def Cc (K:W.Frag):R2:=fun x y H Q=>∃p xs i v,x=.ref p∧y=.int i∧io K H p xs∧j5 xs i=some v∧Q v H
theorem u6:BS X (CN X.K):=by
 intro value slice af s σ H x y v u Q I rx ry h hs;obtain⟨p,xs,i,z,rfl,rfl,hq,he,q⟩:=h;cases rx;obtain⟨t,rfl⟩:=ry;obtain⟨its,r,pl,hz⟩:=I.list hq;obtain⟨j,h1,h2,h3,h4,h5⟩:=n5 he;obtain⟨w,ew,rw'⟩:=r.get h2;have hl:=r.length;have hn:=gD;have fin:EP X af σ Q w s:=⟨z,H,I,rw',q⟩
 by_cases h0:0≤i
 ·have hj:i.toNat=j:=by
   rw[seqIndex_of h0 h5] at h1;exact Option.some.inj h1
  exact item_listR pl.isList h0 (by omega) (by rw[hj];simpa using ew) fin hs
 ·have hj:(i+(its.toArray.size:Int)).toNat=j:=by
   rw[seqIndex_neg (by omega) h4] at h1;rw[size_toArray,←hl];exact Option.some.inj h1
  exact subscriptTail_builtinR (x:=w) pl.isList.typeIs slot_list_getitem.lookup
   (wpAny_getItem_list_neg (Q:=fun r s'=>r=w∧EP X af σ Q r s') pl.isList (by omega) (by rw[size_toArray] <;> omega) (by omega) (by rw[hj];simpa using ew) ⟨rfl,fin⟩) hs
theorem yw:BS X (Cc X.K):=by
 intro value slice af s σ H x y v u Q I rx ry h hs;obtain⟨p,xs,i,z,rfl,rfl,hq,he,q⟩:=h;cases rx;obtain⟨t,rfl⟩:=ry;obtain⟨its,r,pl,hz⟩:=I.tuple hq;obtain⟨j,h1,h2,h3,h4,h5⟩:=n5 he;obtain⟨w,ew,rw'⟩:=r.get h2;have hl:=r.length;have hn:=gD;have fin:EP X af σ Q w s:=⟨z,H,I,rw',q⟩;exact subscriptTail_builtinR (x:=w) pl.typeIs slot_tuple_getitem.lookup
  (getItem_tuple (j:=j) (Q:=fun r s'=>r=w∧EP X af σ Q r s') pl (by omega) (by omega) (by rw[size_toArray,←hl];exact h1) (by simpa using ew) ⟨rfl,fin⟩) hs
theorem ng (its:List Value)(n j:Nat)(u:Value):Obj.mapSeq (·.setIfInBounds j u) {cls:=.type "list",data:=.seq its.toArray n}={cls:=.type "list",data:=.seq (its.set j u).toArray n}:=by
 simp[Obj.mapSeq]
theorem Inv.lst {af:List (Addr×Obj)}{σ:St}{H:Hp}{s:Shared}{p:Addr}{xs:List V}(I:Inv X af σ H s)(h:H p=some (.lst xs)) :
  ∃(its:List Value) (n:Nat),aD xs its∧s.heap.get? p=some {cls:=.type "list",data:=.seq its.toArray n}∧xs.length≤sizeLine:=by
 obtain⟨z,its,n,r,e⟩:=I.hok p _ h;exact⟨its,n,r,e,z⟩
theorem Inv.lstUpd {af:List (Addr×Obj)}{σ:St}{H:Hp}{s:Shared}{p:Addr}{xs ys:List V}{its its':List Value}{n n':Nat}{f:Obj→Obj}(I:Inv X af σ H s)(h:H p=some (.lst xs))
  (ho:s.heap.get? p=some {cls:=.type "list",data:=.seq its.toArray n}) (hf:f {cls:=.type "list",data:=.seq its.toArray n}={cls:=.type "list",data:=.seq its'.toArray n'}) (r:aD ys its') (hz:ys.length≤sizeLine) (t:Nat) :
  Inv X af σ (bX H p (.lst ys)) {s with heap:=s.heap.update p f,toks:=t}:=by
 have e:(s.heap.update p f).get? p=some {cls:=.type "list",data:=.seq its'.toArray n'}:=by
  rw[Heap.get?_update_self f ho (by rw[hf] <;> rfl),hf]
 refine I.write (x:=p) (e:=p) (by rw[h];trivial) (.inl rfl) (fun b u hb q=>(Heap.get?_update_other _ _ (Ne.symm hb)).trans q) ⟨_,e⟩ ?_;exact⟨hz,its',n',r,e⟩
def z9:V→V→V→Hp→(Hp→Prop)→Prop:=fun o i v H Q=>∃p xs k j,o=.ref p∧i=.int k∧H p=some (.lst xs)∧tV xs.length k=some j∧Q (bX H p (.lst (xs.set j v)))
theorem tu:Br X z9:=by
 intro af s σ H o i v ov iv u Q I ro ri rv h;obtain⟨p,xs,k,j,rfl,rfl,hp,hj,q⟩:=h;cases ro;obtain⟨t,rfl⟩:=ri;obtain⟨its,n,r,ho,hz⟩:=I.lst hp;obtain⟨h1,h2,h3,h4⟩:=ol hj;have hl:=r.length;have hn:=gD;have I':Inv X af σ (bX H p (.lst (xs.set j v))) {s with heap:=s.heap.update p (Obj.mapSeq (·.setIfInBounds j u))}:=
  I.lstUpd hp ho (ng its n j u) (r.set rv j) (by rw[length_set];exact hz) s.toks
 by_cases h0:0≤k
 ·have hk:k.toNat=j:=by
   rw[seqIndex_of h0 h4] at h1;exact Option.some.inj h1
  exact W.ki_setAt ho h0 (by omega) (by rw[size_toArray,←hl];exact h4) (by rw[hk];exact⟨_,I',q⟩)
 ·have hk:(k+(its.toArray.size:Int)).toNat=j:=by
   rw[seqIndex_neg (by omega) h3] at h1;rw[size_toArray,←hl];exact Option.some.inj h1
  exact W.ki_setBack ho (by omega) (by rw[size_toArray,←hl];exact h3) (by omega) (by rw[hk];exact⟨_,I',q⟩)
theorem lF (lo hi:Option Int)(n:Nat):(sliceBounds lo hi none n).1=((HT.sIx n 0 lo:Nat):Int)∧(sliceBounds lo hi none n).2.1=((HT.sIx n n hi:Nat):Int)∧(sliceBounds lo hi none n).2.2=1:=by
 refine⟨?_,?_,rfl⟩
 ·cases lo with
  | none=>simp[sliceBounds,HT.sIx]
  | some i=>
   simp only[sliceBounds,HT.sIx,Option.getD_none,show(1:Int)>0 by decide,if_true]
   by_cases h:i<0
   ·simp only[h,if_true] <;> omega
   ·simp only[h,if_false] <;> omega
 ·cases hi with
  | none=>simp[sliceBounds,HT.sIx]
  | some i=>
   simp only[sliceBounds,HT.sIx,Option.getD_none,show(1:Int)>0 by decide,if_true]
   by_cases h:i<0
   ·simp only[h,if_true] <;> omega
   ·simp only[h,if_false] <;> omega
theorem jL (its:List Value)(lo hi:Option Int):slicePick its.toArray lo hi none=((its.drop (HT.sIx its.length 0 lo)).take (HT.sIx its.length its.length hi-HT.sIx its.length 0 lo)).toArray:=by
 obtain⟨h1,h2,h3⟩:=lF lo hi its.toArray.size;unfold slicePick;rw[h1,h2,h3];simp only[sliceRange_one,pick_run,size_toArray] <;> rfl
def CD (K:W.Frag):V→Option Int→Option Int→Hp→VK→Prop:=fun x lo hi H Q=>∃a xs,x=.ref a∧iJ K H a xs∧∀p,H p=none→Q (.ref p) (bX H p (.lst (mj xs lo hi)))
theorem kX:B0 X (CD X.K):=by
 intro af s σ H x v vl vu lo hi sl Q I rx hs pl pu h;obtain⟨a,xs,rfl,hx,q⟩:=h;cases rx;obtain⟨its,r,ht,hz⟩:=I.list hx;have hlen:=r.length;refine⟨"list",_,slot_list_getitem.lookup,ht.isList.typeIs,?_⟩;refine wpAny_getItem_list_slice ht.isList hs pl pu .none (by simp) ?_ (by rw[size_toArray] <;> omega);rw[jL,←hlen];refine⟨.ref s.heap.objs.size,_,I.laid (t':=s.toks) (o:=.lst (mj xs lo hi)) (fun b ob q=>Heap.get?_push_of_some _ q) (Nat.le_refl _) ?_,rfl,q _ (I.hok.fresh (Nat.le_refl _))⟩;exact⟨Nat.le_trans (iI xs lo hi) hz,_,0,(r.drop (HT.sIx xs.length 0 lo)).take (HT.sIx xs.length xs.length hi-HT.sIx xs.length 0 lo),Heap.get?_push_size _ rfl⟩
def gj:V→Bool
 | .non=>true
 | .bl _=>true
 | .int _=>true
 | .str _=>true
 | _=>false
def uG:V→V→Bool
 | .non,.non=>true
 | .bl a,.bl b=>a==b
 | .bl a,.int b=>(if a then 1 else 0)==b
 | .int a,.bl b=>a==(if b then 1 else 0)
 | .int a,.int b=>a==b
 | .str a,.str b=>a==b
 | _,_=>false
theorem x8 {A:Around}{s:Shared}{y x:V}{u v:Value}(ry:aI y u)(rx:aI x v)(fy:gj y=true)(fx:gj x=true):SeqAt.EqAt A s u v (uG y x):=by
 cases y with
 | non=>
  cases ry;cases x with
  | non=>cases rx;exact SeqAt.EqAt.same _
  | bl b=>cases rx;exact SeqAt.EqAt.none_bool b
  | int b=>obtain⟨t,rfl⟩:=rx;exact SeqAt.EqAt.none_int b t
  | str b=>obtain⟨t,rfl⟩:=rx;exact SeqAt.EqAt.none_str b t
  | _=>exact absurd (show false=true from fx) Bool.false_ne_true
 | bl a=>
  cases ry;cases x with
  | non=>cases rx;exact SeqAt.EqAt.bool_none a
  | bl b=>cases rx;exact SeqAt.EqAt.bool_bool a b
  | int b=>obtain⟨t,rfl⟩:=rx;exact SeqAt.EqAt.bool_int a b t
  | str b=>obtain⟨t,rfl⟩:=rx;exact SeqAt.EqAt.bool_str a b t
  | _=>exact absurd (show false=true from fx) Bool.false_ne_true
 | int a=>
  obtain⟨t',rfl⟩:=ry;cases x with
  | non=>cases rx;exact SeqAt.EqAt.int_none a t'
  | bl b=>cases rx;exact SeqAt.EqAt.int_bool a t' b
  | int b=>obtain⟨t,rfl⟩:=rx;exact SeqAt.EqAt.int_int a t' b t
  | str b=>obtain⟨t,rfl⟩:=rx;exact SeqAt.EqAt.int_str a t' b t
  | _=>exact absurd (show false=true from fx) Bool.false_ne_true
 | str a=>
  obtain⟨t',rfl⟩:=ry;cases x with
  | non=>cases rx;exact SeqAt.EqAt.str_none a t'
  | bl b=>cases rx;exact SeqAt.EqAt.str_bool a t' b
  | int b=>obtain⟨t,rfl⟩:=rx;exact SeqAt.EqAt.str_int a t' b t
  | str b=>obtain⟨t,rfl⟩:=rx;exact SeqAt.EqAt.str_str a t' b t
  | _=>exact absurd (show false=true from fx) Bool.false_ne_true
 | _=>exact absurd (show false=true from fy) Bool.false_ne_true
def vJ (x:V)(u:Value):Bool:=match u with
 | .none=>uG .non x
 | .bool b=>uG (.bl b) x
 | .int i _=>uG (.int i) x
 | .str z _=>uG (.str z) x
 | _=>false
theorem rg {x y:V}{u:Value}(r:aI y u)(f:gj y=true):vJ x u=uG y x:=by
 cases y with
 | non=>cases r;rfl
 | bl b=>cases r;rfl
 | int i=>obtain⟨t,rfl⟩:=r;rfl
 | str z=>obtain⟨t,rfl⟩:=r;rfl
 | _=>exact absurd (show false=true from f) Bool.false_ne_true
theorem ll {x:V}:∀{xs:List V} {us:List Value},aD xs us→xs.all gj=true→us.any (vJ x)=xs.any fun y=>uG y x
 | _,_,.nil,_=>rfl
 | y::xs,u::us,.cons r t,f=>by
  rw[all_cons,Bool.and_eq_true] at f;rw[any_cons,any_cons,rg r f.1,ll t f.2]
theorem jg {A:Around}{s:Shared}{x:V}{v:Value}(rx:aI x v)(fx:gj x=true):∀{xs:List V} {us:List Value},aD xs us→xs.all gj=true→∀u∈us,SeqAt.EqAt A s u v (vJ x u)
 | _,_,.nil,_=>fun u hu=>by cases hu
 | y::xs,u::us,.cons r t,f=>fun u' hu=>by
  rw[all_cons,Bool.and_eq_true] at f;rcases mem_cons.mp hu with rfl|hu
  ·rw[rg r f.1];exact x8 r rx f.1 fx
  ·exact jg rx fx t f.2 u' hu
def B1 (x:V)(xs:List V):Bool:=xs.any fun y=>uG y x
def DA (K:W.Frag)(neg:Bool):R2:=fun x y H Q=>∃p xs,y=.ref p∧(iJ K H p xs∨io K H p xs)∧gj x=true∧xs.all gj=true∧Q (.bl (if neg then !B1 x xs else B1 x xs)) H
theorem p6:dO X (compareOp .In) (DA X.K false):=by
 intro af s σ H x y v u Q I rx ry h;obtain⟨p,xs,rfl,hq,fx,fs,q⟩:=h;cases ry;rcases hq with hq|hq
 ·obtain⟨its,r,pl,hz⟩:=I.list hq;refine SeqAt.in_listAt (vJ x) pl.isList (fun w hw=>jg rx fx r fs w (by simpa using hw)) ⟨.bl _,H,I,rfl,?_⟩;rw[show its.toArray.any (vJ x)=its.any (vJ x) by simp,ll r fs];exact q
 ·obtain⟨its,r,pl,hz⟩:=I.tuple hq;refine SeqAt.in_tupleAt (vJ x) pl (fun w hw=>jg rx fx r fs w (by simpa using hw)) ⟨.bl _,H,I,rfl,?_⟩;rw[show its.toArray.any (vJ x)=its.any (vJ x) by simp,ll r fs];exact q
theorem k7:bY X (.builtin "len") (fun xs H Q=>∃p ys,xs=[.ref p]∧(iJ X.K H p ys∨io X.K H p ys)∧Q (.int ys.length) H):=by
 intro af s σ H xs us Q I r h;obtain⟨p,ys,rfl,hq,q⟩:=h;obtain⟨u,rfl,rx⟩:=j9 r;cases rx;have hn:=gD;rcases hq with hq|hq
 ·obtain⟨its,r',pl,hz⟩:=I.list hq;have hlen:=r'.length;exact Calls.call_len_list pl.isList (by simp only[size_toArray] <;> omega) ⟨.int ys.length,H,I.tok _,⟨s.toks+1,by rw[size_toArray,hlen]⟩,q⟩
 ·obtain⟨its,r',pl,hz⟩:=I.tuple hq;have hlen:=r'.length;exact len_tuple pl (by simp only[size_toArray] <;> omega) ⟨.int ys.length,H,I.tok _,⟨s.toks+1,by rw[size_toArray,hlen]⟩,q⟩
theorem k8:bY X (.builtin "len") (fun xs H Q=>∃z,xs=[.str z]∧z.length≤sizeLine∧Q (.int z.length) H):=by
 intro af s σ H xs us Q I r h;obtain⟨z,rfl,hz,q⟩:=h;obtain⟨u,rfl,t,rfl⟩:=j9 r;have hn:=gD;exact len_str (by omega) ⟨.int z.length,H,I.tok _,⟨_,rfl⟩,q⟩
theorem lV:bY X (.type "list") (fun xs H Q=>∃p ys,xs=[.ref p]∧(iJ X.K H p ys∨io X.K H p ys)∧∀l,H l=none→Q (.ref l) (bX H l (.lst ys))):=by
 intro af s σ H xs us Q I r h;obtain⟨p,ys,rfl,hq,q⟩:=h;obtain⟨u,rfl,rx⟩:=j9 r;cases rx;have fin:∀(its:List Value),aD ys its→ys.length≤sizeLine→∀(h':Heap) (c':Nat),(∀b o',s.heap.get? b=some o'→h'.get? b=some o')→
   h'.get? s.heap.objs.size=some {cls:=.type "list",dict:=none,data:=.seq its.toArray c',slots:=#[]}→EP X af σ Q (.ref s.heap.objs.size) {s with heap:=h'}:=fun its r' hz h' c' kp e=>
  ⟨.ref s.heap.objs.size,_,I.laid (t':=s.toks) kp (Nat.le_refl _) (show bH X.prog X.w _ h' _ (.lst ys) from⟨hz,its,c',r',e⟩),rfl,q _ (I.hok.fresh (Nat.le_refl _))⟩
 rcases hq with hq|hq
 ·obtain⟨its,r',pl,hz⟩:=I.list hq;have hlen:=r'.length;obtain⟨o,ho,hc,n,hd⟩:=pl.isList;exact call_list_seq p (.inl rfl) ho hc hd (fun h' c' kp e=>fin its r' hz h' c' kp e) (by simp only[size_toArray] <;> omega)
 ·obtain⟨its,r',pl,hz⟩:=I.tuple hq;have hlen:=r'.length;obtain⟨o,ho,hc,n,hd⟩:=pl;exact call_list_seq p (.inr rfl) ho hc hd (fun h' c' kp e=>fin its r' hz h' c' kp e) (by simp only[size_toArray] <;> omega)
theorem c8:bY X (.type "tuple") (fun xs H Q=>∃p ys,xs=[.ref p]∧((iJ X.K H p ys∧∀l,H l=none→Q (.ref l) (bX H l (.tup ys)))∨(io X.K H p ys∧Q (.ref p) H))):=by
 intro af s σ H xs us Q I r h;obtain⟨p,ys,rfl,h⟩:=h;obtain⟨u,rfl,rx⟩:=j9 r;cases rx;rcases h with⟨hq,q⟩|⟨hq,q⟩
 ·obtain⟨its,r',pl,hz⟩:=I.list hq;have hlen:=r'.length;refine call_tuple_list pl.isList (fun h' kp=>?_) (by simp only[size_toArray] <;> omega);have I1:Inv X af σ H {s with heap:=h'}:=I.kept (t':=s.toks) kp;have I2:Inv X af σ (bX H h'.objs.size (.tup ys)) {s with heap:=h'.push {cls:=.type "tuple",data:=.seq its.toArray}}:=
   I1.laid (t':=s.toks) (fun b o e=>Heap.get?_push_of_some _ e) (Nat.le_refl _) (show bH X.prog X.w _ _ _ (.tup ys) from⟨hz,its,r',IsTup.new _ _⟩)
  exact⟨.ref h'.objs.size,_,I2,rfl,q _ (I1.hok.fresh (Nat.le_refl _))⟩
 ·obtain⟨its,r',pl,hz⟩:=I.tuple hq;exact call_tuple_same pl ⟨.ref p,H,I,rfl,q⟩
def Du (K:W.Frag)(T:String)(x:V)(H:Hp):Prop:=match x with
 | .str _=>T="str"
 | .int _=>T="int"
 | .ref p=>(T="list"∧∃xs,iJ K H p xs)∨(T="tuple"∧∃o,K.lookup p=some o∧o.cls=.type "tuple"∧o.dict=none)∨
   (T="dict"∧((∃kvs,H p=some (.dK kvs))∨∃kvs,H p=some (.dT kvs)))∨(T="set"∧∃S n,H p=some (.set S n))
 | _=>False
theorem xJ {af:List (Addr×Obj)}{σ:St}{H:Hp}{s:Shared}{T:String}{x:V}{v:Value}(I:Inv X af σ H s)(r:aI x v)(ty:Du X.K T x H) :
  s.TypeIs v T∧∀a,v=.ref a→∃ob,s.heap.get? a=some ob∧ob.dict=none:=by
 cases x with
 | str z=>
  obtain⟨t,rfl⟩:=r;cases (show T="str" from ty);exact⟨typeIs_str s z t,fun _ e=>nomatch e⟩
 | int i=>
  obtain⟨t,rfl⟩:=r;cases (show T="int" from ty);exact⟨typeIs_int s i t,fun _ e=>nomatch e⟩
 | ref p=>
  cases r;rcases ty with⟨rfl,xs,hq⟩|⟨rfl,o,hk,hc,hd⟩|⟨rfl,hk⟩|⟨rfl,S,n,hk⟩
  ·obtain⟨its,_,pl,_⟩:=I.list hq;refine⟨pl.isList.typeIs,fun a e=>?_⟩;cases e;obtain⟨o,n,e,c,hd,_⟩:=pl;exact⟨o,e,hd⟩
  ·refine⟨⟨o,I.kIn p o hk,hc⟩,fun a e=>?_⟩;cases e;exact⟨o,I.kIn _ o hk,hd⟩
  ·have z:∃o,s.heap.get? p=some o∧o.ExactDict:=by
    rcases hk with⟨kvs,hk⟩|⟨kvs,hk⟩
    ·obtain⟨_,_,_,_,o,_,_,e,ex,_⟩:=I.hok p _ hk;exact⟨o,e,ex⟩
    ·obtain⟨_,_,_,_,o,_,_,e,ex,_⟩:=I.hok p _ hk;exact⟨o,e,ex⟩
   obtain⟨o,e,ex⟩:=z;refine⟨⟨o,e,ex.1⟩,fun a e2=>?_⟩;cases e2;exact⟨o,e,ex.2.1⟩
  ·obtain⟨o,_,_,_,e,ex,_⟩:=I.hok p _ hk;refine⟨⟨o,e,ex.1⟩,fun a e2=>?_⟩;cases e2;exact⟨o,e,ex.2.1⟩
 | _=>exact False.elim ty
def Dq (K:W.Frag)(T:String)(r:V→List V→Hp→VK→Prop)(to:TE)(t:TA):TE:=fun σ H Q=>to σ H fun x H1=>Du K T x H1∧t σ H1 fun xs H2=>r x xs H2 Q
variable {o e:Expr}{es:List Expr}{to:TE}{t:TA}{name:Str}{apos cpos:Pos}{T id:String}{r:V→List V→Hp→VK→Prop}
theorem wH (pa:PlainAttrs T)(slot:Slot T name id)(hty:typeOf (.builtin id)=pure (.type "method_descriptor"))(hm:Dv X id r)(ho:PE X o to)(ha:PA X (e::es) t)
  (hbase:attributeBase o name X.env (eval o X.env)=eval o X.env:=by rfl)
  (hfew:((backTo cpos (starEach (e::es) X.env)).all (fun x=>!x.1)&&(backToKw cpos (keywordEach [] X.env)).all (fun x=>x.1.isSome)
   && decide ((e::es).length+([]:List Keyword).length+(if([]:List Keyword).isEmpty then 0 else 1)<30))=true:=by rfl)
  (hline:(apos.endLine==cpos.line)=true:=by rfl) (hs:starEach (e::es) X.env=(false,eval e X.env)::starEach es X.env:=by rfl) (hplain:(backTo cpos (starEach es X.env)).any (·.1)=false:=by rfl) :
  PE X (.Call (.Attribute o name apos) (e::es) [] cpos) (Dq X.K T r to t):=by
 intro af s σ H Q I h;refine wpAny_Call_method_late hbase hfew hline rfl (bA (ho af s σ H _ I h) fun v s1 hxx=>?_);obtain⟨x,H1,I1,r1,ty,q1⟩:=hxx;obtain⟨h1,h2⟩:=xJ I1 r1 ty;refine⟨T,id,pa,slot,hty,h1,h2,?_⟩;have hA:=ha cpos af s1 σ H1 _ I1 q1;rw[hs] at hA ⊢;refine Calls.callWith_builtin (by show(false||(backTo cpos (starEach es X.env)).any (·.1))=false;rw[hplain] <;> rfl) (Calls.evalArgs_plain ?_);exact bA hA fun us s2 ⟨vs,H2,I2,r2,q2⟩=>hm af s2 σ H2 x vs v us Q I2 r1 r2 q2
end
def DF (X:Cx)(id:String)(r:V→List V→Hp→VK→Prop):Prop:=
 ∀(af:List (Addr×Obj)) (s:Shared) (σ:St) (H:Hp) (x:V) (xs:List V) (v:Value) (us:List Value) (Q:VK),Inv X af σ H s→aI x v→aD xs us→r x xs H Q→
  wpAny (model X.prog X.w) X.A (call (.builtin id) (v::us)) (EP X af σ Q) X.xe s
theorem aD.one:∀{x:V} {us:List Value},aD [x] us→∃u,us=[u]∧aI x u
 | _,_,.cons r .nil=>⟨_,rfl,r⟩
section
variable {X:Cx}{af:List (Addr×Obj)}{σ:St}{H:Hp}{s:Shared}{l b:Addr}{xs ys zs:List V}
theorem Inv.lset {its its':List Value}{n:Nat}{f:Array Value→Array Value}{t':Nat}(I:Inv X af σ H s)(hH:H l=some (.lst xs))
  (e:s.heap.get? l=some {cls:=.type "list",data:=.seq its.toArray n}) (hf:f its.toArray=its'.toArray) (hv:aD ys its') (hz:ys.length≤sizeLine) :
  Inv X af σ (bX H l (.lst ys)) {s with heap:=s.heap.update l (Obj.mapSeq f),toks:=t'}:=by
 have q:=PySem.IsL.update e f;rw[hf] at q;refine I.write (x:=l) (e:=l) (by rw[hH];exact trivial) (.inl rfl) (fun b' u hb hu=>(Heap.get?_update_other s.heap (Obj.mapSeq f) (Ne.symm hb)).trans hu) ⟨_,q⟩ ?_;exact⟨hz,its',_,hv,q⟩
theorem Inv.lnew {its:List Value}{t':Nat}(I:Inv X af σ H s)(hv:aD ys its)(hz:ys.length≤sizeLine) :
  Inv X af σ (bX H s.heap.objs.size (.lst ys)) {s with heap:=s.heap.push {cls:=.type "list",data:=.seq its.toArray},toks:=t'}:=
 I.laid (fun _ _ q=>Heap.get?_push_of_some _ q) (Nat.le_refl _) ⟨hz,its,0,hv,Heap.get?_push_size _ rfl⟩
theorem Inv.fresh (I:Inv X af σ H s):H s.heap.objs.size=none:=I.hok.fresh (Nat.le_refl _)
theorem Inv.lstM (I:Inv X af σ H s)(hH:H l=some (.lst xs)):xs.length≤sizeLine∧∃(its:List Value) (n:Nat),aD xs its∧xs.length=its.length∧s.heap.get? l=some {cls:=.type "list",data:=.seq its.toArray n}:=by
 obtain⟨z,its,n,r,e⟩:=I.hok l _ hH;exact⟨z,its,n,r,r.length,e⟩
end
section
variable {X:Cx}
def vh:V→List V→Hp→VK→Prop:=fun x vs H Q=>∃l xs y,x=.ref l∧vs=[y]∧H l=some (.lst xs)∧xs.length<sizeLine∧Q .non (bX H l (.lst (xs++[y])))
theorem pP:DF X "list.append" vh:=by
 intro af s σ H x vs v us Q I rx rv h;obtain⟨l,xs,y,rfl,rfl,hH,hz,q⟩:=h;cases rx;obtain⟨u,rfl,ru⟩:=rv.one;obtain⟨z,its,n,r,hl,e⟩:=I.lstM hH;refine call_meets F.slot_list_append ⟨_,e,rfl⟩ F.entry_list_append (F.args_list_append_2 _ _) (PySem.list_append l its.toArray n u (by rw[size_toArray];omega)) ⟨e,?_⟩;refine⟨.non,_,I.lset (its':=its++[u]) hH e (by simp) (r.append (.cons ru .nil)) ?_,rfl,q⟩;rw[length_append,length_singleton];omega
def CV:R2:=fun x y H Q=>∃l b xs zs,x=.ref l∧y=.ref b∧H l=some (.lst xs)∧H b=some (.lst zs)∧xs.length+zs.length≤sizeLine∧∀p,H p=none→Q (.ref p) (bX H p (.lst (xs++zs)))
theorem yk:dO X (binaryOp .Add) CV:=by
 intro af s σ H x y v u Q I rx ry h;obtain⟨l,b,xs,zs,rfl,rfl,hH,hB,hz,q⟩:=h;cases rx;cases ry;obtain⟨z,its,n,r,hl,e⟩:=I.lstM hH;obtain⟨z2,its2,n2,r2,hl2,e2⟩:=I.lstM hB;refine PySem.P.add_list e e2 ?_ (by rw[size_toArray,size_toArray];omega);have ea:its.toArray++its2.toArray=(its++its2).toArray:=by simp
 rw[ea];exact⟨.ref _,_,I.lnew (t':=s.toks) (r.append r2) (by rw[length_append];omega),rfl,q _ I.fresh⟩
end
end L2
namespace Att
open PySem PySem.W PySem.Calls PyProof.Rows
theorem iX {P:Params}{h:Heap}:∀(ns:List Int) (vs:List Value),WellAll P h vs (ns.map WData.int)→IntsAre vs ns:=by
 intro ns
 induction ns with
 | nil=>
  intro vs w;rw[List.map_nil] at w;cases w;exact .nil
 | cons n ns ih=>
  intro vs w;rw[List.map_cons] at w;cases w with
  | cons a b=>
   cases a;exact .cons _ _ (ih _ b)
theorem qf {l:OpenLaw}{n:Nat}(hn:l.most=some n){P:Params}{h:Heap}{args:List WData}{vals:List Value}
  (hpre:l.row.toRowW.claim.pre args=true) (hwl:WellAll P h vals args) :
  ∃a vs ns,vals=[Value.ref a]∧args=[WData.list (ns.map WData.int)]∧h.get? a=some {cls:=.type "list",data:=.seq vs.toArray}∧IntsAre vs ns∧ns.length≤n:=by
 have hsh:WShape.hasAll [] args [.list .int]=true:=(pre_splitW hpre).1;have hc:l.pre.holds [] {args:=args}=true:=(pre_splitW hpre).2;obtain⟨d,r,rfl,h1,h2⟩:=hasAllW_cons hsh;obtain rfl:=hasAllW_nil h2;obtain⟨xs,rfl,h3⟩:=hasW_list h1;obtain⟨ns,rfl⟩:=items_int h3;have hlen:ns.length≤n:=by
  unfold OpenLaw.pre at hc;have h4:(WTm.not (.lt (.lit (.int (n:Int))) (.len (.arg 0)))).holds [] {args:=[.list (ns.map .int)]}=true:=by
   have h4:=(holds_andW hc).1;rw[hn] at h4;exact h4
  have h5:=condW_of h4 (w_not (w_lt w_lit (w_len_list (w_arg rfl))));rw[List.length_map] at h5;refine Nat.le_of_not_lt fun q=>?_
  have q':(n:Int)<((ns.length:Nat):Int):=by omega
  first
   | (rw[decide_eq_true q'] at h5;exact absurd h5 (by decide))
   | (simp at h5;omega)
 cases hwl with
 | cons w1 w2=>
  cases w2;cases w1 with
  | list ho hall=>exact⟨_,_,ns,rfl,rfl,ho,iX ns _ hall,hlen⟩
theorem pQ (l:OpenLaw)(args:List WData):l.row.toRowW.claim.post args (.bool true) args=true:=
 postW_of (r:=l.row.toRowW) (X:=(true==true))
  (show WShape.has [] (.bool true) .bool=true by first|rfl|decide|simp[WShape.has,WShape.arms,WShape.armsAll])
  (show(WTm.eq .res (.lit (.bool true))).value [] {args:=args,res:=some (.bool true),after:=args}=some (.bool (true==true)) from w_eq_bool (w_res rfl) w_lit) rfl
theorem attach_call {l:OpenLaw}{n:Nat}{q:Program}{loose:List Str}{XP:(Str→Option Value)→Heap→Prop}{YP:World→Heap→Prop}{d:DefRec}
  (hn:l.most=some n) (hdf:d.params.defaults=[])
  (call:∀(w:World) (s₀ s₁:Shared) (mg mb:Str→Option Value) (fa:Addr) (o:Obj) (pm cd doc:Value) (a:Addr) (vs:List Value) (ns:List Int),
   Ground q loose [] XP w s₀ mg mb s₁.heap→YP w s₁.heap→
   s₁.heap.get? fa=some o→o.data=.func (docDef d.name d.params d.body d.scope pm cd doc)→s₁.heap.CodeRec cd d.name→mg d.name=some (.ref fa)→
   s₁.heap.get? a=some {cls:=.type "list",data:=.seq vs.toArray}→IntsAre vs ns→ns.length≤n→s₁.gens=#[]→
   codeAny (model l.prog w) callerA (.call (.ref fa) ⟨[.ref a],[]⟩) (fun r s'=>r=.ok (.ret (.bool true))∧OldK s₁.heap s'.heap∧s'.os=s₁.os∧AllBare s'.gens) s₁) :
  WalkO q loose XP YP l.row.toRowW d [] (fun f vs=>PySem.call f vs):=by
 intro w s₀ s₁ mg mb G Y fa o pm cd doc dV kV ho hd hcd hD hmg hg args vals as hpre hlay hrd hwl hlo;obtain rfl:dV=.none:=Dflts.none hD hdf;obtain rfl:kV=.none:=Dflts.noKw hD;obtain⟨a,vs,ns,rfl,rfl,hobj,hints,hlen⟩:=qf hn hpre hwl;refine enter_call (codeAny_mono (call w s₀ s₁ mg mb fa o pm cd doc a vs ns G Y ho (fd_plain hd) hcd hmg hobj hints hlen hg) fun r s' hq=>?_);obtain⟨rfl,h2,h3,h4⟩:=hq;exact⟨.inl ⟨.bool true,.bool true,[],rfl,fun _=>rfl,.bool true,pQ l _,fun _=>⟨List.Pairwise.nil,fun _ hm=>(nomatch hm)⟩⟩,h2,h3,h4⟩
end Att
namespace L2
open PySem PySem.Spec PyProof.Rows List
theorem jY:∀{vs:List Value} {ns:List Int},IntsAre vs ns→aD (ns.map V.int) vs
 | _,_,.nil=>.nil
 | _,_,.cons n t h=>.cons ⟨t,rfl⟩ (jY h)
def yR (H:Hp):Prop:=∀b,H b=none∨∃o xs,H b=some (.frz o (.lst xs))
theorem rS {P:Program}{w:World}{K:W.Frag}{mg mb:Str→Option Value}{CX:qu}{k:Nat}{fa a:Addr}{fd:FuncData}{x:Str}{sp:Sp}{s₁:Shared}{vs:List Value}{ns:List Int}
  (KX:K.In s₁.heap) (hns:s₁.heap.Ns mainGlobals mg) (hb:s₁.heap.Ns builtinsNs mb) (hbb:∀x:Str,x≠"__name__"→mb x=bootBuiltins x) (hlim:s₁.heap.NoLimit) (hg:s₁.gens=#[])
  (ha:s₁.heap.get? a=some {cls:=.type "list",data:=.seq vs.toArray}) (hi:IntsAre vs ns) (hl:ns.length≤sizeLine) (hr:cq k callerA)
  (F:∀base:Heap,K.In base→base.Ns mainGlobals mg→ej P w K mg base CX k fa fd [x] sp) (hbind:∀(s:Shared) (u:Value),BindsTo s fd ⟨[u],[]⟩ [(x,u)])
  (hsp:∀H:Hp,yR H→iJ K H a (ns.map V.int)→sp [.ref a] H (fun v _=>v=.bl true) fun _ _ _=>False)
  (hCX:∀H e s',CX [] H s₁ (fun _ _ _=>False) e s'→False) :
  codeAny (model P w) callerA (.call (.ref fa) ⟨[.ref a],[]⟩) (fun r s'=>r=.ok (.ret (.bool true))∧OldK s₁.heap s'.heap∧s'.os=s₁.os∧AllBare s'.gens) s₁:=by
 have rv:=jY hi;have lenV:=hi.length;have core:∀H:Hp,yR H→iJ K H a (ns.map V.int)→fZ P w H s₁.heap→(∀b,H b≠none→b=a)→(H a≠none→K.lookup a=none)→
   codeAny (model P w) callerA (.call (.ref fa) ⟨[.ref a],[]⟩) (fun r s'=>r=.ok (.ret (.bool true))∧OldK s₁.heap s'.heap∧s'.os=s₁.os∧AllBare s'.gens) s₁:=by
  intro H hO hS hok hA hK;have base_of:∀{b:Addr} {o:Obj},s₁.heap.get? b=some o→H b=none→(lj s₁.heap H).get? b=some o:=fun e n=>rL e n
  have noA:∀{b:Addr} {o:Obj} {es:Array DictEntry} {ep:Nat},s₁.heap.get? b=some o→o.data=.dict es ep→H b=none:=fun {b o es ep} e d=>by
   cases q:H b with
   | none=>rfl
   | some u=>
    have e':b=a:=hA b (by rw[q];simp);subst e';rw[ha] at e;cases e;have d':Data.seq vs.toArray _=Data.dict es ep:=d;cases d'
  have nsK:∀{b:Addr} {m:Str→Option Value},s₁.heap.Ns b m→(lj s₁.heap H).Ns b m:=fun {b m} ⟨o,es,ep,e,d,r⟩=>⟨o,es,ep,base_of e (noA e d),d,r⟩
  have hKb:K.In (lj s₁.heap H):=fun b o e=>base_of (KX b o e) (by
   cases q:H b with
   | none=>rfl
   | some u=>
    have e':b=a:=hA b (by rw[q];simp);subst e';rw[hK (by rw[q];simp)] at e;cases e)
  have hM:Mod K mg (lj s₁.heap H):=⟨hKb,nsK hns,⟨mb,nsK hb,hbb⟩,let ⟨mc,h1,h2⟩:=hlim;⟨mc,nsK h1,h2⟩⟩;have e0:uO P w K mg (lj s₁.heap H) callerA [] s₁ H:=⟨rfl,hM,fun b o e=>wc e,Nat.le_of_eq (oU _ _),trivial,fun b hb=>absurd (show b∈([]:List Addr) from hb) (by simp),hok,.of_eq hg⟩;refine codeAny_mono ((F _ hKb (nsK hns)).run callerA [] s₁ H ⟨[.ref a],[]⟩ [.ref a] [.ref a] _ _ hr e0 (hbind s₁ (.ref a)) (.cons rfl .nil) (hsp H hO hS)) fun r s' h=>?_
  cases r with
  | error e=>exact(hCX H e s' h).elim
  | ok fl=>
   cases fl with
   | next=>exact False.elim h
   | brk=>exact False.elim h
   | cont=>exact False.elim h
   | ret u=>
    obtain⟨v,H',os,bare,un,hok',r',q⟩:=h;have q':v=.bl true:=q;subst q';obtain rfl:u=Value.bool true:=r';refine⟨rfl,OldK.of_keep fun b o e=>?_,os,bare⟩;cases q:H b with
    | none=>exact un.keep b o e q (by intro z;exact absurd (show b∈([]:List Addr) from z) (by simp)) (by simp)
    | some u=>
     rcases hO b with z|⟨ob,xs,z⟩
     ·rw[q] at z;cases z
     ·have z2:=un.frzs b ob _ z;obtain⟨e1,_⟩:=hok b _ z;obtain⟨e2,_⟩:=hok' b _ z2;rw[e] at e1;cases e1;exact e2
 cases hk:K.lookup a with
 | some o=>
  have e:=KX a o hk;rw[ha] at e;cases e;refine core (fun _=>none) (fun _=>.inl rfl) (.inr ⟨_,vs.toArray,_,hk,rfl,rfl,rfl,by rw[size_toArray,lenV];exact hl,by simpa using rv⟩) (fun b u z=>by have z':(none:Option HO)=some u:=z;cases z') (fun b z=>absurd rfl z) fun z=>absurd rfl z
 | none=>
  refine core (fun b=>if b=a then some (.frz {cls:=.type "list",data:=.seq vs.toArray} (.lst (ns.map V.int))) else none) (fun b=>?_) (.inl (.inr ⟨{cls:=.type "list",data:=.seq vs.toArray},if_pos rfl⟩)) (fun b u z=>?_) (fun b z=>?_) fun _=>hk
  ·by_cases hb:b=a
   ·exact .inr ⟨_,_,if_pos hb⟩
   ·exact .inl (if_neg hb)
  ·by_cases hb:b=a
   ·have z':=(if_pos hb).symm.trans z;cases z';subst hb;exact⟨ha,by rw[length_map];exact hl,vs,_,rv,ha⟩
   ·have z':=(if_neg hb).symm.trans z;cases z'
  ·by_cases hb:b=a
   ·exact hb
   ·exact absurd (if_neg hb) z
theorem walk_of {l:W.OpenLaw}{n k:Nat}{q:Program}{loose:List Str}{XP:(Str→Option Value)→Heap→Prop}{YP:World→Heap→Prop}{d:DefRec}{K:Params→W.Frag}{CX:World→qu}{sp:World→Sp}{x:Str}
  (hn:l.most=some n) (hn2:n≤sizeLine) (hdf:d.params.defaults=[]) (hr:cq k callerA)
  (hY:∀(w:World) (h:Heap),YP w h→(K w.params).In h)
  (F:∀(w:World) (mg:Str→Option Value) (fa:Addr) (h:Heap),(K w.params).In h→h.Ns mainGlobals mg→mg d.name=some (.ref fa)→
   ∃fd:FuncData,(∀(s:Shared) (u:Value),BindsTo s fd ⟨[u],[]⟩ [(x,u)])∧
    ∀base:Heap,(K w.params).In base→base.Ns mainGlobals mg→ej l.prog w (K w.params) mg base (CX w) k fa fd [x] (sp w))
  (hsp:∀(w:World) (H:Hp) (a:Addr) (ns:List Int),ns.length≤n→yR H→iJ (K w.params) H a (ns.map V.int)→sp w [.ref a] H (fun v _=>v=.bl true) fun _ _ _=>False)
  (hCX:∀(w:World) (H:Hp) (s:Shared) (e:Value) (s':Shared),CX w [] H s (fun _ _ _=>False) e s'→False) :
  W.WalkO q loose XP YP l.row.toRowW d [] (fun f vs=>PySem.call f vs):=by
 refine Att.attach_call hn hdf fun w s₀ s₁ mg mb fa o pm cd doc a vs ns G Y ho hd hcd hmg hobj hints hlen hg=>?_
 have KX:=hY w _ Y;obtain⟨fd,hb,hF⟩:=F w mg fa _ KX G.T.g hmg;exact rS KX G.T.g G.T.b G.T.builtins G.T.nolimit hg hobj hints (Nat.le_trans hlen hn2) hr hF hb (fun H hO hS=>hsp w H a ns hlen hO hS) fun H e s'=>hCX w H s₁ e s'
def eL (s:Stmt):Arguments:=match s with
 | .FunctionDef _ a _ _ _ _ _ _ _ _=>a
 | _=>{posonlyargs:=[],args:=[],vararg:=none,kwonlyargs:=[],kw_defaults:=[],kwarg:=none,defaults:=[]}
def c9 (s:Stmt):List Stmt:=match s with
 | .FunctionDef _ _ b _ _ _ _ _ _ _=>b
 | _=>[]
def aW (s:Stmt):Scope:=match s with
 | .FunctionDef _ _ _ _ _ _ sc _ _ _=>sc
 | _=>{kind:=.function,names:=[],isGenerator:=false,isCoroutine:=false}
structure xP (K:W.Frag)(x qual:Str)(st:Stmt)(f:Addr)(fd:FuncData):Prop where
 ex:∃(oc:Value) (od:Option Addr) (kV doc pm:Value) (an:Option Addr) (cdv ct:Value) (osl:Array (Option Value)),
  fd=W.fnOf x qual (eL st) (c9 st) (aW st) .none kV doc pm an cdv ct∧K.lookup f=some ⟨oc,od,.func fd,osl⟩∧W.codeIn K cdv qual=true
 kp:W.keepIn K (.ref f)=true
section
variable {P:Program}{w:World}{K:W.Frag}{mg:Str→Option Value}{base:Heap}
theorem xP.binds {x qual:Str}{st:Stmt}{f:Addr}{fd:FuncData}{ps:List Str}(F:xP K x qual st f fd)
  (h:∀(kV doc pm:Value) (an:Option Addr) (cdv ct:Value) (us:List Value),us.length=ps.length→bindArgs (W.fnOf x qual (eL st) (c9 st) (aW st) .none kV doc pm an cdv ct) ⟨us,[]⟩=pure (ps.zip us)):fz K fd ps []:=by
 obtain⟨oc,od,kV,doc,pm,an,cdv,ct,osl,rfl,lk,hcd⟩:=F.ex;exact .all (h kV doc pm an cdv ct)
theorem sG {x qual:Str}{st:Stmt}{f:Addr}{oc:Value}{od an:Option Addr}{osl:Array (Option Value)}{kV doc pm cdv ct:Value}(l:K.lookup f=some ⟨oc,od,.func (W.fnOf x qual (eL st) (c9 st) (aW st) .none kV doc pm an cdv ct),osl⟩)
  (c:W.codeIn K cdv qual=true) (k:W.keepIn K (.ref f)=true):xP K x qual st f (W.fnOf x qual (eL st) (c9 st) (aW st) .none kV doc pm an cdv ct):=⟨⟨oc,od,kV,doc,pm,an,cdv,ct,osl,rfl,l,c⟩,k⟩
end
section
variable {κ:Type}[DecidableEq κ]
def fS (kvs:List (κ×V))(k:κ):Option V:=(kvs.find? fun kv=>decide (kv.1=k)).map (·.2)
def iE (kvs:List (κ×V))(k:κ)(v:V):List (κ×V):=
 if(kvs.any fun kv=>decide (kv.1=k))=true then kvs.map (fun kv=>if kv.1=k then(kv.1,v) else kv) else kvs++[(k,v)]
theorem hX {p:κ×V}{r:List (κ×V)}{k:κ}(e:p.1=k):fS (p::r) k=some p.2:=by simp[fS,find?_cons,e]
theorem gY {p:κ×V}{r:List (κ×V)}{k:κ}(e:¬p.1=k):fS (p::r) k=fS r k:=by simp[fS,find?_cons,e]
theorem jk (k:κ):∀kvs:List (κ×V),(kvs.any fun kv=>decide (kv.1=k))=(fS kvs k).isSome
 | []=>rfl
 | p::r=>by
  rw[any_cons]
  by_cases e:p.1=k
  ·simp only[hX e,decide_eq_true e,Bool.true_or,Option.isSome_some]
  ·rw[gY e,decide_eq_false e,Bool.false_or];exact jk k r
theorem iM (kvs:List (κ×V))(k:κ)(v:V):(iE kvs k v).length≤kvs.length+1:=by
 unfold iE;split
 ·rw[length_map];omega
 ·rw[length_append,length_cons,length_nil];omega
theorem qW {kvs:List (κ×V)}{k:κ}(v:V)(h:fS kvs k=none):iE kvs k v=kvs++[(k,v)]:=by
 unfold iE;rw[jk,h];exact if_neg (by decide)
theorem jW.isSome_eq {o:Option V}{u:Option Value}(r:jW o u):o.isSome=u.isSome:=by
 cases o with
 | none=>cases u with
  | none=>rfl
  | some _=>exact(show False from r).elim
 | some _=>cases u with
  | none=>exact(show False from r).elim
  | some _=>rfl
theorem KV.val {kvs:List (κ×V)}{vs:List (κ×Value)}(r:KV kvs vs)(k:κ):jW (fS kvs k) (valueAt vs k):=by
 unfold KV at r
 induction r with
 | nil=>exact True.intro
 | @cons p q ps qs h t ih=>
  obtain⟨h1,h2⟩:=h
  by_cases e:p.1=k
  ·have e':q.1=k:=h1.symm.trans e;have b:valueAt (q::qs) k=some q.2:=by simp[valueAt,find?_cons,e']
   rw[hX e,b];exact h2
  ·have e':¬q.1=k:=fun z=>e (h1.trans z)
   have b:valueAt (q::qs) k=valueAt qs k:=by simp[valueAt,find?_cons,e']
   rw[gY e,b];exact ih
theorem KV.any {kvs:List (κ×V)}{vs:List (κ×Value)}(r:KV kvs vs)(k:κ):(kvs.any fun kv=>decide (kv.1=k))=vs.any fun kv=>decide (kv.1=k):=by
 unfold KV at r
 induction r with
 | nil=>rfl
 | cons h t ih=>rw[any_cons,any_cons,ih,h.1]
theorem KV.repl {kvs:List (κ×V)}{vs:List (κ×Value)}(r:KV kvs vs)(k:κ){y:V}{u:Value}(ry:aI y u) :
  KV (kvs.map fun kv=>if kv.1=k then(kv.1,y) else kv) (vs.map fun kv=>if kv.1=k then(kv.1,u) else kv):=by
 unfold KV at r ⊢
 induction r with
 | nil=>exact .nil
 | @cons p q ps qs h t ih=>
  rw[map_cons,map_cons];refine .cons ?_ ih;obtain⟨h1,h2⟩:=h
  by_cases e:p.1=k
  ·rw[if_pos e,if_pos (h1.symm.trans e)];exact⟨h1,ry⟩
  ·rw[if_neg e,if_neg (fun z=>e (h1.trans z))];exact⟨h1,h2⟩
theorem KV.put {kvs:List (κ×V)}{vs:List (κ×Value)}(r:KV kvs vs)(k:κ){y:V}{u:Value}(ry:aI y u):KV (iE kvs k y) (stored vs k u):=by
 unfold iE stored;rw[r.any k]
 by_cases e:(vs.any fun kv=>decide (kv.1=k))=true
 ·rw[if_pos e,if_pos e];exact r.repl k ry
 ·rw[if_neg e,if_neg e];exact Paired.snoc r ⟨rfl,ry⟩
theorem KV.length {kvs:List (κ×V)}{vs:List (κ×Value)}(r:KV kvs vs):kvs.length=vs.length:=Paired.length r
end
theorem oR {P:Program}{w:World}{k:bF}{u:Value}(r:aI (kV k) u):(bW P w).is k u=true:=by
 cases k with
 | inl i=>obtain⟨t,e⟩:=(show∃t,u=Value.int i t from r);subst e;exact lY P w i t
 | inr x=>obtain⟨t,e⟩:=(show∃t,u=Value.str x t from r);subst e;exact mv P w x t
theorem j3 {P:Program}{w:World}:∀{ks:List bF} {us:List Value},aD (ks.map kV) us→ItemsAre (bW P w) ks us
 | [],_,r=>by rw[map_nil] at r;cases r;exact .nil
 | k::ks,_,r=>by
  rw[map_cons] at r;cases r with
  | cons h t=>exact .cons (oR h) (j3 t)
abbrev KT (H:Hp):List (List bF×V)→List (List bF×Addr×Value)→Prop:=Paired fun p q=>p.1=q.1∧H q.2.1=some (.tup (p.1.map kV))∧aI p.2 q.2.2
theorem KT.val {H:Hp}{kvs:List (List bF×V)}{xs:List (List bF×Addr×Value)}(r:KT H kvs xs)(k:List bF):jW (fS kvs k) ((atKey xs k).map (·.2)):=by
 induction r with
 | nil=>exact True.intro
 | @cons p q ps qs h t ih=>
  obtain⟨h1,_,h2⟩:=h
  by_cases e:p.1=k
  ·have e':q.1=k:=h1.symm.trans e;have b:atKey (q::qs) k=some q.2:=by simp[atKey,find?_cons,e']
   rw[hX e,b];exact h2
  ·have e':¬q.1=k:=fun z=>e (h1.trans z)
   have b:atKey (q::qs) k=atKey qs k:=by simp[atKey,find?_cons,e']
   rw[gY e,b];exact ih
theorem KT.repl {H:Hp}{kvs:List (List bF×V)}{xs:List (List bF×Addr×Value)}(r:KT H kvs xs)(k:List bF){y:V}{u:Value}(ry:aI y u) :
  KT H (kvs.map fun kv=>if kv.1=k then(kv.1,y) else kv) (xs.map (putAt k u)):=by
 induction r with
 | nil=>exact .nil
 | @cons p q ps qs h t ih=>
  rw[map_cons,map_cons];refine .cons ?_ ih;obtain⟨h1,h2,h3⟩:=h;unfold putAt
  by_cases e:p.1=k
  ·rw[if_pos e,if_pos (h1.symm.trans e)];exact⟨h1,h2,ry⟩
  ·rw[if_neg e,if_neg (fun z=>e (h1.trans z))];exact⟨h1,h2,h3⟩
theorem KT.put {H:Hp}{kvs:List (List bF×V)}{xs:List (List bF×Addr×Value)}(r:KT H kvs xs)(k:List bF){b:Addr}{y:V}{u:Value}(hb:H b=some (.tup (k.map kV)))(ry:aI y u) :
  KT H (iE kvs k y) (storedH xs k b u):=by
 have e:(kvs.any fun kv=>decide (kv.1=k))=(atKey xs k).isSome:=by
  rw[jk,(r.val k).isSome_eq,Option.isSome_map]
 unfold iE storedH;rw[e]
 by_cases q:(atKey xs k).isSome=true
 ·rw[if_pos q,if_pos q];exact r.repl k ry
 ·rw[if_neg q,if_neg q];exact Paired.snoc r ⟨rfl,hb,ry⟩
theorem KT.keeps {H H':Hp}{kvs:List (List bF×V)}{xs:List (List bF×Addr×Value)}(r:KT H kvs xs)(ht:∀b ys,H b=some (.tup ys)→H' b=some (.tup ys)):KT H' kvs xs:=
 Paired.mapP r fun _ _ z=>⟨z.1,ht _ _ z.2.1,z.2.2⟩
section
variable {P:Program}{w:World}{H:Hp}{h:Heap}{a:Addr}
theorem wF {u:HO}(ok:fZ P w H h)(e:Rd H a u):bH P w H h a u:=e.ok ok
theorem oS {kvs:List (bF×V)}(ok:fZ P w H h)(e:Rd H a (.dK kvs)):kvs.length≤sizeLine∧(a==sysModules)=false∧∃vs,KV kvs vs∧h.DictOf (bW P w) a vs:=
 show bH P w H h a (.dK kvs) from wF ok e
theorem Bi {kvs:List (bF×V)}(ok:fZ P w H h)(e:H a=some (.dK kvs)):kvs.length≤sizeLine∧(a==sysModules)=false∧∃vs,KV kvs vs∧h.DictOf (bW P w) a vs:=oS ok (.inl e)
theorem lJ {ks:List bF}(ok:fZ P w H h)(e:H a=some (.tup (ks.map kV))):(tupleKind (bW P w)).is h ks a:=by
 obtain⟨_,its,r,o,h1,h2,n,h3⟩:=(show bH P w H h a (.tup (ks.map kV)) from ok a _ e);exact⟨o,its.toArray,n,h1,h2,h3,by simpa using j3 r⟩
theorem oE {kvs:List (List bF×V)}(ok:fZ P w H h)(e:Rd H a (.dT kvs)):kvs.length≤sizeLine∧(a==sysModules)=false∧
  ∃xs,KT H kvs xs∧h.DictOfH (tupleKind (bW P w)) a xs:=by
 obtain⟨z,y,xs,r,o,es,ep,h1,h2,h3,h4,h5⟩:=(show bH P w H h a (.dT kvs) from wF ok e);refine⟨z,y,xs,r,o,es,ep,h1,h2,h3,h4,fun x hx=>?_,h5⟩;have all:∀{l:List (List bF×V)} {m:List (List bF×Addr×Value)},KT H l m→∀x∈m,(tupleKind (bW P w)).is h x.1 x.2.1:=by
  intro l m q
  induction q with
  | nil=>intro x hx;exact nomatch hx
  | @cons p q ps qs hq t ih=>
   intro x hx;rcases mem_cons.mp hx with e|hx
   ·subst e;exact lJ ok (by rw[←hq.1];exact hq.2.1)
   ·exact ih x hx
 exact all r x hx
theorem z6 {kvs:List (List bF×V)}(ok:fZ P w H h)(e:H a=some (.dT kvs)):kvs.length≤sizeLine∧(a==sysModules)=false∧
  ∃xs,KT H kvs xs∧h.DictOfH (tupleKind (bW P w)) a xs:=oE ok (.inl e)
end
def mq (H:Hp)(a:Addr)(y:V)(r:Option V):Prop:=
 (∃kvs k,Rd H a (.dK kvs)∧y=kV k∧r=fS kvs k)∨∃kvs k b,Rd H a (.dT kvs)∧y=.ref b∧H b=some (.tup (k.map kV))∧r=fS kvs k
def tP (H:Hp)(a:Addr)(y v:V)(H':Hp):Prop:=
 (∃kvs k,H a=some (.dK kvs)∧y=kV k∧kvs.length<sizeLine∧H'=bX H a (.dK (iE kvs k v)))∨
 ∃kvs k b,H a=some (.dT kvs)∧y=.ref b∧H b=some (.tup (k.map kV))∧kvs.length<sizeLine∧H'=bX H a (.dT (iE kvs k v))
theorem mq.t {H:Hp}{a b:Addr}{kvs:List (List bF×V)}{k:List bF}(e:H a=some (.dT kvs))(eb:H b=some (.tup (k.map kV))):mq H a (.ref b) (fS kvs k):=.inr ⟨kvs,k,b,.inl e,rfl,eb,rfl⟩
theorem tP.t {H:Hp}{a b:Addr}{kvs:List (List bF×V)}{k:List bF}{v:V}(e:H a=some (.dT kvs))(eb:H b=some (.tup (k.map kV)))(hl:kvs.length<sizeLine) :
  tP H a (.ref b) v (bX H a (.dT (iE kvs k v))):=.inr ⟨kvs,k,b,e,rfl,eb,hl,rfl⟩
section
variable {X:Cx}{af:List (Addr×Obj)}{σ:St}{H:Hp}{s:Shared}{a:Addr}{y v:V}{u r:Value}{o:Option V}{A:Around}{E:Value→Shared→Prop}
theorem Inv.big (I:Inv X af σ H s):sysModules<s.heap.objs.size:=by
 have h:mainGlobals<s.heap.objs.size:=(I.mod.glob.keeps I.bk).lt;exact Nat.lt_trans (by decide) h
theorem pK {Q:Value→Shared→Prop}(hu:A.units+1<cLine)(I:Inv X af σ H s)(g:mq H a y (some v))(ry:aI y u)(h:∀w' s',Inv X af σ H s'→aI v w'→Q w' s') :
  wpAny (model X.prog X.w) A (getItem (.ref a) u) Q E s:=by
 rcases g with⟨kvs,k,e,ey,l⟩|⟨kvs,k,b,e,ey,eb,l⟩
 ·subst ey;obtain⟨z,hd,vs,rel,dd⟩:=oS I.hok e;obtain⟨w',hw,rw'⟩:=jW.some_of (v:=v) (o:=valueAt vs k) (by rw[l];exact rel.val k);exact wpAny_getItem_of (oR ry) dd.mapOf hw (h w' _ (I.tok _) rw')
 ·subst ey;cases (show u=Value.ref b from ry);obtain⟨z,hd,xs,rel,dd⟩:=oE I.hok e;obtain⟨w',hw,rw'⟩:=jW.some_of (v:=v) (o:=(atKey xs k).map (·.2)) (by rw[l];exact rel.val k);obtain⟨p,hp,hp2⟩:=Option.map_eq_some_iff.mp hw;refine wpAny_getItem_heap (tupleKind_room_in1 hu) (lJ I.hok eb) dd hp ?_;rw[hp2];exact h w' _ (I.tok _) rw'
theorem vN {Q:Value→Shared→Prop}(hu:A.units+1<cLine)(I:Inv X af σ H s)(g:mq H a y o)(ry:aI y u)(h:∀s',Inv X af σ H s'→Q (.bool (!o.isSome)) s') :
  wpAny (model X.prog X.w) A (compareOp .NotIn u (.ref a)) Q E s:=by
 rcases g with⟨kvs,k,e,ey,l⟩|⟨kvs,k,b,e,ey,eb,l⟩
 ·subst ey;obtain⟨z,hd,vs,rel,dd⟩:=oS I.hok e;refine wpAny_notIn_of (oR ry) hd dd.mapOf ?_;rw[←(rel.val k).isSome_eq,←l];exact h _ (I.tok _)
 ·subst ey;cases (show u=Value.ref b from ry);obtain⟨z,hd,xs,rel,dd⟩:=oE I.hok e;refine wpAny_notIn_heap (tupleKind_room_in1 hu) (lJ I.hok eb) hd dd ?_;have q:=(rel.val k).isSome_eq;rw[Option.isSome_map] at q;rw[←q,←l];exact h _ (I.tok _)
theorem nX {h':Heap}{t':Nat}{ob:HO}(I:Inv X af σ H s)(mu:AI (H a))(hs:Heap.SameBut a s.heap h')(he:∃q,h'.get? a=some q)(new:bH X.prog X.w (bX H a ob) h' a ob) :
  Inv X af σ (bX H a ob) {s with heap:=h',toks:=t'}:=
 I.write (x:=a) (e:=a) mu (.inl rfl) (fun b q hb z=>(hs.2 b hb).trans z) he new
theorem xi {P:Program}{w:World}{H':Hp}{h':Heap}{kvs:List (bF×V)}{vs:List (bF×Value)}(z:kvs.length≤sizeLine)(hd:(a==sysModules)=false)(rel:KV kvs vs)(dd:h'.DictOf (bW P w) a vs) :
  bH P w H' h' a (.dK kvs):=⟨z,hd,vs,rel,dd⟩
theorem pw {H':Hp}{Q:Unit→Shared→Prop}(hu:A.units+1<cLine)(I:Inv X af σ H s)(g:tP H a y v H')(ry:aI y u)(rv:aI v r)(h:∀s',Inv X af σ H' s'→Q () s') :
  wpAny (model X.prog X.w) A (setItem (.ref a) u r) Q E s:=by
 rcases g with⟨kvs,k,e,ey,l,eH⟩|⟨kvs,k,b,e,ey,eb,l,eH⟩
 ·subst ey eH;obtain⟨z,hd,vs,rel,dd⟩:=Bi I.hok e;have hz:vs.length≤sizeLine:=by rw[←rel.length];exact z
  have hl:(iE kvs k v).length≤sizeLine:=by have:=iM kvs k v;omega
  refine wpAny_setItem_pairs (hsz:=hz) (oR ry) dd fun h' dd' hs=>h _ ?_
  have he:∃q,h'.get? a=some q:=let ⟨q,_,_,hq,_⟩:=dd';⟨q,hq⟩
  exact nX I (by rw[e];exact True.intro) hs he (xi hl hd (rel.put k rv) dd')
 ·subst ey eH;cases (show u=Value.ref b from ry);obtain⟨z,hd,xs,rel,dd⟩:=z6 I.hok e;have hz:xs.length≤sizeLine:=by rw[←Paired.length rel];exact z
  have hl:(iE kvs k v).length≤sizeLine:=by have:=iM kvs k v;omega
  refine wpAny_setItem_heap (hsz:=hz) (tupleKind_room_in1 hu) (lJ I.hok eb) dd fun h' dd' hs=>h _ ?_
  obtain⟨q,es,ep,hq,h2,h3,h4,_,h5⟩:=dd';refine nX I (by rw[e];exact True.intro) hs ⟨q,hq⟩ ⟨hl,hd,_,(rel.put k eb rv).keeps fun c ys ec=>?_,q,es,ep,hq,h2,h3,h4,h5⟩;rw[aq (lZ ec e (fun z=>nomatch z))];exact ec
end
def vf (i:Expr):Prop:=∀ov iv,subscripted i false ov iv=operate [ov,iv] (getItem ov iv)
theorem vW {prog:Program}{w:World}{A:Around}{E:Value→Shared→Prop}{s:Shared}{env:Env}{value slice:Expr}{pos:Pos}{T id:String}{Q:Value→Shared→Prop}
  (hl:typeLookup (.type T) "__getitem__"=pure (some (.builtin id))) (hs:vf slice)
  (h:wpAny (model prog w) A (eval value env) (fun o s₁=>wpAny (model prog w) A (eval slice env) (fun i s₂=>s₂.TypeIs o T∧wpAny (model prog w) A (getItem o i) Q E s₂) E s₁) E s) :
  wpAny (model prog w) A (eval (.Subscript value slice pos) env) Q E s:=by
 refine Subscript_ (wpAny_mono h (fun o s₁ h₁=>wpAny_mono h₁ (fun i s₂ h₂=>?_) fun _ _ x=>x) fun _ _ x=>x);obtain⟨hT,h₂⟩:=h₂;unfold subscriptTail;refine wpAny_bind ?_;rw[getitemInPython_of_ne hT.not_modules];refine wpAny_bind (wpAny_specialOf hT hl ?_);have fin:wpAny (model prog w) A (subscripted slice false o i) (fun r s₃=>wpAny (model prog w) A (letTemporaryGo value o r >>= fun _=>pure r) Q E s₃) E s₂:=by
  rw[hs o i];exact wpAny_operating (wpAny_mono h₂ (fun r s₃ h₃=>wpAny_bind (wpAny_letTemporaryGo (wpAny_pure h₃))) fun _ _ x=>x)
 first
  | exact wpAny_pure (wpAny_bind fin)
  | exact wpAny_bind (wpAny_pure (wpAny_bind fin))
  | exact wpAny_bind fin
theorem mH {X:Cx}{af:List (Addr×Obj)}{σ:St}{H:Hp}{s:Shared}{a:Addr}{y:V}{o:Option V}(I:Inv X af σ H s)(g:mq H a y o):s.TypeIs (.ref a) "dict":=by
 rcases g with⟨kvs,k,e,_,_⟩|⟨kvs,k,b,e,_,_,_⟩
 ·obtain⟨_,_,vs,_,dd⟩:=oS I.hok e;exact dd.typeIs
 ·obtain⟨_,_,xs,_,dd⟩:=oE I.hok e;exact dd.typeIs
def Au (td ty:TE):TE:=fun σ H Q=>td σ H fun x H1=>ty σ H1 fun y H2=>∃a v,x=.ref a∧mq H2 a y (some v)∧Q v H2
def Ao (td ty tv:TE):TS:=fun D σ H=>tv σ H fun v H1=>td σ H1 fun x H2=>ty σ H2 fun y H3=>∃a H4,x=.ref a∧tP H3 a y v H4∧D.nx σ H4
section
variable {X:Cx}{o i e value:Expr}{pos pos' tpos:Pos}{td ty tv:TE}
theorem tX (hu:X.A.units+1<cLine)(ho:PE X o td)(hi:PE X i ty)(hs:vf i):PE X (.Subscript o i pos) (Au td ty):=by
 intro af s σ H Q I h;refine vW PySem.F.slot_dict_getitem.lookup hs (bA (ho af s σ H _ I h) fun u s1 ⟨x,H1,I1,rx,q1⟩=>bA (hi af s1 σ H1 _ I1 q1) fun iv s2 hxx=>?_);obtain⟨y,H2,I2,ry,a,v,ex,g,q2⟩:=hxx;subst ex;obtain rfl:u=Value.ref a:=rx;exact⟨mH I2 g,pK hu I2 g ry fun w' s3 I3 rw'=>⟨v,H2,I3,rw',q2⟩⟩
theorem ur (hu:X.A.units+1<cLine)(ho:PE X o td)(hi:PE X i ty)(hv:PE X value tv)(hs:swapsWith value (some (.Subscript o i pos')) pos.line X.env=pure false) :
  PS X (.Assign [.Subscript o i pos'] value pos) (Ao td ty tv):=by
 intro af s σ H D I h;refine wpAny_Assign_Subscript (bA (hv af s σ H _ I h) fun r s1 ⟨v,H1,I1,rv,q1⟩=>bA (ho af s1 σ H1 _ I1 q1) fun u s2 ⟨x,H2,I2,rx,q2⟩=>bA (hi af s2 σ H2 _ I2 q2) fun iv s3 hxx=>?_) hs;obtain⟨y,H3,I3,ry,a,H4,ex,g,q3⟩:=hxx;subst ex;obtain rfl:u=Value.ref a:=rx;exact pw hu I3 g ry rv fun s4 I4=>⟨σ,H4,I4,q3⟩
end
theorem rQ {P:Program}{w:World}{H:Hp}(h:Heap)(hb:sysModules<h.objs.size):bH P w H (h.push {cls:=.type "dict",data:=.dict #[]}) h.objs.size (.dT []):=
 ⟨Nat.zero_le _,beq_eq_false_iff_ne.mpr (Ne.symm (Nat.ne_of_lt hb)),[],.nil,_,#[],0,Heap.get?_push_size _ rfl,⟨rfl,rfl,rfl⟩,rfl,rfl,nodup_nil⟩
def x9:TE:=fun _ H Q=>∀p,H p=none→Q (.ref p) (bX H p (.dT []))
section
variable {X:Cx}{pos:Pos}
theorem sW:PE X (.Dict [] [] pos) x9:=fun af s σ H Q I h=>
 wpAny_Dict_empty ⟨.ref s.heap.objs.size,_,I.laid (a:=s.heap.objs.size) (o:=.dT []) (t':=s.toks) (fun _ _ q=>Heap.get?_push_of_some _ q) (Nat.le_refl _) (rQ s.heap I.big),rfl,h _ (I.hok.fresh (Nat.le_refl _))⟩
end
abbrev VV:List (V×V)→List (Value×Value)→Prop:=Paired fun p q=>aI p.1 q.1∧aI p.2 q.2
structure M1 (X:Cx)(o:Expr)(m:Str)(apos:Pos)(e:Expr)(cpos:Pos):Prop where
 base:attributeBase o m X.env (eval o X.env)=eval o X.env
 few:((backTo cpos (starEach [e] X.env)).all (fun x=>!x.1)&&(backToKw cpos (keywordEach [] X.env)).all (fun x=>x.1.isSome)
  && decide (([e]:List Expr).length+([]:List Keyword).length+(if([]:List Keyword).isEmpty then 0 else 1)<30))=true
 line:(apos.endLine==cpos.line)=true
 trees:backTo cpos (starEach [e] X.env)=[(false,eval e X.env)]
structure M2 (X:Cx)(o:Expr)(m:Str)(apos:Pos)(e f:Expr)(cpos:Pos):Prop where
 base:attributeBase o m X.env (eval o X.env)=eval o X.env
 few:((backTo cpos (starEach [e,f] X.env)).all (fun x=>!x.1)&&(backToKw cpos (keywordEach [] X.env)).all (fun x=>x.1.isSome)
  && decide (([e,f]:List Expr).length+([]:List Keyword).length+(if([]:List Keyword).isEmpty then 0 else 1)<30))=true
 line:(apos.endLine==cpos.line)=true
 trees:backTo cpos (starEach [e,f] X.env)=[(false,eval e X.env),(false,eval f X.env)]
end L2
namespace Att
open PySem PySem.W PySem.Calls PyProof.Rows
end Att
namespace L2
open PySem PySem.Spec PyProof.Rows List
end L2
namespace DL
open PySem PySem.Spec PyProof.Rows L2 List
structure Az (X:Cx)(af:List (Addr×Obj))(H:Hp)(B:Heap):Prop where
 trk:∀b o,H b=some o→∃o',B.get? b=some o'
 pin:∀p∈X.pn++af,∃o',B.get? p.1=some o'
 old:∀b o,X.s₀.heap.get? b=some o→b∉X.ex→b∉i5 X.stack→∃o',B.get? b=some o'
def CJ (X:Cx)(H:Hp)(a C:Addr)(s:Shared):Prop:=∃af σ,
 (∃h vs,L2.Inv X af σ H {s with heap:=h}∧Heap.MadeExcOf h s.heap a (.ref C) vs)∨
 (L2.Inv X af σ H s∧H a=none∧∃B a0,Heap.FlyingW B X.stack a (.ref C) a0 s.heap∧Az X af H B)∨
 (L2.Inv X af σ H s∧H a=none∧∃B a0 L,X.env.frame=some L∧Heap.HeldW B X.stack a (.ref C) a0 L s.heap∧Az X af H B)
def jo (K:W.Frag)(c:Str)(C:Addr):Prop:=W.nsIn K mainGlobals c=some (some (.ref C))
theorem jG {P:Program}{w:World}{H:Hp}{h:Heap}{a:Addr}{o:HO}(x:bH P w H h a o):∃u,h.get? a=some u:=by
 cases o with
 | lst xs=>obtain⟨_,_,_,_,e⟩:=x;exact⟨_,e⟩
 | tup xs=>obtain⟨_,_,_,o,e,_⟩:=x;exact⟨_,e⟩
 | dK kvs=>obtain⟨_,_,_,_,o,_,_,e,_⟩:=x;exact⟨_,e⟩
 | dT kvs=>obtain⟨_,_,_,_,o,_,_,e,_⟩:=x;exact⟨_,e⟩
 | set S n=>obtain⟨o,_,_,_,e,_⟩:=x;exact⟨_,e⟩
 | ins C dx fs=>obtain⟨_,_,_,e,_⟩:=x;exact⟨_,e⟩
 | own y=>obtain⟨_,e⟩:=x;exact⟨_,e⟩
 | xd fs=>obtain⟨_,⟨_,_,_,e,_⟩,_⟩:=x;exact⟨_,e⟩
 | rng lo hi=>obtain⟨_,_,_,e⟩:=x;exact⟨_,e⟩
 | frz ob u=>obtain⟨e,_⟩:=x;exact⟨_,e⟩
 | tbl ps=>exact⟨_,show h.get? a=some _ from x⟩
 | met f y=>exact⟨_,show h.get? a=some _ from x⟩
 | ext φ=>obtain⟨_,⟨_,e⟩,_⟩:=x;exact⟨_,e⟩
section
variable {X:Cx}{af:List (Addr×Obj)}{σ:List (Option V)}{H:Hp}{s:Shared}{B h':Heap}{a C:Addr}
theorem kR (I:L2.Inv X af σ H s){b:Addr}{o:Obj}(e:X.s₀.heap.get? b=some o)(n:b∉X.fs):b∉i5 X.stack:=fun z=>by
 rcases mem_cons.mp (I.stkSub b z) with q|q
 ·have h1:=Heap.lt_size e;rw[q] at h1;exact absurd (Nat.lt_of_lt_of_le h1 I.ok.above) (Nat.lt_irrefl _)
 ·exact n q
theorem oK {h h':Heap}{c:Addr}{v:Option Value}(u:h.UpToSlots h')(x:h.IsCell c v):h'.IsCell c v:=by
 obtain⟨o,e,d⟩:=x;obtain⟨sl,e'⟩:=u c o e fun vs q=>by rw[d] at q;cases q
 exact⟨_,e',d⟩
theorem qz (I:L2.Inv X af σ H s)(cov:Az X af H B)(hB:B.StaysIn s.heap)(hB':B.StaysIn h')(up:s.heap.UpToSlots h'):L2.Inv X af σ H {s with heap:=h'}:=by
 have keepB:∀b o o',B.get? b=some o'→s.heap.get? b=some o→h'.get? b=some o:=fun b o o' e1 e2=>by
  have:=hB b o' e1;rw[e2] at this;cases this;exact hB' b _ e1
 refine⟨I.ok,I.os,I.bare,⟨fun b o e n nf nx=>?_,fun b o e n hf nx=>?_,fun b o e n nx=>I.base.free b o e n nx,fun b o e nx=>?_,I.base.tups,I.base.frzs,I.base.tbls⟩,?_,fun x c e=>?_,I.free,I.freeC,fun p hp=>?_,fun b o e=>?_,I.len⟩
 ·obtain⟨o',e'⟩:=cov.old b o e nx (kR I e nf);exact keepB b o o' e' (I.base.keep b o e n nf nx)
 ·obtain⟨sl,e1⟩:=I.base.slot b o e n hf nx;obtain⟨_,ob,e2,nf⟩:=I.funs.mem hf;rw[e1] at e2;cases e2;obtain⟨sl',e3⟩:=up b _ e1 nf;exact⟨sl',e3⟩
 ·by_cases hf:b∈X.fs
  ·obtain⟨_,ob,e2,nf⟩:=I.funs.mem hf;obtain⟨sl',e3⟩:=up b _ e2 nf;exact⟨_,e3⟩
  ·obtain⟨o',e'⟩:=cov.old b o e nx (kR I e hf);exact⟨o',hB' b o' e'⟩
 ·obtain⟨m,hn,hl⟩:=I.loc;refine⟨m,up.ns hn,fun i x v e1 e2 e3=>?_⟩;obtain⟨u,r,lk⟩:=hl i x v e1 e2 e3;refine⟨u,r,?_⟩;rcases lk with lk|⟨k,c,ec,ic⟩
  ·exact .inl lk
  ·exact .inr ⟨k,c,ec,oK up ic⟩
 ·obtain⟨v,ic⟩:=I.cell x c e;exact⟨v,oK up ic⟩
 ·obtain⟨e,n,ne,nf,d⟩:=I.pin p hp;obtain⟨o',e'⟩:=cov.pin p hp;exact⟨keepB p.1 p.2 o' e' e,n,ne,nf,d⟩
 ·refine(I.hok b o e).stay (fun c u hc q=>?_) (fun _ q=>q) fun _ _ q=>q
  have:∃o,H c=some o:=by
   rcases hc with z|z
   ·exact⟨o,by rw[z];exact e⟩
   ·exact⟨_,z⟩
  obtain⟨oc,ec⟩:=this;obtain⟨o',e'⟩:=cov.trk c oc ec;exact keepB c u o' e' q
theorem rH (I:L2.Inv X af σ H s):Az X af H (W.hideAll s.heap (i5 X.stack)):=by
 refine⟨fun b o e=>?_,fun p hp=>?_,fun b o e nx nf=>?_⟩
 ·obtain⟨u,q⟩:=jG (I.hok b o e);exact⟨u,W.hideAll_get _ q fun z=>by rw[I.stkFree b z] at e;cases e⟩
 ·obtain⟨e,n,ne,nf,d⟩:=I.pin p hp;exact⟨p.2,W.hideAll_get _ e fun z=>by
   rcases mem_cons.mp (I.stkSub _ z) with q|q
   ·exact ne q
   ·exact nf q⟩
 ·obtain⟨o',e'⟩:=I.base.there b o e nx;exact⟨o',W.hideAll_get _ e' nf⟩
theorem mz (I:L2.Inv X af σ H s):s.heap.FunFrames (W.hideAll s.heap (i5 X.stack)) X.stack:=
 W.funFrames_hide I.stack fun env he b hb=>mem_filterMap.mpr ⟨env,he,hb⟩
theorem pH {vs:List Value}{h:Heap}(I:L2.Inv X af σ H {s with heap:=h})(m:Heap.MadeExcOf h s.heap a (.ref C) vs):H a=none:=by
 cases q:H a with
 | none=>rfl
 | some o=>
  obtain⟨u,e⟩:=jG (I.hok a o q);have e:h.get? a=some u:=e;rw[m.new] at e;cases e
end
def iN (P:Program)(w:World):qu:=fun outer H s E e s'=>∃a C H' B a0,e=.ref a∧s'.os=s.os∧AllBare s'.gens∧Un (i5 outer) [] H H' s.heap s'.heap∧fZ P w H' s'.heap∧H' a=none∧
 Heap.FlyingW B outer a (.ref C) a0 s'.heap∧(∀b o,H' b=some o→∃o',B.get? b=some o')∧(∀b o,s.heap.get? b=some o→b∉i5 outer→∃o',B.get? b=some o')∧E (.ref C) (some a) H'
theorem nD {P:Program}{w:World}{K:W.Frag}{mg:Str→Option Value}{base:Heap}{N:List Str}{qual:Str}{scope:Scope}{f:Addr}{cdv:Value}{A:Around}{outer:List Env}{s s':Shared}{H H':Hp}{E:XK}{a C:Addr}
  (fl:CJ (gZ (iN P w) P w K mg base N qual scope f cdv A outer s H E) H' a C s') (hE:E (.ref C) (some a) H'):(gZ (iN P w) P w K mg base N qual scope f cdv A outer s H E).xe (.ref a) s':=by
 show wpAny (model P w) (A.deeper (envOfC qual scope s.heap.objs.size f cdv)) (leaving (envOfC qual scope s.heap.objs.size f cdv) (.ref a)) (fun _ s''=>iN P w outer H s E (.ref a) s'') (fun e' s''=>iN P w outer H s E e' s'') s';obtain⟨af,σ,fl⟩:=fl;have key:∀(B:Heap) (a0:Value) (h':Heap) (I:L2.Inv (gZ (iN P w) P w K mg base N qual scope f cdv A outer s H E) af σ H' s'),B.StaysIn s'.heap→Az (gZ (iN P w) P w K mg base N qual scope f cdv A outer s H E) af H' B→H' a=none→
   Heap.FlyingW B outer a (.ref C) a0 h'→s'.heap.UpToSlots h'→iN P w outer H s E (.ref a) {s' with heap:=h'}:=fun B a0 h' I hB cov hn fl' up=>by
  have I':=qz I cov hB fl'.1 up;refine⟨a,C,H',B,a0,rfl,I'.os,I'.bare,I'.base,I'.hok,hn,fl',cov.trk,fun b o e nf=>?_,hE⟩;exact cov.old b o e (by show b∉([]:List Addr);simp) (kR I e nf)
 rcases fl with⟨h,vs,I,m⟩|⟨I,hn,B,a0,fl,cov⟩|⟨I,hn,B,a0,L,hL,held,cov⟩
 ·have cov:=rH I;have hid:∀b o,(W.hideAll h (i5 (gZ (iN P w) P w K mg base N qual scope f cdv A outer s H E).stack)).get? b=some o→h.get? b=some o:=fun b o q=>W.of_hideAll _ q
  refine wpAny_leaves_madeW (env:=envOfC qual scope s.heap.objs.size f cdv) (outer:=outer) I.ok.frames rfl hid (mz I) m fun h' t x1 x2 x3 x4=>?_
  exact key _ _ h' (I.kept (t':=s'.toks) (h':=s'.heap) m.keeps) (fun b o q=>m.keeps b o (hid b o q)) cov (pH I m) x1 x4
 ·refine wpAny_leaves_onW (env:=envOfC qual scope s.heap.objs.size f cdv) (outer:=outer) I.ok.frames rfl fl fun h' x1 x2=>?_
  exact key B a0 h' I fl.1 cov hn x1 x2
 ·unfold leaving;refine wpAny_bind (wpAny_noteFrame_againW hL held.2.2.2 ?_);refine wpAny_landsW held fun h' x1 x2=>?_
  obtain⟨k1,k2,⟨_,_,k3⟩,k4⟩:=x1;exact key B a0 h' I held.1 cov hn ⟨k1,k2,k3,k4⟩ x2
theorem o7 {X:Cx}{af:List (Addr×Obj)}{σ:L2.St}{H:Hp}{s:Shared}{e:Value}{s':Shared}{E:XK}(I:L2.Inv X af σ H s)(h:iN X.prog X.w X.stack H s E e s'):∃a C H',e=.ref a∧CJ X H' a C s'∧E (.ref C) (some a) H':=by
 obtain⟨a,C,H',B,a0,rfl,os,bare,un,hok,hn,fl,trk,old,hE⟩:=h;refine⟨a,C,H',rfl,⟨af,σ,.inr (.inl ⟨I.call' os un hok bare (fun b z=>absurd z (by simp)),hn,B,a0,fl,trk,fun p hp=>?_,fun b o eb nx nf=>?_⟩)⟩,hE⟩
 ·obtain⟨eb,n,ne,nf,d⟩:=I.pin p hp;exact old p.1 p.2 eb fun z=>by
   rcases mem_cons.mp (I.stkSub _ z) with q|q
   ·exact ne q
   ·exact nf q
 ·obtain⟨o',e'⟩:=I.base.there b o eb nx;exact old b o' e' nf
inductive D where
 | non|bl (b:Bool)|int (i:Int)|str (x:Str)|tup (xs:List D)|lst (xs:List D)|ro (xs:List D)|mr (i:Nat)|exc (c:Str)|any
instance:Inhabited D:=⟨.non⟩
inductive MO where
 | lst (xs:List D)|obj (c:Str) (fs:List (Str×D))|dK (kvs:List (bF×D))|dT (kvs:List (List bF×D))
instance:Inhabited MO:=⟨.lst []⟩
abbrev am:=List MO
abbrev a9:=List (Option D)
inductive aF (α:Type) where
 | ok (a:α) (M:am)
 | err (c:Str) (M:am)
 | bad
def aF.bind {α β:Type}(o:aF α)(f:α→am→aF β):aF β:=
 match o with
 | .ok a M=>f a M
 | .err c M=>.err c M
 | .bad=>.bad
@[simp] theorem ai {α β:Type} (a:α) (M:am) (f:α→am→aF β):(aF.ok a M).bind f=f a M:=by rw[aF.bind]
@[simp] theorem AJ {α β:Type} (c:Str) (M:am) (f:α→am→aF β):(aF.err c M:aF α).bind f=.err c M:=by rw[aF.bind]
@[simp] theorem AU {α β:Type} (f:α→am→aF β):(aF.bad:aF α).bind f=.bad:=by rw[aF.bind]
def DG (K:W.Frag)(a:Addr)(xs:List V):Prop:=∃(o:Obj) (its:Array Value) (n:Nat),K.lookup a=some o∧o.cls=.type "tuple"∧o.data=.seq its n∧its.size≤sizeLine∧aD xs its.toList
def KL (K:W.Frag)(a:Addr)(xs:List V):Prop:=∃(o:Obj) (its:Array Value) (n:Nat),K.lookup a=some o∧o.cls=.type "list"∧o.dict=none∧o.data=.seq its n∧its.size≤sizeLine∧aD xs its.toList
def jc (K:W.Frag)(θ:List Addr)(H:Hp)(a:Addr)(xs:List V):Prop:=H a=some (.tup xs)∧a∉θ
def j6 (θ:List Addr)(H:Hp)(a:Addr)(xs:List V):Prop:=H a=some (.lst xs)∧a∉θ
def nk (K:W.Frag)(θ:List Addr)(H:Hp)(a:Addr)(xs:List V):Prop:=(Rd H a (.lst xs)∧a∉θ)∨KL K a xs
theorem jc.sq {K:W.Frag}{θ:List Addr}{H:Hp}{a:Addr}{xs:List V}(h:jc K θ H a xs):io K H a xs:=.inl (.inl h.1)
theorem j6.sq {K:W.Frag}{θ:List Addr}{H:Hp}{a:Addr}{xs:List V}(h:j6 θ H a xs):iJ K H a xs:=.inl (.inl h.1)
theorem nk.sq {K:W.Frag}{θ:List Addr}{H:Hp}{a:Addr}{xs:List V}(h:nk K θ H a xs):iJ K H a xs:=by
 rcases h with⟨h,_⟩|h
 ·exact .inl h
 ·exact .inr h
def CA (a C:Addr):HO:=.ext fun h=>∃o,h.get? a=some o∧o.cls=.ref C
mutual
def cD (K:W.Frag)(θ:List Addr)(H:Hp):D→V→Prop
 | .non,v=>v=.non
 | .bl b,v=>v=.bl b
 | .int i,v=>v=.int i
 | .str x,v=>v=.str x
 | .tup ds,v=>∃a vs,v=.ref a∧jc K θ H a vs∧aH K θ H ds vs
 | .lst ds,v=>∃a vs,v=.ref a∧j6 θ H a vs∧aH K θ H ds vs
 | .ro ds,v=>∃a vs,v=.ref a∧nk K θ H a vs∧aH K θ H ds vs
 | .mr i,v=>∃a,v=.ref a∧θ[i]?=some a
 | .exc c,v=>∃a C,v=.ref a∧jo K c C∧H a=some (CA a C)∧a∉θ
 | .any,_=>True
def aH (K:W.Frag)(θ:List Addr)(H:Hp):List D→List V→Prop
 | [],vs=>vs=[]
 | d::ds,vs=>∃v r,vs=v::r∧cD K θ H d v∧aH K θ H ds r
end
def p0 (K:W.Frag)(θ:List Addr)(H:Hp):List (Str×D)→List (Str×V)→Prop
 | [],vs=>vs=[]
 | (f,d)::fs,vs=>∃v r,vs=(f,v)::r∧cD K θ H d v∧p0 K θ H fs r
def gR {κ:Type}(K:W.Frag)(θ:List Addr)(H:Hp):List (κ×D)→List (κ×V)→Prop
 | [],vs=>vs=[]
 | (k,d)::fs,vs=>∃v r,vs=(k,v)::r∧cD K θ H d v∧gR K θ H fs r
def jP (K:W.Frag)(θ:List Addr)(H:Hp):MO→Addr→Prop
 | .lst ds,a=>∃vs,H a=some (.lst vs)∧aH K θ H ds vs
 | .obj c fs,a=>∃C dx vs,jo K c C∧H a=some (.ins C dx vs)∧p0 K θ H fs vs
 | .dK kvs,a=>∃vs,H a=some (.dK vs)∧gR K θ H kvs vs
 | .dT kvs,a=>∃vs,H a=some (.dT vs)∧gR K θ H kvs vs
def dE:List Str:=["ink_shown","table_within","slots_given","cast_on_slots"]
def uk (x:Str):Str:=x++(".<locals>.<lambda>":Str)
def Bq (c:Addr)(q:Str):HO:=.ext fun h=>h.CodeRec (.ref c) q
def Dr (ob:Obj):HO:=.frz ob (.ext fun _=>True)
structure iw (K:W.Frag)(H:Hp):Prop where
 tab:∀x,x∈dE→∀c P,W.tabIn K x=some (c,P)→∃ps,H P=some (.tbl ps)∧TriplesOk ps.toList∧∀pos cv,codeAmong pos ps.toList=some cv→∃c',cv=.ref c'∧H c'=some (Bq c' (uk x))
 bm:∀x,x∈dE→∀c P,W.tabIn K x=some (c,P)→∃bm ob,W.nsIn K mainGlobals "__builtins__"=some (some (.ref bm))∧H bm=some (Dr ob)∧ob.cls=.type "module"∧ob.dict=some builtinsNs∧ob.data=.plain∧bm≠builtinsNs∧bm≠mainGlobals
theorem iw.of {K:W.Frag}{H H':Hp}(t:iw K H)(k1:∀b ps,H b=some (.tbl ps)→H' b=some (.tbl ps))(k2:∀b φ,H b=some (.ext φ)→H' b=some (.ext φ))(k3:∀b o u,H b=some (.frz o u)→H' b=some (.frz o u)):iw K H':=
 ⟨fun x hx c P e=>by
  obtain⟨ps,h1,h2,h3⟩:=t.tab x hx c P e;refine⟨ps,k1 _ _ h1,h2,fun pos cv q=>?_⟩;obtain⟨c',e1,e2⟩:=h3 pos cv q;exact⟨c',e1,k2 _ _ e2⟩,fun x hx c P e=>by
  obtain⟨bm,ob,e1,e2,r⟩:=t.bm x hx c P e;exact⟨bm,ob,e1,k3 _ _ _ e2,r⟩⟩
theorem iw.new {K:W.Frag}{H:Hp}{p:Addr}{o:HO}(t:iw K H)(hp:H p=none):iw K (bX H p o):=
 t.of (fun b ps e=>by rw[aq (aX e hp)];exact e) (fun b φ e=>by rw[aq (aX e hp)];exact e) fun b o u e=>by rw[aq (aX e hp)];exact e
def nb:HO→Bool
 | .tbl _=>false
 | .ext _=>false
 | .frz _ _=>false
 | _=>true
theorem iw.at_ {K:W.Frag}{H:Hp}{a:Addr}{o u:HO}(t:iw K H)(ha:H a=some u)(hu:nb u=true):iw K (bX H a o):=
 t.of (fun b ps e=>by rw[aq (lZ e ha (by intro z;subst z;cases hu))];exact e) (fun b φ e=>by rw[aq (lZ e ha (by intro z;subst z;cases hu))];exact e) fun b o u e=>by rw[aq (lZ e ha (by intro z;subst z;cases hu))];exact e
theorem iw.no {K:W.Frag}{H:Hp}(h:∀x,x∈dE→W.nsIn K mainGlobals x=some none):iw K H:=by
 have no:∀x,x∈dE→∀c P,W.tabIn K x≠some (c,P):=fun x hx c P e=>by
  unfold W.tabIn at e;rw[h x hx] at e;cases e
 exact⟨fun x hx c P e=>absurd e (no x hx c P),fun x hx c P e=>absurd e (no x hx c P)⟩
structure Wr (K:W.Frag)(θ:List Addr)(H:Hp)(M:am):Prop where
 len:θ.length=M.length
 nd:θ.Nodup
 at_:∀(i:Nat) a m,θ[i]?=some a→M[i]?=some m→jP K θ H m a
 tb:iw K H
structure dJ (K:W.Frag)(θ:List Addr)(H:Hp)(σ:L2.St)(ρ:a9):Prop where
 len:ρ.length=σ.length
 at_:∀(i:Nat) d,ρ[i]?=some (some d)→∃v,σ[i]?=some (some v)∧cD K θ H d v
structure Grow (θ:List Addr)(H:Hp)(θ':List Addr)(H':Hp):Prop where
 ext:∃more,θ'=θ++more∧∀a∈more,H a=none
 keep:∀b o,H b=some o→b∉θ→(∀ps,o≠.tbl ps)→H' b=some o
 tkeep:∀b ps,H b=some (.tbl ps)→∃ps',H' b=some (.tbl ps')
structure Go (K:W.Frag)(θ:List Addr)(H:Hp)(θ':List Addr)(H':Hp)(M':am):Prop extends Grow θ H θ' H' where
 wr:Wr K θ' H' M'
section
variable {K:W.Frag}{θ θ' θ1 θ2:List Addr}{H H' H1 H2:Hp}{M M' M1 M2:am}{a p:Addr}{σ:L2.St}{ρ:a9}
theorem Wr.tracked (w:Wr K θ H M)(h:a∈θ):H a≠none:=by
 obtain⟨i,hi,e⟩:=mem_iff_getElem.mp h;have h1:θ[i]?=some a:=by rw[getElem?_eq_getElem hi,e]
 have h2:i<M.length:=by rw[←w.len];exact hi
 have h3:=w.at_ i a _ h1 (getElem?_eq_getElem h2);cases q:M[i] with
 | lst ds=>
  rw[q] at h3;obtain⟨vs,e,_⟩:=h3;rw[e];simp
 | obj c fs=>
  rw[q] at h3;obtain⟨C,dx,vs,_,e,_⟩:=h3;rw[e];simp
 | dK kvs=>
  rw[q] at h3;obtain⟨vs,e,_⟩:=h3;rw[e];simp
 | dT kvs=>
  rw[q] at h3;obtain⟨vs,e,_⟩:=h3;rw[e];simp
theorem jP.plain {m:MO}(h:jP K θ H m a):∃o,H a=some o∧nb o=true:=by
 cases m with
 | lst ds=>obtain⟨vs,e,_⟩:=h;exact⟨_,e,rfl⟩
 | obj c fs=>obtain⟨C,dx,vs,_,e,_⟩:=h;exact⟨_,e,rfl⟩
 | dK kvs=>obtain⟨vs,e,_⟩:=h;exact⟨_,e,rfl⟩
 | dT kvs=>obtain⟨vs,e,_⟩:=h;exact⟨_,e,rfl⟩
theorem Wr.plain (w:Wr K θ H M){i:Nat}(h:θ[i]?=some a):∃o,H a=some o∧nb o=true:=by
 have h2:i<M.length:=by rw[←w.len];exact(List.getElem?_eq_some_iff.mp h).1
 exact(w.at_ i a _ h (getElem?_eq_getElem h2)).plain
theorem Wr.fresh (w:Wr K θ H M)(h:H p=none):p∉θ:=fun z=>w.tracked z h
theorem Grow.refl (θ:List Addr)(H:Hp):Grow θ H θ H:=⟨⟨[],by simp,fun _ z=>by cases z⟩,fun _ _ h _ _=>h,fun b ps e=>⟨ps,e⟩⟩
theorem Go.refl (w:Wr K θ H M):Go K θ H θ H M:=⟨.refl θ H,w⟩
theorem Go.trans (a:Go K θ H θ1 H1 M1)(b:Go K θ1 H1 θ2 H2 M2):Go K θ H θ2 H2 M2:=by
 obtain⟨m1,e1,f1⟩:=a.ext;obtain⟨m2,e2,f2⟩:=b.ext;refine⟨⟨⟨m1++m2,by rw[e2,e1,append_assoc],fun x hx=>?_⟩,fun x o hx nx nt=>?_,fun x ps e=>?_⟩,b.wr⟩
 ·rcases mem_append.mp hx with z|z
  ·exact f1 x z
  ·cases q:H x with
   | none=>rfl
   | some o=>
    have nx:x∉θ:=by
     intro y;have nd:=b.wr.nd;rw[e2] at nd;have y1:x∈θ1:=by rw[e1];exact mem_append_left _ y
     exact(nodup_append.mp nd).2.2 x y1 x z rfl
    exfalso
    by_cases nt:∃ps,o=.tbl ps
    ·obtain⟨ps,rfl⟩:=nt;obtain⟨ps',e'⟩:=a.tkeep x ps q;rw[f2 x z] at e';cases e'
    ·have:=a.keep x o q nx fun ps e'=>nt ⟨ps,e'⟩
     rw[f2 x z] at this;cases this
 ·have h1:=a.keep x o hx nx nt;refine b.keep x o h1 ?_ nt;rw[e1];intro z;rcases mem_append.mp z with z|z
  ·exact nx z
  ·rw[f1 x z] at hx;cases hx
 ·obtain⟨ps',e'⟩:=a.tkeep x ps e;exact b.tkeep x ps' e'
theorem Grow.notin (g:Grow θ H θ' H'){o:HO}(h:H a=some o)(n:a∉θ):a∉θ':=by
 obtain⟨m,e,f⟩:=g.ext;rw[e];intro z;rcases mem_append.mp z with z|z
 ·exact n z
 ·rw[f a z] at h;cases h
theorem jc.grow {xs:List V}(g:Grow θ H θ' H')(h:jc K θ H a xs):jc K θ' H' a xs:=⟨g.keep _ _ h.1 h.2 (by intro _ z;cases z),g.notin h.1 h.2⟩
theorem j6.grow {xs:List V}(g:Grow θ H θ' H')(h:j6 θ H a xs):j6 θ' H' a xs:=⟨g.keep _ _ h.1 h.2 (by intro _ z;cases z),g.notin h.1 h.2⟩
theorem nk.grow {xs:List V}(g:Grow θ H θ' H')(h:nk K θ H a xs):nk K θ' H' a xs:=by
 rcases h with⟨h|⟨o,h⟩,n⟩|h
 ·exact .inl ⟨.inl (g.keep _ _ h n (by intro _ z;cases z)),g.notin h n⟩
 ·exact .inl ⟨.inr ⟨o,g.keep _ _ h n (by intro _ z;cases z)⟩,g.notin h n⟩
 ·exact .inr h
mutual
theorem gN (g:Grow θ H θ' H'):∀(d:D) (v:V),cD K θ H d v→cD K θ' H' d v
 | .non,v,h=>h
 | .bl b,v,h=>h
 | .int i,v,h=>h
 | .str x,v,h=>h
 | .tup ds,v,h=>by
  obtain⟨a,vs,e,t,r⟩:=h;exact⟨a,vs,e,t.grow g,bS g ds vs r⟩
 | .lst ds,v,h=>by
  obtain⟨a,vs,e,t,r⟩:=h;exact⟨a,vs,e,t.grow g,bS g ds vs r⟩
 | .ro ds,v,h=>by
  obtain⟨a,vs,e,t,r⟩:=h;exact⟨a,vs,e,t.grow g,bS g ds vs r⟩
 | .mr i,v,h=>by
  obtain⟨a,e,t⟩:=h;obtain⟨m,em,_⟩:=g.ext;refine⟨a,e,?_⟩;rw[em,getElem?_append_left (List.getElem?_eq_some_iff.mp t).1];exact t
 | .exc c,v,h=>by
  obtain⟨a,C,e,k,t,n⟩:=h;exact⟨a,C,e,k,g.keep _ _ t n (by intro _ z;cases z),g.notin t n⟩
 | .any,v,h=>h
theorem bS (g:Grow θ H θ' H'):∀(ds:List D) (vs:List V),aH K θ H ds vs→aH K θ' H' ds vs
 | [],vs,h=>h
 | d::ds,vs,h=>by
  obtain⟨v,r,e,h1,h2⟩:=h;exact⟨v,r,e,gN g d v h1,bS g ds r h2⟩
end
theorem cD.go {d:D}{v:V}(h:cD K θ H d v)(g:Go K θ H θ' H' M'):cD K θ' H' d v:=gN g.toGrow d v h
theorem aH.go {ds:List D}{vs:List V}(h:aH K θ H ds vs)(g:Go K θ H θ' H' M'):aH K θ' H' ds vs:=bS g.toGrow ds vs h
theorem dJ.go (h:dJ K θ H σ ρ)(g:Go K θ H θ' H' M'):dJ K θ' H' σ ρ:=⟨h.len,fun i d e=>let ⟨v,e1,e2⟩:=h.at_ i d e;⟨v,e1,e2.go g⟩⟩
theorem al:∀{ds:List D} {vs:List V},aH K θ H ds vs→ds.length=vs.length
 | [],vs,h=>by cases (show vs=[] from h);rfl
 | d::ds,vs,h=>by
  obtain⟨v,r,e,_,h2⟩:=h;subst e;rw[length_cons,length_cons,al h2]
theorem bZ:∀{ds es:List D} {vs us:List V},aH K θ H ds vs→aH K θ H es us→aH K θ H (ds++es) (vs++us)
 | [],es,vs,us,h,k=>by cases (show vs=[] from h);exact k
 | d::ds,es,vs,us,h,k=>by
  obtain⟨v,r,e,h1,h2⟩:=h;subst e;exact⟨v,r++us,rfl,h1,bZ h2 k⟩
theorem dh:∀{ds:List D} {vs:List V} {i:Nat} {d:D},aH K θ H ds vs→ds[i]?=some d→∃v,vs[i]?=some v∧cD K θ H d v
 | [],vs,i,d,h,e=>by simp at e
 | x::ds,vs,0,d,h,e=>by
  obtain⟨v,r,e1,h1,h2⟩:=h;subst e1;simp at e;subst e;exact⟨v,rfl,h1⟩
 | x::ds,vs,i+1,d,h,e=>by
  obtain⟨v,r,e1,h1,h2⟩:=h;subst e1;obtain⟨u,e2,h3⟩:=dh (i:=i) h2 (by simpa using e);exact⟨u,by simpa using e2,h3⟩
theorem j1:∀{ds:List D} {vs:List V} (n:Nat),aH K θ H ds vs→aH K θ H (ds.take n) (vs.take n)
 | ds,vs,0,h=>by rw[take_zero,take_zero];exact rfl
 | [],vs,n+1,h=>by cases (show vs=[] from h);exact rfl
 | d::ds,vs,n+1,h=>by
  obtain⟨v,r,e,h1,h2⟩:=h;subst e;exact⟨v,r.take n,rfl,h1,j1 n h2⟩
theorem j2:∀{ds:List D} {vs:List V} (n:Nat),aH K θ H ds vs→aH K θ H (ds.drop n) (vs.drop n)
 | ds,vs,0,h=>h
 | [],vs,n+1,h=>by cases (show vs=[] from h);exact rfl
 | d::ds,vs,n+1,h=>by
  obtain⟨v,r,e,h1,h2⟩:=h;subst e;exact j2 n h2
theorem mI {d:D}{v:V}(hd:cD K θ H d v):∀{ds:List D} {vs:List V} (i:Nat),aH K θ H ds vs→aH K θ H (ds.set i d) (vs.set i v)
 | [],vs,i,h=>by cases (show vs=[] from h);exact rfl
 | x::ds,vs,0,h=>by
  obtain⟨u,r,e,h1,h2⟩:=h;subst e;exact⟨v,r,rfl,hd,h2⟩
 | x::ds,vs,i+1,h=>by
  obtain⟨u,r,e,h1,h2⟩:=h;subst e;exact⟨u,r.set i v,rfl,h1,mI hd i h2⟩
theorem gX {o:HO}(w:Wr K θ H M)(hp:H p=none):Grow θ H θ (bX H p o):=
 ⟨⟨[],by simp,fun _ z=>by cases z⟩,fun b u h _ _=>by rw[aq (aX h hp)];exact h,fun b ps h=>⟨ps,by rw[aq (aX h hp)];exact h⟩⟩
theorem kn (g:Grow θ H θ' H'):∀{fs:List (Str×D)} {vs:List (Str×V)},p0 K θ H fs vs→p0 K θ' H' fs vs
 | [],vs,h=>h
 | (f,d)::fs,vs,h=>by
  obtain⟨v,r,e,h1,h2⟩:=h;exact⟨v,r,e,gN g d v h1,kn g h2⟩
theorem fO {κ:Type}(g:Grow θ H θ' H'):∀{fs:List (κ×D)} {vs:List (κ×V)},gR K θ H fs vs→gR K θ' H' fs vs
 | [],vs,h=>h
 | (f,d)::fs,vs,h=>by
  obtain⟨v,r,e,h1,h2⟩:=h;exact⟨v,r,e,gN g d v h1,fO g h2⟩
theorem jP.grow {m:MO}(g:Grow θ H θ' H')(hs:H' a=H a)(h:jP K θ H m a):jP K θ' H' m a:=by
 cases m with
 | lst ds=>
  obtain⟨vs,e,r⟩:=h;exact⟨vs,by rw[hs];exact e,bS g ds vs r⟩
 | obj c fs=>
  obtain⟨C,dx,vs,k,e,r⟩:=h;exact⟨C,dx,vs,k,by rw[hs];exact e,kn g r⟩
 | dK kvs=>
  obtain⟨vs,e,r⟩:=h;exact⟨vs,by rw[hs];exact e,fO g r⟩
 | dT kvs=>
  obtain⟨vs,e,r⟩:=h;exact⟨vs,by rw[hs];exact e,fO g r⟩
theorem cJ {o:HO}(w:Wr K θ H M)(hp:H p=none):Go K θ H θ (bX H p o) M:=
 ⟨gX w hp,w.len,w.nd,fun i a m h1 h2=>by
  have ha:a≠p:=fun e=>w.fresh hp (by rw[←e];exact mem_of_getElem? h1)
  exact(w.at_ i a m h1 h2).grow (gX w hp) (aq ha),w.tb.new hp⟩
theorem eN {ds:List D}{vs:List V}(w:Wr K θ H M)(hp:H p=none)(r:aH K θ H ds vs):cD K θ (bX H p (.tup vs)) (.tup ds) (.ref p):=
 ⟨p,vs,rfl,⟨cj,w.fresh hp⟩,bS (gX w hp) ds vs r⟩
theorem eI {ds:List D}{vs:List V}(w:Wr K θ H M)(hp:H p=none)(r:aH K θ H ds vs):cD K θ (bX H p (.lst vs)) (.lst ds) (.ref p):=
 ⟨p,vs,rfl,⟨cj,w.fresh hp⟩,bS (gX w hp) ds vs r⟩
theorem kA {o:HO}(hp:H p=none):Grow θ H (θ++[p]) (bX H p o):=
 ⟨⟨[p],rfl,fun a ha=>by rw[mem_singleton.mp ha];exact hp⟩,fun b u h _ _=>by rw[aq (aX h hp)];exact h,fun b ps h=>⟨ps,by rw[aq (aX h hp)];exact h⟩⟩
theorem nV {m:MO}{o:HO}(w:Wr K θ H M)(hp:H p=none)(hm:jP K (θ++[p]) (bX H p o) m p):Go K θ H (θ++[p]) (bX H p o) (M++[m]):=by
 have np:=w.fresh hp;have g:Grow θ H (θ++[p]) (bX H p o):=kA hp;refine⟨g,by rw[length_append,length_append,w.len];rfl,?_,fun i a m' h1 h2=>?_,w.tb.new hp⟩
 ·rw[nodup_append];exact⟨w.nd,by simp,fun x hx y hy e=>np (by rw[mem_singleton.mp hy] at e;rw[←e];exact hx)⟩
 ·by_cases hi:i<θ.length
  ·rw[getElem?_append_left hi] at h1;rw[getElem?_append_left (by rw[←w.len];exact hi)] at h2;have ha:a≠p:=fun e=>np (by rw[←e];exact mem_of_getElem? h1)
   exact(w.at_ i a m' h1 h2).grow g (aq ha)
  ·have hi':i=θ.length:=by
    have:=(List.getElem?_eq_some_iff.mp h1).1;rw[length_append,length_singleton] at this;omega
   subst hi';rw[getElem?_append_right (Nat.le_refl _)] at h1;rw[getElem?_append_right (by rw[w.len];exact Nat.le_refl _)] at h2;simp only[Nat.sub_self,w.len,getElem?_cons_zero,Option.some.injEq] at h1 h2;subst h1;subst h2;exact hm
theorem zw {ds:List D}{vs:List V}(w:Wr K θ H M)(hp:H p=none)(r:aH K θ H ds vs):Go K θ H (θ++[p]) (bX H p (.lst vs)) (M++[.lst ds]):=
 nV w hp ⟨vs,cj,bS (kA hp) ds vs r⟩
theorem lU {i:Nat}{o:HO}(w:Wr K θ H M)(hi:θ[i]?=some a):Grow θ H θ (bX H a o):=by
 have ha:a∈θ:=mem_of_getElem? hi;obtain⟨u,hu,pu⟩:=w.plain hi;exact⟨⟨[],by simp,fun _ z=>by cases z⟩,fun b u h n _=>by rw[aq (fun e=>n (by rw[e];exact ha))];exact h,fun b ps h=>⟨ps,by rw[aq (lZ h hu (by intro z;subst z;cases pu))];exact h⟩⟩
theorem oq {i:Nat}{m:MO}{o:HO}(w:Wr K θ H M)(hi:θ[i]?=some a)(hm:jP K θ (bX H a o) m a):Go K θ H θ (bX H a o) (M.set i m):=by
 have g:Grow θ H θ (bX H a o):=lU w hi;obtain⟨u,hu,pu⟩:=w.plain hi;refine⟨g,by rw[length_set];exact w.len,w.nd,fun j b m' h1 h2=>?_,w.tb.at_ hu pu⟩
 by_cases hj:j=i
 ·subst hj;rw[hi] at h1;cases h1;have hl:j<M.length:=by rw[←w.len];exact(List.getElem?_eq_some_iff.mp hi).1
  rw[getElem?_set_self hl] at h2;cases h2;exact hm
 ·rw[getElem?_set_ne (Ne.symm hj)] at h2;have hb:b≠a:=fun e=>by
   subst e;obtain⟨h3,e3⟩:=List.getElem?_eq_some_iff.mp h1;obtain⟨h4,e4⟩:=List.getElem?_eq_some_iff.mp hi;exact hj ((getElem_inj w.nd).mp (e3.trans e4.symm))
  exact(w.at_ j b m' h1 h2).grow g (aq hb)
theorem sR {i:Nat}{ds ds':List D}{vs':List V}(w:Wr K θ H M)(hi:θ[i]?=some a)(r:aH K θ H ds' vs'):Go K θ H θ (bX H a (.lst vs')) (M.set i (.lst ds')):=
 oq w hi ⟨vs',cj,bS (lU w hi) ds' vs' r⟩
end
abbrev GE:=a9→am→aF D
abbrev GT:=a9→am→aF Bool
abbrev GA:=a9→am→aF (List D)
inductive Fl where
 | nx (ρ:a9)|rt (d:D)|bk (ρ:a9)|ct (ρ:a9)
abbrev GS:=a9→am→aF Fl
def cM (X:Cx)(θ:List Addr)(H:Hp)(c:Str)(M:am):Prop:=∀C θ' H' a s',jo X.K c C→Go X.K θ H θ' H' M→CJ X H' a C s'→X.xe (.ref a) s'
def aE (X:Cx)(θ:List Addr)(H:Hp)(Q:VK):aF D→Prop
 | .ok d M'=>∀v θ' H',Go X.K θ H θ' H' M'→cD X.K θ' H' d v→Q v H'
 | .err c M'=>cM X θ H c M'
 | .bad=>False
def iA (X:Cx)(θ:List Addr)(H:Hp)(Q:Bool→Hp→Prop):aF Bool→Prop
 | .ok b M'=>∀θ' H',Go X.K θ H θ' H' M'→Q b H'
 | .err c M'=>cM X θ H c M'
 | .bad=>False
def p5 (X:Cx)(θ:List Addr)(H:Hp)(Q:List V→Hp→Prop):aF (List D)→Prop
 | .ok ds M'=>∀vs θ' H',Go X.K θ H θ' H' M'→aH X.K θ' H' ds vs→Q vs H'
 | .err c M'=>cM X θ H c M'
 | .bad=>False
def bK (X:Cx)(θ:List Addr)(H:Hp)(D:pL):aF Fl→Prop
 | .ok (.nx ρ) M'=>∀σ θ' H',Go X.K θ H θ' H' M'→dJ X.K θ' H' σ ρ→D.nx σ H'
 | .ok (.bk ρ) M'=>∀σ θ' H',Go X.K θ H θ' H' M'→dJ X.K θ' H' σ ρ→D.bk σ H'
 | .ok (.ct ρ) M'=>∀σ θ' H',Go X.K θ H θ' H' M'→dJ X.K θ' H' σ ρ→D.ct σ H'
 | .ok (.rt d) M'=>∀v θ' H',Go X.K θ H θ' H' M'→cD X.K θ' H' d v→D.rt v H'
 | .err c M'=>cM X θ H c M'
 | .bad=>False
def tE (X:Cx)(g:GE):TE:=fun σ H Q=>∃ρ θ M,dJ X.K θ H σ ρ∧Wr X.K θ H M∧aE X θ H Q (g ρ M)
def tT (X:Cx)(g:GT):TT:=fun σ H Q=>∃ρ θ M,dJ X.K θ H σ ρ∧Wr X.K θ H M∧iA X θ H Q (g ρ M)
def tA (X:Cx)(g:GA):TA:=fun σ H Q=>∃ρ θ M,dJ X.K θ H σ ρ∧Wr X.K θ H M∧p5 X θ H Q (g ρ M)
def tS (X:Cx)(g:GS):TS:=fun D σ H=>∃ρ θ M,dJ X.K θ H σ ρ∧Wr X.K θ H M∧bK X θ H D (g ρ M)
section
variable {X:Cx}{θ θ':List Addr}{H H':Hp}{M':am}
theorem cM.go {c:Str}{M:am}(g:Go X.K θ H θ' H' M')(h:cM X θ H c M):cM X θ' H' c M:=fun C θ2 H2 a s' k g2 fl=>h C θ2 H2 a s' k (g.trans g2) fl
theorem aE.go {Q:VK}{o:aF D}(g:Go X.K θ H θ' H' M')(h:aE X θ H Q o):aE X θ' H' Q o:=by
 cases o with
 | ok d M=>exact fun v θ2 H2 g2=>h v θ2 H2 (g.trans g2)
 | err c M=>exact cM.go (c:=c) (M:=M) g h
 | bad=>exact h
theorem iA.go {Q:Bool→Hp→Prop}{o:aF Bool}(g:Go X.K θ H θ' H' M')(h:iA X θ H Q o):iA X θ' H' Q o:=by
 cases o with
 | ok d M=>exact fun θ2 H2 g2=>h θ2 H2 (g.trans g2)
 | err c M=>exact cM.go (c:=c) (M:=M) g h
 | bad=>exact h
theorem p5.go {Q:List V→Hp→Prop}{o:aF (List D)}(g:Go X.K θ H θ' H' M')(h:p5 X θ H Q o):p5 X θ' H' Q o:=by
 cases o with
 | ok d M=>exact fun v θ2 H2 g2=>h v θ2 H2 (g.trans g2)
 | err c M=>exact cM.go (c:=c) (M:=M) g h
 | bad=>exact h
theorem bK.go {D:pL}{o:aF Fl}(g:Go X.K θ H θ' H' M')(h:bK X θ H D o):bK X θ' H' D o:=by
 cases o with
 | ok f M=>cases f <;> exact fun v θ2 H2 g2=>h v θ2 H2 (g.trans g2)
 | err c M=>exact cM.go (c:=c) (M:=M) g h
 | bad=>exact h
end
section
variable {X:Cx}{e:Expr}
theorem _root_.L2.PE.of {t t':TE}(h:PE X e t)(w:∀σ H Q,t' σ H Q→t σ H Q):PE X e t':=fun af s σ H Q I q=>h af s σ H Q I (w σ H Q q)
theorem _root_.L2.PT.of {t t':TT}(h:PT X e t)(w:∀σ H Q,t' σ H Q→t σ H Q):PT X e t':=fun af s σ H Q I q=>h af s σ H Q I (w σ H Q q)
theorem _root_.L2.PW.of {t t':TT}(h:PW X e t)(w:∀σ H Q,t' σ H Q→t σ H Q):PW X e t':=fun wh af s σ H Q I q=>h wh af s σ H Q I (w σ H Q q)
theorem _root_.L2.PA.of {es:List Expr}{t t':TA}(h:PA X es t)(w:∀σ H Q,t' σ H Q→t σ H Q):PA X es t':=fun pos af s σ H Q I q=>h pos af s σ H Q I (w σ H Q q)
theorem _root_.L2.PS.of {st:Stmt}{t t':TS}(h:PS X st t)(w:∀D σ H,t' D σ H→t D σ H):PS X st t':=fun af s σ H D I q=>h af s σ H D I (w D σ H q)
theorem _root_.L2.PSs.of {st:List Stmt}{t t':TS}(h:PSs X st t)(w:∀D σ H,t' D σ H→t D σ H):PSs X st t':=fun af s σ H D I q=>h af s σ H D I (w D σ H q)
theorem bx {g:GE}{σ:L2.St}{H:Hp}{Q:VK}{α:Type}{ρ:a9}{θ:List Addr}{M:am}(hd:dJ X.K θ H σ ρ)(hw:Wr X.K θ H M)(F:aF α→Prop)(Fe:∀c M',F (.err c M')→cM X θ H c M')(Fb:F .bad→False)
  {f:D→am→aF α} (h:F ((g ρ M).bind f))
  (k:∀d M1 v θ1 H1,Go X.K θ H θ1 H1 M1→cD X.K θ1 H1 d v→F (f d M1)→Q v H1):tE X g σ H Q:=by
 refine⟨ρ,θ,M,hd,hw,?_⟩;cases q:g ρ M with
 | ok d M1=>
  rw[q] at h;exact fun v θ1 H1 g1 r1=>k d M1 v θ1 H1 g1 r1 h
 | err c M1=>rw[q] at h;exact Fe c M1 h
 | bad=>rw[q] at h;exact(Fb h).elim
def ae (i:Nat):GE:=fun ρ M=>match ρ[i]? with
 | some (some d)=>.ok d M
 | _=>.bad
def gC (d:D):GE:=fun _ M=>.ok d M
theorem zA {i:Nat}(h:PE X e (BI i)):PE X e (tE X (ae i)):=h.of fun σ H Q hxx=>by
 obtain⟨ρ,θ,M,hd,hw,f⟩:=hxx;unfold ae at f;split at f
 ·rename_i d q;obtain⟨v,e1,r⟩:=hd.at_ i d q;exact⟨v,e1,f v θ H (.refl hw) r⟩
 ·exact f.elim
theorem xr {i j pos}:PE X (.Constant (.int i) j pos) (tE X (gC (.int i))):=zu.of fun σ H Q ⟨ρ,θ,M,hd,hw,f⟩=>f _ θ H (.refl hw) rfl
theorem AY {b j pos}:PE X (.Constant (.bool b) j pos) (tE X (gC (.bl b))):=Bc.of fun σ H Q ⟨ρ,θ,M,hd,hw,f⟩=>f _ θ H (.refl hw) rfl
theorem wU {j pos}:PE X (.Constant .none j pos) (tE X (gC .non)):=yD.of fun σ H Q ⟨ρ,θ,M,hd,hw,f⟩=>f _ θ H (.refl hw) rfl
abbrev F2:=D→D→am→aF D
def g2 (f:F2)(ga gb:GE):GE:=fun ρ M=>(ga ρ M).bind fun x M1=>(gb ρ M1).bind fun y M2=>f x y M2
def rD (X:Cx)(f:F2):R2:=fun x y H Q=>∃θ M dx dy,Wr X.K θ H M∧cD X.K θ H dx x∧cD X.K θ H dy y∧aE X θ H Q (f dx dy M)
theorem oB {f:F2}{ga gb:GE}{σ:L2.St}{H:Hp}{Q:VK}(h:tE X (g2 f ga gb) σ H Q):Ae (rD X f) (tE X ga) (tE X gb) σ H Q:=by
 obtain⟨ρ,θ,M,hd,hw,h⟩:=h;refine bx hd hw (aE X θ H Q) (fun c M' h=>h) (fun h=>h) h fun dx M1 x θ1 H1 g1 r1 h1=>?_
 refine bx (hd.go g1) g1.wr (aE X θ1 H1 Q) (fun c M' h=>h) (fun h=>h) (h1.go g1) fun dy M2 y θ2 H2 g2 r2 h2=>?_
 exact⟨θ2,M2,dx,dy,g2.wr,r1.go g2,r2,h2.go g2⟩
theorem AW {a b:Expr}{op:Operator}{pos:Pos}{f:F2}{ga gb:GE}(ho:dO X (binaryOp op) (rD X f))(ha:PE X a (tE X ga))(hb:PE X b (tE X gb)):PE X (.BinOp a op b pos) (tE X (g2 f ga gb)):=
 (zR ho ha hb).of fun _ _ _ h=>oB h
theorem yX {a b:Expr}{op:CmpOp}{pos:Pos}{f:F2}{ga gb:GE}(ho:dO X (compareOp op) (rD X f))(ha:PE X a (tE X ga))(hb:PE X b (tE X gb))(hm:behindInMarks op b=false):PE X (.Compare a [op] [b] pos) (tE X (g2 f ga gb)):=
 (vL ho ha hb hm).of fun _ _ _ h=>oB h
def BD:D→am→aF Bool
 | .bl b,M=>.ok b M
 | _,_=>.bad
def aY (g:GE):GT:=fun ρ M=>(g ρ M).bind BD
theorem qK {θ:List Addr}{H:Hp}{Q:Bool→Hp→Prop}{o:aF D}(h:iA X θ H Q (o.bind BD)):aE X θ H (fun x H'=>∃k,x=.bl k∧Q k H') o:=by
 cases o with
 | ok d M=>
  cases d with
  | bl b=>exact fun v θ1 H1 g1 r1=>⟨b,r1,h θ1 H1 g1⟩
  | _=>exact h.elim
 | err c M=>exact h
 | bad=>exact h
theorem sF {g:GE}{σ:L2.St}{H:Hp}{Q:Bool→Hp→Prop}(h:tT X (aY g) σ H Q):tE X g σ H fun x H'=>∃k,x=.bl k∧Q k H':=by
 obtain⟨ρ,θ,M,hd,hw,h⟩:=h;exact⟨ρ,θ,M,hd,hw,qK h⟩
theorem qS {a b:Expr}{op:CmpOp}{pos:Pos}{f:F2}{ga gb:GE}(ho:dO X (compareOp op) (rD X f))(ha:PE X a (tE X ga))(hb:PE X b (tE X gb))(hm:behindInMarks op b=false):PT X (.Compare a [op] [b] pos) (tT X (aY (g2 f ga gb))):=
 (uP ho ha hb hm).of fun σ H Q h=>oB (sF h)
def ph (f f':F2)(ga gb gc:GE):GE:=fun ρ M=>(ga ρ M).bind fun x M1=>(gb ρ M1).bind fun y M2=>(f x y M2).bind fun z M3=>match z with
 | .bl true=>(gc ρ M3).bind fun w M4=>f' y w M4
 | .bl false=>.ok (.bl false) M3
 | _=>.bad
theorem Ab {f f':F2}{ga gb gc:GE}{σ:L2.St}{H:Hp}{Q:VK}(h:tE X (ph f f' ga gb gc) σ H Q):qU (rD X f) (rD X f') (tE X ga) (tE X gb) (tE X gc) σ H Q:=by
 obtain⟨ρ,θ,M,hd,hw,h⟩:=h;refine bx hd hw (aE X θ H Q) (fun c M' h=>h) (fun h=>h) h fun dx M1 x θ1 H1 g1 r1 h1=>?_
 refine bx (hd.go g1) g1.wr (aE X θ1 H1 Q) (fun c M' h=>h) (fun h=>h) (h1.go g1) fun dy M2 y θ2 H2 g2 r2 h2=>?_
 refine⟨θ2,M2,dx,dy,g2.wr,r1.go g2,r2,?_⟩;have h3:=h2.go g2;cases q:f dx dy M2 with
 | ok z M3=>
  rw[q] at h3;intro v θ3 H3 g3 r3;cases z with
  | bl k=>
   refine⟨k,r3,?_⟩;cases k with
   | true=>
    rw[if_pos rfl];refine bx ((hd.go g1).go (g2.trans g3)) g3.wr (aE X θ3 H3 Q) (fun c M' h=>h) (fun h=>h) (h3.go g3) fun dw M4 w θ4 H4 g4 r4 h4=>?_
    exact⟨θ4,M4,dy,dw,g4.wr,r2.go (g3.trans g4),r4,h4.go g4⟩
   | false=>
    rw[if_neg Bool.false_ne_true];exact h3 _ θ3 H3 g3 rfl
  | _=>exact h3.elim
 | err c M3=>rw[q] at h3;exact h3
 | bad=>rw[q] at h3;exact h3
theorem qT {a b c:Expr}{op op':CmpOp}{pos:Pos}{f f':F2}{ga gb gc:GE}(ho:dO X (compareOp op) (rD X f))(ho':dO X (compareOp op') (rD X f'))(ha:PE X a (tE X ga))(hb:PE X b (tE X gb))(hc:PE X c (tE X gc))
  (hm:lastMarks [op,op'] [b,c]=false:=by with_unfolding_all rfl):PT X (.Compare a [op,op'] [b,c] pos) (tT X (aY (ph f f' ga gb gc))):=(sA ho ho' ha hb hc hm).of fun σ H Q h=>Ab (sF h)
def dD (a b:GT):GT:=fun ρ M=>(a ρ M).bind fun c M1=>if c then b ρ M1 else .ok false M1
def iY (a b:GT):GT:=fun ρ M=>(a ρ M).bind fun c M1=>if c then .ok true M1 else b ρ M1
def fW (a:GT):GT:=fun ρ M=>(a ρ M).bind fun c M1=>.ok (!c) M1
theorem mT {g:GT}{σ:L2.St}{H:Hp}{Q:Bool→Hp→Prop}{α:Type}{ρ:a9}{θ:List Addr}{M:am}(hd:dJ X.K θ H σ ρ)(hw:Wr X.K θ H M)(F:aF α→Prop)(Fe:∀c M',F (.err c M')→cM X θ H c M')(Fb:F .bad→False)
  {f:Bool→am→aF α} (h:F ((g ρ M).bind f)) (k:∀d M1 θ1 H1,Go X.K θ H θ1 H1 M1→F (f d M1)→Q d H1):tT X g σ H Q:=by
 refine⟨ρ,θ,M,hd,hw,?_⟩;cases q:g ρ M with
 | ok d M1=>
  rw[q] at h;exact fun θ1 H1 g1=>k d M1 θ1 H1 g1 h
 | err c M1=>rw[q] at h;exact Fe c M1 h
 | bad=>rw[q] at h;exact(Fb h).elim
variable {a b:Expr}{pos:Pos}{rest:List Expr}{ta tb:GT}{ga gb:GE}
theorem ub (ha:PT X a (tT X ta)):PW X (.BoolOp .And [a] pos) (tT X ta):=vn ha
theorem xl (ha:PT X a (tT X ta)):PW X (.BoolOp .Or [a] pos) (tT X ta):=yg ha
theorem xY (ha:PT X a (tT X ta))(hb:PW X (.BoolOp .And (b::rest) pos) (tT X tb)):PW X (.BoolOp .And (a::b::rest) pos) (tT X (dD ta tb)):=(yd ha hb).of fun σ H Q hxx=>by
 obtain⟨ρ,θ,M,hd,hw,h⟩:=hxx;refine mT hd hw (iA X θ H Q) (fun c M' h=>h) (fun h=>h) h fun c M1 θ1 H1 g1 h1=>?_
 cases c with
 | true=>exact⟨ρ,θ1,M1,hd.go g1,g1.wr,iA.go g1 h1⟩
 | false=>exact h1 θ1 H1 g1
theorem Af (ha:PT X a (tT X ta))(hb:PW X (.BoolOp .Or (b::rest) pos) (tT X tb)):PW X (.BoolOp .Or (a::b::rest) pos) (tT X (iY ta tb)):=(Be ha hb).of fun σ H Q hxx=>by
 obtain⟨ρ,θ,M,hd,hw,h⟩:=hxx;refine mT hd hw (iA X θ H Q) (fun c M' h=>h) (fun h=>h) h fun c M1 θ1 H1 g1 h1=>?_
 cases c with
 | true=>exact h1 θ1 H1 g1
 | false=>exact⟨ρ,θ1,M1,hd.go g1,g1.wr,iA.go g1 h1⟩
theorem xt (ha:PT X a (tT X ta)):PT X (.UnaryOp .Not a pos) (tT X (fW ta)):=(xx ha).of fun σ H Q hxx=>by
 obtain⟨ρ,θ,M,hd,hw,h⟩:=hxx;exact mT hd hw (iA X θ H Q) (fun c M' h=>h) (fun h=>h) h fun c M1 θ1 H1 g1 h1=>h1 θ1 H1 g1
theorem wR {op}{g:GE}(h:PE X a (tE X g)):PE X (.BoolOp op [a] pos) (tE X g):=xQ h
def ag:GA:=fun _ M=>.ok [] M
def aa (g:GE)(r:GA):GA:=fun ρ M=>(g ρ M).bind fun d M1=>(r ρ M1).bind fun ds M2=>.ok (d::ds) M2
theorem hG {g:GA}{σ:L2.St}{H:Hp}{Q:List V→Hp→Prop}{α:Type}{ρ:a9}{θ:List Addr}{M:am}(hd:dJ X.K θ H σ ρ)(hw:Wr X.K θ H M)(F:aF α→Prop)(Fe:∀c M',F (.err c M')→cM X θ H c M')(Fb:F .bad→False)
  {f:List D→am→aF α} (h:F ((g ρ M).bind f)) (k:∀ds M1 vs θ1 H1,Go X.K θ H θ1 H1 M1→aH X.K θ1 H1 ds vs→F (f ds M1)→Q vs H1):tA X g σ H Q:=by
 refine⟨ρ,θ,M,hd,hw,?_⟩;cases q:g ρ M with
 | ok d M1=>
  rw[q] at h;exact fun v θ1 H1 g1 r1=>k d M1 v θ1 H1 g1 r1 h
 | err c M1=>rw[q] at h;exact Fe c M1 h
 | bad=>rw[q] at h;exact(Fb h).elim
theorem yo:PA X [] (tA X ag):=lq.of fun σ H Q ⟨ρ,θ,M,hd,hw,f⟩=>f [] θ H (.refl hw) rfl
theorem vb {es:List Expr}{gr:GA}(ha:PE X e (tE X ga))(hr:PA X es (tA X gr))(hs:starEach (e::es) X.env=(false,eval e X.env)::starEach es X.env:=by rfl):PA X (e::es) (tA X (aa ga gr)):=
 (g6 ha hr hs).of fun σ H Q hxx=>by
  obtain⟨ρ,θ,M,hd,hw,h⟩:=hxx;refine bx hd hw (p5 X θ H Q) (fun c M' h=>h) (fun h=>h) h fun d M1 v θ1 H1 g1 r1 h1=>?_
  refine hG (hd.go g1) g1.wr (p5 X θ1 H1 Q) (fun c M' h=>h) (fun h=>h) (h1.go g1) fun ds M2 vs θ2 H2 g2 r2 h2=>?_
  exact h2 (v::vs) θ2 H2 g2 ⟨v,vs,rfl,r1.go g2,r2⟩
def jj (ds:List D)(M:am):aF D:=if ds.length≤sizeLine then .ok (.tup ds) M else .bad
def aQ (ds:List D)(M:am):aF D:=if ds.length≤sizeLine then .ok (.lst ds) M else .bad
def cO (ds:List D)(M:am):aF D:=if ds.length≤sizeLine then .ok (.mr M.length) (M++[.lst ds]) else .bad
def aK (g:GA):GE:=fun ρ M=>(g ρ M).bind jj
def d7 (g:GA):GE:=fun ρ M=>(g ρ M).bind aQ
def fU (g:GA):GE:=fun ρ M=>(g ρ M).bind cO
theorem aE.tup {θ:List Addr}{H:Hp}{Q:VK}{ds:List D}{M:am}{vs:List V}(h:aE X θ H Q (jj ds M))(hw:Wr X.K θ H M)(r:aH X.K θ H ds vs):vs.length≤sizeLine∧∀p,H p=none→Q (.ref p) (bX H p (.tup vs)):=by
 unfold jj at h
 by_cases hl:ds.length≤sizeLine
 ·rw[if_pos hl] at h;exact⟨by rw[←al r];exact hl,fun p hp=>h _ θ _ (cJ hw hp) (eN hw hp r)⟩
 ·rw[if_neg hl] at h;exact h.elim
theorem aE.lst {θ:List Addr}{H:Hp}{Q:VK}{ds:List D}{M:am}{vs:List V}(h:aE X θ H Q (aQ ds M))(hw:Wr X.K θ H M)(r:aH X.K θ H ds vs):vs.length≤sizeLine∧∀p,H p=none→Q (.ref p) (bX H p (.lst vs)):=by
 unfold aQ at h
 by_cases hl:ds.length≤sizeLine
 ·rw[if_pos hl] at h;exact⟨by rw[←al r];exact hl,fun p hp=>h _ θ _ (cJ hw hp) (eI hw hp r)⟩
 ·rw[if_neg hl] at h;exact h.elim
theorem aE.mut {θ:List Addr}{H:Hp}{Q:VK}{ds:List D}{M:am}{vs:List V}(h:aE X θ H Q (cO ds M))(hw:Wr X.K θ H M)(r:aH X.K θ H ds vs):vs.length≤sizeLine∧∀p,H p=none→Q (.ref p) (bX H p (.lst vs)):=by
 unfold cO at h
 by_cases hl:ds.length≤sizeLine
 ·rw[if_pos hl] at h;refine⟨by rw[←al r];exact hl,fun p hp=>h _ (θ++[p]) _ (zw hw hp r) ⟨p,rfl,?_⟩⟩;rw[←hw.len,getElem?_append_right (Nat.le_refl _)];simp
 ·rw[if_neg hl] at h;exact h.elim
theorem xA {es:List Expr}{x1}{g:GA}(h:PA X es (tA X g)):PE X (.Tuple es x1 pos) (tE X (aK g)):=(xw h).of fun σ H Q ⟨ρ,θ,M,hd,hw,h⟩=>
 hG hd hw (aE X θ H Q) (fun c M' h=>h) (fun h=>h) h fun ds M1 vs θ1 H1 g1 r1 h1=>aE.tup (aE.go g1 h1) g1.wr r1
theorem yK {es:List Expr}{g:GA}(h:PA X es (tA X g)):PE X (.List es pos) (tE X (d7 g)):=(sX h).of fun σ H Q ⟨ρ,θ,M,hd,hw,h⟩=>
 hG hd hw (aE X θ H Q) (fun c M' h=>h) (fun h=>h) h fun ds M1 vs θ1 H1 g1 r1 h1=>aE.lst (aE.go g1 h1) g1.wr r1
theorem yM {es:List Expr}{g:GA}(h:PA X es (tA X g)):PE X (.List es pos) (tE X (fU g)):=(sX h).of fun σ H Q ⟨ρ,θ,M,hd,hw,h⟩=>
 hG hd hw (aE X θ H Q) (fun c M' h=>h) (fun h=>h) h fun ds M1 vs θ1 H1 g1 r1 h1=>aE.mut (aE.go g1 h1) g1.wr r1
end
section
variable {K:W.Frag}{θ:List Addr}{H:Hp}{σ:L2.St}{ρ:a9}
theorem dJ.set {d:D}{v:V}(h:dJ K θ H σ ρ)(r:cD K θ H d v)(i:Nat):dJ K θ H (σ.set i (some v)) (ρ.set i (some d)):=by
 refine⟨by rw[length_set,length_set];exact h.len,fun j d' e=>?_⟩
 by_cases hj:j=i
 ·subst hj;have hl:j<ρ.length:=by
   have:=(List.getElem?_eq_some_iff.mp e).1;rw[length_set] at this;exact this
  rw[getElem?_set_self hl] at e;have e':d=d':=by simpa using e
  subst e';exact⟨v,getElem?_set_self (by rw[←h.len];exact hl),r⟩
 ·rw[getElem?_set_ne (Ne.symm hj)] at e;obtain⟨u,e1,r1⟩:=h.at_ j d' e;exact⟨u,by rw[getElem?_set_ne (Ne.symm hj)];exact e1,r1⟩
end
def bG:GS:=fun ρ M=>.ok (.nx ρ) M
def ar (a b:GS):GS:=fun ρ M=>(a ρ M).bind fun f M1=>match f with
 | .nx ρ1=>b ρ1 M1
 | .rt d=>.ok (.rt d) M1
 | .bk ρ1=>.ok (.bk ρ1) M1
 | .ct ρ1=>.ok (.ct ρ1) M1
def aB (i:Nat)(g:GE):GS:=fun ρ M=>(g ρ M).bind fun d M1=>.ok (.nx (ρ.set i (some d))) M1
def aR (g:GE):GS:=fun ρ M=>(g ρ M).bind fun d M1=>.ok (.rt d) M1
def fi (g:GE):GS:=fun ρ M=>(g ρ M).bind fun _ M1=>.ok (.nx ρ) M1
def gG (t:GT)(a b:GS):GS:=fun ρ M=>(t ρ M).bind fun c M1=>if c then a ρ M1 else b ρ M1
section
variable {X:Cx}{st:Stmt}{rest:List Stmt}{e:Expr}{g:GE}{t u:GS}{pos:Pos}
theorem xn:PSs X [] (tS X bG):=ut.of fun D σ H ⟨ρ,θ,M,hd,hw,f⟩=>f σ θ H (.refl hw) hd
theorem vK (h1:PS X st (tS X t))(h2:PSs X rest (tS X u)):PSs X (st::rest) (tS X (ar t u)):=(qC h1 h2).of fun D σ H hxx=>by
 obtain⟨ρ,θ,M,hd,hw,h⟩:=hxx;refine⟨ρ,θ,M,hd,hw,?_⟩;unfold ar at h;cases q:t ρ M with
 | ok f M1=>
  rw[q] at h;cases f with
  | nx ρ1=>exact fun σ1 θ1 H1 g1 d1=>⟨ρ1,θ1,M1,d1,g1.wr,bK.go g1 h⟩
  | rt d=>exact h
  | bk ρ1=>exact h
  | ct ρ1=>exact h
 | err c M1=>rw[q] at h;exact h
 | bad=>rw[q] at h;exact h
theorem xp (h1:PS X st (tS X t)):PSs X [st] (tS X t):=uq h1
theorem xu {i:Nat}{x:Str}{pos':Pos}(hN:X.N.Nodup)(hi:X.N[i]?=some x)(hx:tR X.env.scope x)(he:PE X e (tE X g))(hs:swapsWith e (some (.Name x pos')) pos.line X.env=pure false:=by rfl)(hf:X.fn x=true∨X.env.scope.names.lookup x=some .local:=by first|exact .inl rfl|exact .inr rfl|assumption) :
  PS X (.Assign [.Name x pos'] e pos) (tS X (aB i g)):=(zp hN hi hx he hs hf).of fun D σ H ⟨ρ,θ,M,hd,hw,h⟩=>
 bx hd hw (bK X θ H D) (fun c M' h=>h) (fun h=>h) h fun d M1 v θ1 H1 g1 r1 h1=>h1 _ θ1 H1 g1 ((hd.go g1).set r1 i)
theorem yQ (he:PE X e (tE X g)):PS X (.Return (some e) pos) (tS X (aR g)):=(xy he).of fun D σ H ⟨ρ,θ,M,hd,hw,h⟩=>
 bx hd hw (bK X θ H D) (fun c M' h=>h) (fun h=>h) h fun d M1 v θ1 H1 g1 r1 h1=>h1 v θ1 H1 g1 r1
theorem ui (he:PE X e (tE X g))(hs:swapsWith e none pos.line X.env=pure false:=by rfl):PS X (.Expr e pos) (tS X (fi g)):=(vk he hs).of fun D σ H ⟨ρ,θ,M,hd,hw,h⟩=>
 bx hd hw (bK X θ H D) (fun c M' h=>h) (fun h=>h) h fun d M1 v θ1 H1 g1 r1 h1=>h1 σ θ1 H1 g1 (hd.go g1)
theorem A8 {c:Expr}{a b:List Stmt}{tc:GT}(hc:PT X c (tT X tc))(ha:PSs X a (tS X t))(hb:PSs X b (tS X u)):PS X (.If c a b pos) (tS X (gG tc t u)):=(BM hc ha hb).of fun D σ H hxx=>by
 obtain⟨ρ,θ,M,hd,hw,h⟩:=hxx;refine mT hd hw (bK X θ H D) (fun c M' h=>h) (fun h=>h) h fun c M1 θ1 H1 g1 h1=>?_
 cases c with
 | true=>rw[if_pos rfl];exact⟨ρ,θ1,M1,hd.go g1,g1.wr,bK.go g1 h1⟩
 | false=>rw[if_neg Bool.false_ne_true];exact⟨ρ,θ1,M1,hd.go g1,g1.wr,bK.go g1 h1⟩
abbrev GG:=D→a9→Option a9
def tG (X:Cx)(s:GG):TG:=fun v σ H Q=>∃ρ θ M d,dJ X.K θ H σ ρ∧Wr X.K θ H M∧cD X.K θ H d v∧∃ρ',s d ρ=some ρ'∧∀σ',dJ X.K θ H σ' ρ'→Q σ' H
def bL (i:Nat):GG:=fun d ρ=>some (ρ.set i (some d))
def ij:List Nat→List D→a9→Option a9
 | [],[],ρ=>some ρ
 | i::is,d::ds,ρ=>ij is ds (ρ.set i (some d))
 | _,_,_=>none
def cp (is:List Nat):GG:=fun d ρ=>match d with
 | .tup ds=>ij is ds ρ
 | _=>none
theorem lI {i:Nat}{x:Str}(hN:X.N.Nodup)(hi:X.N[i]?=some x)(hx:tR X.env.scope x)(hf:X.fn x=true∨X.env.scope.names.lookup x=some .local:=by first|exact .inl rfl|exact .inr rfl|assumption):PG X (.Name x pos) (tG X (bL i)):=by
 intro af s σ H v u Q I r h;obtain⟨ρ,θ,M,d,hd,hw,rd,ρ',e,h⟩:=h;cases e;exact wb hN hi hx hf af s σ H v u Q I r (h _ (hd.set rd i))
def BE (X:Cx)(is:List Nat):wB:=fun vs σ H Q=>∃ρ θ M ds,dJ X.K θ H σ ρ∧Wr X.K θ H M∧aH X.K θ H ds vs∧∃ρ',ij is ds ρ=some ρ'∧∀σ',dJ X.K θ H σ' ρ'→Q σ' H
theorem vg:uw X [] (BE X []):=by
 intro af s σ H vs us Q I r h;obtain⟨ρ,θ,M,ds,hd,hw,rd,ρ',e,h⟩:=h;cases ds with
 | cons d ds=>cases e
 | nil=>
  have e2:vs=[]:=rd;subst e2;cases e;exact vI af s σ H [] us Q I r ⟨rfl,h σ hd⟩
theorem qZ {i:Nat}{is:List Nat}{es:List Expr}(h1:PG X e (tG X (bL i)))(h2:uw X es (BE X is))
  (hs:(assignEach (e::es) X.env).map (·.2)=assign e X.env::(assignEach es X.env).map (·.2):=by rfl):uw X (e::es) (BE X (i::is)):=by
 intro af s σ H vs us Q I r h;obtain⟨ρ,θ,M,ds,hd,hw,rd,ρ',e1,h⟩:=h;cases ds with
 | nil=>cases e1
 | cons d ds=>
  obtain⟨v,vr,e2,rv,rr⟩:=rd;subst e2;refine tJ h1 h2 hs af s σ H _ us Q I r ⟨v,vr,rfl,ρ,θ,M,d,hd,hw,rv,_,rfl,fun σ1 d1=>?_⟩;exact⟨_,θ,M,ds,d1,hw,rr,ρ',e1,h⟩
theorem yu {is:List Nat}{es:List Expr}{k:Nat}{n:Nat}(hc:X.calm=true)(h:uw X es (BE X is))(hl:is.length=n:=by rfl)
  (hn:(assignEach es X.env).length=n:=by rfl) (hst:(assignEach es X.env).findIdx? (·.1)=none:=by rfl):PG X (.Tuple es k pos) (tG X (cp is)):=by
 intro af s σ H v u Q I r hw;obtain⟨ρ,θ,M,d,hd,hwr,rd,ρ',e1,hw⟩:=hw;cases d with
 | tup ds=>
  obtain⟨a,vs,e2,ta,rs⟩:=rd;have hlen:ds.length=is.length:=by
   have e1:ij is ds ρ=some ρ':=e1;clear hw hd hwr rs hn hst h hl
   induction is generalizing ds ρ with
   | nil=>
    cases ds with
    | nil=>rfl
    | cons _ _=>cases e1
   | cons i is ih=>
    cases ds with
    | nil=>cases e1
    | cons d ds=>rw[length_cons,length_cons,ih _ ds e1 e1]
  refine yO (n:=n) hc h hn hst af s σ H v u Q I r ⟨a,vs,e2,ta.sq,by rw[←al rs,hlen,hl],?_⟩;exact⟨ρ,θ,M,ds,hd,hwr,rs,ρ',e1,hw⟩
 | _=>cases e1
def nS:List GG→List D→a9→Option a9
 | [],[],ρ=>some ρ
 | s::ss,d::ds,ρ=>match s d ρ with
  | some ρ1=>nS ss ds ρ1
  | none=>none
 | _,_,_=>none
def cR (s:GG)(g:GE):GS:=fun ρ M=>(g ρ M).bind fun d M1=>match s d ρ with
 | some ρ1=>.ok (.nx ρ1) M1
 | none=>.bad
theorem xK {tg:Expr}{s:GG}(he:PE X e (tE X g))(hg:PG X tg (tG X s))(hs:swapsWithSole [tg] e pos.line X.env=pure false:=by rfl)(hw:swappedStores [tg] e X.env=pure none:=by rfl)
  (h1:(assignEach [tg] X.env).map (·.2)=[assign tg X.env]:=by rfl):PS X (.Assign [tg] e pos) (tS X (cR s g)):=(rJ he hg hs hw h1).of fun D σ H hxx=>by
 obtain⟨ρ,θ,M,hd,hwr,h⟩:=hxx;refine bx hd hwr (bK X θ H D) (fun c M' h=>h) (fun h=>h) h fun d M1 v θ1 H1 g1 r1 h1=>?_
 cases q:s d ρ with
 | some ρ1=>
  rw[q] at h1;exact⟨ρ,θ1,M1,d,hd.go g1,g1.wr,r1,ρ1,q,fun σ' d'=>h1 σ' θ1 H1 g1 d'⟩
 | none=>rw[q] at h1;exact h1.elim
def qq (o i x:D)(M:am):aF Unit:=match o,i with
 | .mr k,.int j=>match M[k]? with
  | some (.lst xs)=>match tV xs.length j with
   | some n=>.ok () (M.set k (.lst (xs.set n x)))
   | none=>.bad
  | _=>.bad
 | _,_=>.bad
def fR (go gi g:GE):GS:=fun ρ M=>(g ρ M).bind fun x M1=>(go ρ M1).bind fun o M2=>(gi ρ M2).bind fun i M3=>(qq o i x M3).bind fun _ M4=>.ok (.nx ρ) M4
theorem zc {o i:Expr}{ip:Pos}{go gi:GE}(he:PE X e (tE X g))(ho:PE X o (tE X go))(hi:PE X i (tE X gi))
  (ha:∀v,assign (.Subscript o i ip) X.env v=(do
   let ov ←holding [v] (eval o X.env)
   let iv ←holding [v,ov] (eval i X.env)
   standAt ip
   holding [v,ov,iv] (setItem ov iv v)
   release [v,ov,iv] []):=by intro _;rfl)
  (hs:swapsWithSole [.Subscript o i ip] e pos.line X.env=pure false:=by rfl) (hw:swappedStores [.Subscript o i ip] e X.env=pure none:=by rfl)
  (h1:(assignEach [.Subscript o i ip] X.env).map (·.2)=[assign (.Subscript o i ip) X.env]:=by rfl):PS X (.Assign [.Subscript o i ip] e pos) (tS X (fR go gi g)):=
 (rJ he (wJ ho hi tu ha) hs hw h1).of fun D σ H hxx=>by
  obtain⟨ρ,θ,M,hd,hwr,h⟩:=hxx;refine bx hd hwr (bK X θ H D) (fun c M' h=>h) (fun h=>h) h fun dx M1 vx θ1 H1 g1 r1 h1=>?_
  refine bx (hd.go g1) g1.wr (bK X θ1 H1 D) (fun c M' h=>h) (fun h=>h) (h1.go g1) fun dob M2 vo θ2 H2 g2 r2 h2=>?_
  refine bx ((hd.go g1).go g2) g2.wr (bK X θ2 H2 D) (fun c M' h=>h) (fun h=>h) (h2.go g2) fun di M3 vi θ3 H3 g3 r3 h3=>?_
  have h4:=h3.go g3;unfold qq at h4;split at h4
  ·rename_i k j;split at h4
   ·rename_i xs q;split at h4
    ·rename_i n hn;obtain⟨a,ea,ta⟩:=r2.go g3;obtain⟨vs,ev,rv⟩:=g3.wr.at_ k a _ ta q;have ei:vi=.int j:=r3;refine⟨a,vs,j,n,ea,ei,ev,by rw[←al rv];exact hn,?_⟩;have gs:=sR (ds:=xs) g3.wr ta (mI (r1.go (g2.trans g3)) n rv);exact h4 σ θ3 _ gs ((((hd.go g1).go g2).go g3).go gs)
    ·exact h4.elim
   ·exact h4.elim
  ·exact h4.elim
end
mutual
def xT:D→D→Bool
 | .non,.non=>true
 | .bl a,.bl b=>a==b
 | .int a,.int b=>a==b
 | .str a,.str b=>a==b
 | .tup a,.tup b=>iK a b
 | .lst a,.lst b=>iK a b
 | .ro a,.ro b=>iK a b
 | .mr a,.mr b=>a==b
 | .exc a,.exc b=>a==b
 | .any,.any=>true
 | _,_=>false
def iK:List D→List D→Bool
 | [],[]=>true
 | a::as,b::bs=>xT a b&&iK as bs
 | _,_=>false
end
theorem ff {P:Prop}(h:false=true):P:=absurd h Bool.false_ne_true
mutual
theorem vj:∀(a b:D),xT a b=true→a=b
 | .non,b,h=>by
  cases b with
  | non=>rfl
  | _=>exact ff h
 | .bl x,b,h=>by
  cases b with
  | bl y=>rw[eq_of_beq (show(x==y)=true from h)]
  | _=>exact ff h
 | .int x,b,h=>by
  cases b with
  | int y=>rw[eq_of_beq (show(x==y)=true from h)]
  | _=>exact ff h
 | .str x,b,h=>by
  cases b with
  | str y=>rw[eq_of_beq (show(x==y)=true from h)]
  | _=>exact ff h
 | .tup x,b,h=>by
  cases b with
  | tup y=>rw[fj x y h]
  | _=>exact ff h
 | .lst x,b,h=>by
  cases b with
  | lst y=>rw[fj x y h]
  | _=>exact ff h
 | .ro x,b,h=>by
  cases b with
  | ro y=>rw[fj x y h]
  | _=>exact ff h
 | .mr x,b,h=>by
  cases b with
  | mr y=>rw[eq_of_beq (show(x==y)=true from h)]
  | _=>exact ff h
 | .exc x,b,h=>by
  cases b with
  | exc y=>rw[eq_of_beq (show(x==y)=true from h)]
  | _=>exact ff h
 | .any,b,h=>by
  cases b with
  | any=>rfl
  | _=>exact ff h
theorem fj:∀(a b:List D),iK a b=true→a=b
 | [],b,h=>by
  cases b with
  | nil=>rfl
  | cons _ _=>exact ff h
 | x::xs,b,h=>by
  cases b with
  | nil=>exact ff h
  | cons y ys=>
   have h:=Bool.and_eq_true_iff.mp (show(xT x y&&iK xs ys)=true from h);rw[vj x y h.1,fj xs ys h.2]
end
structure iu where
 ds:List D
 m:Option Nat
def iu.ok (t:iu)(M:am):Bool:=match t.m with
 | none=>true
 | some i=>match M[i]? with
  | some (.lst xs)=>iK xs t.ds
  | _=>false
abbrev GI:=a9→am→aF iu
def qw (K:W.Frag)(J:It)(θ:List Addr)(H:Hp)(t:iu):Prop:=∀θ1 H1 M1,Go K θ H θ1 H1 M1→t.ok M1=true→∀i:Nat,
 (∀d,t.ds[i]?=some d→J.go i H1∧∀x H2,J.yld i H1 x H2→Go K θ1 H1 θ1 H2 M1∧cD K θ1 H2 d x)∧(t.ds.length≤i→J.stop i H1)
def rG (X:Cx)(θ:List Addr)(H:Hp)(R:It→Hp→Prop):aF iu→Prop
 | .ok t M'=>∀J θ' H',Go X.K θ H θ' H' M'→qw X.K J θ' H' t→R J H'
 | .err c M'=>cM X θ H c M'
 | .bad=>False
def tI (X:Cx)(g:GI):TI:=fun σ H R=>∃ρ θ M,dJ X.K θ H σ ρ∧Wr X.K θ H M∧rG X θ H R (g ρ M)
def oC (d:D)(M:am):aF iu:=match d with
 | .lst ds=>.ok ⟨ds,none⟩ M
 | .ro ds=>.ok ⟨ds,none⟩ M
 | .tup ds=>.ok ⟨ds,none⟩ M
 | .mr k=>match M[k]? with
  | some (.lst ds)=>.ok ⟨ds,some k⟩ M
  | _=>.bad
 | _=>.bad
def bO (g:GE):GI:=fun ρ M=>(g ρ M).bind oC
section
variable {X:Cx}{tg:Expr}
theorem Ah {l:Expr}{tl:TE}(hl:PE X l tl):PI X tg l (fun σ H R=>tl σ H fun x H1=>∃a,x=.ref a∧(((∃xs,iJ X.K H1 a xs)∧R (BW X.K a) H1)∨((∃xs,io X.K H1 a xs)∧R (CQ X.K a) H1))):=by
 intro af s σ H R I h;refine bA (hl af s σ H _ I h) fun v s1 hxx=>?_
 obtain⟨x,H1,I1,r1,q1⟩:=hxx;obtain⟨a,e,q1⟩:=q1;subst e;cases r1;rcases q1 with⟨⟨xs,hq⟩,q⟩|⟨⟨xs,hq⟩,q⟩
 ·obtain⟨its,rv,p,hz⟩:=I1.list hq;refine wpAny_pyIter_list p.isList ?_;refine⟨s1.heap.objs.size,[s1.heap.objs.size],_,_,H1,rfl,I1.kept (t':=s1.toks) fun b o e=>Heap.get?_push_of_some _ e,pM a _,⟨_,Heap.get?_push_size _ rfl,rfl,rfl⟩,fun b hb=>?_,q⟩;have e:b=s1.heap.objs.size:=by simpa using hb
  subst e;exact I1.fpOk (Nat.le_refl _) (I1.hok.fresh (Nat.le_refl _))
 ·obtain⟨its,rv,p,hz⟩:=I1.tuple hq;refine wpAny_pyIter_tuple (show s1.heap.IsTuple a its.toArray from p) ?_;refine⟨s1.heap.objs.size,[s1.heap.objs.size],_,_,H1,rfl,I1.kept (t':=s1.toks) fun b o e=>Heap.get?_push_of_some _ e,nN a _,⟨_,Heap.get?_push_size _ rfl,rfl,rfl⟩,fun b hb=>?_,q⟩;have e:b=s1.heap.objs.size:=by simpa using hb
  subst e;exact I1.fpOk (Nat.le_refl _) (I1.hok.fresh (Nat.le_refl _))
theorem nY {K:W.Frag}{θ:List Addr}{H:Hp}{a:Addr}{ds:List D}{vs:List V}(ta:nk K θ H a vs)(r:aH K θ H ds vs):qw K (BW K a) θ H ⟨ds,none⟩:=by
 intro θ1 H1 M1 g _ i;have t1:=(ta.grow g.toGrow).sq;have r1:=r.go g;refine⟨fun d e=>?_,fun hl=>⟨vs,t1,by rw[←al r1];exact hl⟩⟩;obtain⟨v,e1,rv⟩:=dh r1 e;refine⟨⟨vs,v,t1,e1⟩,fun x H2 y=>?_⟩;obtain⟨eH,y⟩:=y;subst eH;have e2:=y vs t1;rw[e1] at e2;cases e2;exact⟨.refl g.wr,rv⟩
theorem uf {K:W.Frag}{θ:List Addr}{H:Hp}{a:Addr}{ds:List D}{vs:List V}(ta:jc K θ H a vs)(r:aH K θ H ds vs):qw K (CQ K a) θ H ⟨ds,none⟩:=by
 intro θ1 H1 M1 g _ i;have t1:=(ta.grow g.toGrow).sq;have r1:=r.go g;refine⟨fun d e=>?_,fun hl=>⟨vs,t1,by rw[←al r1];exact hl⟩⟩;obtain⟨v,e1,rv⟩:=dh r1 e;refine⟨⟨vs,v,t1,e1⟩,fun x H2 y=>?_⟩;obtain⟨eH,y⟩:=y;subst eH;have e2:=y vs t1;rw[e1] at e2;cases e2;exact⟨.refl g.wr,rv⟩
theorem uT {K:W.Frag}{θ:List Addr}{H:Hp}{a:Addr}{ds:List D}{k:Nat}(ta:θ[k]?=some a):qw K (BW K a) θ H ⟨ds,some k⟩:=by
 intro θ1 H1 M1 g hok i;have t1:θ1[k]?=some a:=by
  obtain⟨m,em,_⟩:=g.ext;rw[em,getElem?_append_left (List.getElem?_eq_some_iff.mp ta).1];exact ta
 have hok':(match M1[k]? with|some (.lst xs)=>iK xs ds|_=>false)=true:=hok;cases q:M1[k]? with
 | none=>rw[q] at hok';cases hok'
 | some m=>
  cases m with
  | lst xs=>
   rw[q] at hok';have e:xs=ds:=fj xs ds hok';subst e;obtain⟨vs,hv,r1⟩:=g.wr.at_ k a _ t1 q;have s1:iJ K H1 a vs:=.inl (.inl hv);refine⟨fun d e=>?_,fun hl=>⟨vs,s1,by rw[←al r1];exact hl⟩⟩;obtain⟨v,e1,rv⟩:=dh r1 e;refine⟨⟨vs,v,s1,e1⟩,fun x H2 y=>?_⟩;obtain⟨eH,y⟩:=y;subst eH;have e2:=y vs s1;rw[e1] at e2;cases e2;exact⟨.refl g.wr,rv⟩
  | _=>rw[q] at hok';cases hok'
theorem zx {l:Expr}{g:GE}(hl:PE X l (tE X g)):PI X tg l (tI X (bO g)):=by
 intro af s σ H R I h;refine Ah hl af s σ H R I ?_;obtain⟨ρ,θ,M,hd,hw,h⟩:=h;refine bx hd hw (rG X θ H R) (fun c M' h=>h) (fun h=>h) h fun d M1 v θ1 H1 g1 r1 h1=>?_
 cases d with
 | lst ds=>
  obtain⟨a,vs,e,ta,r⟩:=r1;exact⟨a,e,.inl ⟨⟨vs,ta.sq⟩,h1 _ θ1 H1 g1 (nY (.inl ⟨.inl ta.1,ta.2⟩) r)⟩⟩
 | ro ds=>
  obtain⟨a,vs,e,ta,r⟩:=r1;exact⟨a,e,.inl ⟨⟨vs,ta.sq⟩,h1 _ θ1 H1 g1 (nY ta r)⟩⟩
 | tup ds=>
  obtain⟨a,vs,e,ta,r⟩:=r1;exact⟨a,e,.inr ⟨⟨vs,ta.sq⟩,h1 _ θ1 H1 g1 (uf ta r)⟩⟩
 | mr k=>
  obtain⟨a,e,ta⟩:=r1;have h2:rG X θ H R (match M1[k]? with|some (.lst ds)=>.ok ⟨ds,some k⟩ M1|_=>.bad):=h1;cases q:M1[k]? with
  | none=>rw[q] at h2;exact h2.elim
  | some m=>
   cases m with
   | lst ds=>
    rw[q] at h2;obtain⟨vs,hv,r⟩:=g1.wr.at_ k a _ ta q;exact⟨a,e,.inl ⟨⟨vs,.inl (.inl hv)⟩,h2 _ θ1 H1 g1 (uT ta)⟩⟩
   | _=>rw[q] at h2;exact h2.elim
 | _=>exact h1.elim
def aZ (lo:Int)(n:Nat):List D:=(List.range n).map fun(k:Nat)=>D.int (lo+(k:Int))
theorem vO {K:W.Frag}{θ:List Addr}{H:Hp}(lo:Int)(n:Nat):qw K (B3 lo n) θ H ⟨aZ lo n,none⟩:=by
 intro θ1 H1 M1 g _ i;refine⟨fun d e=>?_,fun hl=>?_⟩
 ·have hi:i<n:=by
   have:=(List.getElem?_eq_some_iff.mp e).1;simpa[aZ] using this
  refine⟨hi,fun x H2 y=>?_⟩;obtain⟨eH,y⟩:=y;subst eH;refine⟨.refl g.wr,?_⟩;have e':D.int (lo+(i:Int))=d:=by
   have:(aZ lo n)[i]?=some (D.int (lo+(i:Int))):=by simp[aZ,hi]
   rw[this] at e;exact Option.some.inj e
  subst e';exact y
 ·have h2:(aZ lo n).length≤i:=hl;have h3:n≤i:=by simpa[aZ] using h2
  exact h3
def qY (ds:List D)(M:am):aF iu:=match ds with
 | [.int j]=>if -(2 ^ 62)≤j∧j<2 ^ 62 then .ok ⟨aZ 0 j.toNat,none⟩ M else .bad
 | _=>.bad
def dB (g:GA):GI:=fun ρ M=>(g ρ M).bind qY
theorem o9 {a:Expr}{g:GA}{p pos:Pos}(hg:Gl X "range")(hm:X.mg "range"=none)(ha:PA X [a] (tA X g))(hs:starEach [a] X.env=[(false,eval a X.env)]:=by rfl):PI X tg (.Call (.Name "range" p) [a] [] pos) (tI X (dB g)):=by
 intro af s σ H R I h;refine qh hg hm ha hs af s σ H R I ?_;obtain⟨ρ,θ,M,hd,hw,h⟩:=h;refine hG hd hw (rG X θ H R) (fun c M' h=>h) (fun h=>h) h fun ds M1 vs θ1 H1 g1 r1 h1=>?_
 unfold qY at h1;split at h1
 ·rename_i j;obtain⟨v,r,e,rv,rr⟩:=r1;have e2:r=[]:=rr;have e3:v=.int j:=rv;subst e2;subst e3;split at h1
  ·rename_i hj;exact⟨j,e,hj.1,hj.2,h1 _ θ1 H1 g1 (vO 0 j.toNat)⟩
  ·exact h1.elim
 ·exact h1.elim
def bI (t:iu)(s:GG)(body:GS):List D→a9→am→aF Fl
 | [],ρ,M=>if t.ok M then .ok (.nx ρ) M else .bad
 | d::r,ρ,M=>if t.ok M then
   match s d ρ with
   | none=>.bad
   | some ρ1=>(body ρ1 M).bind fun f M1=>match f with
    | .nx ρ2=>bI t s body r ρ2 M1
    | .ct ρ2=>bI t s body r ρ2 M1
    | .bk ρ2=>.ok (.nx ρ2) M1
    | .rt d=>.ok (.rt d) M1
  else .bad
def hZ (gi:GI)(s:GG)(body:GS):GS:=fun ρ M=>(gi ρ M).bind fun t M1=>bI t s body t.ds ρ M1
theorem xX {iter:Expr}{body:List Stmt}{gi:GI}{sg:GG}{gb:GS}{pos:Pos}(hp:PassesOwn (model X.prog X.w) X.A X.env X.xe)(hc:X.calm=true)(hi:PI X tg iter (tI X gi))(hg:PG X tg (tG X sg))(hb:PSs X body (tS X gb))
  (hs:∀x,foldedSetIterable iter X.env x=pure x:=by intro _;rfl):PS X (.For tg iter body [] pos) (tS X (hZ gi sg gb)):=(yn hp hc hi hg hb hs).of fun D σ H hxx=>by
 obtain⟨ρ,θ,M,hd,hw,h⟩:=hxx;refine⟨ρ,θ,M,hd,hw,?_⟩;unfold hZ at h;cases q:gi ρ M with
 | err c M1=>rw[q] at h;exact h
 | bad=>rw[q] at h;exact h
 | ok t M1=>
  rw[q] at h;intro J θ1 H1 g1 hJ;have h:bK X θ H D (bI t sg gb t.ds ρ M1):=h;refine⟨fun i m σ' H'=>m=t.ds.length-i∧i≤t.ds.length∧∃ρ' θ' M',Go X.K θ1 H1 θ' H' M'∧dJ X.K θ' H' σ' ρ'∧bK X θ' H' D (bI t sg gb (t.ds.drop i) ρ' M'),
   ⟨t.ds.length,by simp,Nat.zero_le _,ρ,θ1,M1,.refl g1.wr,hd.go g1,bK.go g1 h⟩,?_⟩
  rintro i m σ' H' ⟨rfl,hil,ρ',θ',M',g',hd',h'⟩
  by_cases hok:t.ok M'=true
  ·obtain⟨hy,hst⟩:=hJ θ' H' M' g' hok i
   by_cases hlt:i<t.ds.length
   ·refine .inr ?_;have e1:t.ds[i]?=some t.ds[i]:=getElem?_eq_getElem hlt;obtain⟨hgo,hyl⟩:=hy _ e1;rw[drop_eq_getElem_cons hlt,bI,if_pos hok] at h';refine⟨hgo,fun σ2 H2=>∃ρ2 θ2 M2,Go X.K θ' H' θ2 H2 M2∧dJ X.K θ2 H2 σ2 ρ2∧bK X θ2 H2 D (bI t sg gb (t.ds.drop (i+1)) ρ2 M2),fun σ2 H2 ⟨ρ2,θ2,M2,g2,d2,h2⟩=>?_,fun x H2 y=>?_⟩
    ·exact⟨t.ds.length-(i+1),by omega,rfl,hlt,ρ2,θ2,M2,g'.trans g2,d2,h2⟩
    ·obtain⟨gy,rx⟩:=hyl x H2 y;cases qs:sg t.ds[i] ρ' with
     | none=>rw[qs] at h';exact h'.elim
     | some ρ1=>
      rw[qs] at h';refine⟨ρ',θ',M',_,hd'.go gy,gy.wr,rx,ρ1,qs,fun σ1 d1=>⟨ρ1,θ',M',d1,gy.wr,?_⟩⟩;have h':bK X θ' H2 D ((gb ρ1 M').bind _):=bK.go gy h';cases qb:gb ρ1 M' with
      | err c M2=>rw[qb] at h';exact h'
      | bad=>rw[qb] at h';exact h'
      | ok f M2=>
       rw[qb] at h';cases f with
       | nx ρ2=>exact fun σ2 θ2 H3 g2 d2=>⟨ρ2,θ2,M2,gy.trans g2,d2,bK.go g2 h'⟩
       | ct ρ2=>exact fun σ2 θ2 H3 g2 d2=>⟨ρ2,θ2,M2,gy.trans g2,d2,bK.go g2 h'⟩
       | bk ρ2=>exact h'
       | rt d=>exact h'
   ·have e:i=t.ds.length:=by omega
    subst e;rw[drop_length,bI,if_pos hok] at h';exact .inl ⟨hst (Nat.le_refl _),h' σ' θ' H' (.refl g'.wr) hd'⟩
  ·have hz:bK X θ' H' D .bad:=by
    cases hdr:t.ds.drop i with
    | nil=>rw[hdr,bI,if_neg hok] at h';exact h'
    | cons d r=>rw[hdr,bI,if_neg hok] at h';exact h'
   exact hz.elim
end
def yS (K:W.Frag)(θ:List Addr)(H:Hp)(E:XK)(c:Str)(M:am):Prop:=∀C θ' H' a,jo K c C→Go K θ H θ' H' M→E (.ref C) (some a) H'
def rA (K:W.Frag)(θ:List Addr)(H:Hp)(Q:VK)(E:XK):aF D→Prop
 | .ok d M'=>∀v θ' H',Go K θ H θ' H' M'→cD K θ' H' d v→Q v H'
 | .err c M'=>yS K θ H E c M'
 | .bad=>False
abbrev FD:=List D→am→aF D
def nO (K:W.Frag)(n:Nat)(F:FD):Sp:=fun vs H Q E=>∃θ M ds,ds.length=n∧aH K θ H ds vs∧Wr K θ H M∧rA K θ H Q E (F ds M)
theorem uC {K:W.Frag}{n:Nat}{F:FD}{ps:List Str}(hn:ps.length=n):∀vs H Q E,nO K n F vs H Q E→vs.length=ps.length:=fun vs H Q E ⟨θ,M,ds,hl,r,_⟩=>by rw[hn,←hl,al r]
def jU (k:Nat)(ds:List D):a9:=ds.map some++List.replicate k none
def aG (o:aF Fl):aF D:=o.bind fun f M=>match f with
 | .rt d=>.ok d M
 | .nx _=>.ok .non M
 | _=>.bad
def ck (k:Nat)(g:GS):FD:=fun ds M=>aG (g (jU k ds) M)
theorem C1 {K:W.Frag}{θ:List Addr}{H:Hp}{ds:List D}{vs:List V}(r:aH K θ H ds vs)(N:List Str):dJ K θ H (L2.start N vs) (jU (N.length-vs.length) ds):=by
 have hl:=al r;refine⟨by simp[L2.start,jU,hl],fun i d e=>?_⟩;unfold jU at e
 by_cases hi:i<ds.length
 ·rw[getElem?_append_left (by simpa using hi),getElem?_map] at e;cases q:ds[i]? with
  | none=>rw[q] at e;cases e
  | some d'=>
   rw[q] at e;have e':d'=d:=by simpa using e
   subst e';obtain⟨v,e1,rv⟩:=dh r q;refine⟨v,?_,rv⟩;unfold L2.start;rw[getElem?_append_left (by rw[length_map,←hl];exact hi),getElem?_map,e1];rfl
 ·rw[getElem?_append_right (by simpa using hi),getElem?_replicate] at e;split at e <;> cases e
section
variable {P:Program}{w:World}{K:W.Frag}{mg:Str→Option Value}{base:Heap}
theorem CY {x qual:Str}{st:Stmt}{f:Addr}{fd:FuncData}{N ps:List Str}{k n:Nat}{g:GS}(F:xP K x qual st f fd)(S:fM N ps (aW st))(hn:ps.length=n)
  (hbody:∀(cdv:Value) (A:Around) (outer:List Env) (s:Shared) (H:Hp) (E:XK),cq k (A.deeper (envOfC qual (aW st) s.heap.objs.size f cdv))→
   PSs (gZ (iN P w) P w K mg base N qual (aW st) f cdv A outer s H E) (c9 st) (tS (gZ (iN P w) P w K mg base N qual (aW st) f cdv A outer s H E) g)) :
  ej P w K mg base (iN P w) (k+1) f fd ps (nO K n (ck (N.length-n) g)):=by
 obtain⟨oc,od,kV,doc,pm,an,cdv,ct,osl,rfl,lk,hcd⟩:=F.ex;refine zU lk hcd S (uC hn) fun A outer s H vs Q E hr h=>⟨_,hbody cdv A outer s H E hr,?_⟩
 obtain⟨θ,M,ds,hl,r,hw,h⟩:=h;have hv:vs.length=n:=by rw[←al r];exact hl
 refine⟨jU (N.length-n) ds,θ,M,by rw[←hv];exact C1 r N,hw,?_⟩;have h:rA K θ H Q E (aG (g (jU (N.length-n) ds) M)):=h;unfold aG at h;cases q:g (jU (N.length-n) ds) M with
 | bad=>rw[q] at h;exact h
 | err c M1=>
  rw[q] at h;have h:yS K θ H E c M1:=h;exact fun C θ' H' a s' kC g1 fl=>nD fl (h C θ' H' a kC g1)
 | ok fl M1=>
  rw[q] at h;cases fl with
  | rt d=>exact h
  | nx ρ1=>exact fun σ1 θ1 H1 g1 _=>h .non θ1 H1 g1 rfl
  | bk ρ1=>exact h.elim
  | ct ρ1=>exact h.elim
end
section
variable {X:Cx}{e:Expr}{es:List Expr}{x:Str}{p pos:Pos}{k n:Nat}{f:Addr}{fd:FuncData}{ps:List Str}{F:FD}{ga:GA}
def ak (n:Nat)(F:FD)(ga:GA):GE:=fun ρ M=>(ga ρ M).bind fun ds M1=>if ds.length=n then F ds M1 else .bad
def BF (X:Cx):XK:=fun cls oa H'=>∃a C c θ M,oa=some a∧cls=.ref C∧jo X.K c C∧Wr X.K θ H' M∧cM X θ H' c M
theorem mR:ny (iN X.prog X.w) X (BF X):=fun af σ H s e s' I h=>by
 obtain⟨a,C,H',rfl,fl,a',C',c,θ,M,e1,e2,kC,hw,ok⟩:=o7 I h;cases e1;cases e2;exact ok C θ H' a s' kC (.refl hw) fl
theorem vZ {θ:List Addr}{H:Hp}{c:Str}{M:am}(h:cM X θ H c M):yS X.K θ H (BF X) c M:=fun C θ' H' a kC g=>⟨a,C,c,θ',M,rfl,rfl,kC,g.wr,h.go g⟩
theorem vP (Fn:ej X.prog X.w X.K X.mg X.base (iN X.prog X.w) k f fd ps (nO X.K n F))(hr:cq k X.A)(hg:Gl X x)(hm:X.mg x=some (.ref f))(hk:W.keepIn X.K (.ref f)=true)(hb:fz X.K fd ps [])
  (ha:PA X (e::es) (tA X ga)) (hdb:(x==("__debug__":Str))=false:=by decide) (he:starEach (e::es) X.env=(false,eval e X.env)::starEach es X.env:=by rfl) (hpl:(backTo pos (starEach es X.env)).any (·.1)=false:=by rfl) :
  PE X (.Call (.Name x p) (e::es) [] pos) (tE X (ak n F ga)):=(uI Fn hr hg hm hk hb .nil mR ha hdb he hpl).of fun σ H Q hxx=>by
 obtain⟨ρ,θ,M,hd,hw,h⟩:=hxx;refine hG hd hw (aE X θ H Q) (fun c M' h=>h) (fun h=>h) h fun ds M1 vs θ1 H1 g1 r1 h1=>?_
 by_cases hl:ds.length=n
 ·rw[if_pos hl] at h1;refine⟨θ1,M1,ds,hl,by rw[append_nil];exact r1,g1.wr,?_⟩;have h2:=aE.go g1 h1;cases q:F ds M1 with
  | ok d M2=>rw[q] at h2;exact h2
  | err c M2=>rw[q] at h2;exact vZ h2
  | bad=>rw[q] at h2;exact h2
 ·rw[if_neg hl] at h1;exact h1.elim
def rC (X:Cx)(F:FD):List V→Hp→VK→Prop:=fun xs H Q=>∃θ M ds,Wr X.K θ H M∧aH X.K θ H ds xs∧aE X θ H Q (F ds M)
def aL (F:FD)(ga:GA):GE:=fun ρ M=>(ga ρ M).bind F
theorem rM {σ:L2.St}{H:Hp}{Q:VK}(h:tE X (aL F ga) σ H Q):C0 (rC X F) (tA X ga) σ H Q:=by
 obtain⟨ρ,θ,M,hd,hw,h⟩:=h;exact hG hd hw (aE X θ H Q) (fun c M' h=>h) (fun h=>h) h fun ds M1 vs θ1 H1 g1 r1 h1=>⟨θ1,M1,ds,g1.wr,r1,aE.go g1 h1⟩
theorem sJ {id:String}(hc:bY X (.builtin id) (rC X F))(hg:Gl X x)(hm:X.mg x=none)(hv:bootBuiltins x=some (.builtin id))(ha:PA X (e::es) (tA X ga))(hn:x≠"__name__":=by decide)(hdb:(x==("__debug__":Str))=false:=by decide)
  (he:starEach (e::es) X.env=(false,eval e X.env)::starEach es X.env:=by rfl) (hpl:(backTo pos (starEach es X.env)).any (·.1)=false:=by rfl):PE X (.Call (.Name x p) (e::es) [] pos) (tE X (aL F ga)):=
 (mZ hc hg hm hv ha hn hdb he hpl).of fun σ H Q h=>rM h
theorem pv {T:String}(hc:bY X (.type T) (rC X F))(hg:Gl X x)(hm:X.mg x=none)(hv:bootBuiltins x=some (.type T))(ha:PA X (e::es) (tA X ga))(hn:x≠"__name__":=by decide)(hdb:(x==("__debug__":Str))=false:=by decide)
  (he:starEach (e::es) X.env=(false,eval e X.env)::starEach es X.env:=by rfl) (hpl:(backTo pos (starEach es X.env)).any (·.1)=false:=by rfl):PE X (.Call (.Name x p) (e::es) [] pos) (tE X (aL F ga)):=
 (p3 hc hg hm hv ha hn hdb he hpl).of fun σ H Q h=>rM h
end
section
variable {prog:Program}{w:World}{A:Around}{E:Value→Shared→Prop}{s:Shared}
theorem tH {t b:Addr}{ws:List Value}{Q:Value→Shared→Prop}(ht:IsTup s.heap t #[])(hb:IsTup s.heap b ws.toArray)
  (h:Q (.ref b) s):wpAny (model prog w) A (binaryOp .Add (.ref t) (.ref b)) Q E s:=by
 obtain⟨⟨cls,dd,data,sl⟩,ho,hc,n,hd⟩:=id ht;obtain⟨⟨cls2,dd2,data2,sl2⟩,ho2,hc2,n2,hd2⟩:=id hb;simp only at hc hd hc2 hd2;subst hc hd hc2 hd2;exact concat_meets ⟨_,ho,rfl⟩ ⟨_,ho2,rfl⟩ noFill_tuple_add seq_tuple_add PySem.F.slot_tuple_add PySem.F.entry_tuple_add (PySem.F.args_tuple_add_2 _ _)
   (tuple_addW0 t b #[] ws.toArray n n2 dd dd2 sl sl2 (by simp)) ⟨ho,ho2,h⟩
theorem fV {t sl:Addr}{items:Array Value}{vl vu:Value}{lo hi:Option Int}{Q:Value→Shared→Prop}(ht:IsTup s.heap t items)(hs:s.heap.IsSliceOf sl vl vu .none)(pl:IsPart vl lo)(pu:IsPart vu hi)
  (hw:HT.sIx items.size 0 lo=0∧HT.sIx items.size items.size hi=items.size) (h:Q (.ref t) s):wpAny (model prog w) A (getItem (.ref t) (.ref sl)) Q E s:=by
 obtain⟨os,hos,hcs,hds⟩:=id hs;have hTs:s.TypeIs (.ref sl) "slice":=⟨os,hos,hcs⟩;unfold getItem
 try with_reducible refine wpAny_holding ?_
 first|refine wpAny_bind (wpAny_pure ?_)|skip
 refine wpAny_bind (wpAny_sequenceKey ht.typeIs (by decide) ?_);refine wpAny_bind (wpAny_callSpecial?_slot (name:=Str.ofString "__getitem__") ht.typeIs PyProof.Rows.slot_tuple_getitem
  (wpAny_call_entry PyProof.Rows.slot_tuple_getitem ht.typeIs entry_tuple_getitem ?_ (args_tuple_getitem _ _)))
 show wpAny _ _ (Builtin.Tuple.tupleItemsOf (.ref t) >>= _) _ _ s;refine wpAny_bind (tupleItemsOf_ ht ?_);refine wpAny_bind (wpAny_typeOf hTs ?_);rw[if_pos (by decide)];refine wpAny_bind (HT.sliceApplied_gen hs pl pu ?_);have hyes:(((HT.sIx items.size 0 lo:Nat):Int)==0&&(1:Int)==1&&(HT.sIx items.size items.size hi-HT.sIx items.size 0 lo)==items.size)=true:=by
  rw[hw.1,hw.2];simp
 show wpAny _ _ (if(((HT.sIx items.size 0 lo:Nat):Int)==0&&(1:Int)==1&&(HT.sIx items.size items.size hi-HT.sIx items.size 0 lo)==items.size)=true then _ else _) _ _ s;rw[if_pos hyes];unfold Builtin.Tuple.tupleIsExact;refine wpAny_bind (wpAny_bind (wpAny_typeOf ht.typeIs (wpAny_pure ?_)));rw[if_pos (by decide)]
 first
  | exact wpAny_bind (wpAny_rule (wpAny_bind (wpAny_pure ⟨_,rfl,wpAny_pure h⟩)))
  | exact wpAny_bind (wpAny_rule (wpAny_pure ⟨_,rfl,wpAny_pure h⟩))
  | exact wpAny_bind (wpAny_rule (wpAny_bind (wpAny_pure (wpAny_pure ⟨_,rfl,wpAny_pure h⟩))))
end
def nG (d:D)(M:am):Option (List D):=match d with
 | .lst xs=>some xs
 | .mr k=>match M[k]? with
  | some (.lst xs)=>some xs
  | _=>none
 | _=>none
def aV:F2:=fun x y M=>match x,y with
 | .int i,.int j=>.ok (.int (i+j)) M
 | .str a,.str b=>if a.length+b.length≤sizeLine then .ok (.str (a++b)) M else .bad
 | .tup a,.tup b=>if a.length+b.length≤sizeLine then .ok (.tup (a++b)) M else .bad
 | .bl a,.int j=>.ok (.int ((if a=true then 1 else 0)+j)) M
 | x,y=>match nG x M,nG y M with
  | some a,some b=>if a.length+b.length≤sizeLine then .ok (.lst (a++b)) M else .bad
  | _,_=>.bad
theorem wu {K:W.Frag}{θ:List Addr}{H:Hp}{M:am}{d:D}{xs:List D}{v:V}(hw:Wr K θ H M)(r:cD K θ H d v)(e:nG d M=some xs):∃a vs,v=.ref a∧H a=some (.lst vs)∧aH K θ H xs vs:=by
 cases d with
 | lst ys=>cases e;obtain⟨a,vs,ea,ta,ra⟩:=r;exact⟨a,vs,ea,ta.1,ra⟩
 | mr k=>
  obtain⟨a,ea,ta⟩:=r;have e:(match M[k]? with|some (.lst xs)=>some xs|_=>none)=some xs:=e;cases q:M[k]? with
  | none=>rw[q] at e;cases e
  | some m=>
   cases m with
   | lst ys=>
    rw[q] at e;cases e;obtain⟨vs,hv,ra⟩:=hw.at_ k a _ ta q;exact⟨a,vs,ea,hv,ra⟩
   | _=>rw[q] at e;cases e
 | _=>cases e
def bN:F2:=fun x y M=>match x,y with
 | .int i,.int j=>.ok (.int (i-j)) M
 | _,_=>.bad
def cE:F2:=fun x y M=>match x,y with
 | .int i,.int j=>if(-(2 ^ 64)<i∧i<2 ^ 64)∨(-(2 ^ 64)<j∧j<2 ^ 64) then .ok (.int (i*j)) M else .bad
 | _,_=>.bad
def bE:F2:=fun x y M=>match x,y with
 | .int i,.int j=>if 0<j∧j.natAbs.log2<9000 then .ok (.int (i / j)) M else .bad
 | _,_=>.bad
def cH:F2:=fun x y M=>match x,y with
 | .int i,.int j=>if 0<j then .ok (.int (i % j)) M else .bad
 | _,_=>.bad
def jK:F2:=fun x y M=>match x,y with
 | .int i,.int j=>if 0≤j∧j≤1000000∧i.natAbs<2 ^ 64 then .ok (.int (i ^ j.toNat)) M else .bad
 | _,_=>.bad
section
variable {X:Cx}
theorem xM:dO X (binaryOp .Add) (rD X aV):=by
 intro af s σ H x y v u Q I rx ry h;obtain⟨θ,M,dx,dy,hw,r1,r2,h⟩:=h;unfold aV at h;split at h
 ·rename_i i j;exact ym af s σ H x y v u Q I rx ry ⟨i,j,r1,r2,h _ θ H (.refl hw) rfl⟩
 ·rename_i a b;split at h
  ·rename_i hl;exact nh af s σ H x y v u Q I rx ry ⟨a,b,r1,r2,hl,h _ θ H (.refl hw) rfl⟩
  ·exact h.elim
 ·rename_i as bs;split at h
  ·rename_i hl;obtain⟨a,vs,ea,ta,ra⟩:=r1;obtain⟨b,us,eb,tb,rb⟩:=r2
   by_cases hv:vs=[]
   ·subst hv;have e0:as=[]:=length_eq_zero_iff.mp (al ra);subst e0;subst ea;subst eb;cases rx;cases ry;obtain⟨its,q1,p1,_⟩:=I.tuple ta.sq;obtain⟨its2,q2,p2,_⟩:=I.tuple tb.sq;cases q1;exact tH p1 p2 ⟨.ref b,H,I,rfl,h _ θ H (.refl hw) ⟨b,us,rfl,tb,rb⟩⟩
   ·refine uN af s σ H x y v u Q I rx ry ⟨a,b,vs,us,ea,eb,ta.sq,tb.sq,hv,by rw[←al ra,←al rb];exact hl,fun hu=>?_,fun _ p hp=>h _ θ _ (cJ hw hp) (eN hw hp (bZ ra rb))⟩;subst hu;have e0:bs=[]:=length_eq_zero_iff.mp (al rb);subst e0;exact h _ θ H (.refl hw) ⟨a,vs,rfl,ta,by rw[append_nil];exact ra⟩
  ·exact h.elim
 ·rename_i a j;have e1:x=.bl a:=r1;have e2:y=.int j:=r2;subst e1;subst e2;cases rx;obtain⟨t',rfl⟩:=ry;exact IntBool.add_bool_int ⟨.int _,H,I.tok _,⟨_,rfl⟩,h _ θ H (.refl hw) rfl⟩
 ·split at h
  ·rename_i as bs q1 q2;split at h
   ·rename_i hl;obtain⟨a,vs,ea,ta,ra⟩:=wu hw r1 q1;obtain⟨b,us,eb,tb,rb⟩:=wu hw r2 q2;exact yk af s σ H x y v u Q I rx ry ⟨a,b,vs,us,ea,eb,ta,tb,by rw[←al ra,←al rb];exact hl,fun p hp=>h _ θ _ (cJ hw hp) (eI hw hp (bZ ra rb))⟩
   ·exact h.elim
  ·exact h.elim
theorem rE {K:W.Frag}{θ:List Addr}{H H':Hp}{M:am}{p:Addr}(hw:Wr K θ H M):cD K (θ++[p]) H' (.mr M.length) (.ref p):=by
 refine⟨p,rfl,?_⟩;rw[←hw.len,getElem?_append_right (Nat.le_refl _)];simp
theorem yl:dO X (binaryOp .Sub) (rD X bN):=by
 intro af s σ H x y v u Q I rx ry h;obtain⟨θ,M,dx,dy,hw,r1,r2,h⟩:=h;unfold bN at h;split at h
 ·rename_i i j;exact xa af s σ H x y v u Q I rx ry ⟨i,j,r1,r2,h _ θ H (.refl hw) rfl⟩
 ·exact h.elim
theorem zd:dO X (binaryOp .Mult) (rD X cE):=by
 intro af s σ H x y v u Q I rx ry h;obtain⟨θ,M,dx,dy,hw,r1,r2,h⟩:=h;unfold cE at h;split at h
 ·rename_i i j;split at h
  ·rename_i hc;exact wQ af s σ H x y v u Q I rx ry ⟨i,j,r1,r2,hc,h _ θ H (.refl hw) rfl⟩
  ·exact h.elim
 ·exact h.elim
theorem tZ:dO X (binaryOp .FloorDiv) (rD X bE):=by
 intro af s σ H x y v u Q I rx ry h;obtain⟨θ,M,dx,dy,hw,r1,r2,h⟩:=h;unfold bE at h;split at h
 ·rename_i i j;split at h
  ·rename_i hc;have e1:x=.int i:=r1;have e2:y=.int j:=r2;subst e1;subst e2;obtain⟨t,rfl⟩:=rx;obtain⟨t',rfl⟩:=ry;have h1:(0:Int)<j:=hc.1;exact floordiv_int (by omega) (by rw[Int.fdiv_eq_ediv_of_nonneg i (by omega)];exact⟨.int (i / j),H,I.tok _,⟨_,rfl⟩,h _ θ H (.refl hw) rfl⟩) (.inl (PyProof.noPylong_of_log2 hc.2))
  ·exact h.elim
 ·exact h.elim
theorem xq:dO X (binaryOp .Mod) (rD X cH):=by
 intro af s σ H x y v u Q I rx ry h;obtain⟨θ,M,dx,dy,hw,r1,r2,h⟩:=h;unfold cH at h;split at h
 ·rename_i i j;split at h
  ·rename_i hc;exact xm af s σ H x y v u Q I rx ry ⟨i,j,r1,r2,hc,h _ θ H (.refl hw) rfl⟩
  ·exact h.elim
 ·exact h.elim
theorem wW:dO X (binaryOp .Pow) (rD X jK):=by
 intro af s σ H x y v u Q I rx ry h;obtain⟨θ,M,dx,dy,hw,r1,r2,h⟩:=h;unfold jK at h;split at h
 ·rename_i i j;split at h
  ·rename_i hc;exact yT af s σ H x y v u Q I rx ry ⟨i,j,r1,r2,hc,h _ θ H (.refl hw) rfl⟩
  ·exact h.elim
 ·exact h.elim
def eX (g:GE):GE:=fun ρ M=>(g ρ M).bind fun x M1=>match x with
 | .int i=>.ok (.int (-i)) M1
 | _=>.bad
theorem zm {a:Expr}{pos:Pos}{g:GE}(ha:PE X a (tE X g)):PE X (.UnaryOp .USub a pos) (tE X (eX g)):=(Bx xR ha).of fun σ H Q hxx=>by
 obtain⟨ρ,θ,M,hd,hw,h⟩:=hxx;refine bx hd hw (aE X θ H Q) (fun c M' h=>h) (fun h=>h) h fun d M1 v θ1 H1 g1 r1 h1=>?_
 split at h1
 ·rename_i i;exact⟨i,r1,h1 _ θ1 H1 g1 rfl⟩
 ·exact h1.elim
def m6:F2:=fun x y M=>match x,y with
 | .int i,.int j=>.ok (.bl (decide (i<j))) M
 | _,_=>.bad
def oo:F2:=fun x y M=>match x,y with
 | .int i,.int j=>.ok (.bl (decide (i≤j))) M
 | _,_=>.bad
def jI:F2:=fun x y M=>match x,y with
 | .int i,.int j=>.ok (.bl (decide (j<i))) M
 | _,_=>.bad
def uB:F2:=fun x y M=>match x,y with
 | .int i,.int j=>.ok (.bl (decide (j≤i))) M
 | _,_=>.bad
theorem BG:dO X (compareOp .Lt) (rD X m6):=by
 intro af s σ H x y v u Q I rx ry h;obtain⟨θ,M,dx,dy,hw,r1,r2,h⟩:=h;unfold m6 at h;split at h
 ·rename_i i j;exact Bz af s σ H x y v u Q I rx ry ⟨i,j,r1,r2,h _ θ H (.refl hw) rfl⟩
 ·exact h.elim
theorem A4:dO X (compareOp .LtE) (rD X oo):=by
 intro af s σ H x y v u Q I rx ry h;obtain⟨θ,M,dx,dy,hw,r1,r2,h⟩:=h;unfold oo at h;split at h
 ·rename_i i j;exact zT af s σ H x y v u Q I rx ry ⟨i,j,r1,r2,h _ θ H (.refl hw) rfl⟩
 ·exact h.elim
theorem AA:dO X (compareOp .Gt) (rD X jI):=by
 intro af s σ H x y v u Q I rx ry h;obtain⟨θ,M,dx,dy,hw,r1,r2,h⟩:=h;unfold jI at h;split at h
 ·rename_i i j;exact AK af s σ H x y v u Q I rx ry ⟨i,j,r1,r2,h _ θ H (.refl hw) rfl⟩
 ·exact h.elim
theorem BL:dO X (compareOp .GtE) (rD X uB):=by
 intro af s σ H x y v u Q I rx ry h;obtain⟨θ,M,dx,dy,hw,r1,r2,h⟩:=h;unfold uB at h;split at h
 ·rename_i i j;exact AZ af s σ H x y v u Q I rx ry ⟨i,j,r1,r2,h _ θ H (.refl hw) rfl⟩
 ·exact h.elim
def zQ (d c:D):Option Bool:=match c,d with
 | .non,.non=>some true
 | .non,.any=>none
 | .non,_=>some false
 | .bl b,.bl b'=>some (b'==b)
 | .bl _,.non=>some false
 | .bl _,.int _=>some false
 | .bl _,.str _=>some false
 | .bl _,.tup _=>some false
 | .bl _,.lst _=>some false
 | .bl _,.ro _=>some false
 | .bl _,.mr _=>some false
 | _,_=>none
def iT (neg:Bool):F2:=fun x y M=>match zQ x y with
 | some b=>.ok (.bl (b != neg)) M
 | none=>.bad
def VS:D→Value→Prop
 | .non,v=>v=.none
 | .bl b,v=>v=.bool b
 | .int i,v=>∃t,v=.int i t
 | .str i,v=>∃t,v=.str i t
 | .any,_=>True
 | _,v=>∃a,v=.ref a
theorem wg {K:W.Frag}{θ:List Addr}{H:Hp}{d:D}{x:V}{v:Value}(r:cD K θ H d x)(q:aI x v):VS d v:=by
 cases d with
 | non=>have e:x=.non:=r;rw[e] at q;exact q
 | bl b=>have e:x=.bl b:=r;rw[e] at q;exact q
 | int i=>have e:x=.int i:=r;rw[e] at q;exact q
 | str i=>have e:x=.str i:=r;rw[e] at q;exact q
 | any=>trivial
 | tup ds=>obtain⟨a,_,e,_⟩:=r;rw[e] at q;exact⟨a,q⟩
 | lst ds=>obtain⟨a,_,e,_⟩:=r;rw[e] at q;exact⟨a,q⟩
 | ro ds=>obtain⟨a,_,e,_⟩:=r;rw[e] at q;exact⟨a,q⟩
 | mr k=>obtain⟨a,e,_⟩:=r;rw[e] at q;exact⟨a,q⟩
 | exc c=>obtain⟨a,_,e,_⟩:=r;rw[e] at q;exact⟨a,q⟩
theorem fn {α:Type}{b:α}{P:Prop}(h:none=some b):P:=nomatch h
theorem oD {v u:Value}{b:Bool}(h:some false=some b)(k:plainIs v u=true∧(v==u)=false):plainIs v u=true∧(v==u)=b:=Option.some.inj h▸k
theorem AS {dx dy:D}{v u:Value}{b:Bool}(p:VS dx v)(q:VS dy u)(h:zQ dx dy=some b):plainIs v u=true∧(v==u)=b:=by
 cases dy with
 | non=>
  rw[show u=.none from q];cases dx with
  | non=>rw[show v=.none from p];exact Option.some.inj (show some true=some b from h)▸⟨rfl,rfl⟩
  | bl b=>rw[show v=.bool b from p];exact oD h ⟨rfl,rfl⟩
  | any=>exact fn h
  | _=>obtain⟨t,e⟩:=p;rw[e];exact oD h ⟨rfl,rfl⟩
 | bl c=>
  rw[show u=.bool c from q];cases dx with
  | non=>rw[show v=.none from p];exact oD h ⟨rfl,rfl⟩
  | bl b=>
   rw[show v=.bool b from p,←Option.some.inj h];refine⟨rfl,?_⟩;cases b <;> cases c <;> rfl
  | any=>exact fn h
  | exc _=>exact fn h
  | _=>obtain⟨t,e⟩:=p;rw[e];exact oD h ⟨rfl,rfl⟩
 | _=>exact fn h
theorem tQ {K:W.Frag}{θ:List Addr}{H:Hp}{dx dy:D}{x y:V}{v u:Value}{b:Bool}(r1:cD K θ H dx x)(r2:cD K θ H dy y)(rx:aI x v)(ry:aI y u)(h:zQ dx dy=some b) :
  plainIs v u=true∧(v==u)=b:=AS (wg r1 rx) (wg r2 ry) h
theorem AN:dO X (compareOp .Is) (rD X (iT false)):=by
 intro af s σ H x y v u Q I rx ry h;obtain⟨θ,M,dx,dy,hw,r1,r2,h⟩:=h;unfold iT at h;split at h
 ·rename_i b q;obtain⟨hp,e⟩:=tQ r1 r2 rx ry q;refine wpAny_is_plain hp ?_;rw[e];refine⟨.bl b,H,I,rfl,?_⟩;have:=h (.bl (b != false)) θ H (.refl hw) rfl;rw[Bool.bne_false] at this;exact this
 ·exact h.elim
theorem rX:dO X (compareOp .IsNot) (rD X (iT true)):=by
 intro af s σ H x y v u Q I rx ry h;obtain⟨θ,M,dx,dy,hw,r1,r2,h⟩:=h;unfold iT at h;split at h
 ·rename_i b q;obtain⟨hp,e⟩:=tQ r1 r2 rx ry q;refine wpAny_isNot_plain hp ?_;rw[e];refine⟨.bl (!b),H,I,rfl,?_⟩;have:=h (.bl (b != true)) θ H (.refl hw) rfl;rw[Bool.bne_true] at this;exact this
 ·exact h.elim
mutual
def eV:D→PyData
 | .non=>.none
 | .bl b=>.bool b
 | .int i=>.int i
 | .str x=>.str x
 | .tup ds=>.tuple (iD ds)
 | .lst ds=>.list (iD ds)
 | .ro ds=>.list (iD ds)
 | .mr _=>.dict []
 | .exc _=>.dict []
 | .any=>.dict []
def iD:List D→List PyData
 | []=>[]
 | d::ds=>eV d::iD ds
end
mutual
def au:Nat→D→Bool
 | _,.non=>true
 | _,.bl _=>true
 | _,.int _=>true
 | _,.str x=>PyData.strOk x
 | n+1,.tup ds=>aU n ds
 | n+1,.lst ds=>aU n ds
 | n+1,.ro ds=>aU n ds
 | _,_=>false
def aU:Nat→List D→Bool
 | _,[]=>true
 | n,d::ds=>au n d&&aU n ds
end
mutual
def eW:D→D→Bool
 | .non,.non=>true
 | .bl a,.bl b=>a==b
 | .bl a,.int j=>(if a then 1 else 0)==j
 | .int i,.bl b=>i==(if b then 1 else 0)
 | .int i,.int j=>i==j
 | .str x,.str y=>x==y
 | .lst xs,.lst ys=>dL xs ys
 | .lst xs,.ro ys=>dL xs ys
 | .ro xs,.lst ys=>dL xs ys
 | .ro xs,.ro ys=>dL xs ys
 | .tup xs,.tup ys=>dL xs ys
 | _,_=>false
def dL:List D→List D→Bool
 | [],[]=>true
 | x::xs,y::ys=>eW x y&&dL xs ys
 | _,_=>false
end
mutual
theorem im:∀(x y:D) (n m:Nat),au n x=true→au m y=true→PyData.eqv (eV x) (eV y)=eW x y
 | .non,y,n,m,hx,hy=>by cases y <;> rfl
 | .bl a,y,n,m,hx,hy=>by cases y <;> rfl
 | .int a,y,n,m,hx,hy=>by cases y <;> rfl
 | .str a,y,n,m,hx,hy=>by cases y <;> rfl
 | .tup xs,y,n,m,hx,hy=>by
  cases n with
  | zero=>exact ff hx
  | succ n=>
   cases y with
   | tup ys=>
    cases m with
    | zero=>exact ff hy
    | succ m=>
     exact eo xs ys n m hx hy
   | _=>rfl
 | .lst xs,y,n,m,hx,hy=>by
  cases n with
  | zero=>exact ff hx
  | succ n=>
   cases y with
   | lst ys=>
    cases m with
    | zero=>exact ff hy
    | succ m=>
     exact eo xs ys n m hx hy
   | ro ys=>
    cases m with
    | zero=>exact ff hy
    | succ m=>
     exact eo xs ys n m hx hy
   | _=>rfl
 | .ro xs,y,n,m,hx,hy=>by
  cases n with
  | zero=>exact ff hx
  | succ n=>
   cases y with
   | lst ys=>
    cases m with
    | zero=>exact ff hy
    | succ m=>
     exact eo xs ys n m hx hy
   | ro ys=>
    cases m with
    | zero=>exact ff hy
    | succ m=>
     exact eo xs ys n m hx hy
   | _=>rfl
 | .mr a,y,n,m,hx,hy=>by cases n <;> exact ff hx
 | .exc a,y,n,m,hx,hy=>by cases n <;> exact ff hx
 | .any,y,n,m,hx,hy=>by cases n <;> exact ff hx
theorem eo:∀(x y:List D) (n m:Nat),aU n x=true→aU m y=true→PyData.eqvAll (iD x) (iD y)=dL x y
 | [],y,n,m,hx,hy=>by cases y <;> rfl
 | x::xs,y,n,m,hx,hy=>by
  cases y with
  | nil=>rfl
  | cons y ys=>
   have hx:=Bool.and_eq_true_iff.mp (show(au n x&&aU n xs)=true from hx);have hy:=Bool.and_eq_true_iff.mp (show(au m y&&aU m ys)=true from hy);show(PyData.eqv (eV x) (eV y)&&PyData.eqvAll (iD xs) (iD ys))=(eW x y&&dL xs ys);rw[im x y n m hx.1 hy.1,eo xs ys n m hx.2 hy.2]
end
mutual
theorem dQ:∀(d:D) (n:Nat),au n d=true→(eV d).canLay0=true∧(eV d).depth≤n
 | .non,n,h=>by simp[eV,PyData.canLay0,PyData.depth]
 | .bl a,n,h=>by simp[eV,PyData.canLay0,PyData.depth]
 | .int a,n,h=>by simp[eV,PyData.canLay0,PyData.depth]
 | .str a,n,h=>by
  have:PyData.strOk a=true:=by cases n <;> exact h
  simp[eV,PyData.canLay0,PyData.depth,this]
 | .tup xs,n,h=>by
  cases n with
  | zero=>exact ff h
  | succ n=>
   have:=gL xs n h;simp only[eV,PyData.canLay0,PyData.depth];exact⟨this.1,by omega⟩
 | .lst xs,n,h=>by
  cases n with
  | zero=>exact ff h
  | succ n=>
   have:=gL xs n h;simp only[eV,PyData.canLay0,PyData.depth];exact⟨this.1,by omega⟩
 | .ro xs,n,h=>by
  cases n with
  | zero=>exact ff h
  | succ n=>
   have:=gL xs n h;simp only[eV,PyData.canLay0,PyData.depth];exact⟨this.1,by omega⟩
 | .mr a,n,h=>by cases n <;> exact ff h
 | .exc a,n,h=>by cases n <;> exact ff h
 | .any,n,h=>by cases n <;> exact ff h
theorem gL:∀(ds:List D) (n:Nat),aU n ds=true→PyData.canLayAll0 (iD ds)=true∧PyData.depthAll (iD ds)≤n
 | [],n,h=>by simp[iD,PyData.canLayAll0,PyData.depthAll]
 | d::ds,n,h=>by
  have h:=Bool.and_eq_true_iff.mp (show(au n d&&aU n ds)=true from h);have h1:=dQ d n h.1;have h2:=gL ds n h.2;simp only[iD,PyData.canLayAll0,PyData.depthAll,Bool.and_eq_true];exact⟨⟨h1.1,h2.1⟩,by omega⟩
end
mutual
theorem fh {af:List (Addr×Obj)}{s:Shared}{σ:L2.St}{H:Hp}{θ:List Addr}(I:Inv X af σ H s):∀(d:D) (n:Nat) (v:V) (u:Value),au n d=true→cD X.K θ H d v→aI v u→∃as,Reads s.heap u (eV d) as
 | .non,n,v,u,h,r,q=>by have e:v=.non:=r;subst e;cases q;exact⟨_,.none⟩
 | .bl a,n,v,u,h,r,q=>by have e:v=.bl a:=r;subst e;cases q;exact⟨_,.bool a⟩
 | .int a,n,v,u,h,r,q=>by have e:v=.int a:=r;subst e;obtain⟨t,rfl⟩:=q;exact⟨_,.int a t⟩
 | .str a,n,v,u,h,r,q=>by have e:v=.str a:=r;subst e;obtain⟨t,rfl⟩:=q;exact⟨_,.str a t⟩
 | .tup xs,n,v,u,h,r,q=>by
  cases n with
  | zero=>exact ff h
  | succ n=>
   obtain⟨a,vs,e,ta,ra⟩:=r;subst e;cases q;obtain⟨its,rv,⟨o,h1,h2,m,h3⟩,_⟩:=I.tuple ta.sq;obtain⟨as,R⟩:=d9 I xs n vs its h ra rv;exact⟨_,.tuple h1 h2 h3 (by simpa using R)⟩
 | .lst xs,n,v,u,h,r,q=>by
  cases n with
  | zero=>exact ff h
  | succ n=>
   obtain⟨a,vs,e,ta,ra⟩:=r;subst e;cases q;obtain⟨its,rv,⟨o,m,h1,h2,_,h3⟩,_⟩:=I.list (ta.sq (K:=X.K));obtain⟨as,R⟩:=d9 I xs n vs its h ra rv;exact⟨_,.list h1 h2 h3 (by simpa using R)⟩
 | .ro xs,n,v,u,h,r,q=>by
  cases n with
  | zero=>exact ff h
  | succ n=>
   obtain⟨a,vs,e,ta,ra⟩:=r;subst e;cases q;obtain⟨its,rv,⟨o,m,h1,h2,_,h3⟩,_⟩:=I.list ta.sq;obtain⟨as,R⟩:=d9 I xs n vs its h ra rv;exact⟨_,.list h1 h2 h3 (by simpa using R)⟩
 | .mr a,n,v,u,h,r,q=>by cases n <;> exact ff h
 | .exc a,n,v,u,h,r,q=>by cases n <;> exact ff h
 | .any,n,v,u,h,r,q=>by cases n <;> exact ff h
theorem d9 {af:List (Addr×Obj)}{s:Shared}{σ:L2.St}{H:Hp}{θ:List Addr}(I:Inv X af σ H s):∀(ds:List D) (n:Nat) (vs:List V) (us:List Value),aU n ds=true→aH X.K θ H ds vs→aD vs us→∃as,ReadsAll s.heap us (iD ds) as
 | [],n,vs,us,h,r,q=>by have e:vs=[]:=r;subst e;cases q;exact⟨_,.nil⟩
 | d::ds,n,vs,us,h,r,q=>by
  have h:=Bool.and_eq_true_iff.mp (show(au n d&&aU n ds)=true from h);obtain⟨v,rr,e,r1,r2⟩:=r;subst e;cases q with
  | cons q1 q2=>
   obtain⟨as,R1⟩:=fh I d n v _ h.1 r1 q1;obtain⟨bs,R2⟩:=d9 I ds n rr _ h.2 r2 q2;exact⟨_,.cons R1 R2⟩
end
def iP (d:D)(M:am):D:=match d with
 | .mr k=>match M[k]? with
  | some (.lst xs)=>.lst xs
  | _=>.mr k
 | d=>d
def dH (neg:Bool):F2:=fun x y M=>if au 40 (iP x M)&&au 40 (iP y M) then .ok (.bl (eW (iP x M) (iP y M) != neg)) M else .bad
theorem fG {af:List (Addr×Obj)}{s:Shared}{σ:L2.St}{H:Hp}{θ:List Addr}{M:am}(I:Inv X af σ H s)(hw:Wr X.K θ H M){d:D}{n:Nat}{v:V}{u:Value}(h:au n (iP d M)=true)(r:cD X.K θ H d v)(q:aI v u):∃as,Reads s.heap u (eV (iP d M)) as:=by
 cases d with
 | mr k=>
  obtain⟨a,e,ta⟩:=r;subst e;cases q;cases qm:M[k]? with
  | none=>
   have e:iP (.mr k) M=.mr k:=by simp[iP,qm]
   rw[e] at h;cases n <;> exact ff h
  | some m=>
   cases m with
   | lst xs=>
    have e:iP (.mr k) M=.lst xs:=by simp[iP,qm]
    rw[e] at h ⊢;cases n with
    | zero=>exact ff h
    | succ n=>
     obtain⟨vs,hv,ra⟩:=hw.at_ k a _ ta qm;obtain⟨its,rv,⟨o,m,h1,h2,_,h3⟩,_⟩:=I.list (X:=X) (xs:=vs) (.inl (.inl hv));obtain⟨as,R⟩:=d9 I xs n vs its h ra rv;exact⟨_,.list h1 h2 h3 (by simpa using R)⟩
   | _=>
    have e:iP (.mr k) M=.mr k:=by simp[iP,qm]
    rw[e] at h;cases n <;> exact ff h
 | _=>exact fh I _ n v u h r q
theorem Bb (hu:X.A.units+64<cLine):dO X (compareOp .Eq) (rD X (dH false)):=by
 intro af s σ H x y v u Q I rx ry h;obtain⟨θ,M,dx,dy,hw,r1,r2,h⟩:=h;unfold dH at h;split at h
 ·rename_i hc;rw[Bool.and_eq_true] at hc;obtain⟨as,R1⟩:=fG I hw hc.1 r1 rx;obtain⟨bs,R2⟩:=fG I hw hc.2 r2 ry;have l1:=dQ _ _ hc.1;have l2:=dQ _ _ hc.2;refine SeqAt.compareEq_reads R1 R2 l1.1 l2.1 (by have:=l1.2;have:min (eV (iP dx M)).depth (eV (iP dy M)).depth≤(eV (iP dx M)).depth:=Nat.min_le_left _ _;omega) ?_;rw[im _ _ _ _ hc.1 hc.2];refine⟨.bl _,H,I,rfl,?_⟩;have:=h _ θ H (.refl hw) rfl;rw[Bool.bne_false] at this;exact this
 ·exact h.elim
theorem AG (hu:X.A.units+64<cLine):dO X (compareOp .NotEq) (rD X (dH true)):=by
 intro af s σ H x y v u Q I rx ry h;obtain⟨θ,M,dx,dy,hw,r1,r2,h⟩:=h;unfold dH at h;split at h
 ·rename_i hc;rw[Bool.and_eq_true] at hc;obtain⟨as,R1⟩:=fG I hw hc.1 r1 rx;obtain⟨bs,R2⟩:=fG I hw hc.2 r2 ry;have l1:=dQ _ _ hc.1;have l2:=dQ _ _ hc.2;refine SeqAt.compareNe_reads R1 R2 l1.1 l2.1 (by have:=l1.2;have:min (eV (iP dx M)).depth (eV (iP dy M)).depth≤(eV (iP dx M)).depth:=Nat.min_le_left _ _;omega) ?_;rw[im _ _ _ _ hc.1 hc.2];refine⟨.bl _,H,I,rfl,?_⟩;have:=h _ θ H (.refl hw) rfl;rw[Bool.bne_true] at this;exact this
 ·exact h.elim
def bu (d:D)(M:am):Option (List D):=match d with
 | .tup xs=>some xs
 | .lst xs=>some xs
 | .ro xs=>some xs
 | .mr k=>match M[k]? with
  | some (.lst xs)=>some xs
  | _=>none
 | _=>none
def bi:F2:=fun x y M=>match bu x M,y with
 | some xs,.int i=>match j5 xs i with
  | some d=>.ok d M
  | none=>.bad
 | _,_=>.bad
theorem rf {K:W.Frag}{θ:List Addr}{H:Hp}{ds:List D}{vs:List V}{i:Int}{d:D}(r:aH K θ H ds vs)(e:j5 ds i=some d):∃v,j5 vs i=some v∧cD K θ H d v:=by
 unfold j5 at e ⊢;rw[←al r];cases q:tV ds.length i with
 | none=>rw[q] at e;cases e
 | some j=>
  rw[q] at e;exact dh r e
theorem jq {K:W.Frag}{θ:List Addr}{H:Hp}{M:am}{d:D}{xs:List D}{v:V}(hw:Wr K θ H M)(r:cD K θ H d v)(e:bu d M=some xs):∃a vs,v=.ref a∧(iJ K H a vs∨io K H a vs)∧aH K θ H xs vs:=by
 cases d with
 | tup ds=>obtain⟨a,vs,e1,ta,ra⟩:=r;cases e;exact⟨a,vs,e1,.inr ta.sq,ra⟩
 | lst ds=>obtain⟨a,vs,e1,ta,ra⟩:=r;cases e;exact⟨a,vs,e1,.inl ta.sq,ra⟩
 | ro ds=>obtain⟨a,vs,e1,ta,ra⟩:=r;cases e;exact⟨a,vs,e1,.inl ta.sq,ra⟩
 | mr k=>
  obtain⟨a,e1,ta⟩:=r;have e:(match M[k]? with|some (.lst xs)=>some xs|_=>none)=some xs:=e;cases qm:M[k]? with
  | none=>rw[qm] at e;cases e
  | some m=>
   cases m with
   | lst ys=>
    rw[qm] at e;cases e;obtain⟨vs,hv,ra⟩:=hw.at_ k a _ ta qm;exact⟨a,vs,e1,.inl (.inl (.inl hv)),ra⟩
   | _=>rw[qm] at e;cases e
 | _=>cases e
theorem Av:BS X (rD X bi):=by
 intro value slice af s σ H x y v u Q I rx ry h hs;obtain⟨θ,M,dx,dy,hw,r1,r2,h⟩:=h;unfold bi at h;split at h
 ·rename_i xs i q;split at h
  ·rename_i d qd;obtain⟨a,vs,ea,sq,ra⟩:=jq hw r1 q;obtain⟨z,ez,rz⟩:=rf ra qd;have hq:=h z θ H (.refl hw) rz;rcases sq with sq|sq
   ·exact u6 value slice af s σ H x y v u Q I rx ry ⟨a,vs,i,z,ea,r2,sq,ez,hq⟩ hs
   ·exact yw value slice af s σ H x y v u Q I rx ry ⟨a,vs,i,z,ea,r2,sq,ez,hq⟩ hs
  ·exact h.elim
 ·exact h.elim
theorem z8 {a b:Expr}{pos:Pos}{ga gb:GE}(ha:PE X a (tE X ga))(hb:PE X b (tE X gb))(hs:lA b:=by intro _ _;rfl):PE X (.Subscript a b pos) (tE X (g2 bi ga gb)):=
 (AM Av ha hb hs).of fun _ _ _ h=>oB h
def lS (xs:List D)(lo hi:Option Int):List D:=(xs.drop (HT.sIx xs.length 0 lo)).take (HT.sIx xs.length xs.length hi-HT.sIx xs.length 0 lo)
def jF (x:D)(lo hi:Option Int)(M:am):aF D:=match x with
 | .tup xs=>.ok (.tup (lS xs lo hi)) M
 | .lst xs=>.ok (.lst (lS xs lo hi)) M
 | .ro xs=>.ok (.lst (lS xs lo hi)) M
 | .mr k=>match M[k]? with
  | some (.lst xs)=>.ok (.lst (lS xs lo hi)) M
  | _=>.bad
 | _=>.bad
abbrev GO:=a9→am→aF (Option Int)
def c7:GO:=fun _ M=>.ok none M
def fX (g:GE):GO:=fun ρ M=>(g ρ M).bind fun d M1=>match d with
 | .int i=>.ok (some i) M1
 | _=>.bad
def BP (X:Cx)(θ:List Addr)(H:Hp)(Q:Option Int→Hp→Prop):aF (Option Int)→Prop
 | .ok b M'=>∀θ' H',Go X.K θ H θ' H' M'→Q b H'
 | .err c M'=>cM X θ H c M'
 | .bad=>False
def tO (X:Cx)(g:GO):TO:=fun σ H Q=>∃ρ θ M,dJ X.K θ H σ ρ∧Wr X.K θ H M∧BP X θ H Q (g ρ M)
theorem _root_.L2.PO.of {e:Option Expr}{t t':TO}(h:PO X e t)(w:∀σ H Q,t' σ H Q→t σ H Q):PO X e t':=fun af s σ H Q I q=>h af s σ H Q I (w σ H Q q)
theorem vc:PO X none (tO X c7):=uV.of fun σ H Q ⟨ρ,θ,M,hd,hw,f⟩=>f θ H (.refl hw)
theorem uj {e:Expr}{g:GE}(h:PE X e (tE X g)):PO X (some e) (tO X (fX g)):=(vm h).of fun σ H Q hxx=>by
 obtain⟨ρ,θ,M,hd,hw,h⟩:=hxx;refine bx hd hw (BP X θ H Q) (fun c M' h=>h) (fun h=>h) h fun d M1 v θ1 H1 g1 r1 h1=>?_
 split at h1
 ·rename_i i;exact⟨i,r1,h1 θ1 H1 g1⟩
 ·exact h1.elim
theorem wx {g:GO}{σ:L2.St}{H:Hp}{Q:Option Int→Hp→Prop}{α:Type}{ρ:a9}{θ:List Addr}{M:am}(hd:dJ X.K θ H σ ρ)(hw:Wr X.K θ H M)(F:aF α→Prop)(Fe:∀c M',F (.err c M')→cM X θ H c M')(Fb:F .bad→False)
  {f:Option Int→am→aF α} (h:F ((g ρ M).bind f)) (k:∀d M1 θ1 H1,Go X.K θ H θ1 H1 M1→F (f d M1)→Q d H1):tO X g σ H Q:=by
 refine⟨ρ,θ,M,hd,hw,?_⟩;cases q:g ρ M with
 | ok d M1=>
  rw[q] at h;exact fun θ1 H1 g1=>k d M1 θ1 H1 g1 h
 | err c M1=>rw[q] at h;exact Fe c M1 h
 | bad=>rw[q] at h;exact(Fb h).elim
def sL (g:GE)(gl gh:GO):GE:=fun ρ M=>(g ρ M).bind fun x M1=>(gl ρ M1).bind fun lo M2=>(gh ρ M2).bind fun hi M3=>jF x lo hi M3
def DC (X:Cx):V→Option Int→Option Int→Hp→VK→Prop:=fun x lo hi H Q=>∃θ M d,Wr X.K θ H M∧cD X.K θ H d x∧aE X θ H Q (jF d lo hi M)
theorem gV {K:W.Frag}{θ:List Addr}{H:Hp}{ds:List D}{vs:List V}(r:aH K θ H ds vs)(lo hi:Option Int):aH K θ H (lS ds lo hi) (mj vs lo hi):=by
 unfold lS mj;rw[←al r];exact j1 _ (j2 _ r)
theorem Cd:B0 X (DC X):=by
 intro af s σ H x v vl vu lo hi sl Q I rx hs pl pu h;obtain⟨θ,M,d,hw,r,h⟩:=h;cases d with
 | tup ds=>
  obtain⟨a,vs,e,ta,ra⟩:=r
  by_cases hc:HT.sIx vs.length 0 lo=0∧HT.sIx vs.length vs.length hi=vs.length
  ·subst e;cases rx;obtain⟨its,rv,ht,hz⟩:=I.tuple ta.sq;have hlen:its.toArray.size=vs.length:=by rw[size_toArray];exact rv.length.symm
   refine⟨"tuple",_,PyProof.Rows.slot_tuple_getitem.lookup,ht.typeIs,?_⟩;refine fV ht hs pl pu (by rw[hlen];exact hc) ⟨.ref a,H,I,rfl,h _ θ H (.refl hw) ⟨a,vs,rfl,ta,?_⟩⟩;have e:lS ds lo hi=ds:=by
    unfold lS;rw[al ra,hc.1,hc.2,drop_zero,Nat.sub_zero,←al ra,take_length]
   rw[e];exact ra
  ·exact xS af s σ H x v vl vu lo hi sl Q I rx hs pl pu ⟨a,vs,e,ta.sq,hc,fun p hp=>h _ θ _ (cJ hw hp) (eN hw hp (gV ra lo hi))⟩
 | lst ds=>
  obtain⟨a,vs,e,ta,ra⟩:=r;exact kX af s σ H x v vl vu lo hi sl Q I rx hs pl pu ⟨a,vs,e,ta.sq,fun p hp=>h _ θ _ (cJ hw hp) (eI hw hp (gV ra lo hi))⟩
 | ro ds=>
  obtain⟨a,vs,e,ta,ra⟩:=r;exact kX af s σ H x v vl vu lo hi sl Q I rx hs pl pu ⟨a,vs,e,ta.sq,fun p hp=>h _ θ _ (cJ hw hp) (eI hw hp (gV ra lo hi))⟩
 | mr k=>
  obtain⟨a,e,ta⟩:=r;have h:aE X θ H Q (match M[k]? with|some (.lst xs)=>.ok (.lst (lS xs lo hi)) M|_=>.bad):=h;cases qm:M[k]? with
  | none=>rw[qm] at h;exact h.elim
  | some m=>
   cases m with
   | lst ys=>
    rw[qm] at h;obtain⟨vs,hv,ra⟩:=hw.at_ k a _ ta qm;exact kX af s σ H x v vl vu lo hi sl Q I rx hs pl pu ⟨a,vs,e,.inl (.inl hv),fun p hp=>h _ θ _ (cJ hw hp) (eI hw hp (gV ra lo hi))⟩
   | _=>rw[qm] at h;exact h.elim
 | _=>exact h.elim
theorem sN {e:Expr}{lo hi:Option Expr}{g:GE}{gl gh:GO}{p2 pos:Pos}(he:PE X e (tE X g))(hl:PO X lo (tO X gl))(hh:PO X hi (tO X gh)):PE X (.Subscript e (.Slice lo hi none p2) pos) (tE X (sL g gl gh)):=
 (rO Cd he hl hh).of fun σ H Q hxx=>by
  obtain⟨ρ,θ,M,hd,hw,h⟩:=hxx;refine bx hd hw (aE X θ H Q) (fun c M' h=>h) (fun h=>h) h fun d M1 v θ1 H1 g1 r1 h1=>?_
  refine wx (hd.go g1) g1.wr (aE X θ1 H1 Q) (fun c M' h=>h) (fun h=>h) (h1.go g1) fun l M2 θ2 H2 g2 h2=>?_
  refine wx ((hd.go g1).go g2) g2.wr (aE X θ2 H2 Q) (fun c M' h=>h) (fun h=>h) (h2.go g2) fun u M3 θ3 H3 g3 h3=>?_
  exact⟨θ3,M3,d,g3.wr,r1.go (g2.trans g3),h3.go g3⟩
def vw (d:D)(M:am):aF Bool:=match d with
 | .non=>.ok false M
 | .bl b=>.ok b M
 | .int i=>.ok (i != 0) M
 | .str x=>if x.length≤sizeLine then .ok ((x.length:Int) != 0) M else .bad
 | .tup xs=>.ok (!xs.isEmpty) M
 | .lst xs=>.ok (!xs.isEmpty) M
 | .ro xs=>.ok (!xs.isEmpty) M
 | .mr k=>match M[k]? with
  | some (.lst xs)=>.ok (!xs.isEmpty) M
  | _=>.bad
 | .exc _=>.bad
 | .any=>.bad
def jJ (g:GE):GT:=fun ρ M=>(g ρ M).bind vw
theorem dF {K:W.Frag}{θ:List Addr}{H:Hp}{ds:List D}{vs:List V}(r:aH K θ H ds vs):(!vs.isEmpty)=!ds.isEmpty:=by
 have:=al r;cases ds <;> cases vs <;> simp_all
theorem yN {a:Expr}{g:GE}(ha:PE X a (tE X g))(he:∀whole,isTrue a X.env whole=(do let v ←whole;standAt a.pos;holding [v] (truthy v)):=by intro _;rfl):PT X a (tT X (jJ g)):=
 (rq ha he).of fun σ H Q hxx=>by
  obtain⟨ρ,θ,M,hd,hw,h⟩:=hxx;refine bx hd hw (iA X θ H Q) (fun c M' h=>h) (fun h=>h) h fun d M1 v θ1 H1 g1 r1 h1=>?_
  cases d with
  | non=>have e:v=.non:=r1;subst e;exact⟨false,rfl,h1 θ1 H1 g1⟩
  | bl b=>have e:v=.bl b:=r1;subst e;exact⟨b,rfl,h1 θ1 H1 g1⟩
  | int i=>have e:v=.int i:=r1;subst e;exact⟨i != 0,rfl,h1 θ1 H1 g1⟩
  | str x=>
   have e:v=.str x:=r1;subst e;have h1:iA X θ H Q (if x.length≤sizeLine then .ok ((x.length:Int) != 0) M1 else .bad):=h1;split at h1
   ·rename_i hl;exact⟨_,⟨hl,rfl⟩,h1 θ1 H1 g1⟩
   ·exact h1.elim
  | tup xs=>
   obtain⟨a,vs,e,ta,ra⟩:=r1;subst e;exact⟨_,.inr (.inl ⟨vs,ta.sq,(dF ra).symm⟩),h1 θ1 H1 g1⟩
  | lst xs=>
   obtain⟨a,vs,e,ta,ra⟩:=r1;subst e;exact⟨_,.inl ⟨vs,ta.sq,(dF ra).symm⟩,h1 θ1 H1 g1⟩
  | ro xs=>
   obtain⟨a,vs,e,ta,ra⟩:=r1;subst e;exact⟨_,.inl ⟨vs,ta.sq,(dF ra).symm⟩,h1 θ1 H1 g1⟩
  | mr k=>
   obtain⟨a,e,ta⟩:=r1;subst e;have h1:iA X θ H Q (match M1[k]? with|some (.lst xs)=>.ok (!xs.isEmpty) M1|_=>.bad):=h1;cases qm:M1[k]? with
   | none=>rw[qm] at h1;exact h1.elim
   | some m=>
    cases m with
    | lst ys=>
     rw[qm] at h1;obtain⟨vs,hv,ra⟩:=g1.wr.at_ k a _ ta qm;exact⟨_,.inl ⟨vs,.inl (.inl hv),(dF ra).symm⟩,h1 θ1 H1 g1⟩
    | _=>rw[qm] at h1;exact h1.elim
  | exc c=>exact h1.elim
  | any=>exact h1.elim
def cT:FD:=fun ds M=>match ds with
 | [.str x]=>if x.length≤sizeLine then .ok (.int x.length) M else .bad
 | [d]=>match bu d M with
  | some xs=>.ok (.int xs.length) M
  | none=>.bad
 | _=>.bad
def kY:FD:=fun ds M=>match ds with
 | [.int i,.int j]=>.ok (.int (if j<i then j else i)) M
 | _=>.bad
def iR:FD:=fun ds M=>match ds with
 | [.int i,.int j]=>.ok (.int (if j>i then j else i)) M
 | _=>.bad
def m9:FD:=fun ds M=>match ds with
 | [.int i]=>.ok (.int i) M
 | [.bl b]=>.ok (.int (if b then 1 else 0)) M
 | _=>.bad
def fF:FD:=fun ds M=>match ds with
 | [d]=>match bu d M with
  | some xs=>.ok (.lst xs) M
  | none=>.bad
 | _=>.bad
def bp:FD:=fun ds M=>match ds with
 | [d]=>match bu d M with
  | some xs=>.ok (.tup xs) M
  | none=>.bad
 | _=>.bad
theorem eR {K:W.Frag}{θ:List Addr}{H:Hp}{d:D}{xs:List V}(r:aH K θ H [d] xs):∃v,xs=[v]∧cD K θ H d v:=by
 obtain⟨v,rr,e,h1,h2⟩:=r;have e2:rr=[]:=h2;subst e2;exact⟨v,e,h1⟩
theorem rP {K:W.Frag}{θ:List Addr}{H:Hp}{d d':D}{xs:List V}(r:aH K θ H [d,d'] xs):∃v v',xs=[v,v']∧cD K θ H d v∧cD K θ H d' v':=by
 obtain⟨v,rr,e,h1,h2⟩:=r;obtain⟨v',e2,h3⟩:=eR h2;subst e2;exact⟨v,v',e,h1,h3⟩
theorem zn:bY X (.builtin "len") (rC X cT):=by
 intro af s σ H xs us Q I r h;obtain⟨θ,M,ds,hw,rd,h⟩:=h;unfold cT at h;split at h
 ·rename_i x;split at h
  ·rename_i hl;obtain⟨v,e,rv⟩:=eR rd;exact k8 af s σ H xs us Q I r ⟨x,by rw[e,show v=.str x from rv],hl,h _ θ H (.refl hw) rfl⟩
  ·exact h.elim
 ·rename_i d _;split at h
  ·rename_i ys q;obtain⟨v,e,rv⟩:=eR rd;obtain⟨a,vs,ea,sq,ra⟩:=jq hw rv q;refine k7 af s σ H xs us Q I r ⟨a,vs,by rw[e,ea],sq,?_⟩;rw[←al ra];exact h _ θ H (.refl hw) rfl
  ·exact h.elim
 ·exact h.elim
theorem wX (hc:X.calm=true):bY X (.builtin "min") (rC X kY):=by
 intro af s σ H xs us Q I r h;obtain⟨θ,M,ds,hw,rd,h⟩:=h;unfold kY at h;split at h
 ·rename_i i j;obtain⟨v,v',e,rv,rv'⟩:=rP rd;exact o5 hc af s σ H xs us Q I r ⟨i,j,by rw[e,show v=.int i from rv,show v'=.int j from rv'],h _ θ H (.refl hw) rfl⟩
 ·exact h.elim
theorem yG (hc:X.calm=true):bY X (.builtin "max") (rC X iR):=by
 intro af s σ H xs us Q I r h;obtain⟨θ,M,ds,hw,rd,h⟩:=h;unfold iR at h;split at h
 ·rename_i i j;obtain⟨v,v',e,rv,rv'⟩:=rP rd;exact pN hc af s σ H xs us Q I r ⟨i,j,by rw[e,show v=.int i from rv,show v'=.int j from rv'],h _ θ H (.refl hw) rfl⟩
 ·exact h.elim
theorem yp:bY X (.type "int") (rC X m9):=by
 intro af s σ H xs us Q I r h;obtain⟨θ,M,ds,hw,rd,h⟩:=h;unfold m9 at h;split at h
 ·rename_i i;obtain⟨v,e,rv⟩:=eR rd;exact ku af s σ H xs us Q I r (.inl ⟨i,by rw[e,show v=.int i from rv],h _ θ H (.refl hw) rfl⟩)
 ·rename_i b;obtain⟨v,e,rv⟩:=eR rd;exact ku af s σ H xs us Q I r (.inr ⟨b,by rw[e,show v=.bl b from rv],h _ θ H (.refl hw) rfl⟩)
 ·exact h.elim
theorem vq:bY X (.type "list") (rC X fF):=by
 intro af s σ H xs us Q I r h;obtain⟨θ,M,ds,hw,rd,h⟩:=h;unfold fF at h;split at h
 ·rename_i d;split at h
  ·rename_i ys q;obtain⟨v,e,rv⟩:=eR rd;obtain⟨a,vs,ea,sq,ra⟩:=jq hw rv q;exact lV af s σ H xs us Q I r ⟨a,vs,by rw[e,ea],sq,fun l hl=>h _ θ _ (cJ hw hl) (eI hw hl ra)⟩
  ·exact h.elim
 ·exact h.elim
theorem sD:bY X (.type "tuple") (rC X bp):=by
 intro af s σ H xs us Q I r h;obtain⟨θ,M,ds,hw,rd,h⟩:=h;unfold bp at h;split at h
 ·rename_i d;obtain⟨v,e,rv⟩:=eR rd;cases d with
  | tup ys=>
   obtain⟨a,vs,ea,ta,ra⟩:=rv;exact c8 af s σ H xs us Q I r ⟨a,vs,by rw[e,ea],.inr ⟨ta.sq,h _ θ H (.refl hw) ⟨a,vs,rfl,ta,ra⟩⟩⟩
  | lst ys=>
   obtain⟨a,vs,ea,ta,ra⟩:=rv;exact c8 af s σ H xs us Q I r ⟨a,vs,by rw[e,ea],.inl ⟨ta.sq,fun l hl=>h _ θ _ (cJ hw hl) (eN hw hl ra)⟩⟩
  | ro ys=>
   obtain⟨a,vs,ea,ta,ra⟩:=rv;exact c8 af s σ H xs us Q I r ⟨a,vs,by rw[e,ea],.inl ⟨ta.sq,fun l hl=>h _ θ _ (cJ hw hl) (eN hw hl ra)⟩⟩
  | mr k=>
   obtain⟨a,ea,ta⟩:=rv;cases qm:M[k]? with
   | none=>simp[bu,qm] at h;exact h.elim
   | some m=>
    cases m with
    | lst ys=>
     simp only[bu,qm] at h;obtain⟨vs,hv,ra⟩:=hw.at_ k a _ ta qm;exact c8 af s σ H xs us Q I r ⟨a,vs,by rw[e,ea],.inl ⟨.inl (.inl hv),fun l hl=>h _ θ _ (cJ hw hl) (eN hw hl ra)⟩⟩
    | _=>simp[bu,qm] at h;exact h.elim
  | _=>exact h.elim
 ·exact h.elim
end
def cg (cells:List (Str×Addr)):List (Str×NameKind)→List (Str×Addr)→List (Str×Addr)
 | [],acc=>acc
 | (n,k)::r,acc=>if k==.free then cg cells r ((n,(cells.lookup n).getD 0)::acc) else cg cells r acc
theorem jh {env:Env}:∀(l:List (Str×NameKind)) (cs:List (Str×Addr)),(∀p∈l,p.2=.free→∃c,env.cells.lookup p.1=some c)→
  (forIn (m:=Sem) l cs fun x r=>match x with
   | (name,kind)=>if(kind==NameKind.free)=true then do let __do_lift ←cellOf env name;pure (ForInStep.yield ((name,__do_lift)::r)) else pure (ForInStep.yield r))=pure (cg env.cells l cs)
 | [],cs,h=>rfl
 | (n,k)::r,cs,h=>by
  have ih:=fun cs=>jh (env:=env) r cs fun p hp=>h p (mem_cons_of_mem _ hp)
  rw[forIn_cons]
  by_cases hk:(k==NameKind.free)=true
  ·obtain⟨c,hc⟩:=h (n,k) mem_cons_self (by simpa using hk);have e:cellOf env n=pure c:=by unfold cellOf;rw[show List.lookup n env.cells=some c from hc]
   simp only[hk,if_true,cg,e,pure_bind];rw[ih,show List.lookup n env.cells=some c from hc];rfl
  ·simp only[hk,if_false,cg,pure_bind,Bool.false_eq_true];exact ih cs
theorem ie {env:Env}{scope:Scope}(h:∀p∈scope.names,p.2=.free→∃c,env.cells.lookup p.1=some c):closureFor scope env=pure (cg env.cells scope.names []):=by
 have:=jh (env:=env) scope.names [] h;unfold closureFor;simp only[bind_pure_comp] at this ⊢
 first
  | (rw[this];rfl)
  | (simp[this])
  | exact this
theorem jC {cells:List (Str×Addr)}:∀(l:List (Str×NameKind)) (acc:List (Str×Addr)),(∀p∈acc,cells.lookup p.1=some p.2)→(∀p∈l,p.2=.free→∃c,cells.lookup p.1=some c)→
  ∀p∈cg cells l acc,cells.lookup p.1=some p.2
 | [],acc,ha,h=>ha
 | (n,k)::r,acc,ha,h=>by
  have hr:∀p∈r,p.2=.free→∃c,cells.lookup p.1=some c:=fun p hp=>h p (mem_cons_of_mem _ hp)
  unfold cg
  by_cases hk:(k==NameKind.free)=true
  ·rw[if_pos hk];refine jC r _ (fun p hp=>?_) hr;rcases mem_cons.mp hp with e|hp
   ·subst e;obtain⟨c,hc⟩:=h (n,k) mem_cons_self (by simpa using hk);have hc':cells.lookup n=some c:=hc;show cells.lookup n=some ((cells.lookup n).getD 0);rw[hc'];rfl
   ·exact ha p hp
  ·rw[if_neg hk];exact jC r acc ha hr
theorem jt {cells:List (Str×Addr)}:∀(l:List (Str×NameKind)) (acc:List (Str×Addr)),∀p∈acc,p∈cg cells l acc
 | [],acc,p,h=>h
 | (n,k)::r,acc,p,h=>by
  unfold cg
  by_cases hk:(k==NameKind.free)=true
  ·rw[if_pos hk];exact jt r _ p (mem_cons_of_mem _ h)
  ·rw[if_neg hk];exact jt r acc p h
theorem jz {cells:List (Str×Addr)}:∀(l:List (Str×NameKind)) (acc:List (Str×Addr)) (n:Str),(n,NameKind.free)∈l→∃c,(n,c)∈cg cells l acc
 | [],acc,n,h=>by cases h
 | (m,k)::r,acc,n,h=>by
  unfold cg;rcases mem_cons.mp h with e|h
  ·cases e;rw[if_pos (by rfl)];exact⟨_,jt r _ _ mem_cons_self⟩
  ·by_cases hk:(k==NameKind.free)=true
   ·rw[if_pos hk];exact jz r _ n h
   ·rw[if_neg hk];exact jz r acc n h
theorem gK {l:List (Str×Addr)}{n:Str}{c:Addr}(h:(n,c)∈l):∃c',l.lookup n=some c':=by
 induction l with
 | nil=>cases h
 | cons p r ih=>
  obtain⟨m,d⟩:=p
  by_cases e:(n==m)=true
  ·exact⟨d,by simp[List.lookup,e]⟩
  ·have e':(n==m)=false:=by simpa using e
   rcases mem_cons.mp h with q|q
   ·cases q;simp at e
   ·obtain⟨c',hc⟩:=ih q;exact⟨c',by simp only[List.lookup,e'];exact hc⟩
theorem dG {env:Env}:∀{names:List (Str×NameKind)} {x:Str} {k:NameKind},
  (names.map fun(n,k)=>if(k==NameKind.free&&env.scope.kind==.function&&env.kindOf n==some .cell) then(n,NameKind.cell) else(n,k)).lookup x=some k→
   names.lookup x=some k∨(k=.cell∧names.lookup x=some .free)
 | [],_,_,h=>by simp at h
 | (n,k')::r,x,k,h=>by
  have ih:=@dG env r x k;have h:List.lookup x ((if(k'==NameKind.free&&env.scope.kind==.function&&env.kindOf n==some .cell)=true then(n,NameKind.cell) else(n,k'))::_)=some k:=h
  by_cases hc:(k'==NameKind.free&&env.scope.kind==.function&&env.kindOf n==some .cell)=true
  ·rw[if_pos hc] at h;cases hx:x==n with
   | true=>
    simp only[lookup_cons,hx] at h ⊢;cases h;have:k'=.free:=by
     rw[Bool.and_eq_true,Bool.and_eq_true] at hc;simpa using hc.1.1
    subst this;exact .inr ⟨rfl,rfl⟩
   | false=>
    simp only[lookup_cons,hx] at h ⊢;exact ih h
  ·rw[if_neg hc] at h;cases hx:x==n with
   | true=>
    simp only[lookup_cons,hx] at h ⊢;exact .inl h
   | false=>
    simp only[lookup_cons,hx] at h ⊢;exact ih h
def bU (sc:Scope)(fk:Str→Option NameKind)(xs:List Str)(R N:List Str):Bool:=
 decide (sc.kind=.function)&&xs.all (fun x=>sc.names.lookup x==some .local) &&
 sc.names.all (fun p=>match p.2 with
  | .cell=>false
  | .local=>(xs.contains p.1||p.1==(".0":Str))&&sc.names.lookup p.1==some .local
  | .free=>fk p.1==some .cell||fk p.1==some .free
  | _=>true) &&
 decide ((xs++R).Nodup)&&!(R.contains (".0":Str))&&R.length==N.length &&
 (R.zip N).all (fun p=>p.1==p.2||sc.names.lookup p.1 != some .free)
structure bg (sc:Scope)(fk:Str→Option NameKind)(xs:List Str)(R N:List Str):Prop where
 kind:sc.kind=.function
 own:∀x∈xs,sc.names.lookup x=some .local
 nocell:∀p∈sc.names,p.2≠.cell
 locs:∀p∈sc.names,p.2=.local→p.1∈xs∨p.1=(".0":Str)
 lnames:∀p∈sc.names,p.2=.local→sc.names.lookup p.1=some .local
 free:∀p∈sc.names,p.2=.free→fk p.1=some .cell∨fk p.1=some .free
 nd:(xs++R).Nodup
 no0:(".0":Str)∉R
 len:R.length=N.length
 same:∀(i:Nat) y,R[i]?=some y→sc.names.lookup y=some .free→N[i]?=some y
theorem bg.of {sc:Scope}{fk:Str→Option NameKind}{xs:List Str}{R N:List Str}(h:bU sc fk xs R N=true):bg sc fk xs R N:=by
 unfold bU at h;simp only[Bool.and_eq_true,decide_eq_true_eq,all_eq_true,Bool.not_eq_true',beq_iff_eq] at h;obtain⟨⟨⟨⟨⟨⟨h1,h2⟩,h3⟩,h4⟩,h5⟩,h6⟩,h7⟩:=h;refine⟨h1,h2,fun p hp e=>?_,fun p hp e=>?_,fun p hp e=>?_,fun p hp e=>?_,h4,?_,h6,fun i y hy hf=>?_⟩
 ·have:=h3 p hp;rw[e] at this;simp at this
 ·have:=h3 p hp;rw[e] at this;simp at this;exact this.1
 ·have:=h3 p hp;rw[e] at this;simp at this;exact this.2
 ·have:=h3 p hp;rw[e] at this;simp at this;exact this
 ·intro hm;have:R.contains (".0":Str)=true:=by simpa using hm
  rw[this] at h5;cases h5
 ·obtain⟨hi,e⟩:=List.getElem?_eq_some_iff.mp hy;have hn:i<N.length:=by rw[←h6];exact hi
  have hz:(R[i],N[i])∈R.zip N:=by
   rw[mem_iff_getElem];exact⟨i,by simp;omega,by simp⟩
  have:=h7 _ hz;simp only[Bool.or_eq_true,beq_iff_eq,bne_iff_ne,ne_eq] at this;rcases this with q|q
  ·rw[getElem?_eq_getElem hn,←q,e]
  ·rw[e] at q;exact absurd hf q
def ah (X:Cx)(scope:Scope)(xs:List Str)(R:List Str)(fp:List Addr)(s:Shared)(H:Hp)(C:Addr):Cx where
 prog:=X.prog
 w:=X.w
 K:=X.K
 mg:=X.mg
 base:=X.base
 A:=X.A
 N:=xs++R
 s₀:=s
 H₀:=H
 env:=compEnvC scope (cg X.env.cells scope.names []) C X.env
 outer:=X.stack
 stack:=X.stack
 ex:=fp
 fn:=fun _=>false
 calm:=X.calm
 pn:=[]
 xe:=fun _ _=>False
section
variable {X:Cx}{af:List (Addr×Obj)}{σ:L2.St}{H:Hp}{s:Shared}{scope:Scope}{xs:List Str}{R:List Str}{fp:List Addr}{C:Addr}
theorem bg.cells (S:bg scope X.env.kindOf xs R X.N)(I:L2.Inv X af σ H s):∀p∈scope.names,p.2=.free→∃c,X.env.cells.lookup p.1=some c:=fun p hp e=>I.ok.has p.1 (S.free p hp e)
theorem bf (S:bg scope X.env.kindOf xs R X.N)(I:L2.Inv X af σ H s){y:Str}{c:Addr}(h:(cg X.env.cells scope.names []).lookup y=some c):X.env.cells.lookup y=some c:=
 jC scope.names [] (fun _ z=>by cases z) (S.cells I) (y,c) (PySem.mem_of_lookup h)
theorem l6 {h4:Heap}{m:Str→Option Value}{tk:Nat}(S:bg scope X.env.kindOf xs R X.N)(I:L2.Inv X af σ H s)(hC:s.heap.objs.size≤C)(k:∀b o,s.heap.get? b=some o→h4.get? b=some o)(hn:h4.Ns C m)
  (hf:∀b∈fp,fD X af H b) (hfl:∀b∈fp,b<s.heap.objs.size):L2.Inv (ah X scope xs R fp s H C) [] (List.replicate xs.length none++σ) H {s with heap:=h4,toks:=tk}:=by
 have hkn:∀y kk,(relabel scope X.env).names.lookup y=some kk→(kk=.cell∨kk=.free)→scope.names.lookup y=some .free:=fun y kk e hk=>by
  rcases dG e with q|q
  ·rcases hk with z|z
   ·subst z;exact absurd rfl (S.nocell _ (PySem.mem_of_lookup q))
   ·subst z;exact q
  ·exact q.2
 have hasc:∀y,scope.names.lookup y=some .free→∃c,(cg X.env.cells scope.names []).lookup y=some c:=fun y e=>by
  obtain⟨c,hc⟩:=jz (cells:=X.env.cells) scope.names [] y (PySem.mem_of_lookup e);exact gK hc
 refine⟨⟨I.ok.mod,S.kind,I.ok.glob,I.ok.blt,hC,fun y z c h1 h2=>I.ok.inj y z c (bf S I h1) (bf S I h2),fun y hy=>?_,fun y c z=>absurd (show false=true from z) Bool.false_ne_true,I.ok.hd,I.ok.frames,.inl rfl,fun b hb=>⟨?_,fun y c e=>?_⟩,I.bs,Nat.le_trans I.ok.bsz I.sz,fun b o e hb=>?_,fun b hb z=>?_,I.stack,I.stkFree⟩,
  rfl,I.bare,Un.kept k,⟨m,hn,fun i y v h1 h2 h3=>?_⟩,fun y c e=>?_,I.hok.fresh hC,fun y c e=>I.freeC y c (bf S I e),fun p hp=>absurd (show p∈([]:List (Addr×Obj)) from hp) (by simp),I.hok.kept k,?_⟩
 ·rcases hy with e|e
  ·exact hasc y (hkn y _ e (.inl rfl))
  ·exact hasc y (hkn y _ e (.inr rfl))
 ·exact Nat.ne_of_lt (Nat.lt_of_lt_of_le (hfl b hb) hC)
 ·exact(hf b hb).2.2.2.2.1 y c (bf S I e)
 ·rcases(hf b hb).2.2.2.1 with z|z
  ·exact I.ok.noex b o e z
  ·exact absurd (Nat.lt_of_lt_of_le (Heap.lt_size e) (Nat.le_trans I.ok.bsz z)) (Nat.lt_irrefl _)
 ·rcases mem_cons.mp (I.stkSub b z) with e|e
  ·exact(hf b hb).2.1 e
  ·exact(hf b hb).2.2.1 e
 ·by_cases hi:i<xs.length
  ·exfalso;rw[getElem?_append_left (by rw[length_replicate];exact hi),getElem?_replicate,if_pos hi] at h2;cases h2
  ·obtain⟨i,rfl⟩:∃j,i=xs.length+j:=⟨i-xs.length,by omega⟩;have h1:R[i]?=some y:=by
    have h1:(xs++R)[xs.length+i]?=some y:=h1;rw[getElem?_append_right (by omega)] at h1;simpa using h1
   have h2:σ[i]?=some (some v):=by
    rw[getElem?_append_right (by rw[length_replicate];omega)] at h2;simpa using h2
   have hyR:y∈R:=mem_of_getElem? h1;have hf':scope.names.lookup y=some .free∧((relabel scope X.env).names.lookup y=some .cell∨(relabel scope X.env).names.lookup y=some .free):=by
    have h3:(relabel scope X.env).names.lookup y=some .local∨(relabel scope X.env).names.lookup y=some .cell∨(relabel scope X.env).names.lookup y=some .free:=h3;rcases h3 with e|e|e
    ·rcases dG e with q|q
     ·exfalso;rcases S.locs _ (PySem.mem_of_lookup q) rfl with z|z
      ·exact(nodup_append.mp S.nd).2.2 y z y hyR rfl
      ·have z:y=(".0":Str):=z;rw[z] at hyR;exact S.no0 hyR
     ·exact absurd q.1 (by intro z;cases z)
    ·exact⟨hkn y _ e (.inl rfl),.inl e⟩
    ·exact⟨hkn y _ e (.inr rfl),.inr e⟩
   have hN:=S.same i y h1 hf'.1;have hk:=S.free (y,.free) (PySem.mem_of_lookup hf'.1) rfl;obtain⟨mX,hnX,hl⟩:=I.loc;have vis:Aa X.env.scope y:=by
    rcases hk with z|z
    ·exact .inr (.inl z)
    ·exact .inr (.inr z)
   obtain⟨u,r,l⟩:=hl i y v hN h2 vis;refine⟨u,r,.inr ⟨hf'.2,?_⟩⟩;rcases l with⟨z,_⟩|⟨_,c,hc,o,ho,hod⟩
   ·exfalso;rcases hk with q|q
    ·have q:X.env.kindOf y=some .cell:=q;rw[z] at q;cases q
    ·have q:X.env.kindOf y=some .free:=q;rw[z] at q;cases q
   ·obtain⟨c',hc'⟩:=hasc y hf'.1;have:c'=c:=by
     have:=bf S I hc';rw[hc] at this;exact(Option.some.inj this).symm
    subst this;exact⟨c',hc',o,k _ _ ho,hod⟩
 ·obtain⟨v,o,ho,hd⟩:=I.cell y c (bf S I e);exact⟨v,o,k _ _ ho,hd⟩
 ·show(List.replicate xs.length none++σ).length=(xs++R).length;rw[length_append,length_append,length_replicate,I.len,S.len]
end
def cG (t:iu)(gc:GT)(ge:GE):List D→a9→am→aF (List D)
 | [],ρ,M=>if t.ok M then .ok [] M else .bad
 | d::r,ρ,M=>if t.ok M then
   match gc (some d::ρ) M with
   | .ok true M1=>match ge (some d::ρ) M1 with
    | .ok e M2=>(cG t gc ge r ρ M2).bind fun es M3=>.ok (e::es) M3
    | _=>.bad
   | .ok false M1=>cG t gc ge r ρ M1
   | _=>.bad
  else .bad
def cz:GT:=fun _ M=>.ok true M
def aJ (t:iu)(n:Nat)(sg:GG)(gc:GT)(ge:GE):List D→a9→am→aF (List D)
 | [],ρ,M=>if t.ok M then .ok [] M else .bad
 | d::r,ρ,M=>if t.ok M then
   match sg d (List.replicate n none++ρ) with
   | none=>.bad
   | some ρ1=>match gc ρ1 M with
    | .ok true M1=>match ge ρ1 M1 with
     | .ok e M2=>(aJ t n sg gc ge r ρ M2).bind fun es M3=>.ok (e::es) M3
     | _=>.bad
    | .ok false M1=>aJ t n sg gc ge r ρ M1
    | _=>.bad
  else .bad
def cU (gi:GI)(n:Nat)(sg:GG)(gc:GT)(ge:GE)(mk:List D→am→aF D):GE:=fun ρ M=>(gi ρ M).bind fun t M1=>(aJ t n sg gc ge t.ds ρ M1).bind mk
theorem ma (t:iu)(gc:GT)(ge:GE):∀(ds:List D) (ρ:a9) (M:am),cG t gc ge ds ρ M=aJ t 1 (bL 0) gc ge ds ρ M
 | [],ρ,M=>rfl
 | d::r,ρ,M=>by
  have ih:=ma t gc ge r;unfold cG aJ;show _=(if t.ok M=true then(match gc (some d::ρ) M with
    | .ok true M1=>match ge (some d::ρ) M1 with
     | .ok e M2=>(aJ t 1 (bL 0) gc ge r ρ M2).bind fun es M3=>.ok (e::es) M3
     | _=>.bad
    | .ok false M1=>aJ t 1 (bL 0) gc ge r ρ M1
    | _=>.bad) else .bad)
  simp only[ih]
def iQ (n:Nat)(sg:GG):Prop:=∀d ρ ρ',sg d ρ=some ρ'→ρ'.length=ρ.length∧∀i:Nat,n≤i→ρ'[i]?=ρ[i]?
theorem oi {n i:Nat}(h:i<n):iQ n (bL i):=fun d ρ ρ' e=>by
 have e:some (ρ.set i (some d))=some ρ':=e;cases e;exact⟨by rw[length_set],fun j hj=>by rw[getElem?_set_ne (by omega)]⟩
theorem mL {n:Nat}:∀{is:List Nat} {ds:List D} {ρ ρ':a9},is.all (fun i=>decide (i<n))=true→ij is ds ρ=some ρ'→ρ'.length=ρ.length∧∀i:Nat,n≤i→ρ'[i]?=ρ[i]?
 | [],[],ρ,ρ',_,e=>by cases e;exact⟨rfl,fun _ _=>rfl⟩
 | [],_::_,_,_,_,e=>by cases e
 | _::_,[],_,_,_,e=>by cases e
 | i::is,d::ds,ρ,ρ',h,e=>by
  rw[all_cons,Bool.and_eq_true] at h;have hi:i<n:=by simpa using h.1
  obtain⟨a,b⟩:=mL h.2 (show ij is ds (ρ.set i (some d))=some ρ' from e);exact⟨by rw[a,length_set],fun j hj=>by rw[b j hj,getElem?_set_ne (by omega)]⟩
theorem ug {n:Nat}{is:List Nat}(h:is.all (fun i=>decide (i<n))=true):iQ n (cp is):=fun d ρ ρ' e=>by
 cases d with
 | tup ds=>exact mL h e
 | _=>cases e
theorem iQ.back {n:Nat}{sg:GG}{K:W.Frag}{θ:List Addr}{H:Hp}{τ:L2.St}{ρ ρ1:a9}{d:D}(o:iQ n sg)(e:sg d (List.replicate n none++ρ)=some ρ1)(h:dJ K θ H τ ρ1):dJ K θ H τ (List.replicate n none++ρ):=by
 obtain⟨a,b⟩:=o _ _ _ e;refine⟨by rw[←a];exact h.len,fun i d' q=>?_⟩
 by_cases hi:i<n
 ·rw[getElem?_append_left (by rw[length_replicate];exact hi),getElem?_replicate,if_pos hi] at q;cases q
 ·rw[←b i (by omega)] at q;exact h.at_ i d' q
def bV (gi:GI)(gc:GT)(ge:GE)(mk:List D→am→aF D):GE:=fun ρ M=>(gi ρ M).bind fun t M1=>(cG t gc ge t.ds ρ M1).bind mk
theorem mO (elt target iter:Expr)(ifs:List Expr)(scope:Scope)(pos:Pos)(it acc:Value)(env:Env)(cond:Sem Bool)
  (hc:(forIn (m:=Sem) ifs true fun c r=>if r=true then do let ok ←isTrue c env (eval c env);pure (ForInStep.yield ok) else pure (ForInStep.yield r))=cond) :
  compTurn (.ListComp elt [⟨target,iter,ifs,0⟩] scope pos) 0 it acc env=(standAt iter.pos >>= fun _=>pyNext it >>= fun r=>match r with
   | none=>pure (.done .next)
   | some v=>letOwnedTupleGo target it v >>= fun _=>assign target env v >>= fun _=>cond >>= fun ok=>
    if ok=true then((eval elt env >>= fun x=>call (.builtin "list.append") [acc,x] >>= fun _=>pure ()) >>= fun _=>
     again (.compLoop (.ListComp elt [⟨target,iter,ifs,0⟩] scope pos) 0 it acc env)) else again (.compLoop (.ListComp elt [⟨target,iter,ifs,0⟩] scope pos) 0 it acc env)):=by
 subst hc;rfl
section
variable {prog:Program}{w:World}{A:Around}{R:Result→Shared→Prop}{s:Shared}
theorem fq {elt target iter:Expr}{ifs:List Expr}{scope:Scope}{pos:Pos}{it acc:Value}{env:Env}{cond:Sem Bool}
  (hc:(forIn (m:=Sem) ifs true fun c r=>if r=true then do let ok ←isTrue c env (eval c env);pure (ForInStep.yield ok) else pure (ForInStep.yield r))=cond) (I:Nat→Shared→Prop)
  (turn:∀n s,I n s→wpAny (model prog w) A (pyNext it) (fun r s₁=>match r with
   | none=>R (.ok .next) s₁
   | some v=>wpAny (model prog w) A (letOwnedTupleGo target it v) (fun _ s₂=>wpAny (model prog w) A (assign target env v) (fun _ s₃=>wpAny (model prog w) A cond (fun ok s₄=>if ok=true then
     wpAny (model prog w) A (eval elt env) (fun x s₅=>wpAny (model prog w) A (call (.builtin "list.append") [acc,x]) (fun _ s₆=>∃m,m<n∧I m s₆) (fun _ _=>False) s₅) (fun _ _=>False) s₄
     else∃m,m<n∧I m s₄) (fun _ _=>False) s₃) (fun _ _=>False) s₂) (fun _ _=>False) s₁) (fun _ _=>False) s)
  (n:Nat) (h:I n s):codeAny (model prog w) A (.compLoop (.ListComp elt [⟨target,iter,ifs,0⟩] scope pos) 0 it acc env) R s:=by
 refine codeAny_loop rfl I (fun n s hI=>?_) n h;show wpAny _ _ ((compTurn (.ListComp elt [⟨target,iter,ifs,0⟩] scope pos) 0 it acc env).onRaise (fun x=>do noteFrame x env;theTreesLotGoes x)) _ _ s;refine wpAny_noted ?_;rw[mO _ _ _ _ _ _ _ _ _ _ hc];refine wpAny_bind (wpAny_standAt (wpAny_bind (wpAny_mono (turn n s hI) (fun r s₁ h₁=>?_) fun _ _ z=>z.elim)));cases r with
 | none=>exact wpAny_pure h₁
 | some v=>
  refine wpAny_bind (wpAny_mono h₁ (fun _ s₂ h₂=>?_) fun _ _ z=>z.elim);refine wpAny_bind (wpAny_mono h₂ (fun _ s₃ h₃=>?_) fun _ _ z=>z.elim);refine wpAny_bind (wpAny_mono h₃ (fun ok s₄ h₄=>?_) fun _ _ z=>z.elim);cases ok with
  | true=>
   rw[if_pos rfl] at h₄;rw[if_pos rfl];exact wpAny_bind (wpAny_bind (wpAny_mono h₄ (fun x s₅ h₅=>wpAny_bind (wpAny_mono h₅ (fun _ s₆ h₆=>wpAny_pure (wpAny_pure ⟨rfl,h₆⟩)) fun _ _ z=>z.elim)) fun _ _ z=>z.elim))
  | false=>
   rw[if_neg Bool.false_ne_true] at h₄;rw[if_neg Bool.false_ne_true];exact wpAny_pure ⟨rfl,h₄⟩
theorem nu {env:Env}:(forIn (m:=Sem) ([]:List Expr) true fun c r=>if r=true then do let ok ←isTrue c env (eval c env);pure (ForInStep.yield ok) else pure (ForInStep.yield r))=pure true:=rfl
theorem oW {env:Env}{c:Expr}:(forIn (m:=Sem) [c] true fun c r=>if r=true then do let ok ←isTrue c env (eval c env);pure (ForInStep.yield ok) else pure (ForInStep.yield r))=isTrue c env (eval c env):=by
 rw[forIn_cons];simp
end
theorem oG {b a c:Nat}(h:b<a)(e:c=a+1):b≠c:=by omega
theorem lH {b a c:Nat}(h:b<c)(e:c=a):a≠b:=by omega
theorem fK {b a c:Nat}(h:b<c)(e:c=a):b≠a:=by omega
abbrev aC (its:List Value)(n:Nat):Obj:={cls:=.type "list",data:=.seq its.toArray n}
section
variable {X:Cx}{af:List (Addr×Obj)}{σ:L2.St}{s:Shared}{scope:Scope}{xs:List Str}{tg:Expr}{sg:GG}{R:List Str}{elt iter:Expr}{ifs:List Expr}{pos:Pos}{E:Value→Shared→Prop}
theorem oh {K:W.Frag}{θ:List Addr}{H:Hp}{σ:L2.St}{ρ:a9}{n:Nat}(h:dJ K θ H σ ρ):dJ K θ H (List.replicate n none++σ) (List.replicate n none++ρ):=by
 refine⟨by rw[length_append,length_append,length_replicate,length_replicate,h.len],fun i d e=>?_⟩
 by_cases hi:i<n
 ·rw[getElem?_append_left (by rw[length_replicate];exact hi),getElem?_replicate,if_pos hi] at e;cases e
 ·rw[getElem?_append_right (by rw[length_replicate];omega),length_replicate] at e ⊢;exact h.at_ _ d e
inductive Dg (X0:Cx) (fp:List Addr) (tn:Nat→Heap→Prop) (K:W.Frag) (acc:Addr) (t:iu) (ρ0:a9) (θ1:List Addr) (H2:Hp) (es:List D) (go:List D→am→aF (List D)) (Mend:am) (n:Nat) (s':Shared):Prop
 | mk (i:Nat) (τ:L2.St) (H':Hp) (θ':List Addr) (M':am) (ds rest:List D) (vs:List V) (its:List Value) (na:Nat) (e1:n=t.ds.length-i) (e2:i≤t.ds.length)
   (e3:L2.Inv X0 [(acc,aC its na)] τ H' s') (e4:dJ K θ' H' τ ρ0) (e5:tn i s'.heap) (e6:∀b∈fp,H' b=none) (e7:Go K θ1 H2 θ' H' M') (e8:aH K θ' H' ds vs) (e9:aD vs its) (e10:go (t.ds.drop i) M'=.ok rest Mend) (e11:ds++rest=es)
theorem nq {fp:List Addr}{it:Addr}{tn:Nat→Heap→Prop}{J:It}{H2:Hp}{s2:Shared}{t:iu}{M1:am}{θ1:List Addr}{ρ:a9}{gc:GT}{ge:GE}{es:List D}{Mend:am}{RR:Value→Addr→Result→Shared→Prop}
  (S:bg scope X.env.kindOf xs R X.N) (hc:X.calm=true) (I2:L2.Inv X af σ H2 s2) (T:mB X.prog X.w X.K tg J fp it tn) (st2:tn 0 s2.heap) (f2:∀b∈fp,fD X af H2 b)
  (hw1:Wr X.K θ1 H2 M1) (hd1:dJ X.K θ1 H2 σ ρ) (hJ:qw X.K J θ1 H2 t) (hgo:aJ t xs.length sg gc ge t.ds ρ M1=.ok es Mend) (hlen:es.length≤sizeLine)
  (hcd:∀C,∃cond,(forIn (m:=Sem) ifs true fun c r=>if r=true then do let ok ←isTrue c (ah X scope xs R fp s2 H2 C).env (eval c (ah X scope xs R fp s2 H2 C).env);pure (ForInStep.yield ok) else pure (ForInStep.yield r))=cond∧
   ∀(af:List (Addr×Obj)) (s:Shared) (σ:L2.St) (H:Hp) (Q:Bool→Hp→Prop),L2.Inv (ah X scope xs R fp s2 H2 C) af σ H s→tT (ah X scope xs R fp s2 H2 C) gc σ H Q→wpAny (model X.prog X.w) X.A cond (TP (ah X scope xs R fp s2 H2 C) af σ Q) (fun _ _=>False) s)
  (own:iQ xs.length sg) (hg:∀C,PG (ah X scope xs R fp s2 H2 C) tg (tG (ah X scope xs R fp s2 H2 C) sg))
  (he:∀C,PE (ah X scope xs R fp s2 H2 C) elt (tE (ah X scope xs R fp s2 H2 C) ge))
  (fin:∀(acc C:Addr) (s':Shared) (H':Hp) (θ':List Addr) (vs:List V) (m:Str→Option Value),L2.Inv X af σ (bX H' acc (.lst vs)) s'→s'.heap.Ns C m→fD X af (bX H' acc (.lst vs)) C→Go X.K θ1 H2 θ' H' Mend→H' acc=none→aH X.K θ' H' es vs→RR (.ref acc) C (.ok .next) s') :
  wpAny (model X.prog X.w) X.A (newList []) (fun acc s₃=>wpAny (model X.prog X.w) X.A (newFunctionEnv scope X.env.globals (cg X.env.cells scope.names []) [] X.env.qual none .none (some X.env)) (fun cenv s₄=>
   codeAny (model X.prog X.w) X.A (.compStart (.ListComp elt [⟨tg,iter,ifs,0⟩] scope pos) 0 (.ref it) acc {cenv with scope:=relabel scope X.env}) (RR acc cenv.locals) s₄) E s₃) E s2:=by
 refine wpAny_newObj_type (wpAny_newFunctionEnv S.nocell (by intro y hy;simp at hy) (fun h₁ hns₁ hsb₁=>?_) S.kind);dsimp only at hns₁ hsb₁ ⊢;generalize hHp:s2.heap.push {cls:=.type "list",dict:=none,data:=.seq ([]:List Value).toArray}=Hp2 at hns₁ hsb₁ ⊢;have hCe:Hp2.objs.size=s2.heap.objs.size+1:=by rw[←hHp,Heap.size_push]
 generalize hCd:Hp2.objs.size=C at hns₁ hsb₁ hCe ⊢;generalize hAd:s2.heap.objs.size=acc at hCe ⊢;have hDC:acc≠C:=by rw[hCe];exact Nat.ne_of_lt (Nat.lt_succ_self _)
 have old:∀b o,s2.heap.get? b=some o→h₁.get? b=some o:=fun b o e=>by
  have hb:b<acc:=by rw[←hAd];exact Heap.lt_size e
  refine hsb₁.extBut b o (oG hb hCe) (Heap.get?_push_of_some _ ?_);rw[←hHp];exact Heap.get?_push_of_some _ e
 have hacc0:h₁.get? acc=some (aC [] 0):=by
  refine hsb₁.extBut acc _ hDC (Heap.get?_push_of_some _ ?_);rw[←hHp,←hAd];exact Heap.get?_push_size _ rfl
 have hfl:∀b∈fp,b<s2.heap.objs.size:=fun b hb=>by
  obtain⟨o,e,_⟩:=T.obj 0 _ st2 b hb;exact Heap.lt_size e
 have hCs:s2.heap.objs.size≤C:=by omega
 have IY0:L2.Inv (ah X scope xs R fp s2 H2 C) [] (List.replicate xs.length none++σ) H2 {s2 with heap:=h₁,toks:=s2.toks+([]:List (Str×Value)).length}:=l6 S I2 hCs old hns₁ f2 hfl;obtain⟨cond,hcond,hct⟩:=hcd C;have fpY:∀{H':Hp} {p:Obj},(∀b∈fp,H' b=none)→∀b∈fp,fD (ah X scope xs R fp s2 H2 C) [(acc,p)] H' b:=fun {H' p} hn b hb=>by
  refine⟨hn b hb,?_,fun z=>?_,.inl hb,fun y c e=>?_,fun q hq=>?_⟩
  ·exact Nat.ne_of_lt (Nat.lt_of_lt_of_le (hfl b hb) hCs)
  ·rcases mem_cons.mp (I2.stkSub b z) with e|e
   ·exact(f2 b hb).2.1 e
   ·exact(f2 b hb).2.2.1 e
  ·exact(f2 b hb).2.2.2.2.1 y c (bf S I2 e)
  ·have hq:q∈([]:List (Addr×Obj))++[(acc,p)]:=hq;have e:q=(acc,p):=by simpa using hq
   rw[e];exact lH (hfl b hb) hAd
 have accF:∀b∈i5 X.stack,acc≠b:=fun b hb e=>by
  have:acc∉X.env.locals::X.fs:=by
   intro z;rcases mem_cons.mp z with z|z
   ·exact lH I2.lt hAd z
   ·exact I2.nofs (Nat.le_of_eq hAd) z
  exact this (e▸I2.stkSub b hb)
 have loop:∀s₃:Shared,s₃={s2 with heap:=h₁,toks:=s2.toks+([]:List (Str×Value)).length}→
   codeAny (model X.prog X.w) X.A (.compLoop (.ListComp elt [⟨tg,iter,ifs,0⟩] scope pos) 0 (.ref it) (.ref acc) (ah X scope xs R fp s2 H2 C).env) (RR (.ref acc) C) s₃:=by
  rintro s₃ rfl;have pin0:∀{σ':L2.St} {H':Hp} {s':Shared} {its:List Value} {n:Nat},L2.Inv (ah X scope xs R fp s2 H2 C) [] σ' H' s'→s'.heap.get? acc=some (aC its n)→H' acc=none→L2.Inv (ah X scope xs R fp s2 H2 C) [(acc,aC its n)] σ' H' s':=fun {σ' H' s' its n} I' e hn=>
   I'.pins_of fun p hp=>by
    have ep:p=(acc,aC its n):=by simpa using hp
    subst ep;exact⟨e,hn,hDC,fun z=>accF acc z rfl,fun v z=>by cases z⟩
  refine fq hcond (Dg (ah X scope xs R fp s2 H2 C) fp tn X.K acc t (List.replicate xs.length none++ρ) θ1 H2 es (fun l N=>aJ t xs.length sg gc ge l ρ N) Mend) ?_ t.ds.length
   ⟨0,_,H2,θ1,M1,[],es,[],[],0,rfl,Nat.zero_le _,pin0 IY0 hacc0 (I2.hok.fresh (Nat.le_of_eq hAd)),oh hd1,T.keep 0 _ _ st2 (fun b hb o e=>old b o e),fun b hb=>(f2 b hb).1,.refl hw1,rfl,.nil,hgo,rfl⟩
  rintro n s' ⟨i,τ,H',θ',M',ds,rest,vs,its,na,rfl,hil,I',dn',st',fr',g',rd',rv',hrest,hes⟩;have hok:t.ok M'=true:=by
   cases hq:t.ok M' with
   | true=>rfl
   | false=>
    exfalso;cases hdr:t.ds.drop i with
    | nil=>rw[hdr,aJ,if_neg (by rw[hq];exact Bool.false_ne_true)] at hrest;cases hrest
    | cons d r=>rw[hdr,aJ,if_neg (by rw[hq];exact Bool.false_ne_true)] at hrest;cases hrest
  obtain⟨hy,hst⟩:=hJ θ' H' M' g' hok i
  by_cases hlt:i<t.ds.length
  ·have e1:t.ds[i]?=some t.ds[i]:=getElem?_eq_getElem hlt;obtain⟨hgo',hyl⟩:=hy _ e1;rw[drop_eq_getElem_cons hlt,aJ,if_pos hok] at hrest;refine bA (T.item (ah X scope xs R fp s2 H2 C) rfl rfl rfl hc i _ s' _ H' _ I' (fpY fr') st' hgo') fun r s4 hxx=>?_
   obtain⟨u,hr,h4⟩:=hxx;subst hr;refine bA h4 fun _ s5 hxx=>?_
   obtain⟨v,H5,I5,r5,y5,st5,fr5⟩:=hxx;obtain⟨gy,rx⟩:=hyl v H5 y5;have I5':=I5.pinned (fpY fr5) (T.obj _ _ st5);cases qs:sg t.ds[i] (List.replicate xs.length none++ρ) with
   | none=>rw[qs] at hrest;cases hrest
   | some ρ1=>
   rw[qs] at hrest;dsimp only at hrest;refine bA (hg C _ s5 _ H5 v u (fun σ6 H6=>dJ X.K θ' H6 σ6 ρ1∧H6=H5) I5' r5 ⟨_,θ',M',t.ds[i],dn'.go gy,gy.wr,rx,ρ1,qs,fun σ6 d6=>⟨d6,rfl⟩⟩) fun _ s6 hxx=>?_
   obtain⟨σ6,H6,I6,hdY,eH6⟩:=hxx;subst eH6;cases qc:gc ρ1 M' with
   | bad=>rw[qc] at hrest;cases hrest
   | err c Mx=>rw[qc] at hrest;cases hrest
   | ok b Mb=>
    refine bA (hct _ s6 _ H6 (fun b' H7=>b'=b∧∃θ7,Go X.K θ' H6 θ7 H7 Mb) I6 ⟨_,θ',M',hdY,gy.wr,?_⟩) fun ok s7 ⟨H7,I7,eb,θ7,g7⟩=>?_
    ·rw[qc];exact fun θ7 H7 g7=>⟨rfl,θ7,g7⟩
    subst eb;have fpk:∀{s8:Shared} {σ8:L2.St} {H8:Hp},L2.Inv (ah X scope xs R fp s2 H2 C) ([(acc,aC its na)]++dW fp s5.heap) σ8 H8 s8→(∀b∈fp,H8 b=none)∧(∀b∈fp,∀o,s5.heap.get? b=some o→s8.heap.get? b=some o)∧s8.heap.get? acc=some (aC its na)∧H8 acc=none:=fun {s8 σ8 H8} I8=>by
     have pa:=I8.pin (acc,aC its na) (mem_append_right _ (mem_append_left _ (by simp)));refine⟨fun b hb=>?_,fun b hb o e=>(I8.pin (b,o) (mem_append_right _ (mem_append_right _ (bv hb e)))).1,pa.1,pa.2.1⟩;obtain⟨o,e,d⟩:=T.obj _ _ st5 b hb;exact(I8.pin (b,o) (mem_append_right _ (mem_append_right _ (bv hb e)))).2.1
    cases ok with
    | false=>
     rw[if_neg Bool.false_ne_true];rw[qc] at hrest;obtain⟨k1,k2,k3,k4⟩:=fpk I7;exact⟨t.ds.length-(i+1),by omega,i+1,σ6,H7,θ7,Mb,ds,rest,vs,its,na,rfl,hlt,I7.unpinned,own.back qs (hdY.go g7),T.keep _ _ _ st5 k2,k1,g'.trans (gy.trans g7),rd'.go (gy.trans g7),rv',hrest,hes⟩
    | true=>
     rw[if_pos rfl];rw[qc] at hrest;have hrest:(match ge ρ1 Mb with
      | .ok e M2=>(aJ t xs.length sg gc ge (t.ds.drop (i+1)) ρ M2).bind fun es M3=>.ok (e::es) M3
      | _=>.bad)=aF.ok rest Mend:=hrest
     cases qe:ge ρ1 Mb with
     | bad=>rw[qe] at hrest;cases hrest
     | err c Mx=>rw[qe] at hrest;cases hrest
     | ok dv Mv=>
      rw[qe] at hrest;have hrest:((aJ t xs.length sg gc ge (t.ds.drop (i+1)) ρ Mv).bind fun es M3=>aF.ok (dv::es) M3)=aF.ok rest Mend:=hrest;refine bA (he C _ s7 _ H7 (fun w H8=>∃θ8,Go X.K θ7 H7 θ8 H8 Mv∧cD X.K θ8 H8 dv w) I7 ⟨_,θ7,Mb,hdY.go g7,g7.wr,?_⟩) fun uv s8 ⟨w,H8,I8,rw8,θ8,g8,rd8⟩=>?_
      ·rw[qe];exact fun w θ8 H8 g8 rd8=>⟨θ8,g8,rd8⟩
      obtain⟨k1,k2,k3,k4⟩:=fpk I8;cases qr:aJ t xs.length sg gc ge (t.ds.drop (i+1)) ρ Mv with
      | bad=>rw[qr] at hrest;cases hrest
      | err c Mx=>rw[qr] at hrest;cases hrest
      | ok rest' Mr=>
       rw[qr] at hrest;have hrest:aF.ok (dv::rest') Mr=aF.ok rest Mend:=hrest;cases hrest;have hsz:its.length<sizeLine:=by
        have e2:(ds++dv::rest').length≤sizeLine:=by rw[hes];exact hlen
        rw[length_append,length_cons,al rd',rv'.length] at e2;omega
       refine call_meets F.slot_list_append ⟨_,k3,rfl⟩ F.entry_list_append (F.args_list_append_2 _ _) (PySem.list_append acc its.toArray na uv (by rw[size_toArray];omega)) ⟨k3,?_⟩;have qup:=PySem.IsL.update k3 (fun a=>a.push uv);have eup:(its.toArray.push uv)=(its++[uv]).toArray:=by simp
       have keepb:∀b o,b≠acc→s8.heap.get? b=some o→(s8.heap.update acc (Obj.mapSeq fun a=>a.push uv)).get? b=some o:=fun b o hb e=>(Heap.get?_update_other s8.heap _ (Ne.symm hb)).trans e
       have I9:L2.Inv (ah X scope xs R fp s2 H2 C) [] σ6 H8 {s8 with heap:=s8.heap.update acc (Obj.mapSeq fun a=>a.push uv),toks:=s8.toks}:=by
        refine Inv.turned (it:=acc) (I8.pins_of (pins':=[]) fun p hp=>absurd hp (by simp)) keepb k4 hDC (.inr (Nat.le_of_eq hAd)) (fun y c e z=>?_) fun p hp=>absurd (show p∈([]:List (Addr×Obj)) from hp) (by simp)
        obtain⟨v',o,ho,hdd⟩:=I2.cell y c (bf S I2 e);exact fK (Heap.lt_size ho) hAd z
       obtain⟨n',eq'⟩:∃n',(s8.heap.update acc (Obj.mapSeq fun a=>a.push uv)).get? acc=some (aC (its++[uv]) n'):=by
        have q2:=qup;rw[eup] at q2;exact⟨_,q2⟩
       exact⟨t.ds.length-(i+1),by omega,i+1,σ6,H8,θ8,Mv,ds++[dv],rest',vs++[w],its++[uv],n',rfl,hlt,pin0 I9 eq' k4,own.back qs (hdY.go (g7.trans g8)),T.keep _ _ _ st5 (fun b hb o e=>keepb b o (fK (hfl b hb) hAd) (k2 b hb o e)),k1,g'.trans (gy.trans (g7.trans g8)),bZ (rd'.go (gy.trans (g7.trans g8))) ⟨w,[],rfl,rd8,rfl⟩,rv'.append (.cons rw8 .nil),qr,by rw[←hes];simp⟩
  ·have e:i=t.ds.length:=by omega
   subst e;rw[drop_length,aJ,if_pos hok] at hrest;cases hrest;have hes:ds=es:=by rw[←hes];simp
   subst hes;refine bA (T.done (ah X scope xs R fp s2 H2 C) rfl rfl rfl hc _ _ s' _ H' _ I' (fpY fr') st' (hst (Nat.le_refl _))) fun r s4 hxx=>?_
   obtain⟨hr,I4⟩:=hxx;subst hr;have pa:=I4.pin (acc,aC its na) (mem_append_right _ (by simp));have e4:s4.heap.get? acc=some (aC its na):=pa.1;have n4:H' acc=none:=pa.2.1;have lv:vs.length≤sizeLine:=by rw[←al rd'];exact hlen
   obtain⟨mC,hnC,_⟩:=I4.loc;have hHC:H' C=none:=I4.free;have lN:Un (i5 X.stack) fp H2 H' s2.heap s4.heap:=I4.base;have neA:∀{b:Addr} {o:Obj},s2.heap.get? b=some o→b≠acc:=fun {b o} e=>fK (Heap.lt_size e) hAd
   have neH:∀{b:Addr} {u:HO},H' b=some u→b≠acc:=fun {b u} e z=>by rw[z,n4] at e;cases e
   have un4:Un (i5 X.stack) fp H2 (bX H' acc (.lst vs)) s2.heap s4.heap:=by
    refine⟨lN.keep,lN.slot,fun b o e n hx=>?_,lN.there,fun b xs e=>?_,fun b o u e=>?_,fun b ps e=>?_⟩
    ·rw[aq (neA e)];exact lN.free b o e n hx
    ·have z:=lN.tups b xs e;rw[aq (neH z)];exact z
    ·have z:=lN.frzs b o u e;rw[aq (neH z)];exact z
    ·obtain⟨more,z⟩:=lN.tbls b ps e;exact⟨more,by rw[aq (neH z)];exact z⟩
   have hok4:fZ X.prog X.w (bX H' acc (.lst vs)) s4.heap:=fun b u e=>by
    by_cases hb:b=acc
    ·subst hb;rw[cj] at e;cases e;exact⟨lv,its,na,rv',e4⟩
    ·rw[aq hb] at e;exact(I4.hok b u e).stay (fun c v _ q=>q) (fun c q=>by rw[aq (neH q)];exact q) fun c xs q=>by rw[aq (neH q)];exact q
   have IX:L2.Inv X af σ (bX H' acc (.lst vs)) s4:=I2.call' (ch:=fp) I4.os un4 hok4 I4.bare fun b hb=>⟨(f2 b hb).2.2.2.1,(f2 b hb).2.1,(f2 b hb).2.2.2.2.1,(f2 b hb).2.2.2.2.2⟩
   refine fin acc C s4 H' θ' vs mC IX hnC (I2.fpOk hCs ?_) g' n4 rd';rw[aq (Ne.symm hDC)];exact hHC
 exact codeAny_compStart_list (loop _ rfl) (T.self _ 0 _ _ _ (T.keep 0 _ _ st2 fun b hb o e=>old b o e) (loop _ rfl))
end
section
variable {X:Cx}{scope:Scope}{xs:List Str}{tg:Expr}{sg:GG}{x:Str}{px:Pos}{R:List Str}{elt iter:Expr}{ifs:List Expr}{pos:Pos}{gi:GI}{gc:GT}{ge:GE}
def zq (mk:List D→am→aF D):Prop:=∀(X:Cx) (θ:List Addr) (H:Hp) (Q:VK) (ds:List D) (M:am) (vs:List V),aE X θ H Q (mk ds M)→Wr X.K θ H M→aH X.K θ H ds vs→vs.length≤sizeLine∧∀p,H p=none→Q (.ref p) (bX H p (.lst vs))
theorem rT:zq aQ:=fun X θ H Q ds M vs h hw r=>aE.lst h hw r
theorem sP:zq cO:=fun X θ H Q ds M vs h hw r=>aE.mut h hw r
theorem tw {mk:List D→am→aF D}(hm:mk=aQ∨mk=cO){X:Cx}{θ:List Addr}{H:Hp}{Q:VK}{ds:List D}{M:am}(h:aE X θ H Q (mk ds M)):ds.length≤sizeLine:=by
 rcases hm with e|e <;> subst e
 ·unfold aQ at h;split at h
  ·assumption
  ·exact h.elim
 ·unfold cO at h;split at h
  ·assumption
  ·exact h.elim
theorem wC {mk:List D→am→aF D}(hm:mk=aQ∨mk=cO):zq mk:=by
 rcases hm with e|e <;> subst e
 ·exact rT
 ·exact sP
def eD (X:Cx)(scope:Scope)(xs:List Str)(R:List Str)(ifs:List Expr)(gc:GT):Prop:=∀fp s2 H2 C,∃cond,(forIn (m:=Sem) ifs true fun c r=>if r=true then do let ok ←isTrue c (ah X scope xs R fp s2 H2 C).env (eval c (ah X scope xs R fp s2 H2 C).env);pure (ForInStep.yield ok) else pure (ForInStep.yield r))=cond∧
   ∀(af:List (Addr×Obj)) (s:Shared) (σ:L2.St) (H:Hp) (Q:Bool→Hp→Prop),L2.Inv (ah X scope xs R fp s2 H2 C) af σ H s→tT (ah X scope xs R fp s2 H2 C) gc σ H Q→wpAny (model X.prog X.w) X.A cond (TP (ah X scope xs R fp s2 H2 C) af σ Q) (fun _ _=>False) s
theorem rj:eD X scope xs R [] cz:=fun fp s2 H2 C=>⟨_,nu,fun af s σ H Q I ⟨ρ,θ,M,hd,hw,h⟩=>wpAny_pure ⟨H,I,h θ H (.refl hw)⟩⟩
theorem tN {c:Expr}(h:∀fp s2 H2 C,PT (ah X scope xs R fp s2 H2 C) c (tT (ah X scope xs R fp s2 H2 C) gc)):eD X scope xs R [c] gc:=fun fp s2 H2 C=>⟨_,oW,fun af s σ H Q I q=>h fp s2 H2 C af s σ H Q I q⟩
theorem gm {t:iu}{n:Nat}{sg:GG}{gc:GT}{ge:GE}{ρ:a9}{c:Str}{M':am}:∀(ds:List D) (M:am),aJ t n sg gc ge ds ρ M=.err c M'→False
 | [],M,h=>by
  unfold aJ at h;split at h <;> cases h
 | d::r,M,h=>by
  unfold aJ at h;split at h
  ·split at h
   ·cases h
   ·split at h
    ·rename_i M1 q1;split at h
     ·rename_i e M2 q2;cases q:aJ t n sg gc ge r ρ M2 with
      | ok es M3=>rw[q] at h;cases h
      | err c2 M3=>exact gm r M2 q
      | bad=>rw[q] at h;cases h
     ·cases h
    ·rename_i M1 q1;exact gm r M1 h
    ·cases h
  ·cases h
theorem mh {mk:List D→am→aF D}(hS:bU scope X.env.kindOf xs R X.N=true)(hc:X.calm=true)(hm:mk=aQ∨mk=cO)(hi:PI X tg iter (tI X gi))(own:iQ xs.length sg)(hg:∀fp s H C,PG (ah X scope xs R fp s H C) tg (tG (ah X scope xs R fp s H C) sg))(hts:eD X scope xs R ifs gc)
  (he:∀fp s H C,PE (ah X scope xs R fp s H C) elt (tE (ah X scope xs R fp s H C) ge))
  (hs:∀x,foldedSetIterable iter X.env x=pure x:=by intro _;rfl):PE X (.ListComp elt [⟨tg,iter,ifs,0⟩] scope pos) (tE X (cU gi xs.length sg gc ge mk)):=by
 have S:=bg.of hS;intro af s σ H Q I h;obtain⟨ρ,θ,M,hd,hw,h⟩:=h;rw[eval_ListComp];refine wpAny_comprehension_free (use:=none) rfl hs (ie (S.cells I)) S.kind S.lnames ?_;refine bA (hi af s σ H (fun J H2=>∃t M1 θ1,gi ρ M=.ok t M1∧Go X.K θ H θ1 H2 M1∧qw X.K J θ1 H2 t) I ⟨ρ,θ,M,hd,hw,?_⟩) fun v s1 h1=>bA h1 fun itv s2 h2=>?_
 ·cases q:gi ρ M with
  | ok t M1=>exact fun J θ1 H1 g1 hJ=>⟨t,M1,θ1,rfl,g1,hJ⟩
  | err c M1=>unfold cU at h;rw[q] at h;exact h
  | bad=>unfold cU at h;rw[q] at h;exact h
 obtain⟨it,fp,tn,J,H2,rfl,I2,T,st2,f2,t,M1,θ1,eg,g1,hJ⟩:=h2;unfold cU at h;rw[eg] at h;have h:aE X θ H Q ((aJ t xs.length sg gc ge t.ds ρ M1).bind mk):=h;cases q:aJ t xs.length sg gc ge t.ds ρ M1 with
 | bad=>rw[q] at h;exact h.elim
 | err c Mx=>exact(gm _ _ q).elim
 | ok es Mend=>
  rw[q] at h;have h:aE X θ H Q (mk es Mend):=h;refine nq (RR:=fun acc C=>compPost (model X.prog X.w) X.A X.xe none (EP X af σ Q) acc C) S hc I2 T st2 f2 g1.wr (hd.go g1) hJ q (tw hm h) (fun C=>hts fp s2 H2 C) own (fun C=>hg fp s2 H2 C) (fun C=>he fp s2 H2 C) ?_;intro acc C s' H' θ' vs m IX hnC fC g' na rd;refine⟨m,hnC,fun h' sb=>?_⟩;have I3:L2.Inv X af σ (bX H' acc (.lst vs)) {s' with heap:=h',toks:=s'.toks}:=IX.turned (it:=C) (fun b o hb e=>(sb.2 b hb).trans e) fC.1 fC.2.1 fC.2.2.2.1 fC.2.2.2.2.1 fC.2.2.2.2.2;exact⟨.ref acc,_,I3,rfl,(wC hm X θ' H' Q es Mend vs (aE.go (g1.trans g') h) g'.wr rd).2 acc na⟩
theorem v8 {px:Pos}(hS:bU scope X.env.kindOf [x] R X.N=true)(fp:List Addr)(s:Shared)(H:Hp)(C:Addr):PG (ah X scope [x] R fp s H C) (.Name x px) (tG (ah X scope [x] R fp s H C) (bL 0)):=
 have S:=bg.of hS
 lI (X:=ah X scope [x] R fp s H C) S.nd rfl (.inl (lookup_relabel_local (S.own x (by simp)))) (.inr (lookup_relabel_local (S.own x (by simp))))
theorem uA (mk:List D→am→aF D):bV gi gc ge mk=cU gi 1 (bL 0) gc ge mk:=by
 funext ρ M;unfold bV cU;simp only[ma]
theorem vG {mk:List D→am→aF D}(hS:bU scope X.env.kindOf [x] R X.N=true)(hc:X.calm=true)(hm:mk=aQ∨mk=cO)(hi:PI X (.Name x px) iter (tI X gi))(hts:eD X scope [x] R ifs gc)
  (he:∀fp s H C,PE (ah X scope [x] R fp s H C) elt (tE (ah X scope [x] R fp s H C) ge))
  (hs:∀x,foldedSetIterable iter X.env x=pure x:=by intro _;rfl):PE X (.ListComp elt [⟨.Name x px,iter,ifs,0⟩] scope pos) (tE X (bV gi gc ge mk)):=by
 rw[uA];exact mh (xs:=[x]) hS hc hm hi (oi (Nat.zero_lt_one)) (v8 hS) hts he hs
end
section
variable {X:Cx}
def B8:D→Option String
 | .non=>some "NoneType"
 | .bl _=>some "bool"
 | .int _=>some "int"
 | .str _=>some "str"
 | .tup _=>some "tuple"
 | .lst _=>some "list"
 | .ro _=>some "list"
 | _=>none
def vF (d:D)(M:am):Option String:=match d with
 | .mr k=>match M[k]? with
  | some (.lst _)=>some "list"
  | _=>none
 | d=>B8 d
def nw (t T:String):Bool:=t==T||(t=="bool"&&T=="int")
def je (T:String)(g:GE):GE:=fun ρ M=>(g ρ M).bind fun d M1=>match vF d M1 with
 | some t=>.ok (.bl (nw t T)) M1
 | none=>.bad
def hR (T:String):Prop:=T="int"∨T="bool"∨T="str"∨T="tuple"∨T="list"
theorem cB (K:W.Frag){T:String}(hT:hR T):∀t∈["NoneType","bool","int","str","tuple","list"],W.kitOne K (.type t) (.type T)=some (nw t T):=by
 intro t ht;simp only[mem_cons,mem_nil_iff,or_false] at ht;rcases hT with rfl|rfl|rfl|rfl|rfl <;> rcases ht with rfl|rfl|rfl|rfl|rfl|rfl <;> rfl
theorem yA {T:String}(hT:hR T):bY X (.builtin "isinstance") (fun xs H Q=>∃θ M d v,Wr X.K θ H M∧cD X.K θ H d v∧xs=[v,.ty T]∧aE X θ H Q (match vF d M with|some t=>.ok (.bl (nw t T)) M|none=>.bad)):=by
 intro af s σ H xs us Q I r h;obtain⟨θ,M,d,v,hw,rv,e,h⟩:=h;subst e;obtain⟨u,c,rfl,ru,rc⟩:=qQ r;cases rc;have fin:∀t tk,vF d M=some t→EP X af σ Q (.bool (nw t T)) {s with toks:=tk}:=fun t tk e=>by
  rw[e] at h;exact⟨.bl _,H,I.tok _,rfl,h _ θ H (.refl hw) rfl⟩
 cases d with
 | non=>have e:v=.non:=rv;subst e;cases ru;exact W.kia_one W.kitx_none I.kIn True.intro (cB X.K hT "NoneType" (by simp)) (fun z=>nomatch z) fun tk=>fin _ tk rfl
 | bl b=>have e:v=.bl b:=rv;subst e;cases ru;exact W.kia_one W.kitx_bool I.kIn True.intro (cB X.K hT "bool" (by simp)) (fun z=>nomatch z) fun tk=>fin _ tk rfl
 | int i=>have e:v=.int i:=rv;subst e;obtain⟨t,rfl⟩:=ru;exact W.kia_one W.kitx_int I.kIn True.intro (cB X.K hT "int" (by simp)) (fun z=>nomatch z) fun tk=>fin _ tk rfl
 | str i=>have e:v=.str i:=rv;subst e;obtain⟨t,rfl⟩:=ru;exact W.kia_one W.kitx_str I.kIn True.intro (cB X.K hT "str" (by simp)) (fun z=>nomatch z) fun tk=>fin _ tk rfl
 | tup ds=>
  obtain⟨a,vs,e,ta,ra⟩:=rv;subst e;cases ru;obtain⟨its,_,⟨o,h1,h2,_⟩,_⟩:=I.tuple ta.sq;exact W.kia_one W.kitx_tuple I.kIn ⟨o,h1,h2⟩ (cB X.K hT "tuple" (by simp)) (fun z=>nomatch z) fun tk=>fin _ tk rfl
 | lst ds=>
  obtain⟨a,vs,e,ta,ra⟩:=rv;subst e;cases ru;obtain⟨its,_,⟨o,n,h1,h2,_⟩,_⟩:=I.list (ta.sq (K:=X.K));exact W.kia_one W.kitx_list I.kIn ⟨o,h1,h2⟩ (cB X.K hT "list" (by simp)) (fun z=>nomatch z) fun tk=>fin _ tk rfl
 | ro ds=>
  obtain⟨a,vs,e,ta,ra⟩:=rv;subst e;cases ru;obtain⟨its,_,⟨o,n,h1,h2,_⟩,_⟩:=I.list ta.sq;exact W.kia_one W.kitx_list I.kIn ⟨o,h1,h2⟩ (cB X.K hT "list" (by simp)) (fun z=>nomatch z) fun tk=>fin _ tk rfl
 | mr k=>
  obtain⟨a,e,ta⟩:=rv;subst e;cases ru;cases qm:M[k]? with
  | none=>simp only[vF,qm] at h;exact h.elim
  | some m=>
   cases m with
   | lst ys=>
    obtain⟨vs,hv,_⟩:=hw.at_ k a _ ta qm;obtain⟨its,_,⟨o,n,h1,h2,_⟩,_⟩:=I.list (X:=X) (xs:=vs) (.inl (.inl hv));exact W.kia_one W.kitx_list I.kIn ⟨o,h1,h2⟩ (cB X.K hT "list" (by simp)) (fun z=>nomatch z) fun tk=>fin _ tk (by simp only[vF,qm])
   | _=>simp only[vF,qm] at h;exact h.elim
 | exc c=>exact h.elim
 | any=>exact h.elim
theorem xc {T:String}{x:Str}{e:Expr}{p p2 pos:Pos}{g:GE}(hT:hR T)(hv:bootBuiltins x=some (.type T))(hg:Gl X x)(hm:X.mg x=none)(hgi:Gl X "isinstance")(hmi:X.mg "isinstance"=none)(he:PE X e (tE X g))
  (hn:x≠"__name__":=by decide) (hd:(x==("__debug__":Str))=false:=by decide) (hbi:bootBuiltins "isinstance"=some (.builtin "isinstance"):=by kernel_rfl) (hs:starEach [e,.Name x p2] X.env=(false,eval e X.env)::starEach [.Name x p2] X.env:=by rfl)
  (hs2:starEach [.Name x p2] X.env=(false,eval (.Name x p2) X.env)::starEach [] X.env:=by rfl) (hpl:(backTo pos (starEach [.Name x p2] X.env)).any (·.1)=false:=by rfl) :
  PE X (.Call (.Name "isinstance" p) [e,.Name x p2] [] pos) (tE X (je T g)):=
 (mZ (yA hT) hgi hmi hbi (g6 he (g6 (u7 hg hm hv (v:=.ty T) rfl hn hd) lq hs2) hs) (by decide) (by decide) hs hpl).of fun σ H Q hxx=>by
  obtain⟨ρ,θ,M,hd,hw,h⟩:=hxx;refine bx hd hw (aE X θ H Q) (fun c M' h=>h) (fun h=>h) h fun d M1 v θ1 H1 g1 r1 h1=>?_
  exact⟨θ1,M1,d,v,g1.wr,r1,rfl,aE.go g1 h1⟩
end
def ft:D→Bool
 | .non=>true
 | .bl _=>true
 | .int _=>true
 | .str _=>true
 | _=>false
def zF:D→V
 | .non=>.non
 | .bl b=>.bl b
 | .int i=>.int i
 | .str x=>.str x
 | _=>.non
theorem ot {K:W.Frag}{θ:List Addr}{H:Hp}{d:D}{v:V}(r:cD K θ H d v)(f:ft d=true):v=zF d∧gj v=true:=by
 cases d with
 | non=>have e:v=.non:=r;subst e;exact⟨rfl,rfl⟩
 | bl b=>have e:v=.bl b:=r;subst e;exact⟨rfl,rfl⟩
 | int b=>have e:v=.int b:=r;subst e;exact⟨rfl,rfl⟩
 | str b=>have e:v=.str b:=r;subst e;exact⟨rfl,rfl⟩
 | _=>cases f
theorem mJ {K:W.Frag}{θ:List Addr}{H:Hp}:∀{ds:List D} {vs:List V},aH K θ H ds vs→ds.all ft=true→vs=ds.map zF∧vs.all gj=true
 | [],vs,r,f=>by have e:vs=[]:=r;subst e;exact⟨rfl,rfl⟩
 | d::ds,vs,r,f=>by
  obtain⟨v,rr,e,h1,h2⟩:=r;subst e;rw[all_cons,Bool.and_eq_true] at f;obtain⟨e1,f1⟩:=ot h1 f.1;obtain⟨e2,f2⟩:=mJ h2 f.2;exact⟨by rw[map_cons,←e1,←e2],by rw[all_cons,f1,f2];rfl⟩
theorem ve {x y:D}(fx:ft x=true)(fy:ft y=true):uG (zF x) (zF y)=eW x y:=by
 cases x <;> first|exact ff fx|(cases y <;> first|exact ff fy|rfl)
theorem oJ {x:D}:∀{ds:List D},ft x=true→ds.all ft=true→B1 (zF x) (ds.map zF)=ds.any fun y=>eW y x
 | [],fx,fs=>rfl
 | d::ds,fx,fs=>by
  rw[all_cons,Bool.and_eq_true] at fs;have ih:=oJ (x:=x) (ds:=ds) fx fs.2;unfold B1 at ih ⊢;rw[map_cons,any_cons,any_cons,ih,ve fs.1 fx]
def lz (neg:Bool):F2:=fun x y M=>match bu y M with
 | some xs=>if ft x&&xs.all ft then .ok (.bl ((xs.any fun y=>eW y x) != neg)) M else .bad
 | none=>.bad
section
variable {X:Cx}
theorem BO:dO X (compareOp .In) (rD X (lz false)):=by
 intro af s σ H x y v u Q I rx ry h;obtain⟨θ,M,dx,dy,hw,r1,r2,h⟩:=h;unfold lz at h;split at h
 ·rename_i xs q;split at h
  ·rename_i hc;rw[Bool.and_eq_true] at hc;obtain⟨a,vs,ea,sq,ra⟩:=jq hw r2 q;obtain⟨e1,f1⟩:=ot r1 hc.1;obtain⟨e2,f2⟩:=mJ ra hc.2;refine p6 af s σ H x y v u Q I rx ry ⟨a,vs,ea,sq,f1,f2,?_⟩;have:=h _ θ H (.refl hw) rfl;rw[Bool.bne_false] at this;rw[if_neg (by decide),e1,e2,oJ hc.1 hc.2];exact this
  ·exact h.elim
 ·exact h.elim
end
section
variable {X:Cx}
def mf (k:Nat)(x:D)(M:am):aF D:=match M[k]? with
 | some (.lst xs)=>if xs.length<sizeLine then .ok .non (M.set k (.lst (xs++[x]))) else .bad
 | _=>.bad
def ix (go ge:GE):GE:=fun ρ M=>(go ρ M).bind fun o M1=>match o with
 | .mr k=>match M1[k]? with
  | some (.lst _)=>(ge ρ M1).bind (mf k)
  | _=>.bad
 | _=>.bad
theorem pE {o e:Expr}{go ge:GE}{apos cpos:Pos}(ho:PE X o (tE X go))(he:PE X e (tE X ge))
  (hbase:attributeBase o "append" X.env (eval o X.env)=eval o X.env:=by rfl)
  (hfew:((backTo cpos (starEach [e] X.env)).all (fun x=>!x.1)&&(backToKw cpos (keywordEach [] X.env)).all (fun x=>x.1.isSome)
   && decide ([e].length+([]:List Keyword).length+(if([]:List Keyword).isEmpty then 0 else 1)<30))=true:=by rfl)
  (hline:(apos.endLine==cpos.line)=true:=by rfl) (hs:starEach [e] X.env=(false,eval e X.env)::starEach [] X.env:=by rfl) (hplain:(backTo cpos (starEach [] X.env)).any (·.1)=false:=by rfl) :
  PE X (.Call (.Attribute o "append" apos) [e] [] cpos) (tE X (ix go ge)):=
 (wH PySem.F.plainAttrs_list PySem.F.slot_list_append PySem.F.type_list_append pP ho (g6 he lq hs) hbase hfew hline hs hplain).of fun σ H Q hxx=>by
  obtain⟨ρ,θ,M,hd,hw,h⟩:=hxx;refine bx hd hw (aE X θ H Q) (fun c M' h=>h) (fun h=>h) h fun d M1 v θ1 H1 g1 r1 h1=>?_
  have h2:=aE.go g1 h1;cases d with
  | mr k=>
   have h2:aE X θ1 H1 Q (match M1[k]? with|some (.lst _)=>(ge ρ M1).bind (mf k)|_=>.bad):=h2;cases qm1:M1[k]? with
   | none=>rw[qm1] at h2;exact h2.elim
   | some m1=>
    cases m1 with
    | obj _ _=>rw[qm1] at h2;exact h2.elim
    | dK _=>rw[qm1] at h2;exact h2.elim
    | dT _=>rw[qm1] at h2;exact h2.elim
    | lst ys1=>
     rw[qm1] at h2;obtain⟨a1,ea1,ta1⟩:=id r1;obtain⟨vs1,hv1,_⟩:=g1.wr.at_ k a1 _ ta1 qm1;refine⟨by rw[ea1];exact .inl ⟨rfl,vs1,.inl (.inl hv1)⟩,?_⟩;refine bx (hd.go g1) g1.wr (aE X θ1 H1 Q) (fun c M' h=>h) (fun h=>h) h2 fun dx M2 vx θ2 H2 g2 r2 h3=>?_
     have h3:aE X θ1 H1 Q (match M2[k]? with|some (.lst xs)=>if xs.length<sizeLine then .ok .non (M2.set k (.lst (xs++[dx]))) else .bad|_=>.bad):=h3;obtain⟨a,ea,ta⟩:=r1.go g2;cases qm:M2[k]? with
     | none=>rw[qm] at h3;exact h3.elim
     | some m=>
      cases m with
      | obj _ _=>rw[qm] at h3;exact h3.elim
      | dK _=>rw[qm] at h3;exact h3.elim
      | dT _=>rw[qm] at h3;exact h3.elim
      | lst ys=>
       rw[qm] at h3;obtain⟨vs,hv,ra⟩:=g2.wr.at_ k a _ ta qm;have h3:aE X θ1 H1 Q (if ys.length<sizeLine then .ok .non (M2.set k (.lst (ys++[dx]))) else .bad):=h3;split at h3
       ·rename_i hl;have gs:=sR (ds:=ys) g2.wr ta (bZ ra (show aH X.K θ2 H2 [dx] [vx] from⟨vx,[],rfl,r2,rfl⟩));exact⟨a,vs,vx,ea,rfl,hv,by rw[←al ra];exact hl,h3 _ θ2 _ (g2.trans gs) rfl⟩
       ·exact h3.elim
  | _=>exact h2.elim
end
def aS (f:D→Option D):List D→Option (List D)
 | []=>some []
 | d::ds=>match f d,aS f ds with
  | some x,some xs=>some (x::xs)
  | _,_=>none
def frz (n:Nat)(M:am):Nat→D→Option D
 | 0,_=>none
 | f+1,d=>match d with
  | .mr k=>if k<n then some (.mr k) else match M[k]? with
   | some (.lst xs)=>(aS (frz n M f) xs).map .lst
   | _=>none
  | .tup xs=>(aS (frz n M f) xs).map .tup
  | .lst xs=>(aS (frz n M f) xs).map .lst
  | .ro xs=>(aS (frz n M f) xs).map .ro
  | d=>some d
def mU (f:D→Option D):List (Str×D)→Option (List (Str×D))
 | []=>some []
 | (x,d)::r=>match f d,mU f r with
  | some e,some r'=>some ((x,e)::r')
  | _,_=>none
def jR {κ:Type}(f:D→Option D):List (κ×D)→Option (List (κ×D))
 | []=>some []
 | (x,d)::r=>match f d,jR f r with
  | some e,some r'=>some ((x,e)::r')
  | _,_=>none
def dI (n:Nat)(M:am):List MO→Option (List MO)
 | []=>some []
 | .lst xs::r=>match aS (frz n M 30) xs,dI n M r with
  | some ys,some r'=>some (.lst ys::r')
  | _,_=>none
 | .obj c fs::r=>match mU (frz n M 30) fs,dI n M r with
  | some gs,some r'=>some (.obj c gs::r')
  | _,_=>none
 | .dK fs::r=>match jR (frz n M 30) fs,dI n M r with
  | some gs,some r'=>some (.dK gs::r')
  | _,_=>none
 | .dT fs::r=>match jR (frz n M 30) fs,dI n M r with
  | some gs,some r'=>some (.dT gs::r')
  | _,_=>none
def iU (n:Nat)(o:aF D):aF D:=match o with
 | .ok d M=>if M.length=n then .ok d M else match frz n M 30 d,dI n M (M.take n) with
  | some d',some M'=>.ok d' M'
  | _,_=>.bad
 | .err c M=>if M.length=n then .err c M else match dI n M (M.take n) with
  | some M'=>.err c M'
  | none=>.bad
 | .bad=>.bad
section
variable {K:W.Frag}{θ more:List Addr}{H:Hp}{M:am}{n:Nat}
theorem du {f:D→Option D}{θ':List Addr}:∀{ds es:List D} {vs:List V},aS f ds=some es→aH K θ' H ds vs→(∀d∈ds,∀e v,f d=some e→cD K θ' H d v→cD K θ H e v)→aH K θ H es vs
 | [],es,vs,h,r,k=>by cases h;exact r
 | d::ds,es,vs,h,r,k=>by
  obtain⟨v,rr,e,h1,h2⟩:=r;unfold aS at h;cases q1:f d with
  | none=>rw[q1] at h;cases h
  | some x=>
   cases q2:aS f ds with
   | none=>rw[q1,q2] at h;cases h
   | some xs=>
    rw[q1,q2] at h;cases h;exact⟨v,rr,e,k d mem_cons_self x v q1 h1,du q2 h2 fun d' hd=>k d' (mem_cons_of_mem _ hd)⟩
theorem iH (hw:Wr K (θ++more) H M)(hn:θ.length=n):∀(f:Nat) (d e:D) (v:V),frz n M f d=some e→cD K (θ++more) H d v→cD K θ H e v
 | 0,d,e,v,h,r=>by cases h
 | f+1,d,e,v,h,r=>by
  have ih:=iH hw hn f;have sub:∀{a:Addr},a∉θ++more→a∉θ:=fun {a} z y=>z (mem_append_left _ y)
  cases d with
  | mr k=>
   obtain⟨a,ea,ta⟩:=r
   by_cases hk:k<n
   ·have h:(if k<n then some (D.mr k) else _)=some e:=h;rw[if_pos hk] at h;cases h;exact⟨a,ea,by rw[getElem?_append_left (by rw[hn];exact hk)] at ta;exact ta⟩
   ·have h:(if k<n then some (D.mr k) else match M[k]? with|some (.lst xs)=>(aS (frz n M f) xs).map .lst|_=>none)=some e:=h;rw[if_neg hk] at h;cases qm:M[k]? with
    | none=>rw[qm] at h;cases h
    | some m=>
     cases m with
     | lst xs=>
      rw[qm] at h;have h:(aS (frz n M f) xs).map D.lst=some e:=h;obtain⟨vs,hv,ra⟩:=hw.at_ k a _ ta qm;cases qo:aS (frz n M f) xs with
      | none=>rw[qo] at h;cases h
      | some ys=>
       rw[qo] at h;cases h;refine⟨a,vs,ea,⟨hv,fun z=>?_⟩,du qo ra fun d _ e v=>ih d e v⟩;rw[getElem?_append_right (by omega)] at ta;have hm:=mem_of_getElem? ta;exact(nodup_append.mp hw.nd).2.2 a z a hm rfl
     | _=>rw[qm] at h;cases h
  | tup xs=>
   have h:(aS (frz n M f) xs).map D.tup=some e:=h;cases qo:aS (frz n M f) xs with
   | none=>rw[qo] at h;cases h
   | some ys=>
    rw[qo] at h;cases h;obtain⟨a,vs,ea,ta,ra⟩:=r;exact⟨a,vs,ea,⟨ta.1,sub ta.2⟩,du qo ra fun d _ e v=>ih d e v⟩
  | lst xs=>
   have h:(aS (frz n M f) xs).map D.lst=some e:=h;cases qo:aS (frz n M f) xs with
   | none=>rw[qo] at h;cases h
   | some ys=>
    rw[qo] at h;cases h;obtain⟨a,vs,ea,ta,ra⟩:=r;exact⟨a,vs,ea,⟨ta.1,sub ta.2⟩,du qo ra fun d _ e v=>ih d e v⟩
  | ro xs=>
   have h:(aS (frz n M f) xs).map D.ro=some e:=h;cases qo:aS (frz n M f) xs with
   | none=>rw[qo] at h;cases h
   | some ys=>
    rw[qo] at h;cases h;obtain⟨a,vs,ea,ta,ra⟩:=r;refine⟨a,vs,ea,?_,du qo ra fun d _ e v=>ih d e v⟩;rcases ta with⟨t1,t2⟩|t
    ·exact .inl ⟨t1,sub t2⟩
    ·exact .inr t
  | non=>cases h;exact r
  | bl b=>cases h;exact r
  | int b=>cases h;exact r
  | str b=>cases h;exact r
  | exc c=>
   cases h;obtain⟨a,C,ea,kc,t1,t2⟩:=r;exact⟨a,C,ea,kc,t1,sub t2⟩
  | any=>cases h;exact r
theorem oI {f:D→Option D}{θ':List Addr}:∀{fs gs:List (Str×D)} {vs:List (Str×V)},mU f fs=some gs→p0 K θ' H fs vs→(∀d e v,f d=some e→cD K θ' H d v→cD K θ H e v)→p0 K θ H gs vs
 | [],gs,vs,h,r,k=>by cases h;exact r
 | (x,d)::fs,gs,vs,h,r,k=>by
  obtain⟨v,rr,e,h1,h2⟩:=r;unfold mU at h;cases q1:f d with
  | none=>rw[q1] at h;cases h
  | some y=>
   cases q2:mU f fs with
   | none=>rw[q1,q2] at h;cases h
   | some ys=>
    rw[q1,q2] at h;cases h;exact⟨v,rr,e,k d y v q1 h1,oI q2 h2 k⟩
theorem kS {κ:Type}{f:D→Option D}{θ':List Addr}:∀{fs gs:List (κ×D)} {vs:List (κ×V)},jR f fs=some gs→gR K θ' H fs vs→(∀d e v,f d=some e→cD K θ' H d v→cD K θ H e v)→gR K θ H gs vs
 | [],gs,vs,h,r,k=>by cases h;exact r
 | (x,d)::fs,gs,vs,h,r,k=>by
  obtain⟨v,rr,e,h1,h2⟩:=r;unfold jR at h;cases q1:f d with
  | none=>rw[q1] at h;cases h
  | some y=>
   cases q2:jR f fs with
   | none=>rw[q1,q2] at h;cases h
   | some ys=>
    rw[q1,q2] at h;cases h;exact⟨v,rr,e,k d y v q1 h1,kS q2 h2 k⟩
theorem ia (hw:Wr K (θ++more) H M)(hn:θ.length=n):∀(l l':List MO),dI n M l=some l'→l'.length=l.length∧∀(i:Nat) m m' a,l[i]?=some m→l'[i]?=some m'→jP K (θ++more) H m a→jP K θ H m' a
 | [],l',h=>by cases h;exact⟨rfl,fun i m m' a e=>by simp at e⟩
 | .lst xs::r,l',h=>by
  unfold dI at h;cases q1:aS (frz n M 30) xs with
  | none=>rw[q1] at h;cases h
  | some ys=>
   cases q2:dI n M r with
   | none=>rw[q1,q2] at h;cases h
   | some r'=>
    rw[q1,q2] at h;cases h;obtain⟨hl,hr⟩:=ia hw hn r r' q2;refine⟨by rw[length_cons,length_cons,hl],fun i m m' a e1 e2 ok=>?_⟩;cases i with
    | zero=>
     have e1:some (MO.lst xs)=some m:=e1;have e2:some (MO.lst ys)=some m':=e2;cases e1;cases e2;obtain⟨vs,hv,ra⟩:=ok;exact⟨vs,hv,du q1 ra fun d _ e v=>iH hw hn 30 d e v⟩
    | succ i=>exact hr i m m' a e1 e2 ok
 | .obj c fs::r,l',h=>by
  unfold dI at h;cases q1:mU (frz n M 30) fs with
  | none=>rw[q1] at h;cases h
  | some gs=>
   cases q2:dI n M r with
   | none=>rw[q1,q2] at h;cases h
   | some r'=>
    rw[q1,q2] at h;cases h;obtain⟨hl,hr⟩:=ia hw hn r r' q2;refine⟨by rw[length_cons,length_cons,hl],fun i m m' a e1 e2 ok=>?_⟩;cases i with
    | zero=>
     have e1:some (MO.obj c fs)=some m:=e1;have e2:some (MO.obj c gs)=some m':=e2;cases e1;cases e2;obtain⟨C,dx,vs,kC,hv,ra⟩:=ok;exact⟨C,dx,vs,kC,hv,oI q1 ra fun d e v=>iH hw hn 30 d e v⟩
    | succ i=>exact hr i m m' a e1 e2 ok
 | .dK fs::r,l',h=>by
  unfold dI at h;cases q1:jR (frz n M 30) fs with
  | none=>rw[q1] at h;cases h
  | some gs=>
   cases q2:dI n M r with
   | none=>rw[q1,q2] at h;cases h
   | some r'=>
    rw[q1,q2] at h;cases h;obtain⟨hl,hr⟩:=ia hw hn r r' q2;refine⟨by rw[length_cons,length_cons,hl],fun i m m' a e1 e2 ok=>?_⟩;cases i with
    | zero=>
     have e1:some (MO.dK fs)=some m:=e1;have e2:some (MO.dK gs)=some m':=e2;cases e1;cases e2;obtain⟨vs,hv,ra⟩:=ok;exact⟨vs,hv,kS q1 ra fun d e v=>iH hw hn 30 d e v⟩
    | succ i=>exact hr i m m' a e1 e2 ok
 | .dT fs::r,l',h=>by
  unfold dI at h;cases q1:jR (frz n M 30) fs with
  | none=>rw[q1] at h;cases h
  | some gs=>
   cases q2:dI n M r with
   | none=>rw[q1,q2] at h;cases h
   | some r'=>
    rw[q1,q2] at h;cases h;obtain⟨hl,hr⟩:=ia hw hn r r' q2;refine⟨by rw[length_cons,length_cons,hl],fun i m m' a e1 e2 ok=>?_⟩;cases i with
    | zero=>
     have e1:some (MO.dT fs)=some m:=e1;have e2:some (MO.dT gs)=some m':=e2;cases e1;cases e2;obtain⟨vs,hv,ra⟩:=ok;exact⟨vs,hv,kS q1 ra fun d e v=>iH hw hn 30 d e v⟩
    | succ i=>exact hr i m m' a e1 e2 ok
theorem tD {θ0:List Addr}{H0:Hp}{θ':List Addr}{H':Hp}{M' M2:am}{n:Nat}(hn:θ0.length=n)(g:Go K θ0 H0 θ' H' M')(h:dI n M' (M'.take n)=some M2):Go K θ0 H0 θ0 H' M2:=by
 obtain⟨m,em,hm⟩:=g.ext;have hw:=g.wr;rw[em] at hw;obtain⟨hl,hr⟩:=ia hw hn _ _ h;have hlen:n≤M'.length:=by rw[←g.wr.len,em,length_append];omega
 refine⟨⟨⟨[],by simp,fun _ z=>by cases z⟩,g.keep,g.tkeep⟩,by rw[hl,length_take];omega,(nodup_append.mp hw.nd).1,fun i a mo e1 e2=>?_,g.wr.tb⟩;have hi:i<n:=by rw[←hn];exact(List.getElem?_eq_some_iff.mp e1).1
 have hiM:i<M'.length:=by omega
 refine hr i M'[i] mo a (by rw[getElem?_take_of_lt hi];exact getElem?_eq_getElem hiM) e2 (hw.at_ i a _ ?_ (getElem?_eq_getElem hiM));rw[getElem?_append_left (by rw[hn];exact hi)];exact e1
end
theorem yF {P:Program}{w:World}{K:W.Frag}{mg:Str→Option Value}{base:Heap}{k n:Nat}{f:Addr}{fd:FuncData}{ps:List Str}{F:FD}{CX:qu}(h:ej P w K mg base CX k f fd ps (nO K n F)) :
  ej P w K mg base CX k f fd ps (nO K n fun ds M=>iU M.length (F ds M)):=h.imp fun vs H Q E hxx=>by
 obtain⟨θ,M,ds,hl,r,hw,q⟩:=hxx;refine⟨θ,M,ds,hl,r,hw,?_⟩;have q:rA K θ H Q E (iU M.length (F ds M)):=q;cases e:F ds M with
 | bad=>rw[e] at q;exact q
 | err c M1=>
  rw[e] at q;have q:rA K θ H Q E (if M1.length=M.length then .err c M1 else match dI M.length M1 (M1.take M.length) with|some M'=>.err c M'|none=>.bad):=q;split at q
  ·exact q
  ·split at q
   ·rename_i M2 e2;exact fun C θ' H' a kC g=>q C θ H' a kC (tD hw.len g e2)
   ·exact q.elim
 | ok d M1=>
  rw[e] at q;have q:rA K θ H Q E (if M1.length=M.length then .ok d M1 else match frz M.length M1 30 d,dI M.length M1 (M1.take M.length) with|some d',some M'=>.ok d' M'|_,_=>.bad):=q;split at q
  ·exact q
  ·split at q
   ·rename_i d' M2 e1 e2;intro v θ' H' g rd;refine q v θ H' (tD hw.len g e2) ?_;obtain⟨m,em,_⟩:=g.ext;have hw':=g.wr;rw[em] at hw' rd;exact iH hw' hw.len 30 d d' v e1 rd
   ·exact q.elim
structure Fn (K:W.Frag)(mg:Str→Option Value)(x:Str)(st:Stmt)(f:Addr)(fd:FuncData)(ps:List Str):Prop where
 F:xP K x x st f fd
 m:mg x=some (.ref f)
 b:fz K fd ps []
section
variable {X:Cx}
theorem vv (i:Nat){x:Str}{pos:Pos}(hN:X.N[i]?=some x:=by rfl)(hv:Aa X.env.scope x:=by first|exact Or.inl rfl|exact Or.inr (Or.inl rfl)|exact Or.inr (Or.inr rfl))(hd:(x==("__debug__":Str))=false:=by decide)
  (hcd:(x==("__classdict__":Str))=false:=by decide):PE X (.Name x pos) (tE X (ae i)):=zA (xW hN hv hd hcd)
theorem ss (i:Nat){x:Str}{pos pos':Pos}{e:Expr}{g:GE}(hN:X.N.Nodup)(he:PE X e (tE X g))(hi:X.N[i]?=some x:=by rfl)(hx:tR X.env.scope x:=by first|exact Or.inl rfl|exact Or.inr rfl)
  (hs:swapsWith e (some (.Name x pos')) pos.line X.env=pure false:=by rfl) (hf:X.fn x=true∨X.env.scope.names.lookup x=some .local:=by first|exact .inl rfl|exact .inr rfl) :
  PS X (.Assign [.Name x pos'] e pos) (tS X (aB i g)):=xu hN hi hx he hs hf
theorem gg (i:Nat){x:Str}{pos:Pos}(hN:X.N.Nodup)(hi:X.N[i]?=some x:=by rfl)(hx:tR X.env.scope x:=by first|exact Or.inl rfl|exact Or.inr rfl)(hf:X.fn x=true∨X.env.scope.names.lookup x=some .local:=by first|exact .inl rfl|exact .inr rfl):PG X (.Name x pos) (tG X (bL i)):=lI hN hi hx hf
end
theorem ya {K:W.Frag}{F:FD}{H:Hp}{a:Addr}{ns:List Int}(tb:iw K H)(hS:iJ K H a (ns.map V.int))(h:∃M',F [.ro (ns.map D.int)] []=.ok (.bl true) M'){E:XK}:nO K 1 F [.ref a] H (fun v _=>v=.bl true) E:=by
 obtain⟨M',e⟩:=h;refine⟨[],[],[.ro (ns.map D.int)],rfl,⟨_,[],rfl,⟨a,ns.map V.int,rfl,?_,?_⟩,rfl⟩,⟨rfl,nodup_nil,fun i a m e=>by simp at e,tb⟩,?_⟩
 ·rcases hS with h|h
  ·exact .inl ⟨h,by simp⟩
  ·exact .inr h
 ·clear e
  induction ns with
  | nil=>exact rfl
  | cons n ns ih=>
   refine⟨.int n,ns.map V.int,rfl,rfl,?_⟩;have gen:∀l:List Int,aH K [] H (l.map D.int) (l.map V.int):=by
    intro l
    induction l with
    | nil=>exact rfl
    | cons m l ih=>exact⟨_,_,rfl,rfl,ih⟩
   exact gen ns
 ·rw[e];exact fun v θ' H' g r=>r
def bT (t:GT)(b:GS):Nat→a9→am→aF Fl
 | 0,_,_=>.bad
 | n+1,ρ,M=>(t ρ M).bind fun c M1=>if c then(b ρ M1).bind fun f M2=>match f with
   | .nx ρ2=>bT t b n ρ2 M2
   | .ct ρ2=>bT t b n ρ2 M2
   | .bk ρ2=>.ok (.nx ρ2) M2
   | .rt d=>.ok (.rt d) M2
  else .ok (.nx ρ) M1
def dX (n:Nat)(t:GT)(b:GS):GS:=bT t b n
theorem rN {X:Cx}{c:Expr}{body:List Stmt}{tc:GT}{gb:GS}{pos:Pos}{n:Nat}(hp:PassesOwn (model X.prog X.w) X.A X.env X.xe)(hc:PT X c (tT X tc))(hb:PSs X body (tS X gb)):PS X (.While c body [] pos) (tS X (dX n tc gb)):=
 (sT hp hc hb).of fun D σ H hxx=>by
  obtain⟨ρ,θ,M,hd,hw,h⟩:=hxx;refine⟨fun m σ' H'=>∃ρ' θ' M',dJ X.K θ' H' σ' ρ'∧Wr X.K θ' H' M'∧bK X θ' H' D (bT tc gb m ρ' M'),⟨n,ρ,θ,M,hd,hw,h⟩,?_⟩;rintro m σ' H' ⟨ρ',θ',M',hd',hw',h'⟩;cases m with
  | zero=>exact h'.elim
  | succ m=>
   have h':bK X θ' H' D ((tc ρ' M').bind _):=h';refine mT hd' hw' (bK X θ' H' D) (fun c M' h=>h) (fun h=>h) h' fun c M1 θ1 H1 g1 h1=>?_
   cases c with
   | false=>
    rw[if_neg Bool.false_ne_true];exact h1 σ' θ1 H1 g1 (hd'.go g1)
   | true=>
    rw[if_pos rfl];refine⟨fun σ2 H2=>∃ρ2 θ2 M2,dJ X.K θ2 H2 σ2 ρ2∧Wr X.K θ2 H2 M2∧bK X θ2 H2 D (bT tc gb m ρ2 M2),fun σ2 H2 q=>⟨m,Nat.lt_succ_self _,q⟩,ρ',θ1,M1,hd'.go g1,g1.wr,?_⟩;have h2:=bK.go g1 h1;have h2:bK X θ1 H1 D ((gb ρ' M1).bind _):=h2;cases q:gb ρ' M1 with
    | bad=>rw[q] at h2;exact h2
    | err c M2=>rw[q] at h2;exact h2
    | ok f M2=>
     rw[q] at h2;cases f with
     | nx ρ2=>exact fun σ2 θ2 H2 g2 d2=>⟨ρ2,θ2,M2,d2,g2.wr,bK.go g2 h2⟩
     | ct ρ2=>exact fun σ2 θ2 H2 g2 d2=>⟨ρ2,θ2,M2,d2,g2.wr,bK.go g2 h2⟩
     | bk ρ2=>exact h2
     | rt d=>exact h2
def bw:Expr→Bool
 | .Starred _ _=>false
 | _=>true
def cK (es:List Expr):Bool:=es.all bw
theorem sE {e:Expr}{es:List Expr}{env:Env}(h:bw e=true):starEach (e::es) env=(false,eval e env)::starEach es env:=by
 cases e <;> first|rfl|(simp[bw] at h)
theorem sS {pos:Pos}{env:Env}:∀{es:List Expr},cK es=true→(backTo pos (starEach es env)).any (·.1)=false
 | [],_=>rfl
 | e::es,h=>by
  unfold cK at h;rw[all_cons,Bool.and_eq_true] at h;have ih:=sS (pos:=pos) (env:=env) (es:=es) h.2;rw[sE h.1];unfold backTo at ih ⊢;rw[map_cons,any_cons,ih];rfl
section
variable {X:Cx}{e:Expr}{es:List Expr}{x:Str}{p pos:Pos}{k n:Nat}{f:Addr}{fd:FuncData}{ps:List Str}{F:FD}{ga:GA}{g:GE}{tg:Expr}
theorem Ca {gr:GA}(ha:PE X e (tE X g))(hr:PA X es (tA X gr))(h:bw e=true:=by rfl):PA X (e::es) (tA X (aa g gr)):=vb ha hr (sE h)
theorem A6 (Fn:ej X.prog X.w X.K X.mg X.base (iN X.prog X.w) k f fd ps (nO X.K n F))(hr:cq k X.A)(hg:Gl X x)(hm:X.mg x=some (.ref f))(hk:W.keepIn X.K (.ref f)=true)(hb:fz X.K fd ps [])
  (ha:PA X (e::es) (tA X ga)) (hdb:(x==("__debug__":Str))=false:=by decide) (h1:bw e=true:=by rfl) (h2:cK es=true:=by rfl) :
  PE X (.Call (.Name x p) (e::es) [] pos) (tE X (ak n F ga)):=vP Fn hr hg hm hk hb ha hdb (sE h1) (sS h2)
theorem An {id:String}(hc:bY X (.builtin id) (rC X F))(hg:Gl X x)(hm:X.mg x=none)(hv:bootBuiltins x=some (.builtin id))(ha:PA X (e::es) (tA X ga))(hn:x≠"__name__":=by decide)(hdb:(x==("__debug__":Str))=false:=by decide)
  (h1:bw e=true:=by rfl) (h2:cK es=true:=by rfl):PE X (.Call (.Name x p) (e::es) [] pos) (tE X (aL F ga)):=sJ hc hg hm hv ha hn hdb (sE h1) (sS h2)
theorem BN {T:String}(hc:bY X (.type T) (rC X F))(hg:Gl X x)(hm:X.mg x=none)(hv:bootBuiltins x=some (.type T))(ha:PA X (e::es) (tA X ga))(hn:x≠"__name__":=by decide)(hdb:(x==("__debug__":Str))=false:=by decide)
  (h1:bw e=true:=by rfl) (h2:cK es=true:=by rfl):PE X (.Call (.Name x p) (e::es) [] pos) (tE X (aL F ga)):=pv hc hg hm hv ha hn hdb (sE h1) (sS h2)
theorem zX {T:String}{p2:Pos}(hT:hR T)(hv:bootBuiltins x=some (.type T))(hg:Gl X x)(hm:X.mg x=none)(hgi:Gl X "isinstance")(hmi:X.mg "isinstance"=none)(he:PE X e (tE X g))
  (h1:bw e=true:=by rfl) (hn:x≠"__name__":=by decide) (hd:(x==("__debug__":Str))=false:=by decide):PE X (.Call (.Name "isinstance" p) [e,.Name x p2] [] pos) (tE X (je T g)):=
 xc hT hv hg hm hgi hmi he hn hd boot_isinstance (sE h1) (sE rfl) (sS rfl)
theorem Ai {a:Expr}(hg:Gl X "range")(hm:X.mg "range"=none)(ha:PA X [a] (tA X ga))(h1:bw a=true:=by rfl):PI X tg (.Call (.Name "range" p) [a] [] pos) (tI X (dB ga)):=o9 hg hm ha (sE h1)
end
end DL
namespace DL
open PySem L2
theorem lQ {j:Int}(h:-(2 ^ 62)≤j∧j<2 ^ 62)(M:am):qY [.int j] M=.ok ⟨aZ 0 j.toNat,none⟩ M:=by
 unfold qY;exact if_pos h
theorem tx {n:Nat}(h:n≤1000000)(M:am):qY [.int (n:Int)] M=.ok ⟨aZ 0 n,none⟩ M:=by
 have:=lQ (j:=(n:Int)) (by omega) M;rw[this];rfl
theorem nr {ds:List D}{M:am}:iu.ok ⟨ds,none⟩ M=true:=rfl
theorem dY {ds0:List D}{ge:GE}{ρ:a9}{P:am→Prop}{Q:D→Prop}:∀(ds:List D),(∀d∈ds,∀M,P M→∃e M',P M'∧Q e∧ge (some d::ρ) M=.ok e M')→∀M,P M→
  ∃es M',P M'∧es.length=ds.length∧(∀e∈es,Q e)∧cG ⟨ds0,none⟩ cz ge ds ρ M=.ok es M'
 | [],h,M,hM=>⟨[],M,hM,rfl,(fun e he=>by cases he),rfl⟩
 | d::ds,h,M,hM=>by
  obtain⟨e,M1,h1,q1,e1⟩:=h d List.mem_cons_self M hM;obtain⟨es,M2,h2,l2,q2,e2⟩:=dY (ds0:=ds0) ds (fun d' hd=>h d' (List.mem_cons_of_mem _ hd)) M1 h1;refine⟨e::es,M2,h2,by simp[l2],fun x hx=>?_,?_⟩
  ·rcases List.mem_cons.mp hx with z|z
   ·subst z;exact q1
   ·exact q2 x z
  ·simp[cG,nr,cz,e1,e2]
theorem lD {ds0:List D}{s:GG}{body:GS}{W:a9→am→Prop}:∀(ds:List D),(∀d∈ds,∀ρ M,W ρ M→∃ρ1 ρ2 M2,s d ρ=some ρ1∧body ρ1 M=.ok (.nx ρ2) M2∧W ρ2 M2)→∀ρ M,W ρ M→
  ∃ρ' M',W ρ' M'∧bI ⟨ds0,none⟩ s body ds ρ M=.ok (.nx ρ') M'
 | [],h,ρ,M,hW=>⟨ρ,M,hW,rfl⟩
 | d::ds,h,ρ,M,hW=>by
  obtain⟨ρ1,ρ2,M2,e1,e2,h2⟩:=h d List.mem_cons_self ρ M hW;obtain⟨ρ',M',h3,e3⟩:=lD (ds0:=ds0) ds (fun d' hd=>h d' (List.mem_cons_of_mem _ hd)) ρ2 M2 h2;exact⟨ρ',M',h3,by simp[bI,nr,e1,e2,e3]⟩
theorem bc (lo:Int)(n:Nat):(aZ lo n).length=n:=by simp[aZ]
theorem um {ds:List D}{Q:Int→Prop}(h:∀d∈ds,∃k,d=.int k∧Q k):∃ks:List Int,ds=ks.map D.int∧∀k∈ks,Q k:=by
 induction ds with
 | nil=>exact⟨[],rfl,fun k hk=>by cases hk⟩
 | cons d ds ih=>
  obtain⟨k,e,q⟩:=h d List.mem_cons_self;obtain⟨ks,e2,q2⟩:=ih fun d' hd=>h d' (List.mem_cons_of_mem _ hd)
  refine⟨k::ks,by rw[e,e2];rfl,fun x hx=>?_⟩;rcases List.mem_cons.mp hx with z|z
  ·subst z;exact q
  ·exact q2 x z
theorem v9 {ds:List D}{Q:List Int→Prop}(h:∀d∈ds,∃ks:List Int,d=.tup (ks.map D.int)∧Q ks):∃rs:List (List Int),ds=rs.map (fun r=>D.tup (r.map D.int))∧∀r∈rs,Q r:=by
 induction ds with
 | nil=>exact⟨[],rfl,fun k hk=>by cases hk⟩
 | cons d ds ih=>
  obtain⟨k,e,q⟩:=h d List.mem_cons_self;obtain⟨ks,e2,q2⟩:=ih fun d' hd=>h d' (List.mem_cons_of_mem _ hd)
  refine⟨k::ks,by rw[e,e2];rfl,fun x hx=>?_⟩;rcases List.mem_cons.mp hx with z|z
  ·subst z;exact q
  ·exact q2 x z
theorem bB {n:Nat}(h:n≤1000000):n≤sizeLine:=Nat.le_trans h (by rw[sizeLine_eq];decide)
theorem fg (n:Nat):∀ks:List Int,aU n (ks.map D.int)=true
 | []=>by cases n <;> rfl
 | k::ks=>Bool.and_eq_true_iff.mpr ⟨by cases n <;> rfl,fg n ks⟩
theorem kH:∀ks ls:List Int,dL (ks.map D.int) (ls.map D.int)=decide (ks=ls)
 | [],[]=>rfl
 | [],l::ls=>rfl
 | k::ks,[]=>rfl
 | k::ks,l::ls=>by
  show((k==l)&&dL (ks.map D.int) (ls.map D.int))=_;rw[kH ks ls]
  by_cases h:k=l <;> simp[h]
end DL
namespace DL
@[simp] theorem Dj (i j:Int):eW (.int i) (.int j)=(i==j):=rfl
@[simp] theorem CG (i j:Bool):eW (.bl i) (.bl j)=(i==j):=rfl
@[simp] theorem Dl (i j:PySem.Str):eW (.str i) (.str j)=(i==j):=rfl
@[simp] theorem Co:eW .non .non=true:=rfl
@[simp] theorem CZ (i:Int):eW (.int i) .non=false:=rfl
@[simp] theorem Cf (i:Int):eW .non (.int i)=false:=rfl
@[simp] theorem Ci (xs ys:List D):eW (.tup xs) (.tup ys)=dL xs ys:=rfl
@[simp] theorem De (xs ys:List D):eW (.lst xs) (.lst ys)=dL xs ys:=rfl
@[simp] theorem AV:dL [] []=true:=rfl
@[simp] theorem B6 (y:D) (ys:List D):dL [] (y::ys)=false:=rfl
@[simp] theorem BY (y:D) (ys:List D):dL (y::ys) []=false:=rfl
@[simp] theorem BX (x y:D) (xs ys:List D):dL (x::xs) (y::ys)=(eW x y&&dL xs ys):=rfl
@[simp] theorem zL (n:Nat) (i:Int):au n (.int i)=true:=by cases n <;> rfl
@[simp] theorem A9 (n:Nat) (i:Bool):au n (.bl i)=true:=by cases n <;> rfl
@[simp] theorem zN (n:Nat):au n .non=true:=by cases n <;> rfl
@[simp] theorem zM (n:Nat) (x:PySem.Str):au n (.str x)=PySem.PyData.strOk x:=by cases n <;> rfl
@[simp] theorem qa (n:Nat) (xs:List D):au (n+1) (.tup xs)=aU n xs:=rfl
@[simp] theorem pT (n:Nat) (xs:List D):au (n+1) (.lst xs)=aU n xs:=rfl
@[simp] theorem wz (xs:List D):au 40 (.tup xs)=aU 39 xs:=qa 39 xs
@[simp] theorem wA (xs:List D):au 40 (.lst xs)=aU 39 xs:=pT 39 xs
@[simp] theorem yi (n:Nat):aU n []=true:=by cases n <;> rfl
@[simp] theorem wq (n:Nat) (x:D) (xs:List D):aU n (x::xs)=(au n x&&aU n xs):=by cases n <;> rfl
@[simp] theorem B9 (i:Int) (M:am):iP (.int i) M=.int i:=rfl
@[simp] theorem CF (i:Bool) (M:am):iP (.bl i) M=.bl i:=rfl
@[simp] theorem B2 (M:am):iP .non M=.non:=rfl
@[simp] theorem BU (x:PySem.Str) (M:am):iP (.str x) M=.str x:=rfl
@[simp] theorem B4 (xs:List D) (M:am):iP (.tup xs) M=.tup xs:=rfl
@[simp] theorem B5 (xs:List D) (M:am):iP (.lst xs) M=.lst xs:=rfl
end DL
namespace DL
open PySem PySem.Spec PyProof.Rows L2 PySem.W PySem.Builtin PySem.Builtin.ObjectAttr PySem.Builtin.Getset_descriptor List
structure CL (K:Frag)(C:Addr):Prop where
 cl:(clsIn K C).isSome=true
 ca:findIn K (.ref C) "__class__"=some (some (.builtin "object.__class__"))
 sp:specialIn K (.builtin "object.__class__") "__get__"=some (some (.builtin "getset_descriptor.__get__"))
 tk:takesIn K (.builtin "object.__class__")=some true
 ob:mroIn K C (.type "object")=some true
 ga:findIn K (.ref C) "__getattribute__"=some (some (.builtin "BaseException.__getattribute__"))
 gh:findIn K (.ref C) "__getattr__"=some none
 be:mroIn K C (.type "BaseException")=some true
end DL
namespace DL
open PySem PySem.Spec PyProof.Rows L2 List
abbrev Cs:List Value:=[.type "ValueError",.type "Exception",.type "BaseException",.type "object"]
structure Ec (K:W.Frag)(mg:Str→Option Value)(c:Str)(C:Addr):Prop where
 at_:jo K c C
 m:mg c=some (.ref C)
 k:CL K C
 ex:W.excIn K C Cs "ValueError.__new__"=true
 ty:W.typeIn K (.ref C)=some (.type "type")
 sf:W.mroIn K C (.ref C)=some true
def lN (i:Nat):Fl→Fl
 | .nx ρ=>.nx (ρ.set i none)
 | .bk ρ=>.bk (ρ.set i none)
 | .ct ρ=>.ct (ρ.set i none)
 | .rt d=>.rt d
section
variable {X:Cx}
def fA (d:D)(M:am):Option (List D):=match d with
 | .lst xs=>some xs
 | .ro xs=>some xs
 | .mr k=>match M[k]? with
  | some (.lst xs)=>some xs
  | _=>none
 | _=>none
theorem rR {K:W.Frag}{θ:List Addr}{H:Hp}{M:am}{d:D}{xs:List D}{v:V}(hw:Wr K θ H M)(r:cD K θ H d v)(e:fA d M=some xs):∃a vs,v=.ref a∧iJ K H a vs∧aH K θ H xs vs:=by
 cases d with
 | lst ys=>cases e;obtain⟨a,vs,ea,ta,ra⟩:=r;exact⟨a,vs,ea,ta.sq,ra⟩
 | ro ys=>cases e;obtain⟨a,vs,ea,ta,ra⟩:=r;exact⟨a,vs,ea,ta.sq,ra⟩
 | mr k=>
  obtain⟨a,ea,ta⟩:=r;have e:(match M[k]? with|some (.lst xs)=>some xs|_=>none)=some xs:=e;cases q:M[k]? with
  | none=>rw[q] at e;cases e
  | some m=>
   cases m with
   | lst ys=>
    rw[q] at e;cases e;obtain⟨vs,hv,ra⟩:=hw.at_ k a _ ta q;exact⟨a,vs,ea,.inl (.inl hv),ra⟩
   | _=>rw[q] at e;cases e
 | _=>cases e
def fY (F:List D→D→am→aF D)(go ge:GE):GE:=fun ρ M=>(go ρ M).bind fun o M1=>match fA o M1 with
 | some _=>(ge ρ M1).bind fun x M2=>match fA o M2 with
  | some xs=>F xs x M2
  | none=>.bad
 | none=>.bad
section
variable {o e:Expr}{go ge:GE}{apos cpos:Pos}
theorem vp {F:List D→D→am→aF D}{rr:V→List V→Hp→VK→Prop}{σ:L2.St}{H:Hp}{Q:VK}(hs:starEach [e] X.env=(false,eval e X.env)::starEach [] X.env)
  (hF:∀θ H M o x xs v y Q,Wr X.K θ H M→cD X.K θ H o v→fA o M=some xs→cD X.K θ H x y→aE X θ H Q (F xs x M)→rr v [y] H Q) (h:tE X (fY F go ge) σ H Q):Dq X.K "list" rr (tE X go) (wt (tE X ge) AC) σ H Q:=by
 obtain⟨ρ,θ,M,hd,hw,h⟩:=h;refine bx hd hw (aE X θ H Q) (fun c M' h=>h) (fun h=>h) h fun d M1 v θ1 H1 g1 r1 h1=>?_
 have h2:=aE.go g1 h1;cases ql:fA d M1 with
 | none=>rw[ql] at h2;exact h2.elim
 | some xs0=>
  rw[ql] at h2;obtain⟨a,vs,ea,sq,ra⟩:=rR g1.wr r1 ql;refine⟨by rw[ea];exact .inl ⟨rfl,vs,sq⟩,?_⟩;refine bx (hd.go g1) g1.wr (aE X θ1 H1 Q) (fun c M' h=>h) (fun h=>h) h2 fun dx M2 vx θ2 H2 g2 r2 h3=>?_
  have h4:=aE.go g2 h3;cases ql2:fA d M2 with
  | none=>rw[ql2] at h4;exact h4.elim
  | some xs=>
   rw[ql2] at h4;exact hF θ2 H2 M2 d dx xs v vx Q g2.wr (r1.go g2) ql2 r2 h4
theorem tz {env:Env}(h:bw e=true):((backTo cpos (starEach [e] env)).all (fun x=>!x.1)&&(backToKw cpos (keywordEach [] env)).all (fun x=>x.1.isSome)
   && decide ([e].length+([]:List Keyword).length+(if([]:List Keyword).isEmpty then 0 else 1)<30))=true:=by
 rw[sE h];rfl
end
end
end DL
namespace DL
open PySem L2
theorem BJ {P:Program}{w:World}{H:Hp}{s:Shared}{e:Value}{s':Shared}(z:iN P w [] H s (fun _ _ _=>False) e s'):False:=by
 obtain⟨_,_,_,_,_,_,_,_,_,_,_,_,_,_,h⟩:=z;exact h
end DL
namespace DL
open PySem PySem.Spec PyProof.Rows L2 List
structure Kc (K:W.Frag)(mg:Str→Option Value)(c:Str)(C:Addr):Prop where
 at_:jo K c C
 m:mg c=some (.ref C)
 cl:DB K C
end DL
namespace DL
open PySem PySem.Spec PyProof.Rows L2 List
section
variable {prog:Program}{w:World}{A:Around}{E:Value→Shared→Prop}{s:Shared}
theorem jv {I a:Addr}{k:Nat}{its:Array Value}{x:Value}{Q:Value→Shared→Prop}(st:s.heap.IsTupleIter I a k)(ta:s.heap.IsTuple a its)(hx:its[k]?=some x)
  (q:∀h',h'.IsTupleIter I a (k+1)→Heap.SameBut I s.heap h'→Q x {s with heap:=h'}):wpAny (model prog w) A (Builtin.SmallTypes.nextOf (.ref I)) Q E s:=by
 obtain⟨u,hu,uc,ud⟩:=id st;obtain⟨oa,hoa,_,na,da⟩:=ta;unfold Builtin.SmallTypes.nextOf;refine wpAny_bind (wpAny_callSpecial?_slot (name:=Str.ofString "__next__") st.typeIs F.slot_tuple_iterator_next (wpAny_call_entry F.slot_tuple_iterator_next st.typeIs F.entry_tuple_iterator_next ?_ (F.args_tuple_iterator_next_1 _)));show wpAny _ _ (field (.ref I) 0 >>= _) _ _ s;refine wpAny_bind (wpAny_field hu ud (x:=.ref a) rfl ?_);show wpAny _ _ (if(Value.ref a==Value.none)=true then _ else _) _ _ s;rw[if_neg (show¬((Value.ref a==Value.none)=true) from Bool.false_ne_true)];show wpAny _ _ (field (.ref I) 1 >>= _) _ _ s;refine wpAny_bind (wpAny_field hu ud (x:=.int k 0) rfl ?_);show wpAny _ _ (seqItems? (.ref a) >>= _) _ _ s;refine wpAny_bind (wpAny_seqItems hoa da ?_);simp only[Int.toNat_natCast,hx];refine wpAny_bind (wpAny_setField hu ud (by simp) (wpAny_pure ⟨x,rfl,wpAny_pure (q _ ?_ (Heap.SameBut.update ..))⟩));exact⟨_,Heap.get?_update_self _ hu (Obj.isFreed_of_fields (Obj.data_mapFields ud _)),(Obj.cls_mapFields ..).trans uc,by rw[Obj.data_mapFields ud];simp[rawInt]⟩
theorem jn {I a:Addr}{k:Nat}{its:Array Value}{Q:Value→Shared→Prop}(hh:A.handled=none)(st:s.heap.IsTupleIter I a k)(ta:s.heap.IsTuple a its)(hx:its[k]?=none)
  (q:∀h' e,Heap.ExtBut I s.heap h'→(∃o,h'.get? e=some o∧o.cls=.type "StopIteration")→E (.ref e) {s with heap:=h'}):wpAny (model prog w) A (Builtin.SmallTypes.nextOf (.ref I)) Q E s:=by
 obtain⟨u,hu,uc,ud⟩:=id st;obtain⟨oa,hoa,_,na,da⟩:=ta;unfold Builtin.SmallTypes.nextOf;refine wpAny_bind (wpAny_callSpecial?_slot (name:=Str.ofString "__next__") st.typeIs F.slot_tuple_iterator_next (wpAny_call_entry F.slot_tuple_iterator_next st.typeIs F.entry_tuple_iterator_next ?_ (F.args_tuple_iterator_next_1 _)));show wpAny _ _ (field (.ref I) 0 >>= _) _ _ s;refine wpAny_bind (wpAny_field hu ud (x:=.ref a) rfl ?_);show wpAny _ _ (if(Value.ref a==Value.none)=true then _ else _) _ _ s;rw[if_neg (show¬((Value.ref a==Value.none)=true) from Bool.false_ne_true)];show wpAny _ _ (field (.ref I) 1 >>= _) _ _ s;refine wpAny_bind (wpAny_field hu ud (x:=.int k 0) rfl ?_);show wpAny _ _ (seqItems? (.ref a) >>= _) _ _ s;refine wpAny_bind (wpAny_seqItems hoa da ?_);simp only[Int.toNat_natCast,hx];refine wpAny_bind (wpAny_rule (wpAny_bind (wpAny_setField hu ud (by simp) ?_)));show wpAny _ _ (newExc (.type "StopIteration") [] >>= _) _ _ _;refine wpAny_bind ?_;simp only[newExc,newTuple];refine wpAny_bind (wpAny_newObj_type ?_ (by size_fits));refine wpAny_bind (m:=firstArgMember _ _) (wpAny_of_eq (a:=Value.none) (by first|rfl|(simp only[firstArgMember];rfl)) ?_);refine wpAny_newObj_type ?_ (by size_fits);simp only[raiseNew];refine wpAny_bind (wpAny_handled ?_)
 first|rw[show A.in1.handled=none from hh]|rw[hh]
 exact wpAny_bind (wpAny_pure (wpAny_throw (q _ _ (((Heap.SameBut.update ..).extBut.push _).push _) ⟨_,Heap.get?_push_size _ rfl,rfl⟩)))
end
open AutoSeq1 (wpAny_loadPart') in
section
variable {X:Cx}{af:List (Addr×Obj)}{σ:L2.St}{H:Hp}{s:Shared}
theorem li {ch:List Addr}{a:Addr}{o:HO}{h':Heap}{t':Nat}(I:L2.Inv X af σ H s)(hf:∀b∈ch,fD X af H b)(k:∀b u,b∉ch→s.heap.get? b=some u→h'.get? b=some u)
  (hp:s.heap.objs.size≤a) (new:bH X.prog X.w (bX H a o) h' a o):L2.Inv X af σ (bX H a o) {s with heap:=h',toks:=t'}:=by
 have hn:H a=none:=I.hok.fresh hp;have ne:∀{b:Addr} {u:HO},H b=some u→b≠a:=fun {b u} e z=>by rw[z,hn] at e;cases e
 have nch:∀b u,H b=some u→b∉ch:=fun b u e z=>by rw[(hf b z).1] at e;cases e
 refine I.step (g':=s.gens) (d':=s.drawn) (ch:=ch) (fun b hb=>⟨(hf b hb).2.2.2.1,(hf b hb).2.1,(hf b hb).2.2.2.2.1,(hf b hb).2.2.2.2.2⟩) (fun b u _ _ hc e _=>k b u hc e) (fun b u _ _ hc e _=>⟨u.slots,k b u hc e⟩)
  (fun b u _ e n=>by rw[aq (Nat.ne_of_lt (Nat.lt_of_lt_of_le (Heap.lt_size e) hp))];exact n) (fun b u hc e=>⟨u,k b u hc e⟩) (fun b xs e=>by rw[aq (ne e)];exact e) (fun b u v e=>by rw[aq (ne e)];exact e)
  (fun b ps e=>⟨#[],by rw[aq (ne e),e];simp⟩) (fun m hm=>?_) (fun b u e=>?_) I.bare
 ·obtain⟨u,es,ep,ho,r⟩:=hm;exact⟨u,es,ep,k _ u (fun z=>(hf _ z).2.1 rfl) ho,r⟩
 ·by_cases hb:b=a
  ·subst hb;rw[cj] at e;cases e;exact new
  ·rw[aq hb] at e;refine(I.hok b u e).stay (fun c v hc q=>k c v ?_ q) (fun c q=>by rw[aq (ne q)];exact q) fun c xs q=>by rw[aq (ne q)];exact q
   rcases hc with z|z
   ·rw[z];exact nch b u e
   ·exact nch c _ z
theorem pX {ch:List Addr}{h':Heap}{t':Nat}(I:L2.Inv X af σ H s)(hf:∀b∈ch,fD X af H b)(k:∀b u,b∉ch→s.heap.get? b=some u→h'.get? b=some u):L2.Inv X af σ H {s with heap:=h',toks:=t'}:=by
 have nch:∀b u,H b=some u→b∉ch:=fun b u e z=>by rw[(hf b z).1] at e;cases e
 refine I.step (g':=s.gens) (d':=s.drawn) (ch:=ch) (fun b hb=>⟨(hf b hb).2.2.2.1,(hf b hb).2.1,(hf b hb).2.2.2.2.1,(hf b hb).2.2.2.2.2⟩) (fun b u _ _ hc e _=>k b u hc e) (fun b u _ _ hc e _=>⟨u.slots,k b u hc e⟩)
  (fun b u _ e n=>n) (fun b u hc e=>⟨u,k b u hc e⟩) (fun b xs e=>e) (fun b u v e=>e) (fun b ps e=>⟨#[],by rw[e];simp⟩) (fun m hm=>?_) (fun b u e=>?_) I.bare
 ·obtain⟨u,es,ep,ho,r⟩:=hm;exact⟨u,es,ep,k _ u (fun z=>(hf _ z).2.1 rfl) ho,r⟩
 ·refine(I.hok b u e).stay (fun c v hc q=>k c v ?_ q) (fun c q=>q) fun c xs q=>q
  rcases hc with z|z
  ·rw[z];exact nch b u e
  ·exact nch c _ z
end
end DL
namespace DL
open PySem PySem.Spec PyProof.Rows L2 List
section
variable {X:Cx}{e o lo hi:Expr}{g go gl gh:GE}{pos ip sp:Pos}
def jV (i j:Nat)(ga:GA):GS:=fun ρ M=>(ga ρ M).bind fun ds M1=>match ds with
 | [d,e]=>.ok (.nx ((ρ.set i (some d)).set j (some e))) M1
 | _=>.bad
theorem xf {i j:Nat}{x y:Str}{a b:Expr}{ga:GA}{px py pt:Pos}{kt k2 pt2}(hc:X.calm=true)(hN:X.N.Nodup)(hi:X.N[i]?=some x)(hj:X.N[j]?=some y)(hij:i≠j)
  (hx:X.env.scope.names.lookup x=some .local) (hy:X.env.scope.names.lookup y=some .local) (ha:PA X [a,b] (tA X ga))
  (hw:swappedStores [.Tuple [.Name x px,.Name y py] kt pt] (.Tuple [a,b] k2 pt2) X.env=pure (some [x,y]))
  (hs:swapsWithSole [.Tuple [.Name x px,.Name y py] kt pt] (.Tuple [a,b] k2 pt2) pos.line X.env=pure false:=by rfl) :
  PS X (.Assign [.Tuple [.Name x px,.Name y py] kt pt] (.Tuple [a,b] k2 pt2) pos) (tS X (jV i j ga)):=(yj hc hN hi hj hij hx hy ha hw hs).of fun D σ H hxx=>by
 obtain⟨ρ,θ,M,hd,hwr,h⟩:=hxx;refine hG hd hwr (bK X θ H D) (fun c M' h=>h) (fun h=>h) h fun ds M1 vs θ1 H1 g1 r1 h1=>?_
 match ds,r1,h1 with
 | [d,e],⟨v,r,e1,rv,v2,r2,e2,rv2,e3⟩,h1=>
  have e3:r2=[]:=e3;subst e3 e2;exact⟨v,v2,e1,h1 _ θ1 H1 g1 (((hd.go g1).set rv i).set rv2 j)⟩
 | [],_,h1=>exact False.elim h1
 | [_],_,h1=>exact False.elim h1
 | _::_::_::_,_,h1=>exact False.elim h1
end
def H0 (K:W.Frag)(a:Addr)(so:Obj)(xs:List V)(ts:List Addr)(bm:Addr)(ob:Obj):Hp:=fun b=>
 if b=a then(if K.lookup a=none then some (.frz so (.lst xs)) else none) else if b∈ts then some (.tbl #[]) else if b=bm then some (Dr ob) else none
structure CP (K:W.Frag)(x:Str)(c P:Addr):Prop where
 mem:x∈dE
 tab:W.tabIn K x=some (c,P)
 uniq:∀y,y∈dE→y≠x→∀c2,W.tabIn K y≠some (c2,P)
 hd:∃o vs file tf flags tg inF text tt,K.lookup c=some o∧o.cls=.type "code"∧o.data=.fields vs∧vs[11]?=some (.ref P)∧vs.getD 11 .none=.ref P∧vs.getD 18 .none=.str file tf∧
  vs.getD 7 .none=.int flags tg∧vs.getD 9 .none=.bool inF∧vs.getD 10 .none=.int text tt∧c≠P
def wl:List D→Option (List Int)
 | []=>some []
 | .int i::r=>(wl r).map (i::·)
 | _=>none
def Bs:D→Option (List Int)
 | .tup ds=>wl ds
 | _=>none
end DL
namespace DL
open PySem PySem.Spec PyProof.Rows L2 List
section
open PySem.SeqAt
open PySem.AutoSeq1 (wpAny_loadPart')
open PySem.MeetsSeq PySem.MeetsSeq2 PySem.MeetsSeq3
end
end DL
namespace DL
open PySem PySem.Spec PyProof.Rows L2 List
end DL
namespace DL
open PySem PySem.Spec PyProof.Rows L2 List
section
open Builtin Builtin.Str
end
end DL
namespace DL
open PySem PySem.Spec PyProof.Rows L2 List
structure QE (X:Cx)(e:Expr)(g:GE):Prop where
 h:PE X e (tE X g)
structure QT (X:Cx)(e:Expr)(g:GT):Prop where
 h:PT X e (tT X g)
structure QW (X:Cx)(e:Expr)(g:GT):Prop where
 h:PW X e (tT X g)
structure QA (X:Cx)(es:List Expr)(g:GA):Prop where
 h:PA X es (tA X g)
structure QS (X:Cx)(st:Stmt)(g:GS):Prop where
 h:PS X st (tS X g)
structure QB (X:Cx)(st:List Stmt)(g:GS):Prop where
 h:PSs X st (tS X g)
structure QI (X:Cx)(tg e:Expr)(g:GI):Prop where
 h:PI X tg e (tI X g)
structure QG (X:Cx)(tg:Expr)(s:GG):Prop where
 h:PG X tg (tG X s)
structure Bo (X:Cx)(tgs:List Expr)(is:List Nat):Prop where
 h:uw X tgs (BE X is)
structure QP (X:Cx)(e:Option Expr)(g:GO):Prop where
 h:PO X e (tO X g)
structure Q2 (X:Cx)(f:Value→Value→Sem Value)(F:F2):Prop where
 h:dO X f (rD X F)
structure QC (X:Cx)(f:Value)(F:FD):Prop where
 h:bY X f (rC X F)
structure tU (X:Cx)(scope:Scope)(xs:List Str)(R:List Str)(ifs:List Expr)(gc:GT):Prop where
 h:eD X scope xs R ifs gc
structure QO (n:Nat)(sg:GG):Prop where
 h:iQ n sg
section
variable {X:Cx}{e a b c o i:Expr}{es rest:List Expr}{x:Str}{p p2 pos pos':Pos}{g ga gb gc go gi ge:GE}{ta tb:GT}{gA:GA}
theorem Bm:Q2 X (binaryOp .Add) aV:=⟨xM⟩
theorem Aw:Q2 X (binaryOp .Sub) bN:=⟨yl⟩
theorem BB:Q2 X (binaryOp .Mult) cE:=⟨zd⟩
theorem yr:Q2 X (binaryOp .FloorDiv) bE:=⟨tZ⟩
theorem Bp:Q2 X (binaryOp .Mod) cH:=⟨xq⟩
theorem zZ:Q2 X (binaryOp .Pow) jK:=⟨wW⟩
theorem CM:Q2 X (compareOp .Lt) m6:=⟨BG⟩
theorem Di:Q2 X (compareOp .LtE) oo:=⟨A4⟩
theorem CO:Q2 X (compareOp .Gt) jI:=⟨AA⟩
theorem C7:Q2 X (compareOp .GtE) uB:=⟨BL⟩
theorem Df {k:Nat}(hr:cq k X.A):Q2 X (compareOp .Eq) (dH false):=⟨Bb hr.units⟩
theorem Cj {k:Nat}(hr:cq k X.A):Q2 X (compareOp .NotEq) (dH true):=⟨AG hr.units⟩
theorem CB:Q2 X (compareOp .Is) (iT false):=⟨AN⟩
theorem uu:Q2 X (compareOp .IsNot) (iT true):=⟨rX⟩
theorem Ck:Q2 X (compareOp .In) (lz false):=⟨BO⟩
theorem Aj:QC X (.builtin "len") cT:=⟨zn⟩
theorem AF (hc:X.calm=true:=by rfl):QC X (.builtin "min") kY:=⟨wX hc⟩
theorem Bl (hc:X.calm=true:=by rfl):QC X (.builtin "max") iR:=⟨yG hc⟩
theorem zS:QC X (.type "int") m9:=⟨yp⟩
theorem yz:QC X (.type "list") fF:=⟨vq⟩
theorem uy:QC X (.type "tuple") bp:=⟨sD⟩
theorem qv (i:Nat){x:Str}{pos:Pos}(hN:X.N[i]?=some x:=by rfl)(hv:Aa X.env.scope x:=by first|exact Or.inl rfl|exact Or.inr (Or.inl rfl)|exact Or.inr (Or.inr rfl))(hd:(x==("__debug__":Str))=false:=by decide)
  (hcd:(x==("__classdict__":Str))=false:=by decide):QE X (.Name x pos) (ae i):=⟨vv i hN hv hd hcd⟩
theorem xU {i:Int}{j pos}:QE X (.Constant (.int i) j pos) (gC (.int i)):=⟨xr⟩
theorem Bn {b j pos}:QE X (.Constant (.bool b) j pos) (gC (.bl b)):=⟨AY⟩
theorem zy {j pos}:QE X (.Constant .none j pos) (gC .non):=⟨wU⟩
theorem wN (h:QE X a g):QE X (.UnaryOp .USub a pos) (eX g):=⟨zm h.h⟩
theorem Al {op:Operator}{f:F2}(ho:Q2 X (binaryOp op) f)(ha:QE X a ga)(hb:QE X b gb):QE X (.BinOp a op b pos) (g2 f ga gb):=⟨AW ho.h ha.h hb.h⟩
def wY:CmpOp→Bool
 | .In=>false
 | .NotIn=>false
 | _=>true
theorem kJ {op:CmpOp}{b:Expr}(h:wY op=true):behindInMarks op b=false:=by
 cases op <;> first|exact zi _|(cases h)
theorem xj {op:CmpOp}{f:F2}(ho:Q2 X (compareOp op) f)(ha:QE X a ga)(hb:QE X b gb)(hm:wY op=true:=by rfl):QE X (.Compare a [op] [b] pos) (g2 f ga gb):=⟨yX ho.h ha.h hb.h (kJ hm)⟩
theorem xC {op:CmpOp}{f:F2}(ho:Q2 X (compareOp op) f)(ha:QE X a ga)(hb:QE X b gb)(hm:wY op=true:=by rfl):QT X (.Compare a [op] [b] pos) (aY (g2 f ga gb)):=⟨qS ho.h ha.h hb.h (kJ hm)⟩
theorem wa {op:CmpOp}{f:F2}(ho:Q2 X (compareOp op) f)(ha:QE X a ga)(hb:QE X b gb)(hm:behindInMarks op b=false:=by with_unfolding_all rfl):QT X (.Compare a [op] [b] pos) (aY (g2 f ga gb)):=⟨qS ho.h ha.h hb.h hm⟩
theorem qG {op op':CmpOp}{f f':F2}(ho:Q2 X (compareOp op) f)(ho':Q2 X (compareOp op') f')(ha:QE X a ga)(hb:QE X b gb)(hc:QE X c gc)(hm:lastMarks [op,op'] [b,c]=false:=by with_unfolding_all rfl):QT X (.Compare a [op,op'] [b,c] pos) (aY (ph f f' ga gb gc)):=⟨qT ho.h ho'.h ha.h hb.h hc.h hm⟩
theorem yV {op}(h:QE X a g):QE X (.BoolOp op [a] pos) g:=⟨wR h.h⟩
theorem u9 (ha:QT X a ta):QW X (.BoolOp .And [a] pos) ta:=⟨ub ha.h⟩
theorem xo (ha:QT X a ta):QW X (.BoolOp .Or [a] pos) ta:=⟨xl ha.h⟩
theorem yZ (ha:QT X a ta)(hb:QW X (.BoolOp .And (b::rest) pos) tb):QW X (.BoolOp .And (a::b::rest) pos) (dD ta tb):=⟨xY ha.h hb.h⟩
theorem AQ (ha:QT X a ta)(hb:QW X (.BoolOp .Or (b::rest) pos) tb):QW X (.BoolOp .Or (a::b::rest) pos) (iY ta tb):=⟨Af ha.h hb.h⟩
theorem AT (h:QW X a ta):QT X a ta:=⟨PW.pt h.h⟩
theorem zj (h:QT X a ta):QT X (.UnaryOp .Not a pos) (fW ta):=⟨xt h.h⟩
theorem ye (h:QE X a g)(he:∀whole,isTrue a X.env whole=(do let v ←whole;standAt a.pos;holding [v] (truthy v)):=by intro _;rfl):QT X a (jJ g):=⟨yN h.h he⟩
theorem zz:QA X [] ag:=⟨yo⟩
theorem CT {gr:GA}(ha:QE X e g)(hr:QA X es gr)(h:bw e=true:=by rfl):QA X (e::es) (aa g gr):=⟨Ca ha.h hr.h h⟩
theorem yv {x1}(h:QA X es gA):QE X (.Tuple es x1 pos) (aK gA):=⟨xA h.h⟩
theorem yf (h:QA X es gA):QE X (.List es pos) (d7 gA):=⟨yK h.h⟩
theorem wZ (h:QA X es gA):QE X (.List es pos) (fU gA):=⟨yM h.h⟩
theorem v4:QP X none c7:=⟨vc⟩
theorem uH (h:QE X e g):QP X (some e) (fX g):=⟨uj h.h⟩
theorem sY {lo hi:Option Expr}{gl gh:GO}(he:QE X e g)(hl:QP X lo gl)(hh:QP X hi gh):QE X (.Subscript e (.Slice lo hi none p2) pos) (sL g gl gh):=⟨sN he.h hl.h hh.h⟩
theorem AO (ha:QE X a ga)(hb:QE X b gb)(hs:lA b:=by intro _ _;rfl):QE X (.Subscript a b pos) (g2 bi ga gb):=⟨z8 ha.h hb.h hs⟩
section
variable {apos cpos:Pos}{k n:Nat}{f:Addr}{fd:FuncData}{ps:List Str}{F:FD}{T:String}{id:String}
theorem qj (ho:QE X o go)(he:QE X e ge)(h1:bw e=true:=by rfl)(hbase:attributeBase o "append" X.env (eval o X.env)=eval o X.env:=by rfl)(hline:(apos.endLine==cpos.line)=true:=by rfl):QE X (.Call (.Attribute o "append" apos) [e] [] cpos) (ix go ge):=⟨pE ho.h he.h hbase (tz h1) hline (sE h1) rfl⟩
theorem Ap (Fn:ej X.prog X.w X.K X.mg X.base (iN X.prog X.w) k f fd ps (nO X.K n F))(hr:cq k X.A)(hg:Gl X x)(hm:X.mg x=some (.ref f))(hk:W.keepIn X.K (.ref f)=true)(hb:fz X.K fd ps [])(ha:QA X (e::es) gA)
  (hdb:(x==("__debug__":Str))=false:=by decide) (h1:bw e=true:=by rfl) (h2:cK es=true:=by rfl):QE X (.Call (.Name x p) (e::es) [] pos) (ak n F gA):=⟨A6 Fn hr hg hm hk hb ha.h hdb h1 h2⟩
theorem A3 (hc:QC X (.builtin id) F)(hg:Gl X x)(hm:X.mg x=none)(hv:bootBuiltins x=some (.builtin id))(ha:QA X (e::es) gA)(hn:x≠"__name__":=by decide)(hdb:(x==("__debug__":Str))=false:=by decide)
  (h1:bw e=true:=by rfl) (h2:cK es=true:=by rfl):QE X (.Call (.Name x p) (e::es) [] pos) (aL F gA):=⟨An hc.h hg hm hv ha.h hn hdb h1 h2⟩
theorem Bk (hc:QC X (.type T) F)(hg:Gl X x)(hm:X.mg x=none)(hv:bootBuiltins x=some (.type T))(ha:QA X (e::es) gA)(hn:x≠"__name__":=by decide)(hdb:(x==("__debug__":Str))=false:=by decide)
  (h1:bw e=true:=by rfl) (h2:cK es=true:=by rfl):QE X (.Call (.Name x p) (e::es) [] pos) (aL F gA):=⟨BN hc.h hg hm hv ha.h hn hdb h1 h2⟩
theorem zV (hT:hR T)(hv:bootBuiltins x=some (.type T))(hg:Gl X x)(hm:X.mg x=none)(hgi:Gl X "isinstance")(hmi:X.mg "isinstance"=none)(he:QE X e g)
  (h1:bw e=true:=by rfl) (hn:x≠"__name__":=by decide) (hd:(x==("__debug__":Str))=false:=by decide):QE X (.Call (.Name "isinstance" p) [e,.Name x p2] [] pos) (je T g):=⟨zX hT hv hg hm hgi hmi he.h h1 hn hd⟩
end
theorem Bf {tg:Expr}(hg:Gl X "range")(hm:X.mg "range"=none)(ha:QA X [a] gA)(h1:bw a=true:=by rfl):QI X tg (.Call (.Name "range" p) [a] [] pos) (dB gA):=⟨Ai hg hm ha.h h1⟩
theorem xE {tg:Expr}(h:QE X e g):QI X tg e (bO g):=⟨zx h.h⟩
section
variable {scope:Scope}{R:List Str}{iter elt:Expr}{ifs:List Expr}{gI:GI}{gC:GT}{px:Pos}{mk:List D→am→aF D}
theorem pO {xs:List Str}:tU X scope xs R [] cz:=⟨rj⟩
theorem p7 {xs:List Str}(h:∀fp s2 H2 C,QT (ah X scope xs R fp s2 H2 C) c ta):tU X scope xs R [c] ta:=⟨tN fun fp s2 H2 C=>(h fp s2 H2 C).h⟩
theorem nZ (hS:bU scope X.env.kindOf [x] R X.N=true)(hm:mk=aQ∨mk=cO)(hi:QI X (.Name x px) iter gI)(hts:tU X scope [x] R ifs gC)(he:∀fp s H C,QE (ah X scope [x] R fp s H C) elt ge)
  (hc:X.calm=true:=by rfl) (hs:∀x,foldedSetIterable iter X.env x=pure x:=by intro _;rfl):QE X (.ListComp elt [⟨.Name x px,iter,ifs,0⟩] scope pos) (bV gI gC ge mk):=⟨vG hS hc hm hi.h hts.h (fun fp s H C=>(he fp s H C).h) hs⟩
theorem yC (n i:Nat)(h:i<n:=by decide):QO n (bL i):=⟨oi h⟩
theorem wV (n:Nat){is:List Nat}(h:is.all (fun i=>decide (i<n))=true:=by rfl):QO n (cp is):=⟨ug h⟩
theorem kj {xs:List Str}{fp:List Addr}{s:Shared}{H:Hp}{C:Addr}{y:Str}(hS:bU scope X.env.kindOf xs R X.N=true)(h:y∈xs):(ah X scope xs R fp s H C).env.scope.names.lookup y=some .local:=lookup_relabel_local ((bg.of hS).own y h)
theorem Dz {xs:List Str}{fp:List Addr}{s:Shared}{H:Hp}{C:Addr}{y:Str}(i:Nat)(hS:bU scope X.env.kindOf xs R X.N=true)(hi:(xs++R)[i]?=some y:=by rfl)(hx:y∈xs:=by simp):QG (ah X scope xs R fp s H C) (.Name y pos) (bL i):=
 ⟨lI (X:=ah X scope xs R fp s H C) (bg.of hS).nd hi (.inl (kj hS hx)) (.inr (kj hS hx))⟩
theorem qP {tg:Expr}{sg:GG}(xs:List Str)(hS:bU scope X.env.kindOf xs R X.N=true)(hm:mk=aQ∨mk=cO)(own:QO xs.length sg)(hi:QI X tg iter gI)(hg:∀fp s H C,QG (ah X scope xs R fp s H C) tg sg)(hts:tU X scope xs R ifs gC)(he:∀fp s H C,QE (ah X scope xs R fp s H C) elt ge)
  (hc:X.calm=true:=by rfl) (hs:∀x,foldedSetIterable iter X.env x=pure x:=by intro _;rfl):QE X (.ListComp elt [⟨tg,iter,ifs,0⟩] scope pos) (cU gI xs.length sg gC ge mk):=⟨mh hS hc hm hi.h own.h (fun fp s H C=>(hg fp s H C).h) hts.h (fun fp s H C=>(he fp s H C).h) hs⟩
end
def gU:Expr→Bool
 | .ListComp ..=>false
 | .SetComp ..=>false
 | .DictComp ..=>false
 | _=>true
theorem gP {t:Option Expr}{l:Nat}{env:Env}(h:gU e=true):swapsWith e t l env=pure false:=by
 cases e <;> first|rfl|exact ff h
section
variable {st:Stmt}{stmts:List Stmt}{t u:GS}
theorem yb:QB X [] bG:=⟨xn⟩
theorem uZ (h1:QS X st t)(h2:QB X stmts u):QB X (st::stmts) (ar t u):=⟨vK h1.h h2.h⟩
theorem yt (h1:QS X st t):QB X [st] t:=⟨xp h1.h⟩
theorem yP (i:Nat){x:Str}(hN:X.N.Nodup)(he:QE X e g)(hi:X.N[i]?=some x:=by rfl)(hx:tR X.env.scope x:=by first|exact Or.inl rfl|exact Or.inr rfl)(hs:gU e=true:=by rfl)(hf:X.fn x=true∨X.env.scope.names.lookup x=some .local:=by first|exact .inl rfl|exact .inr rfl) :
  QS X (.Assign [.Name x pos'] e pos) (aB i g):=⟨ss i hN he.h hi hx (gP hs) hf⟩
theorem yI (he:QE X e g):QS X (.Return (some e) pos) (aR g):=⟨yQ he.h⟩
theorem uo (he:QE X e g)(hs:gU e=true:=by rfl):QS X (.Expr e pos) (fi g):=⟨ui he.h (gP hs)⟩
theorem As {a b:List Stmt}{tc:GT}(hc:QT X c tc)(ha:QB X a t)(hb:QB X b u):QS X (.If c a b pos) (gG tc t u):=⟨A8 hc.h ha.h hb.h⟩
theorem qn (i:Nat){x:Str}(hN:X.N.Nodup)(hi:X.N[i]?=some x:=by rfl)(hx:tR X.env.scope x:=by first|exact Or.inl rfl|exact Or.inr rfl)(hf:X.fn x=true∨X.env.scope.names.lookup x=some .local:=by first|exact .inl rfl|exact .inr rfl):QG X (.Name x pos) (bL i):=⟨gg i hN hi hx hf⟩
theorem uQ:Bo X [] []:=⟨vg⟩
theorem A1 {i:Nat}{is:List Nat}(h1:QG X e (bL i))(h2:Bo X es is)(hs:(assignEach (e::es) X.env).map (·.2)=assign e X.env::(assignEach es X.env).map (·.2):=by rfl):Bo X (e::es) (i::is):=⟨qZ h1.h h2.h hs⟩
theorem wK {is:List Nat}{k n:Nat}(h:Bo X es is)(hc:X.calm=true:=by rfl)(hl:is.length=n:=by rfl)(hn:(assignEach es X.env).length=n:=by rfl)(hst:(assignEach es X.env).findIdx? (·.1)=none:=by rfl):QG X (.Tuple es k pos) (cp is):=⟨yu hc h.h hl hn hst⟩
theorem xh {tg:Expr}{s:GG}(he:QE X e g)(hg:QG X tg s)(hs:gU e=true:=by rfl)(hw:swappedStores [tg] e X.env=pure none:=by rfl)(h1:(assignEach [tg] X.env).map (·.2)=[assign tg X.env]:=by rfl):QS X (.Assign [tg] e pos) (cR s g):=⟨xK he.h hg.h (gP hs) hw h1⟩
theorem yq {ip:Pos}(he:QE X e g)(ho:QE X o go)(hi:QE X i gi)
  (ha:∀v,assign (.Subscript o i ip) X.env v=(do
   let ov ←holding [v] (eval o X.env)
   let iv ←holding [v,ov] (eval i X.env)
   standAt ip
   holding [v,ov,iv] (setItem ov iv v)
   release [v,ov,iv] []):=by intro _;rfl)
  (hs:gU e=true:=by rfl) (hw:swappedStores [.Subscript o i ip] e X.env=pure none:=by rfl):QS X (.Assign [.Subscript o i ip] e pos) (fR go gi g):=⟨zc he.h ho.h hi.h ha (by unfold swapsWithSole;exact gP hs) hw rfl⟩
theorem xN {tg iter:Expr}{body:List Stmt}{gI:GI}{sg:GG}{gB:GS}(hp:PassesOwn (model X.prog X.w) X.A X.env X.xe)(hi:QI X tg iter gI)(hg:QG X tg sg)(hb:QB X body gB)(hc:X.calm=true:=by rfl)(hs:∀x,foldedSetIterable iter X.env x=pure x:=by intro _;rfl) :
  QS X (.For tg iter body [] pos) (hZ gI sg gB):=⟨xX hp hc hi.h hg.h hb.h hs⟩
theorem sr {body:List Stmt}{tc:GT}{gB:GS}{n:Nat}(hp:PassesOwn (model X.prog X.w) X.A X.env X.xe)(hc:QT X c tc)(hb:QB X body gB):QS X (.While c body [] pos) (dX n tc gB):=⟨rN hp hc.h hb.h⟩
end
end
section
variable {X:Cx}{e o lo hi i:Expr}{g go gl gh:GE}{pos ip sp dpos p1 p2:Pos}{keys:List (Option Expr)}{values:List Expr}{tab:List (Str×Int)}
theorem xg {i j:Nat}{x y:Str}{a b:Expr}{ga:GA}{px py pt:Pos}{kt k2 pt2}(hN:X.N.Nodup)(ha:QA X [a,b] ga)(hc:X.calm=true:=by rfl)(hi:X.N[i]?=some x:=by rfl)(hj:X.N[j]?=some y:=by rfl)(hij:i≠j:=by decide)
  (hx:X.env.scope.names.lookup x=some .local:=by rfl) (hy:X.env.scope.names.lookup y=some .local:=by rfl)
  (hw:swappedStores [.Tuple [.Name x px,.Name y py] kt pt] (.Tuple [a,b] k2 pt2) X.env=pure (some [x,y]):=by rfl) :
  QS X (.Assign [.Tuple [.Name x px,.Name y py] kt pt] (.Tuple [a,b] k2 pt2) pos) (jV i j ga):=⟨xf hc hN hi hj hij hx hy ha.h hw rfl⟩
end
structure Mf (K:W.Frag)(C:Addr)(x qual:Str)(st:Stmt)(f:Addr)(fd:FuncData)(ps:List Str):Prop where
 F:xP K x qual st f fd
 me:Ce K C x f
 b:fz K fd ps []
theorem AB {P:Program}{w:World}{K:W.Frag}{mg:Str→Option Value}{base:Heap}{x qual:Str}{st:Stmt}{f:Addr}{fd:FuncData}{N ps:List Str}{k n:Nat}{g:GS}(F:xP K x qual st f fd)(S:fM N ps (aW st))(hn:ps.length=n)
  (hbody:∀(cdv:Value) (A:Around) (outer:List Env) (s:Shared) (H:Hp) (E:XK),cq k (A.deeper (envOfC qual (aW st) s.heap.objs.size f cdv))→QB (gZ (iN P w) P w K mg base N qual (aW st) f cdv A outer s H E) (c9 st) g) :
  ej P w K mg base (iN P w) (k+1) f fd ps (nO K n (ck (N.length-n) g)):=CY F S hn fun cdv A outer s H E hr=>(hbody cdv A outer s H E hr).h
theorem xb {l:W.OpenLaw}{n k:Nat}{q:Program}{loose:List Str}{XP:(Str→Option Value)→Heap→Prop}{YP:World→Heap→Prop}{d:DefRec}{K:Params→W.Frag}{x:Str}{F:FD}
  (hn:l.most=some n) (hn2:n≤sizeLine) (hdf:d.params.defaults=[]) (hr:cq k callerA) (hY:∀(w:World) (h:Heap),YP w h→(K w.params).In h)
  (hF:∀(w:World) (mg:Str→Option Value) (fa:Addr) (h:Heap),(K w.params).In h→h.Ns mainGlobals mg→mg d.name=some (.ref fa)→
   ∃fd:FuncData,(∀(s:Shared) (u:Value),BindsTo s fd ⟨[u],[]⟩ [(x,u)])∧∀base:Heap,(K w.params).In base→base.Ns mainGlobals mg→ej l.prog w (K w.params) mg base (iN l.prog w) k fa fd [x] (nO (K w.params) 1 F))
  (h1:∀w:World,W.nsIn (K w.params) mainGlobals "ink_shown"=some none) (h2:∀w:World,W.nsIn (K w.params) mainGlobals "table_within"=some none)
  (h3:∀w:World,W.nsIn (K w.params) mainGlobals "slots_given"=some none) (h4:∀w:World,W.nsIn (K w.params) mainGlobals "cast_on_slots"=some none)
  (ht:∀ns:List Int,ns.length≤n→∃M',F [.ro (ns.map D.int)] []=.ok (.bl true) M') :
  W.WalkO q loose XP YP l.row.toRowW d [] (fun f vs=>PySem.call f vs):=
 L2.walk_of (CX:=fun w=>iN l.prog w) (sp:=fun w=>nO (K w.params) 1 F) hn hn2 hdf hr hY hF (fun w H a ns hl _ hS=>ya (.no fun y hy=>by
  simp only[dE,mem_cons,not_mem_nil,or_false] at hy;rcases hy with rfl|rfl|rfl|rfl
  ·exact h1 w
  ·exact h2 w
  ·exact h3 w
  ·exact h4 w) hS (ht ns hl)) fun w H s e s' z=>BJ z
end DL
namespace PySem
end PySem
namespace L2
open PySem PySem.Spec PyProof.Rows List
def sortI (ns:List Int):List Int:=ns.mergeSort fun a b=>decide (a≤b)
end L2
namespace DL
open PySem PySem.Spec PyProof.Rows L2 List
def oM:D→Option bF
 | .int i=>some (.inl i)
 | .str x=>some (.inr x)
 | _=>none
def pq:List D→Option (List bF)
 | []=>some []
 | d::ds=>match oM d,pq ds with
  | some k,some ks=>some (k::ks)
  | _,_=>none
def jE:D→Option (List bF)
 | .tup ds=>pq ds
 | _=>none
def cX {κ:Type}[DecidableEq κ](kvs:List (κ×D))(k:κ):Option D:=(kvs.find? fun kv=>decide (kv.1=k)).map (·.2)
section
variable {K:W.Frag}{θ:List Addr}{H:Hp}
theorem Aq {d:D}{k:bF}{v:V}(e:oM d=some k)(r:cD K θ H d v):v=kV k:=by
 cases d <;> simp only[oM,Option.some.injEq,reduceCtorEq] at e
 ·subst e;exact r
 ·subst e;exact r
theorem sQ:∀{ds:List D} {ks:List bF} {vs:List V},pq ds=some ks→aH K θ H ds vs→vs=ks.map kV
 | [],ks,vs,e,r=>by
  simp only[pq,Option.some.injEq] at e;subst e;exact r
 | d::ds,ks,vs,e,r=>by
  obtain⟨v,us,e1,r1,r2⟩:=r;simp only[pq] at e;cases q1:oM d with
  | none=>rw[q1] at e;cases e
  | some k=>
   cases q2:pq ds with
   | none=>rw[q1,q2] at e;cases e
   | some ks'=>
    rw[q1,q2] at e;cases e;rw[e1,Aq q1 r1,sQ q2 r2];rfl
theorem xZ {d:D}{ks:List bF}{v:V}(e:jE d=some ks)(r:cD K θ H d v):∃b,v=.ref b∧H b=some (.tup (ks.map kV))∧b∉θ:=by
 cases d with
 | tup ds=>
  obtain⟨a,vs,e1,t,r1⟩:=r;rw[sQ e r1] at t;exact⟨a,e1,t.1,t.2⟩
 | _=>cases e
section
variable {κ:Type}[DecidableEq κ]
theorem qx {p:κ×D}{r:List (κ×D)}{k:κ}(e:p.1=k):cX (p::r) k=some p.2:=by simp[cX,find?_cons,e]
theorem qB {p:κ×D}{r:List (κ×D)}{k:κ}(e:¬p.1=k):cX (p::r) k=cX r k:=by simp[cX,find?_cons,e]
theorem ik:∀{fs:List (κ×D)} {vs:List (κ×V)} (k:κ),gR K θ H fs vs→(∀d,cX fs k=some d→∃v,fS vs k=some v∧cD K θ H d v)∧(cX fs k=none→fS vs k=none)
 | [],vs,k,r=>by
  have e:vs=[]:=r;subst e;exact⟨fun d h=>(by cases h),fun _=>rfl⟩
 | p::fs,vs,k,r=>by
  obtain⟨k0,d0⟩:=p;obtain⟨v,us,e,h1,h2⟩:=r;subst e
  by_cases q:k0=k
  ·rw[qx (p:=(k0,d0)) q,hX (p:=(k0,v)) q];exact⟨fun d h=>(by cases h;exact⟨v,rfl,h1⟩),fun h=>(by cases h)⟩
  ·rw[qB (p:=(k0,d0)) q,gY (p:=(k0,v)) q];exact ik k h2
theorem jX {k:κ}{d:D}{v:V}(h:cD K θ H d v):∀{fs:List (κ×D)} {vs:List (κ×V)},gR K θ H fs vs→gR K θ H (fs++[(k,d)]) (vs++[(k,v)])
 | [],vs,r=>by
  have e:vs=[]:=r;subst e;exact⟨v,[],rfl,h,rfl⟩
 | (k0,d0)::fs,vs,r=>by
  obtain⟨u,us,e,h1,h2⟩:=r;subst e;exact⟨u,us++[(k,v)],rfl,h1,jX h h2⟩
theorem dN:∀{fs:List (κ×D)} {vs:List (κ×V)},gR K θ H fs vs→fs.length=vs.length
 | [],vs,r=>by
  have e:vs=[]:=r;subst e;rfl
 | (k0,d0)::fs,vs,r=>by
  obtain⟨u,us,e,h1,h2⟩:=r;subst e;rw[length_cons,length_cons,dN h2]
end
end
section
variable {X:Cx}{pos apos cpos:Pos}{o e f:Expr}
def mV:GE:=fun _ M=>.ok (.mr M.length) (M++[.dT []])
theorem v7:PE X (.Dict [] [] pos) (tE X mV):=sW.of fun σ H Q ⟨ρ,θ,M,hd,hw,h⟩ p hp=>by
 have h:aE X θ H Q (.ok (.mr M.length) (M++[.dT []])):=h;exact h _ _ _ (nV hw hp ⟨[],cj,rfl⟩) (rE hw)
def Bw:List D→Option (List Int)
 | []=>some []
 | .int i::ds=>(Bw ds).map (i::·)
 | _::_=>none
end
section
variable {X:Cx}{pos apos cpos:Pos}{o e f:Expr}{go gy gz:GE}
theorem uD:QE X (.Dict [] [] pos) mV:=⟨v7⟩
end
end DL
namespace L2
open PySem PySem.Spec PyProof.Rows List
end L2
namespace DL
open PySem PySem.Spec PyProof.Rows L2 List
end DL
namespace L2
open PySem PySem.Spec PyProof.Rows List
end L2
namespace DL
open PySem PySem.Spec PyProof.Rows L2 List
theorem bP {N ps:List Str}{sc:Scope}(h1:sc.kind=.function:=by rfl)(h2:sc.isCoroutine=false:=by rfl)(h3:sc.isGenerator=false:=by rfl)(h4:N.Nodup:=by decide +kernel)(h5:N.take ps.length=ps:=by rfl)
  (h6:∀x∈ps,sc.names.lookup x=some .local∨sc.names.lookup x=some .cell:=by decide +kernel) (h7:∀y∈sc.names,y.2≠.free:=by decide +kernel):fM N ps sc:=⟨h1,h2,h3,h4,h5,h6,h7⟩
section
variable {X:Cx}{e:Expr}{es:List Expr}{x:Str}{p pos:Pos}{gA:GA}{k k' n:Nat}{f:Addr}{fd:FuncData}{ps:List Str}{F:FD}{st:Stmt}{id:String}{T:String}
theorem Ac (hc:QC X (.builtin id) F)(hm:X.mg x=none)(hv:bootBuiltins x=some (.builtin id))(ha:QA X (e::es) gA)(hg:Gl X x:=by rfl)(hn:x≠"__name__":=by decide)(hdb:(x==("__debug__":Str))=false:=by decide)
  (h1:bw e=true:=by rfl) (h2:cK es=true:=by rfl):QE X (.Call (.Name x p) (e::es) [] pos) (aL F gA):=A3 hc hg hm hv ha hn hdb h1 h2
end
def FF (K:W.Frag)(mg:Str→Option Value)(x:Str)(st:Stmt)(ps:List Str):Prop:=∃f fd,Fn K mg x st f fd ps
def KC (K:W.Frag)(mg:Str→Option Value)(c:Str)(C:Addr):Prop:=Kc K mg c C∧W.makesIn K C=true∧W.keepIn K (.ref C)=true
def MF (K:W.Frag)(mg:Str→Option Value)(c m q:Str)(st:Stmt)(ps:List Str):Prop:=∃C f fd,KC K mg c C∧Mf K C m q st f fd ps
def LF (K:W.Frag)(mg:Str→Option Value)(x:Str)(st:Stmt)(ps:List Str):Prop:=∃f fd c P,Fn K mg x st f fd ps∧W.nsIn K mainGlobals x=some (some (.ref f))∧CP K x c P
def NA (K:W.Frag)(mg:Str→Option Value)(c f:Str):Prop:=∃C,KC K mg c C∧zv K C f
def EX (K:W.Frag)(mg:Str→Option Value)(x:Str):Prop:=∃C,Ec K mg x C
def IX (K:W.Frag)(mg:Str→Option Value)(x:Str)(tab:List (Str×Bool)):Prop:=∃G,Ec K mg x G∧∀p∈tab,∃C,Ec K mg p.1 C∧W.mroIn K C (.ref G)=some p.2
def IB (K:W.Frag)(mg:Str→Option Value)(x:String)(tab:List (Str×Bool)):Prop:=∀p∈tab,∃C,Ec K mg p.1 C∧W.mroIn K C (.type x)=some p.2
def Ls {α:Type}(P:α→Prop)(l:List α):Prop:=∀t∈l,P t
section
variable {α β γ:Type}{P:α→Prop}{l:List α}{a:α}
theorem Ls.nil:Ls P []:=fun _ h=>by cases h
theorem Ls.cons (h:P a)(t:Ls P l):Ls P (a::l):=fun x hx=>by
 rcases mem_cons.mp hx with e|e
 ·rw[e];exact h
 ·exact t x e
end
structure RN (l c:Nat)(xs R:List Str):Prop
theorem rn (l c:Nat)(xs R:List Str):RN l c xs R:=⟨⟩
def Ok (P:Program)(w:World)(K:W.Frag)(mg:Str→Option Value)(base:Heap)(x:Str)(k n:Nat)(F:FD):Prop:=
 ∃f fd ps,ej P w K mg base (iN P w) k f fd ps (nO K n F)∧mg x=some (.ref f)∧W.keepIn K (.ref f)=true∧fz K fd ps []
section
variable {P:Program}{w:World}{K:W.Frag}{mg:Str→Option Value}{base:Heap}{x c m q:Str}{st:Stmt}{N ps:List Str}{k n:Nat}{g:GS}{F:FD}
theorem m8 (h:Ok P w K mg base x k n F):Ok P w K mg base x k n fun ds M=>iU M.length (F ds M):=by
 obtain⟨f,fd,ps,h1,h2,h3,h4⟩:=h;exact⟨f,fd,ps,yF h1,h2,h3,h4⟩
theorem dq (T:FF K mg x st ps)(N:List Str)(S:fM N ps (aW st))(hn:ps.length=n)
  (hb:∀(f:Addr) (cdv:Value) (A:Around) (outer:List Env) (s:Shared) (H:Hp) (E:XK),N.Nodup→cq k (A.deeper (envOfC x (aW st) s.heap.objs.size f cdv))→QB (gZ (iN P w) P w K mg base N x (aW st) f cdv A outer s H E) (c9 st) g) :
  Ok P w K mg base x (k+1) n (ck (N.length-n) g):=by
 obtain⟨f,fd,T⟩:=T;exact⟨f,fd,ps,AB T.F S hn fun cdv A outer s H E hr=>hb f cdv A outer s H E S.nd hr,T.m,T.F.kp,T.b⟩
end
section
variable {X:Cx}{e a o value:Expr}{es:List Expr}{x c m f:Str}{p p2 pos apos pos':Pos}{gA:GA}{g go gv:GE}{k k' n:Nat}{F:FD}{tab:List (Str×Bool)}{bs:List Str}
theorem zY (h:Ok X.prog X.w X.K X.mg X.base x k n F)(hr:cq k' X.A)(ha:QA X (e::es) gA)(hk:k≤k':=by first|decide|omega)(hg:Gl X x:=by rfl)
  (hdb:(x==("__debug__":Str))=false:=by decide) (h1:bw e=true:=by rfl) (h2:cK es=true:=by rfl):QE X (.Call (.Name x p) (e::es) [] pos) (ak n F gA):=by
 obtain⟨f,fd,ps,h1',h2',h3,h4⟩:=h;exact Ap h1' (hr.mono hk) hg h2' h3 h4 ha hdb h1 h2
end
section
variable {X:Cx}{x:Str}{pos px:Pos}{ge:GE}{scope:Scope}{xs R:List Str}{iter elt tg:Expr}{ifs:List Expr}{gI:GI}{gC:GT}{sg:GG}{mk:List D→am→aF D}{j:Nat}{y:Str}{py spos:Pos}{n:Nat}
theorem sZ (hS:bU scope X.env.kindOf [x] X.N X.N=true)(hm:mk=aQ∨mk=cO)(hi:QI X (.Name x px) iter gI)(hts:tU X scope [x] X.N ifs gC)(he:∀fp s H C,QE (ah X scope [x] X.N fp s H C) elt ge)
  (hc:X.calm=true:=by rfl) (hs:∀x,foldedSetIterable iter X.env x=pure x:=by intro _;rfl):QE X (.ListComp elt [⟨.Name x px,iter,ifs,0⟩] scope pos) (bV gI gC ge mk):=nZ hS hm hi hts he hc hs
theorem sC (_:RN pos.line pos.col [x] R)(hS:bU scope X.env.kindOf [x] R X.N=true)(hm:mk=aQ∨mk=cO)(hi:QI X (.Name x px) iter gI)(hts:tU X scope [x] R ifs gC)(he:∀fp s H C,QE (ah X scope [x] R fp s H C) elt ge)
  (hc:X.calm=true:=by rfl) (hs:∀x,foldedSetIterable iter X.env x=pure x:=by intro _;rfl):QE X (.ListComp elt [⟨.Name x px,iter,ifs,0⟩] scope pos) (bV gI gC ge mk):=nZ hS hm hi hts he hc hs
theorem pV (_:RN pos.line pos.col xs R)(hS:bU scope X.env.kindOf xs R X.N=true)(hm:mk=aQ∨mk=cO)(own:QO xs.length sg)(hi:QI X tg iter gI)(hg:∀fp s H C,QG (ah X scope xs R fp s H C) tg sg)(hts:tU X scope xs R ifs gC)(he:∀fp s H C,QE (ah X scope xs R fp s H C) elt ge)
  (hn:xs.length=n:=by rfl) (hc:X.calm=true:=by rfl) (hs:∀x,foldedSetIterable iter X.env x=pure x:=by intro _;rfl):QE X (.ListComp elt [⟨tg,iter,ifs,0⟩] scope pos) (cU gI n sg gC ge mk):=hn▸qP xs hS hm own hi hg hts he hc hs
end
structure Tx (tab:List (Str×Stmt×List Str))(mtab:List (Str×Str×Str×Stmt×List Str))(ls:List (Str×Stmt×List Str))(zs es:List Str)(rs:List (Str×List (Str×Bool)))(vt:List (Str×Bool))(nas:List (Str×Str))(cs:List (Str×Str))(ci:List (Str×Int))
  (P:Program) (w:World) (K:W.Frag) (mg:Str→Option Value) (base:Heap):Prop where
 f:Ls (fun t=>FF K mg t.1 t.2.1 t.2.2) tab
 m:Ls (fun t=>MF K mg t.1 t.2.1 t.2.2.1 t.2.2.2.1 t.2.2.2.2) mtab
 l:Ls (fun t=>LF K mg t.1 t.2.1 t.2.2) ls
 z:∀x∈zs,mg x=none
 e:∀x∈es,EX K mg x
 r:Ls (fun t=>IX K mg t.1 t.2) rs
 b:IB K mg "ValueError" vt
 a:∀t∈nas,NA K mg t.1 t.2
 s:Ls (fun t=>∃tk,mg t.1=some (.str t.2 tk)) cs
 i:Ls (fun t=>∃tk,mg t.1=some (.int t.2 tk)) ci
theorem wj {K:W.Frag}{mg:Str→Option Value}{l:List (Str×List (Str×Bool))}{x:Str}{t:List (Str×Bool)}(h:Ls (fun t=>IX K mg t.1 t.2) l)(e:l.lookup x=some t):IX K mg x t:=by
 refine h (x,t) ?_
 induction l with
 | nil=>cases e
 | cons p l ih=>
  obtain⟨y,u⟩:=p;rw[lookup_cons] at e;split at e
  ·rename_i q;cases e;rw[eq_of_beq q];exact .head _
  ·exact .tail _ (ih (fun t ht=>h t (.tail _ ht)) e)
section
variable {K:W.Frag}{mg:Str→Option Value}{x c m q:Str}{st:Stmt}{ps:List Str}{l:List (Str×Stmt×List Str)}{l':List (Str×Str×Str×Stmt×List Str)}
theorem dm (h:Ls (fun t=>FF K mg t.1 t.2.1 t.2.2) l)(i:Nat)(e:l[i]?=some (x,st,ps):=by rfl):FF K mg x st ps:=h _ (mem_of_getElem? e)
end
section
variable {K:W.Frag}{h:Heap}{mg:Str→Option Value}{x c m q f':Str}{st:Stmt}{ps:List Str}{f C G:Addr}{oc kV dc pm cd ct:Value}{od an:Option Addr}{sl:Array (Option Value)}
theorem AD (X:K.In h)(Gm:h.Ns mainGlobals mg)(a:W.nsIn K mainGlobals x=some (some (.ref f)))(l:K.lookup f=some ⟨oc,od,.func (W.fnOf x x (eL st) (c9 st) (aW st) .none kV dc pm an cd ct),sl⟩)(c:W.codeIn K cd x=true)(k:W.keepIn K (.ref f)=true)
  (b:∀(kV doc pm:Value) (an:Option Addr) (cdv ct:Value) (us:List Value),us.length=ps.length→bindArgs (W.fnOf x x (eL st) (c9 st) (aW st) .none kV doc pm an cdv ct) ⟨us,[]⟩=pure (ps.zip us)):FF K mg x st ps:=
 ⟨f,_,sG (st:=st) l c k,W.mg_of X Gm a,(sG (st:=st) l c k).binds b⟩
theorem Bj (kC:KC K mg c C)(a:W.findIn K (.ref C) f'=some none):NA K mg c f':=⟨C,kC,a⟩
theorem Ba (h:Ec K mg x C):EX K mg x:=⟨C,h⟩
theorem zW {tab:List (Str×Bool)}(h:Ec K mg x G)(t:Ls (fun p=>∃C,Ec K mg p.1 C∧W.mroIn K C (.ref G)=some p.2) tab):IX K mg x tab:=⟨G,h,t⟩
theorem C8 (X:K.In h)(Gm:h.Ns mainGlobals mg)(e:W.nsIn K mainGlobals x=some none):mg x=none:=W.mg_none_of X Gm e
theorem AR {u:Tok→Value}{tk:Tok}(X:K.In h)(Gm:h.Ns mainGlobals mg)(e:W.nsIn K mainGlobals x=some (some (u tk))):∃tk,mg x=some (u tk):=⟨tk,W.mg_of X Gm e⟩
end
section
variable {P:List Value→Prop}
theorem Dt (h:∀a b,P [a,b])(us:List Value)(hl:us.length=2):P us:=by
 match us,hl with
 | [a,b],_=>exact h a b
end
theorem yB {l:W.OpenLaw}{w:World}{K:W.Frag}{mg:Str→Option Value}{fa:Addr}{st:Stmt}{k:Nat}{F:FD}(hfa:mg "law"=some (.ref fa))(L:FF K mg "law" st ["script"])
  (h:∀(base:Heap) (f:Addr) (fd:FuncData),Fn K mg "law" st f fd ["script"]→ej l.prog w K mg base (iN l.prog w) k f fd ["script"] (nO K 1 F))
  (hb:∀(kV doc pm:Value) (an:Option Addr) (cdv ct:Value) (v:Value),bindArgs (W.fnOf "law" "law" (eL st) (c9 st) (aW st) .none kV doc pm an cdv ct) ⟨[v],[]⟩=pure [(("script":Str),v)]) :
  ∃fd:FuncData,(∀(s:Shared) (v:Value),BindsTo s fd ⟨[v],[]⟩ [("script",v)])∧∀base:Heap,K.In base→base.Ns mainGlobals mg→ej l.prog w K mg base (iN l.prog w) k fa fd ["script"] (nO K 1 F):=by
 obtain⟨f,fd,L⟩:=L;have e:=hfa.symm.trans L.m;cases e;refine⟨fd,fun s v=>?_,fun base _ _=>h base _ fd L⟩;obtain⟨oc,od,kV,doc,pm,an,cdv,ct,osl,rfl,lk,hcd⟩:=L.F.ex;exact .of_eq (hb kV doc pm an cdv ct v)
end DL
namespace DL
open PySem PySem.Spec PyProof.Rows PySem.W L2 List
section
variable {key:Nat→Int}{N:Nat}{s:Shared}{cmp:Nat→Nat→(Bool→Shared→Prop)→Shared→Prop}
def kp (key:Nat→Int)(p:Array Nat)(k:Nat):Int:=key (p.getD k 0)
def up (key:Nat→Int)(p:Array Nat)(n:Nat):Prop:=∀k,k+1<n→kp key p k≤kp key p (k+1)
end
section
def rank (zs:List (List Int))(z:List Int):Int:=(zs.countP fun y=>HT.lexLt y z:Nat)
def A2 (zs:List (List Int)):List (List Int):=zs.mergeSort fun a b=>!HT.lexLt b a
end
def Cu (z:List Int):D:=.tup (z.map D.int)
def wD:List D→Option (List (List Int))
 | []=>some []
 | d::ds=>match Bs d,wD ds with
  | some (i::z),some zs=>some ((i::z)::zs)
  | _,_=>none
def Ds:FD:=fun ds M=>match ds with
 | [d]=>match nG d M with
  | some xs=>match Bw xs with
   | some ns=>if ns.length<64 then .ok (.lst ((L2.sortI ns).map D.int)) M else .bad
   | none=>match wD xs with
    | some zs=>if zs.length<64 then .ok (.lst ((A2 zs).map Cu)) M else .bad
    | none=>.bad
  | none=>.bad
 | _=>.bad
def zE (neg:Bool):F2:=fun x y M=>match bu y M with
 | some xs=>if au 40 x&&xs.all (au 40) then .ok (.bl ((xs.any fun y=>eW y x) != neg)) M else .bad
 | none=>.bad
section
variable {X:Cx}{af:List (Addr×Obj)}{σ:L2.St}{H:Hp}{s:Shared}{θ:List Addr}
noncomputable def inE (h:Heap) (px:PyData) (u:Value):Bool:=open Classical in decide (∃d as,Reads h u d as∧PyData.eqv d px=true)
theorem nR {h:Heap}{px d:PyData}{u:Value}{as:List Addr}(r:Reads h u d as)(l:d.canLay0=true):inE h px u=PyData.eqv d px:=by
 unfold inE;cases e:PyData.eqv d px with
 | true=>exact @decide_eq_true _ (Classical.propDecidable _) ⟨d,as,r,e⟩
 | false=>
  refine @decide_eq_false _ (Classical.propDecidable _) fun hxx=>?_
  obtain⟨d',as',r',e'⟩:=hxx;have:=SeqAt.Reads.unique d d' u as as' l r r';subst this;rw[e] at e';cases e'
theorem i4 (I:L2.Inv X af σ H s){x:D}(hx:au 40 x=true):∀{ds:List D} {vs:List V} {us:List Value},ds.all (au 40)=true→aH X.K θ H ds vs→aD vs us→us.any (inE s.heap (eV x))=(ds.any fun y=>eW y x)∧∀u∈us,∃d as,Reads s.heap u d as∧d.canLay0=true∧d.depth≤40
 | [],vs,us,_,r,v=>by
  have e:vs=[]:=r;subst e;cases v;exact⟨rfl,fun u hu=>by cases hu⟩
 | d::ds,vs,us,c,r,v=>by
  rw[all_cons,Bool.and_eq_true] at c;obtain⟨v1,vr,e1,r1,r2⟩:=r;subst e1;cases v with
  | cons h1 h2=>
   obtain⟨a,b⟩:=i4 I hx c.2 r2 h2;obtain⟨as,R⟩:=fh I d 40 _ _ c.1 r1 h1;have l:=dQ d 40 c.1;refine⟨?_,fun u hu=>?_⟩
   ·rw[any_cons,any_cons,a,nR R l.1,im d x 40 40 c.1 hx]
   ·rcases mem_cons.mp hu with e|e
    ·rw[e];exact⟨_,as,R,l.1,l.2⟩
    ·exact b u e
end
end DL
namespace DL
open PySem PySem.Spec PyProof.Rows L2 List
def By (x y:D)(M:am)(i:Nat)(kvs:List (List bF×D))(k:List bF):Prop:=x=.mr i∧M[i]?=some (.dT kvs)∧jE y=some k
def et {α:Type}(f:Nat→List (List bF×D)→List bF→am→aF α)(x y:D)(M:am):aF α:=match x with
 | .mr i=>match M[i]? with
  | some (.dT kvs)=>match jE y with
   | some k=>f i kvs k M
   | none=>.bad
  | _=>.bad
 | _=>.bad
theorem jx {α:Type}(f:Nat→List (List bF×D)→List bF→am→aF α)(x y:D)(M:am):et f x y M=.bad∨∃i kvs k,By x y M i kvs k∧et f x y M=f i kvs k M:=by
 cases x with
 | mr i=>
  cases q:M[i]? with
  | none=>exact .inl (by unfold et;dsimp only;rw[q])
  | some m=>
   cases m with
   | dT kvs=>
    cases qk:jE y with
    | none=>exact .inl (by unfold et;dsimp only;rw[q];dsimp only;rw[qk])
    | some k=>exact .inr ⟨i,kvs,k,⟨rfl,q,qk⟩,by unfold et;dsimp only;rw[q];dsimp only;rw[qk]⟩
   | _=>exact .inl (by unfold et;dsimp only;rw[q])
 | _=>exact .inl rfl
def zI (neg:Bool):F2:=fun y x=>et (fun _ kvs k M=>.ok (.bl ((cX kvs k).isSome != neg)) M) x y
def l7:F2:=et fun _ kvs k M=>match cX kvs k with
 | some r=>.ok r M
 | none=>.bad
section
variable {K:W.Frag}{θ:List Addr}{H:Hp}{M:am}
theorem tB {x y:D}{i:Nat}{kvs:List (List bF×D)}{k:List bF}{vx vy:V}(hw:Wr K θ H M)(h:By x y M i kvs k)(r1:cD K θ H x vx)(r2:cD K θ H y vy) :
  ∃a b vs,vx=.ref a∧vy=.ref b∧θ[i]?=some a∧H a=some (.dT vs)∧H b=some (.tup (k.map kV))∧gR K θ H kvs vs:=by
 rw[h.1] at r1;obtain⟨a,ea,ta⟩:=r1;obtain⟨vs,hv,ra⟩:=hw.at_ i a _ ta h.2.1;obtain⟨b,eb,hb,_⟩:=xZ h.2.2 r2;exact⟨a,b,vs,ea,eb,ta,hv,hb,ra⟩
theorem uE {kvs:List (List bF×D)}{vs:List (List bF×V)}(k:List bF)(ra:gR K θ H kvs vs):(fS vs k).isSome=(cX kvs k).isSome:=by
 obtain⟨i1,i2⟩:=ik k ra;cases q:cX kvs k with
 | none=>rw[i2 q];rfl
 | some r=>
  obtain⟨v,e,_⟩:=i1 r q;rw[e];rfl
end
section
variable {X:Cx}{pos:Pos}{o i e:Expr}{go gi ge:GE}
theorem pk (hu:X.A.units+1<cLine):dO X (compareOp .NotIn) (rD X (zI true)):=by
 intro af s σ H x y v u Q I rx ry h;obtain⟨θ,M,dx,dy,hw,r1,r2,h⟩:=h;rcases jx (fun _ kvs k M=>aF.ok (D.bl ((cX kvs k).isSome != true)) M) dy dx M with e|⟨j,kvs,k,t,e⟩
 ·have h:aE X θ H Q (et _ dy dx M):=h;rw[e] at h;exact h.elim
 have h:aE X θ H Q (et _ dy dx M):=h;rw[e] at h;obtain⟨a,b,vs,ea,eb,ta,hv,hb,ra⟩:=tB hw t r2 r1;rw[ea] at ry;have eu:u=.ref a:=ry;rw[eb] at rx;rw[eu];refine vN hu I (mq.t hv hb) rx fun s' I'=>⟨.bl (!(fS vs k).isSome),H,I',rfl,?_⟩
 rw[uE k ra,show(!(cX kvs k).isSome)=((cX kvs k).isSome != true) by cases (cX kvs k).isSome <;> rfl];exact h _ θ H (.refl hw) rfl
theorem uW (hu:X.A.units+1<cLine)(ho:PE X o (tE X go))(hi:PE X i (tE X gi))(hs:vf i):PE X (.Subscript o i pos) (tE X (g2 l7 go gi)):=(tX hu ho hi hs).of fun σ H Q hxx=>by
 obtain⟨ρ,θ,M,hd,hw,h⟩:=hxx;refine bx hd hw (aE X θ H Q) (fun c M' h=>h) (fun h=>h) h fun d1 M1 v1 θ1 H1 g1 r1 h1=>?_
 have h1:=aE.go g1 h1;refine bx (hd.go g1) g1.wr (aE X θ1 H1 Q) (fun c M' h=>h) (fun h=>h) h1 fun d2 M2 v2 θ2 H2 g2 r2 h2=>?_
 have h2:=aE.go g2 h2;have r1:=r1.go g2;unfold l7 at h2;rcases jx (fun _ kvs k M=>match cX kvs k with|some r=>aF.ok r M|none=>.bad) d1 d2 M2 with e|⟨j,kvs,k,t,e⟩
 ·rw[e] at h2;exact h2.elim
 rw[e] at h2;obtain⟨a,b,vs,ea,eb,ta,hv,hb,ra⟩:=tB g2.wr t r1 r2;cases q:cX kvs k with
 | none=>rw[q] at h2;exact h2.elim
 | some r=>
  rw[q] at h2;obtain⟨v,ev,rv⟩:=(ik k ra).1 r q;refine⟨a,v,ea,?_,h2 v θ2 H2 (.refl g2.wr) rv⟩;rw[eb,←ev];exact mq.t hv hb
def wO (z:D):D→D→am→aF Unit:=et fun i kvs k N=>match cX kvs k with
 | some _=>.bad
 | none=>if kvs.length<sizeLine then .ok () (N.set i (.dT (kvs++[(k,z)]))) else .bad
def j7 (gd gy gv:GE):GS:=fun ρ M=>(gv ρ M).bind fun z M1=>(gd ρ M1).bind fun d M2=>(gy ρ M2).bind fun y M3=>(wO z d y M3).bind fun _ M4=>.ok (.nx ρ) M4
theorem vU {pos':Pos}(hu:X.A.units+1<cLine)(ho:PE X o (tE X go))(hi:PE X i (tE X gi))(hv:PE X e (tE X ge))(hs:swapsWith e (some (.Subscript o i pos')) pos.line X.env=pure false:=by rfl) :
  PS X (.Assign [.Subscript o i pos'] e pos) (tS X (j7 go gi ge)):=(ur hu ho hi hv hs).of fun D σ H hxx=>by
 obtain⟨ρ,θ,M,hd,hw,h⟩:=hxx;refine bx hd hw (bK X θ H D) (fun c M' h=>h) (fun h=>h) h fun z M1 v1 θ1 H1 g1 r1 h1=>?_
 have h1:=bK.go g1 h1;refine bx (hd.go g1) g1.wr (bK X θ1 H1 D) (fun c M' h=>h) (fun h=>h) h1 fun d M2 v2 θ2 H2 g2 r2 h2=>?_
 have h2:=bK.go g2 h2;refine bx ((hd.go g1).go g2) g2.wr (bK X θ2 H2 D) (fun c M' h=>h) (fun h=>h) h2 fun y M3 v3 θ3 H3 g3 r3 h3=>?_
 have h3:=bK.go g3 h3;have r1:=r1.go (g2.trans g3);have r2:=r2.go g3;unfold wO at h3;rcases jx (fun i kvs k N=>match cX kvs k with|some _=>aF.bad|none=>if kvs.length<sizeLine then aF.ok () (N.set i (.dT (kvs++[(k,z)]))) else .bad) d y M3 with q|⟨j,kvs,k,t,q⟩
 ·rw[q] at h3;exact h3.elim
 rw[q] at h3;obtain⟨a,b,vs,ea,eb,ta,hva,hb,ra⟩:=tB g3.wr t r2 r3;cases qg:cX kvs k with
 | some r=>rw[qg] at h3;exact h3.elim
 | none=>
  rw[qg] at h3;dsimp only at h3
  by_cases hl:kvs.length<sizeLine
  ·rw[if_pos hl] at h3;have nv:=(ik k ra).2 qg;refine⟨a,_,ea,by rw[eb];exact tP.t hva hb (by rw[←dN ra];exact hl),?_⟩;rw[qW v1 nv];have gs:=oq (m:=.dT (kvs++[(k,z)])) (o:=.dT (vs++[(k,v1)])) g3.wr ta ⟨_,cj,fO (lU g3.wr ta) (jX r1 ra)⟩;exact h3 σ θ3 _ gs ((((hd.go g1).go g2).go g3).go gs)
  ·rw[if_neg hl] at h3;exact h3.elim
end
end DL
namespace DL
open PySem PySem.Spec PyProof.Rows PySem.W L2 List
def jd (h:Heap)(d:Addr)(es:Array DictEntry)(ep:Nat):Prop:=∃o,h.get? d=some o∧o.ExactDict∧o.data=.dict es ep
section
variable {prog:Program}{w:World}{A:Around}{E:Value→Shared→Prop}{s:Shared}{d it:Addr}{es:Array DictEntry}{ep i:Nat}
theorem jd.typeIs (x:jd s.heap d es ep):s.TypeIs (.ref d) "dict":=by
 obtain⟨o,ho,hc,_⟩:=x;exact⟨o,ho,hc.1⟩
theorem rB {Q:Value→Shared→Prop}(hd:(d==sysModules)=false)(x:jd s.heap d es ep)
  (hQ:Q (.ref s.heap.objs.size) {s with heap:=s.heap.push {cls:=.type "dict_keyiterator",data:=.fields #[.ref d,.int 0 0,.int es.size 0,.int ep 0]}}):wpAny (model prog w) A (pyIter (.ref d)) Q E s:=by
 have T:=x.typeIs;obtain⟨o,ho,hc,hx⟩:=x;refine wpAny_pyIter_slot T PySem.F.slot_dict_iter (wpAny_call_entry PySem.F.slot_dict_iter T PySem.F.entry_dict_iter ?_ (PySem.F.args_dict_iter_1 _));unfold Builtin.«dict.__iter__»;refine wpAny_bind ?_;unfold Builtin.Dict.dictSlotNone;refine wpAny_bind (wpAny_notOrdered_dict T ?_);show wpAny _ _ (pure (Value.ref d)) _ _ s;refine wpAny_pure ?_;show wpAny _ _ (Builtin.Dict.showsAll d >>= _) _ _ s;unfold Builtin.Dict.showsAll;rw[if_neg (by rw[hd];exact Bool.false_ne_true)];refine wpAny_bind (wpAny_pure (wpAny_bind (wpAny_dictEntries ho hx (wpAny_bind (wpAny_dictEpoch ho hx (wpAny_bind (wpAny_newObj_type (wpAny_pure ⟨_,rfl,"dict_keyiterator",_,⟨_,Heap.get?_push_size _ rfl,rfl⟩,PySem.F.slot_dict_keyiterator_next.lookup,?_⟩))))))));exact hQ
theorem uL {Q:Value→Shared→Prop}(hd:(d==sysModules)=false)(x:jd s.heap d es ep)(hf:(es.size:Int)<2 ^ 63)(h:Q (.int es.size (s.toks+1)) {s with toks:=s.toks+1+1}):wpAny (model prog w) A (call (.builtin "len") [.ref d]) Q E s:=by
 have T:=x.typeIs;obtain⟨o,ho,hc,hx⟩:=x;have m:MeetsIn prog w (Builtin.«dict.__len__» ⟨[.ref d],[]⟩) (fun _ R s'=>s'.heap=s.heap∧R (.ok (.ret (.int es.size s'.toks))) {s' with toks:=s'.toks+1}):=.of_wp fun A R s' hxx=>by
  obtain⟨eh,h⟩:=hxx;show wpAny _ _ (dictSize d >>= _) _ _ s';unfold dictSize;refine wpAny_bind (wpAny_bind (wpAny_dictEntries (by rw[eh];exact ho) hx (wpAny_pure ?_)));show wpAny _ _ (Builtin.Dict.pendingCount d >>= _) _ _ s';refine wpAny_bind (wpAny_pendingCount_other hd (wpAny_ret_mkInt ?_));rw[Nat.add_zero];exact h
 refine Calls.call_function_entry kind_len plain_len entry_len (args_len1 _) ?_;unfold Builtin.«len»;refine wpAny_bind (m:=oneArg "len" _) (wpAny_pure (wpAny_bind (m:=callSpecial? (.ref d) (Str.ofString "__len__")) (wpAny_callSpecial?_slot (name:=Str.ofString "__len__") T PySem.F.slot_dict_len (call_meetsIn PySem.F.slot_dict_len T PySem.F.entry_dict_len (PySem.F.args_dict_len_1 _) m ⟨rfl,?_⟩))));show wpAny _ _ _ _ _ {s with toks:=s.toks+1};refine wpAny_bind (wpAny_holding (wpAny_pure (wpAny_bind (wpAny_letGo ?_))));show wpAny _ _ (if((es.size:Nat):Int)<0 then _ else _) _ _ _;rw[if_neg (by omega)];show wpAny _ _ (if((es.size:Nat):Int)≥2 ^ 63 then _ else _) _ _ _;rw[if_neg (by omega)];exact wpAny_bind (wpAny_mkInt (wpAny_pure ⟨_,rfl,h⟩))
theorem jd.stay {h h':Heap}(x:jd h d es ep)(k:∀o,h.get? d=some o→h'.get? d=some o):jd h' d es ep:=by
 obtain⟨o,ho,r⟩:=x;exact⟨o,k o ho,r⟩
theorem qA {Q:Option Value→Shared→Prop}(hit:s.heap.IsKeyIter it d i es.size ep)(x:jd s.heap d es ep)(hi:i<es.size)
  (hQ:∀h',h'.IsKeyIter it d (i+1) es.size ep→Heap.SameBut it s.heap h'→Q (some es[i].key) {s with heap:=h'}):wpAny (model prog w) A (pyNext (.ref it)) Q E s:=by
 have T:=hit.typeIs;obtain⟨o,ho,hc,hd⟩:=hit;obtain⟨od,hod,hcd,hx⟩:=x;unfold pyNext;refine wpAny_bind (wpAny_attempt (wpAny_callSpecial?_slot (name:=Str.ofString "__next__") T PySem.F.slot_dict_keyiterator_next (wpAny_call_entry PySem.F.slot_dict_keyiterator_next T PySem.F.entry_dict_keyiterator_next ?_ (PySem.F.args_dict_keyiterator_next_1 _))));refine wpAny_bind (wpAny_pure (wpAny_bind (wpAny_bind ?_)))
 first|refine wpAny_bind (wpAny_typeNameOfWhole_keyiter T (wpAny_pure ?_))|refine wpAny_bind (wpAny_typeNameOf_keyiter T (wpAny_pure ?_))
 refine wpAny_bind (wpAny_fieldsOf ho hd ?_);simp only[show Builtin.Dict_items.ownsTuple "dict_keyiterator"=false by decide,Bool.false_eq_true,if_false];show wpAny _ _ (if(Value.ref d==Value.none)=true then _ else _) _ _ s;rw[if_neg (show¬((Value.ref d==Value.none)=true) from Bool.false_ne_true)];refine wpAny_bind (wpAny_pure (wpAny_bind (wpAny_dictEntries hod hx ?_)));rw[if_neg (by simp)];refine wpAny_bind (wpAny_pure (wpAny_bind (wpAny_dictEpoch hod hx ?_)));rw[if_neg (by simp)];refine wpAny_pure ?_;simp only[show¬((i:Int)<0) from by omega,if_false,Int.toNat_natCast,Array.getElem?_eq_getElem hi];refine wpAny_bind ?_
 first|refine wpAny_bind (wpAny_typeNameOfWhole_keyiter T (wpAny_pure ?_))|refine wpAny_bind (wpAny_typeNameOf_keyiter T (wpAny_pure ?_))
 refine wpAny_bind (wpAny_isOneOf_keyiter T ?_);show wpAny _ _ (setField (.ref it) 1 (rawInt ((i:Int)+1)) >>= _) _ _ s;refine wpAny_bind (wpAny_setField ho hd (by simp) ?_);have hit2:(s.heap.update it (Obj.mapFields (·.setIfInBounds 1 (rawInt ((i:Int)+1))))).IsKeyIter it d (i+1) es.size ep:=
  ⟨_,Heap.get?_update_self _ ho (Obj.isFreed_of_fields (Obj.data_mapFields hd _)),(Obj.cls_mapFields ..).trans hc,by rw[Obj.data_mapFields hd];simp[rawInt]⟩
 refine wpAny_bind (wpAny_holding (wpAny_bind (wpAny_isOneOf_keyiter (s:={s with heap:=s.heap.update it (Obj.mapFields (·.setIfInBounds 1 (rawInt ((i:Int)+1))))}) hit2.typeIs ?_)));show wpAny _ _ (pure es[i].key) _ _ _;exact wpAny_pure (wpAny_pure ⟨_,rfl,wpAny_pure (hQ _ hit2 (Heap.SameBut.update ..))⟩)
theorem vX {Q:Option Value→Shared→Prop}(hh:A.handled=none)(hit:s.heap.IsKeyIter it d es.size es.size ep)(x:jd s.heap d es ep)
  (hQ:∀h',Heap.ExtBut it s.heap h'→Q none {s with heap:=h'}):wpAny (model prog w) A (pyNext (.ref it)) Q E s:=by
 have T:=hit.typeIs;obtain⟨o,ho,hc,hd⟩:=hit;obtain⟨od,hod,hcd,hx⟩:=x;unfold pyNext;refine wpAny_bind (wpAny_attempt (wpAny_callSpecial?_slot (name:=Str.ofString "__next__") T PySem.F.slot_dict_keyiterator_next (wpAny_call_entry PySem.F.slot_dict_keyiterator_next T PySem.F.entry_dict_keyiterator_next ?_ (PySem.F.args_dict_keyiterator_next_1 _))));refine wpAny_bind (wpAny_pure (wpAny_bind (wpAny_bind ?_)))
 first|refine wpAny_bind (wpAny_typeNameOfWhole_keyiter T (wpAny_pure ?_))|refine wpAny_bind (wpAny_typeNameOf_keyiter T (wpAny_pure ?_))
 refine wpAny_bind (wpAny_fieldsOf ho hd ?_);simp only[show Builtin.Dict_items.ownsTuple "dict_keyiterator"=false by decide,Bool.false_eq_true,if_false];show wpAny _ _ (if(Value.ref d==Value.none)=true then _ else _) _ _ s;rw[if_neg (show¬((Value.ref d==Value.none)=true) from Bool.false_ne_true)];refine wpAny_bind (wpAny_pure (wpAny_bind (wpAny_dictEntries hod hx ?_)));rw[if_neg (by simp)];refine wpAny_bind (wpAny_pure (wpAny_bind (wpAny_dictEpoch hod hx ?_)));rw[if_neg (by simp)];refine wpAny_pure ?_;simp only[show¬((es.size:Int)<0) from by omega,if_false,Int.toNat_natCast,Array.getElem?_eq_none (Nat.le_refl es.size)];refine wpAny_bind ?_
 first|refine wpAny_bind (wpAny_typeNameOfWhole_keyiter T (wpAny_pure ?_))|refine wpAny_bind (wpAny_typeNameOf_keyiter T (wpAny_pure ?_))
 show wpAny _ _ (setField (.ref it) 0 .none >>= _) _ _ s;refine wpAny_bind (wpAny_setField ho hd (by simp) ?_);show wpAny _ _ (newExc (.type "StopIteration") [] >>= _) _ _ _;refine wpAny_bind ?_;simp only[newExc,newTuple];refine wpAny_bind (wpAny_newObj_type ?_ (by size_fits));refine wpAny_bind (m:=firstArgMember _ _) (wpAny_of_eq (a:=Value.none) (by first|rfl|(simp only[firstArgMember];rfl)) (wpAny_newObj_type ?_ (by size_fits)));simp only[raiseNew];refine wpAny_bind (wpAny_handled ?_);rw[show A.in1.handled=none from hh];refine wpAny_bind (wpAny_pure (wpAny_throw ?_));refine wpAny_bind (wpAny_isInstance (T:="StopIteration") (b:=true) ⟨_,Heap.get?_push_size _ rfl,rfl⟩ isSubtype_stop (wpAny_pure (hQ _ (((Heap.SameBut.update ..).extBut.push _).push _))))
theorem pz (hh:A.handled=none)(hne:d≠it):Walks prog w A it [it,d] [it] es.size (fun i v=>∃e,es[i]?=some e∧v=e.key) (fun i h=>h.IsKeyIter it d i es.size ep∧jd h d es ep) where
 sub:=fun b hb=>by rw[mem_singleton.mp hb];exact mem_cons_self
 frame:=fun _ _ _ st hk=>⟨st.1.at fun o e=>hk it mem_cons_self o e,st.2.stay fun o e=>hk d (mem_cons_of_mem _ mem_cons_self) o e⟩
 item:=fun i s Q E hi st hQ=>qA st.1 st.2 hi fun h' k1 k2=>hQ _ h' s.toks ⟨_,Array.getElem?_eq_getElem hi,rfl⟩ ⟨k1,st.2.stay fun o e=>k2.extBut d o hne e⟩ fun b o hb e=>k2.extBut b o (fun z=>hb (by rw[z];exact mem_cons_self)) e
 done:=fun s Q E st hQ=>vX hh st.1 st.2 fun h' k=>hQ h' s.toks fun b o hb e=>k b o (fun z=>hb (by rw[z];exact mem_cons_self)) e
 self:=fun _ _ _ _ st hQ=>wpAny_pyIter_keyiter st.1 hQ
theorem vC (lo:(d==sysModules)=false):KdlSrc prog w "dict" d d es.size (fun i v=>∃e,es[i]?=some e∧v=e.key) (fun h=>jd h d es ep) where
 type:=fun _ x=>x.typeIs
 there:=fun _ x=>by obtain⟨o,ho,_⟩:=x;exact⟨Heap.lt_size ho,Heap.lt_size ho⟩
 keep:=fun _ _ x hk=>x.stay fun o e=>hk d (.inl rfl) o e
 notList:=by decide
 notTuple:=by decide
 hint:=fun _ _ _ _ x hq=>kdl_hint_dict x.typeIs hq
 iter:=fun _ s hh x=>⟨_,_,(fun _ _ hq=>rB lo x hq),pz hh (by obtain⟨o,ho,_⟩:=x;exact Nat.ne_of_lt (Heap.lt_size ho)),⟨⟨_,Heap.get?_push_size _ rfl,rfl,rfl⟩,x.stay fun o e=>Heap.get?_push_of_some _ e⟩⟩
end
def nM:bF→D
 | .inl i=>.int i
 | .inr x=>.str x
def iV (f:List (List bF×D)→D):FD:=fun ds M=>match ds with
 | [.mr i]=>match M[i]? with
  | some (.dT kvs)=>.ok (f kvs) M
  | _=>.bad
 | _=>.bad
theorem n9 (f:List (List bF×D)→D)(ds:List D)(M:am):iV f ds M=.bad∨∃i kvs,ds=[.mr i]∧M[i]?=some (.dT kvs)∧iV f ds M=.ok (f kvs) M:=by
 match ds with
 | []=>exact .inl rfl
 | _::_::_=>exact .inl (by unfold iV;split <;> first|rfl|(rename_i h;cases h))
 | [x]=>
  cases x with
  | mr i=>
   cases q:M[i]? with
   | none=>exact .inl (by unfold iV;dsimp only;rw[q])
   | some m=>
    cases m with
    | dT kvs=>exact .inr ⟨i,kvs,rfl,q,by unfold iV;dsimp only;rw[q]⟩
    | _=>exact .inl (by unfold iV;dsimp only;rw[q])
  | _=>exact .inl rfl
section
variable {K:W.Frag}{θ:List Addr}{H:Hp}{M:am}
theorem vz (ks:List bF):aH K θ H (ks.map nM) (ks.map kV):=by
 induction ks with
 | nil=>exact rfl
 | cons k ks ih=>exact⟨_,_,rfl,by cases k <;> exact rfl,ih⟩
theorem qL {a:Addr}{ys:List V}(hw:Wr K θ H M)(h:H a=some (.tup ys)):a∉θ:=fun z=>by
 obtain⟨i,hi,e⟩:=mem_iff_getElem.mp z;have h2:i<M.length:=by rw[←hw.len];exact hi
 have k:=hw.at_ i a M[i] (by rw[getElem?_eq_getElem hi,e]) (getElem?_eq_getElem h2);cases q:M[i] with
 | lst _=>rw[q] at k;obtain⟨_,z,_⟩:=k;rw[h] at z;cases z
 | obj _ _=>rw[q] at k;obtain⟨_,_,_,_,z,_⟩:=k;rw[h] at z;cases z
 | dK _=>rw[q] at k;obtain⟨_,z,_⟩:=k;rw[h] at z;cases z
 | dT _=>rw[q] at k;obtain⟨_,z,_⟩:=k;rw[h] at z;cases z
end
section
variable {X:Cx}
theorem vd:bY X (.builtin "len") (rC X (iV fun kvs=>.int kvs.length)):=by
 intro af s σ H xs us Q I r h;obtain⟨θ,M,ds,hw,rd,h⟩:=h;rcases n9 (fun kvs=>.int kvs.length) ds M with e|⟨i,kvs,rfl,q,e⟩
 ·rw[e] at h;exact h.elim
 rw[e] at h;obtain⟨v,ev,a,ea,ta⟩:=eR rd;obtain⟨vs,hv,ra⟩:=hw.at_ i a _ ta q;rw[ev,ea] at r;cases r with
 | cons r1 r2=>
  cases r2;rw[show _=Value.ref a from r1];obtain⟨z,lo,ys,rel,o,es,ep,h1,h2,h3,h4,_⟩:=(show bH X.prog X.w H s.heap a (.dT vs) from I.hok a _ hv);have sz:es.size=kvs.length:=by rw[←Array.length_toList,h4,length_map,←rel.length,dN ra]
  have le:kvs.length≤sizeLine:=by rw[dN ra];exact z
  refine uL lo ⟨o,h1,h2,h3⟩ (by rw[sz];rw[sizeLine_eq] at le;omega) ⟨.int kvs.length,H,I.tok _,⟨_,by rw[sz]⟩,h _ θ H (.refl hw) rfl⟩
theorem mN {K:W.Frag}{θ:List Addr}{H:Hp}{M:am}(hw:Wr K θ H M):∀{kvs:List (List bF×D)} {vs:List (List bF×V)} {ys:List (List bF×Addr×Value)},gR K θ H kvs vs→Paired (fun(p:List bF×V) (q:List bF×Addr×Value)=>p.1=q.1∧H q.2.1=some (.tup (p.1.map kV))∧aI p.2 q.2.2) vs ys→aH K θ H (kvs.map fun p=>.tup (p.1.map nM)) (ys.map fun q=>V.ref q.2.1)
 | [],vs,ys,ra,rel=>by
  have e:vs=[]:=ra;subst e;cases rel;exact rfl
 | (k,d)::fs,vs,ys,ra,rel=>by
  obtain⟨v,r,e,_,h2⟩:=ra;subst e;cases rel with
  | cons hq t=>exact⟨_,_,rfl,⟨_,_,rfl,⟨hq.2.1,qL hw hq.2.1⟩,vz k⟩,mN hw h2 t⟩
theorem m4:∀ys:List (List bF×Addr×Value),aD (ys.map fun q=>V.ref q.2.1) (ys.map fun q=>Value.ref q.2.1)
 | []=>.nil
 | _::ys=>.cons rfl (m4 ys)
theorem rW (hc:X.calm=true):bY X (.type "list") (rC X (iV fun kvs=>.lst (kvs.map fun p=>.tup (p.1.map nM)))):=by
 intro af s σ H xs us Q I r h;obtain⟨θ,M,ds,hw,rd,h⟩:=h;rcases n9 (fun kvs=>.lst (kvs.map fun p=>.tup (p.1.map nM))) ds M with e|⟨i,kvs,rfl,q,e⟩
 ·rw[e] at h;exact h.elim
 rw[e] at h;obtain⟨v,ev,a,ea,ta⟩:=eR rd;obtain⟨vs,hv,ra⟩:=hw.at_ i a _ ta q;rw[ev,ea] at r;cases r with
 | cons r1 r2=>
  cases r2;rw[show _=Value.ref a from r1];obtain⟨z,lo,ys,rel,o,es,ep,h1,h2,h3,h4,_⟩:=(show bH X.prog X.w H s.heap a (.dT vs) from I.hok a _ hv);have sz:es.size=ys.length:=by rw[←Array.length_toList,h4,length_map]
  have ly:ys.length≤sizeLine:=by rw[←rel.length];exact z
  refine kdl_call (vC lo) (show X.A.handled=none from I.ok.hd hc) ⟨o,h1,h2,h3⟩ (by rw[sz];exact ly) fun h' tk acc c hk hS hacc=>?_
  have hp:H s.heap.objs.size=none:=I.hok.fresh (Nat.le_refl _);have el:acc.toList=ys.map fun q=>Value.ref q.2.1:=by
   apply List.ext_getElem?;intro j;rw[Array.getElem?_toList,getElem?_map]
   by_cases hj:j<acc.size
   ·obtain⟨e',he,hx⟩:=hacc.2 j _ (Array.getElem?_eq_getElem hj);rw[Array.getElem?_eq_getElem hj,hx];rw[←Array.getElem?_toList,h4,getElem?_map] at he;obtain⟨y,hy,rfl⟩:=Option.map_eq_some_iff.mp he;rw[hy];rfl
   ·rw[Array.getElem?_eq_none (by omega),getElem?_eq_none (by rw[←sz,←hacc.1];omega)];rfl
  refine⟨.ref s.heap.objs.size,bX H s.heap.objs.size (.lst (ys.map fun q=>V.ref q.2.1)),I.laid (t':=tk) hk (Nat.le_refl _) ⟨by rw[length_map];exact ly,acc.toList,c,by rw[el];exact m4 ys,by rw[Array.toArray_toList];exact hS⟩,rfl,h _ θ _ (cJ hw hp) (eI hw hp (mN hw ra rel))⟩
end
end DL
namespace DL
open PySem PySem.Spec PyProof.Rows L2 List
section
variable {prog:Program}{w:World}{A:Around}{E:Value→Shared→Prop}{s:Shared}{z TI TO i1 i2 l1 l2:Addr}{k1 k2:Nat}{xs ys:Array Value}{x y a b:Value}
structure o0 (h:Heap)(z TI TO i1 i2 l1 l2:Addr)(k:Nat):Prop where
 z:IsZip h z TI TO .none
 ti:IsPair h TI (.ref i1) (.ref i2)
 to:∃a b,IsPair h TO a b
 i1:h.IsTupleIter i1 l1 k
 i2:h.IsTupleIter i2 l2 k
theorem qt {Q:Value→Shared→Prop}{k:Nat}(D:ZipApart z TI TO i1 i2 l1 l2)(t:o0 s.heap z TI TO i1 i2 l1 l2 k)(hl1:s.heap.IsTuple l1 xs)(hl2:s.heap.IsTuple l2 ys)(hx:xs[k]?=some x)(hy:ys[k]?=some y)
  (hQ:∀h',IsZip h' z TI TO (rawInt s.heap.objs.size)→IsPair h' TO x y→h'.IsTupleIter i1 l1 (k+1)→h'.IsTupleIter i2 l2 (k+1)→IsPair h' s.heap.objs.size x y→h'.objs.size=s.heap.objs.size+1→
   (∀c o,c∉[z,TO,i1,i2]→s.heap.get? c=some o→h'.get? c=some o)→Q (.ref s.heap.objs.size) {s with heap:=h'}) :
  wpAny (model prog w) A (Builtin.«zip.__next__» ⟨[.ref z],[]⟩) (fun fin s'=>∃v,fin=.done (.ret v)∧Q v s') E s:=by
 obtain⟨hz,hTI,⟨a,b,hTO⟩,h1,h2⟩:=t;show wpAny _ _ (field (.ref z) 2 >>= _) _ _ _;refine wpAny_bind (wpAny_field hz rfl (x:=.bool false) rfl ?_);show wpAny _ _ (field (.ref z) 3 >>= _) _ _ _;refine wpAny_bind (wpAny_field hz rfl (x:=.ref TI) rfl (wpAny_bind (wpAny_seqItems hTI rfl ?_)));show wpAny _ _ (Builtin.SmallTypes.ownedTupleIsFree (.ref z) >>= _) _ _ _;refine wpAny_bind ?_;unfold Builtin.SmallTypes.ownedTupleIsFree;refine wpAny_bind (wpAny_field hz rfl (x:=.none) rfl (wpAny_pure ?_));simp only[if_true];refine wpAny_bind (wpAny_rule (wpAny_bind (wpAny_field hz rfl (x:=.ref TO) rfl (wpAny_bind (wpAny_setField_rec hz (by simp) fun ha za sa=>?_)))));have za:IsZip ha z TI TO .ellipsis:=za;refine wpAny_bind ?_;simp only[List.zipIdx_cons,List.zipIdx_nil,forIn_cons,forIn_nil];refine wpAny_bind (wpAny_bind (wpAny_onRaise ?_));show wpAny _ _ (Builtin.SmallTypes.nextOf (.ref i1) >>= _) _ _ _;refine wpAny_bind (jv (h1.at fun o e=>sa.extBut _ o D.i1z e) (hl1.extBut sa.extBut D.l1z) hx fun hb ib sb=>wpAny_pure ?_);have tb:IsPair hb TO a b:=sb.extBut _ _ D.TOi1 (sa.extBut _ _ D.TOz hTO);refine wpAny_bind (wpAny_seqItems tb rfl (wpAny_bind (wpAny_updateSeq_pair tb fun hc tc sc=>?_)));have tc:IsPair hc TO x b:=tc;refine wpAny_bind (wpAny_letGo (wpAny_pure (wpAny_bind (wpAny_bind (wpAny_onRaise ?_)))));show wpAny _ _ (Builtin.SmallTypes.nextOf (.ref i2) >>= _) _ _ _;refine wpAny_bind (jv (h2.at fun o e=>sc.extBut _ o D.TOi2.symm (sb.extBut _ o D.i12.symm (sa.extBut _ o D.i2z e))) (((hl2.extBut sa.extBut D.l2z).extBut sb.extBut D.l2i1).extBut sc.extBut D.l2TO) hy fun hd id sd=>wpAny_pure ?_);have td:IsPair hd TO x b:=sd.extBut _ _ D.TOi2 tc;refine wpAny_bind (wpAny_seqItems td rfl (wpAny_bind (wpAny_updateSeq_pair td fun he te se=>?_)));have te:IsPair he TO x y:=te;refine wpAny_bind (wpAny_letGo (wpAny_pure (wpAny_pure (wpAny_bind (wpAny_seqItems te rfl (wpAny_bind (wpAny_newTuple ?_)))))));have hsz:he.objs.size=s.heap.objs.size:=by rw[se.1,sd.1,sc.1,sb.1,sa.1]
 have ze:IsZip he z TI TO .ellipsis:=se.extBut _ _ D.TOz.symm (sd.extBut _ _ D.i2z.symm (sc.extBut _ _ D.TOz.symm (sb.extBut _ _ D.i1z.symm za)));have ke:∀c o,c∉[z,TO,i1,i2]→s.heap.get? c=some o→he.get? c=some o:=fun c o hc e=>by
  have c1:c≠z:=fun q=>hc (by simp[q])
  have c2:c≠TO:=fun q=>hc (by simp[q])
  have c3:c≠i1:=fun q=>hc (by simp[q])
  have c4:c≠i2:=fun q=>hc (by simp[q])
  exact se.extBut _ _ c2 (sd.extBut _ _ c4 (sc.extBut _ _ c2 (sb.extBut _ _ c3 (sa.extBut _ _ c1 e))))
 have ie1:he.IsTupleIter i1 l1 (k+1):=ib.at fun o e=>se.extBut _ o D.TOi1.symm (sd.extBut _ o D.i12 (sc.extBut _ o D.TOi1.symm e))
 have ie2:he.IsTupleIter i2 l2 (k+1):=id.at fun o e=>se.extBut _ o D.TOi2.symm e
 have zlt:z<he.objs.size:=Heap.lt_size ze;show wpAny _ _ (Builtin.SmallTypes.ownedTupleHandOut (.ref z) (.ref he.objs.size) >>= _) _ _ _;refine wpAny_bind ?_;unfold Builtin.SmallTypes.ownedTupleHandOut;have zf:IsZip (he.push {cls:=.type "tuple",data:=.seq #[x,y]}) z TI TO .ellipsis:=Heap.get?_push_of_some _ ze;refine wpAny_bind (wpAny_setField_rec zf (by simp) fun hg zg sg=>?_);have zg:IsZip hg z TI TO (rawInt he.objs.size):=zg;refine wpAny_setField_rec zg (by simp) fun hh zh sh=>?_
 have zh:IsZip hh z TI TO (rawInt he.objs.size):=zh;have up:∀c o,c≠z→he.get? c=some o→hh.get? c=some o:=fun c o c1 e=>sh.extBut _ _ c1 (sg.extBut _ _ c1 (Heap.get?_push_of_some _ e))
 have th:IsPair hh he.objs.size x y:=sh.extBut _ _ (Nat.ne_of_gt zlt) (sg.extBut _ _ (Nat.ne_of_gt zlt) (Heap.get?_push_size _ rfl));have lh:hh.objs.size=he.objs.size+1:=by rw[sh.1,sg.1,Heap.size_push]
 rw[hsz] at zh th lh;refine wpAny_pure ⟨_,rfl,?_⟩;show Q (.ref he.objs.size) _;rw[hsz];exact hQ hh zh (up _ _ D.TOz te) (ie1.at fun o e=>up _ o D.i1z e) (ie2.at fun o e=>up _ o D.i2z e) th lh fun c o hc e=>up c o (fun q=>hc (by simp[q])) (ke c o hc e)
theorem qN {Q:PySem.Fin→Shared→Prop}{k:Nat}(hh:A.handled=none)(D:ZipApart z TI TO i1 i2 l1 l2)(t:o0 s.heap z TI TO i1 i2 l1 l2 k)(hl1:s.heap.IsTuple l1 xs)(hx:xs[k]?=none)
  (hE:∀h' e,(∀c o,c∉[z,TO,i1,i2]→s.heap.get? c=some o→h'.get? c=some o)→(∃o,h'.get? e=some o∧o.cls=.type "StopIteration")→E (.ref e) {s with heap:=h'}) :
  wpAny (model prog w) A (Builtin.«zip.__next__» ⟨[.ref z],[]⟩) Q E s:=by
 obtain⟨hz,hTI,⟨a,b,hTO⟩,h1,h2⟩:=t;show wpAny _ _ (field (.ref z) 2 >>= _) _ _ _;refine wpAny_bind (wpAny_field hz rfl (x:=.bool false) rfl ?_);show wpAny _ _ (field (.ref z) 3 >>= _) _ _ _;refine wpAny_bind (wpAny_field hz rfl (x:=.ref TI) rfl (wpAny_bind (wpAny_seqItems hTI rfl ?_)));show wpAny _ _ (Builtin.SmallTypes.ownedTupleIsFree (.ref z) >>= _) _ _ _;refine wpAny_bind ?_;unfold Builtin.SmallTypes.ownedTupleIsFree;refine wpAny_bind (wpAny_field hz rfl (x:=.none) rfl (wpAny_pure ?_));simp only[if_true];refine wpAny_bind (wpAny_rule (wpAny_bind (wpAny_field hz rfl (x:=.ref TO) rfl (wpAny_bind (wpAny_setField_rec hz (by simp) fun ha za sa=>?_)))));have za:IsZip ha z TI TO .ellipsis:=za;refine wpAny_bind ?_;simp only[List.zipIdx_cons,List.zipIdx_nil,forIn_cons,forIn_nil];refine wpAny_bind (wpAny_bind (wpAny_onRaise ?_));show wpAny _ _ (Builtin.SmallTypes.nextOf (.ref i1) >>= _) _ _ _;refine wpAny_bind (jn hh (h1.at fun o e=>sa.extBut _ o D.i1z e) (hl1.extBut sa.extBut D.l1z) hx fun hb e sb he=>?_);obtain⟨oe,hoe,hce⟩:=he;have zb:IsZip hb z TI TO .ellipsis:=sb _ _ D.i1z.symm za;have ez:e≠z:=fun q=>by rw[q,zb] at hoe;cases hoe;simp at hce
 exact wpAny_setField_rec zb (by simp) fun hc _ sc=>hE hc e (fun c o hx q=>sc.extBut _ _ (fun p=>hx (by simp[p])) (sb _ _ (fun p=>hx (by simp[p])) (sa.extBut _ _ (fun p=>hx (by simp[p])) q))) ⟨oe,sc.extBut _ _ ez hoe,hce⟩
theorem pF {Q:Option Value→Shared→Prop}{k:Nat}(D:ZipApart z TI TO i1 i2 l1 l2)(t:o0 s.heap z TI TO i1 i2 l1 l2 k)(hl1:s.heap.IsTuple l1 xs)(hl2:s.heap.IsTuple l2 ys)(hx:xs[k]?=some x)(hy:ys[k]?=some y)
  (hQ:∀h',IsZip h' z TI TO (rawInt s.heap.objs.size)→IsPair h' TO x y→h'.IsTupleIter i1 l1 (k+1)→h'.IsTupleIter i2 l2 (k+1)→IsPair h' s.heap.objs.size x y→h'.objs.size=s.heap.objs.size+1→
   (∀c o,c∉[z,TO,i1,i2]→s.heap.get? c=some o→h'.get? c=some o)→Q (some (.ref s.heap.objs.size)) {s with heap:=h'}):wpAny (model prog w) A (pyNext (.ref z)) Q E s:=by
 have hT:s.TypeIs (.ref z) "zip":=⟨_,t.z,rfl⟩;unfold pyNext;exact wpAny_bind (wpAny_attempt (wpAny_callSpecial?_slot (name:=Str.ofString "__next__") hT PySem.F.slot_zip_next (wpAny_call_entry PySem.F.slot_zip_next hT PySem.F.entry_zip_next (qt D t hl1 hl2 hx hy fun h' b1 b2 b3 b4 b5 b6 b7=>wpAny_pure (hQ h' b1 b2 b3 b4 b5 b6 b7)) (PySem.F.args_zip_next_1 _))))
theorem pd {Q:Option Value→Shared→Prop}{k:Nat}(hh:A.handled=none)(D:ZipApart z TI TO i1 i2 l1 l2)(t:o0 s.heap z TI TO i1 i2 l1 l2 k)(hl1:s.heap.IsTuple l1 xs)(hx:xs[k]?=none)
  (hQ:∀h',(∀c o,c∉[z,TO,i1,i2]→s.heap.get? c=some o→h'.get? c=some o)→Q none {s with heap:=h'}):wpAny (model prog w) A (pyNext (.ref z)) Q E s:=by
 have hT:s.TypeIs (.ref z) "zip":=⟨_,t.z,rfl⟩;unfold pyNext;refine wpAny_bind (wpAny_attempt (wpAny_callSpecial?_slot (name:=Str.ofString "__next__") hT PySem.F.slot_zip_next (wpAny_call_entry PySem.F.slot_zip_next hT PySem.F.entry_zip_next (qN hh D t hl1 hx fun h' e hk he=>?_) (PySem.F.args_zip_next_1 _))));obtain⟨o,ho,hc⟩:=he;exact wpAny_bind (wpAny_isInstance (T:="StopIteration") (b:=true) ⟨o,ho,hc⟩ isSubtype_stop (wpAny_pure (hQ _ hk)))
end
def iq (l:Addr):Obj:={cls:=.type "tuple_iterator",data:=.fields #[.ref l,.int 0 0]}
def pI (a b:Value):Obj:={cls:=.type "tuple",data:=.seq #[a,b]}
def Dp (a b:Addr):Obj:={cls:=.type "zip",data:=.fields #[.none,.bool false,.bool false,.ref a,.ref b]}
def zH (h:Heap)(l1 l2:Addr):Heap:=((((h.push (iq l1)).push (iq l2)).push (pI (.ref h.objs.size) (.ref (h.push (iq l1)).objs.size))).push (pI .none .none)).push (Dp ((h.push (iq l1)).push (iq l2)).objs.size (((h.push (iq l1)).push (iq l2)).push (pI (.ref h.objs.size) (.ref (h.push (iq l1)).objs.size))).objs.size)
theorem mw (l1 l2:Addr)(xs ys:Array Value) :
  Meets (Builtin.«zip.__new__» ⟨[.type "zip",.ref l1,.ref l2],[]⟩) (fun _ R s=>s.heap.IsTuple l1 xs∧s.heap.IsTuple l2 ys∧
   R (.ok (.ret (.ref ((((s.heap.push (iq l1)).push (iq l2)).push (pI (.ref s.heap.objs.size) (.ref (s.heap.push (iq l1)).objs.size))).push (pI .none .none)).objs.size))) {s with heap:=zH s.heap l1 l2}):=
 .of_wp fun prog w A R s h=>by
  obtain⟨hp,g,d,tk,os⟩:=s;obtain⟨hl1,hl2,h⟩:=h;have hsub:=sub_zip;have T1:Heap.IsTuple (Shared.heap ⟨hp,g,d,tk,os⟩) l1 xs:=hl1;have T2:Heap.IsTuple (Shared.heap ⟨hp.push {cls:=.type "tuple_iterator",data:=.fields #[.ref l1,.int 0 0]},g,d,tk,os⟩) l2 ys:=by
   obtain⟨o,ho,r⟩:=hl2;exact⟨o,Heap.get?_push_of_some _ ho,r⟩
  wp_walk using wpAny_pyIter_tuple T1,wpAny_pyIter_tuple T2
  exact⟨_,rfl,h⟩
theorem kN {prog:Program}{w:World}{A:Around}{E:Value→Shared→Prop}{s:Shared}{l1 l2:Addr}{xs ys:Array Value}{Q:Value→Shared→Prop}(hl1:s.heap.IsTuple l1 xs)(hl2:s.heap.IsTuple l2 ys)
  (q:∀h',o0 h' (s.heap.objs.size+4) (s.heap.objs.size+2) (s.heap.objs.size+3) s.heap.objs.size (s.heap.objs.size+1) l1 l2 0→(∀b o,s.heap.get? b=some o→h'.get? b=some o)→Q (.ref (s.heap.objs.size+4)) {s with heap:=h'}) :
  wpAny (model prog w) A (call (.type "zip") [.ref l1,.ref l2]) Q E s:=by
 refine callType_new PySem.F.called_zip (by decide) (PySem.F.typeCall_zip_2 _ _) (PySem.F.newCall_zip_2 _ _) (fun obj=>PySem.F.args_object_init_3 obj _ _) PySem.F.entry_zip_new (mw l1 l2 xs ys) ⟨hl1,hl2,?_⟩;show _∧_;have z1:(s.heap.push (iq l1)).objs.size=s.heap.objs.size+1:=Heap.size_push ..;have z2:((s.heap.push (iq l1)).push (iq l2)).objs.size=s.heap.objs.size+2:=by rw[Heap.size_push,z1]
 unfold zH;rw[z1,z2];have z3:(((s.heap.push (iq l1)).push (iq l2)).push (pI (.ref s.heap.objs.size) (.ref (s.heap.objs.size+1)))).objs.size=s.heap.objs.size+3:=by rw[Heap.size_push,z2]
 rw[z3];have z4:((((s.heap.push (iq l1)).push (iq l2)).push (pI (.ref s.heap.objs.size) (.ref (s.heap.objs.size+1)))).push (pI .none .none)).objs.size=s.heap.objs.size+4:=by rw[Heap.size_push,z3]
 rw[z4];have g1:(s.heap.push (iq l1)).get? s.heap.objs.size=some (iq l1):=Heap.get?_push_size _ rfl;have g2:=Heap.get?_push_size (s.heap.push (iq l1)) (o:=iq l2) rfl;rw[z1] at g2;have g3:=Heap.get?_push_size ((s.heap.push (iq l1)).push (iq l2)) (o:=pI (.ref s.heap.objs.size) (.ref (s.heap.objs.size+1))) rfl;rw[z2] at g3;have g4:=Heap.get?_push_size (((s.heap.push (iq l1)).push (iq l2)).push (pI (.ref s.heap.objs.size) (.ref (s.heap.objs.size+1)))) (o:=pI .none .none) rfl;rw[z3] at g4;have g5:=Heap.get?_push_size ((((s.heap.push (iq l1)).push (iq l2)).push (pI (.ref s.heap.objs.size) (.ref (s.heap.objs.size+1)))).push (pI .none .none)) (o:=Dp (s.heap.objs.size+2) (s.heap.objs.size+3)) rfl;rw[z4] at g5;refine⟨⟨_,g5,rfl⟩,q _ ⟨g5,Heap.get?_push_of_some _ (Heap.get?_push_of_some _ g3),⟨_,_,Heap.get?_push_of_some _ g4⟩,⟨_,Heap.get?_push_of_some _ (Heap.get?_push_of_some _ (Heap.get?_push_of_some _ (Heap.get?_push_of_some _ g1))),rfl,rfl⟩,⟨_,Heap.get?_push_of_some _ (Heap.get?_push_of_some _ (Heap.get?_push_of_some _ g2)),rfl,rfl⟩⟩ fun b o e=>Heap.get?_push_of_some _ (Heap.get?_push_of_some _ (Heap.get?_push_of_some _ (Heap.get?_push_of_some _ (Heap.get?_push_of_some _ e))))⟩
def CC (K:W.Frag)(a b:Addr):It:=
 ⟨fun i H=>∃xs ys x y,io K H a xs∧io K H b ys∧xs[i]?=some x∧ys[i]?=some y,
  fun i H v H'=>∃p x y,H p=none∧H'=bX H p (.tup [x,y])∧v=.ref p∧(∀xs,io K H a xs→xs[i]?=some x)∧∀ys,io K H b ys→ys[i]?=some y,
  fun i H=>∃xs,io K H a xs∧xs.length≤i⟩
theorem sv {P:Program}{w:World}{K:W.Frag}{es:List Expr}{kt:Nat}{pos:Pos}{z TI TO i1 i2 a b:Addr}(D:ZipApart z TI TO i1 i2 a b) :
  mB P w K (.Tuple es kt pos) (CC K a b) [z,TO,i1,i2,TI] z (fun i h=>o0 h z TI TO i1 i2 a b i) where
 mem:=by simp
 obj:=fun i h st c hc=>by
  obtain⟨hz,hTI,⟨x,y,hTO⟩,⟨o1,e1,_,d1⟩,⟨o2,e2,_,d2⟩⟩:=st;simp only[mem_cons,not_mem_nil,or_false] at hc;rcases hc with rfl|rfl|rfl|rfl|rfl
  ·exact⟨_,hz,fun v q=>by cases q⟩
  ·exact⟨_,hTO,fun v q=>by cases q⟩
  ·exact⟨o1,e1,fun v q=>by rw[d1] at q;cases q⟩
  ·exact⟨o2,e2,fun v q=>by rw[d2] at q;cases q⟩
  ·exact⟨_,hTI,fun v q=>by cases q⟩
 keep:=fun i h h' st k=>by
  obtain⟨hz,hTI,⟨x,y,hTO⟩,h1,h2⟩:=st;exact⟨k z (by simp) _ hz,k TI (by simp) _ hTI,⟨x,y,k TO (by simp) _ hTO⟩,h1.at fun o e=>k i1 (by simp) o e,h2.at fun o e=>k i2 (by simp) o e⟩
 item:=by
  intro X hP hw hK hc i af s σ H E I hf st hg;subst hP hw hK;obtain⟨xs,ys,x,y,hq1,hq2,hx,hy⟩:=hg;obtain⟨its1,rv1,p1,_⟩:=I.tuple hq1;obtain⟨its2,rv2,p2,_⟩:=I.tuple hq2;obtain⟨u1,hu1,ru1⟩:=rv1.get hx;obtain⟨u2,hu2,ru2⟩:=rv2.get hy;have p1:s.heap.IsTuple a its1.toArray:=p1;have p2:s.heap.IsTuple b its2.toArray:=p2;refine pF D st p1 p2 (x:=u1) (y:=u2) (by simpa using hu1) (by simpa using hu2) fun h' hz ht h1 h2 hT hsz hk=>⟨_,rfl,wpAny_letOwnedTupleGo_zip hz fun h3 hz3 hs3=>?_⟩
  have hs3:Heap.SameBut z h' h3:=hs3;have zlt:z<s.heap.objs.size:=Heap.lt_size st.z;have fr:H s.heap.objs.size=none:=I.hok.fresh (Nat.le_refl _);have hT3:h3.get? s.heap.objs.size=some {cls:=.type "tuple",data:=.seq #[u1,u2]}:=(hs3.2 _ (Nat.ne_of_gt zlt)).trans hT;have k3:∀c o,c∉[z,TO,i1,i2]→s.heap.get? c=some o→h3.get? c=some o:=fun c o hc e=>(hs3.2 c (fun q=>hc (by simp[q]))).trans (hk c o hc e)
  have new:bH X.prog X.w (bX H s.heap.objs.size (.tup [x,y])) h3 s.heap.objs.size (.tup [x,y]):=
   ⟨Nat.le_trans (by decide:2≤1000) (by rw[sizeLine_eq];decide),[u1,u2],.cons ru1 (.cons ru2 .nil),⟨_,hT3,rfl,_,rfl⟩⟩
  have I3:=li (t':=s.toks) I hf (fun c o hc e=>k3 c o (fun q=>hc (by simp only[mem_cons,not_mem_nil,or_false] at q ⊢;rcases q with q|q|q|q <;> simp[q])) e) (Nat.le_refl _) new;refine⟨.ref s.heap.objs.size,_,I3,rfl,⟨_,x,y,fr,rfl,rfl,fun zs h=>by rw[I.tuple_inj h hq1];exact hx,fun zs h=>by rw[I.tuple_inj h hq2];exact hy⟩,⟨hz3,?_,⟨u1,u2,(hs3.2 _ D.TOz).trans ht⟩,h1.at fun o e=>(hs3.2 _ D.i1z).trans e,h2.at fun o e=>(hs3.2 _ D.i2z).trans e⟩,fun c hc=>?_⟩
  ·exact k3 TI _ (by simp[D.TIz,D.TITO,D.TIi1,D.TIi2]) st.ti
  ·have lt:c<s.heap.objs.size:=by
    obtain⟨hz,hTI,⟨x,y,hTO⟩,⟨o1,e1,_,d1⟩,⟨o2,e2,_,d2⟩⟩:=st;have hc2:=hc;simp only[mem_cons,not_mem_nil,or_false] at hc2;rcases hc2 with q|q|q|q|q <;> rw[q]
    ·exact Heap.lt_size hz
    ·exact Heap.lt_size hTO
    ·exact Heap.lt_size e1
    ·exact Heap.lt_size e2
    ·exact Heap.lt_size hTI
   rw[aq (Nat.ne_of_lt lt)];exact(hf c hc).1
 done:=by
  intro X hP hw hK hc i af s σ H E I hf st hg;subst hP hw hK;obtain⟨xs,hq1,hx⟩:=hg;obtain⟨its1,rv1,p1,_⟩:=I.tuple hq1;have p1:s.heap.IsTuple a its1.toArray:=p1;have hl:=rv1.length;refine pd (I.ok.hd hc) D st p1 (by simp;omega) fun h' hk=>⟨rfl,pX (t':=s.toks) I hf fun c o hc e=>hk c o (fun q=>hc (by simp only[mem_cons,not_mem_nil,or_false] at q ⊢;rcases q with q|q|q|q <;> simp[q])) e⟩
 self:=fun _ _ _ _ _ st h=>wpAny_pyIter_zip st.z h
theorem zo {X:Cx}{es:List Expr}{kt:Nat}{tp:Pos}{l r:Expr}{tl:TA}{p pos:Pos}(hg:Gl X "zip")(hm:X.mg "zip"=none)(hv:bootBuiltins "zip"=some (.type "zip"))(hl:PA X [l,r] tl)(hs:starEach [l,r] X.env=(false,eval l X.env)::starEach [r] X.env:=by rfl)(hp:(backTo pos (starEach [r] X.env)).any (·.1)=false:=by rfl) :
  PI X (.Tuple es kt tp) (.Call (.Name "zip" p) [l,r] [] pos) (fun σ H R=>tl σ H fun xs H1=>∃a b,xs=[.ref a,.ref b]∧(∃xs,io X.K H1 a xs)∧(∃ys,io X.K H1 b ys)∧R (CC X.K a b) H1):=by
 intro af s σ H R I h;refine Call_ (jB I hg hm hv (PyProof.Rows.callWith_type1 (bA (hl pos af s σ H _ I h) fun us s1 hxx=>?_) hs hp));obtain⟨vs,H1,I1,r1,a,b,e,⟨xs,hq1⟩,⟨ys,hq2⟩,q⟩:=hxx;subst e;cases r1 with
 | cons ra rr=>
  cases rr with
  | cons rb rr=>
   cases rr;rw[show _=Value.ref a from ra,show _=Value.ref b from rb];obtain⟨its1,rv1,p1,_⟩:=I1.tuple hq1;obtain⟨its2,rv2,p2,_⟩:=I1.tuple hq2;have p1:s1.heap.IsTuple a its1.toArray:=p1;have p2:s1.heap.IsTuple b its2.toArray:=p2;refine kN p1 p2 fun h' zt hk=>wpAny_pyIter_zip zt.z ⟨_,[s1.heap.objs.size+4,s1.heap.objs.size+3,s1.heap.objs.size,s1.heap.objs.size+1,s1.heap.objs.size+2],_,_,H1,rfl,I1.kept (t':=s1.toks) hk,sv (zipApart_new (by obtain⟨o,e,_⟩:=p1;exact Heap.lt_size e) (by obtain⟨o,e,_⟩:=p2;exact Heap.lt_size e)),zt,fun c hc=>?_,q⟩
   have hb:s1.heap.objs.size≤c:=by
    simp only[mem_cons,not_mem_nil,or_false] at hc;rcases hc with q|q|q|q|q <;> rw[q] <;> omega
   exact I1.fpOk hb (I1.hok.fresh hb)
def jQ (xs ys:List D):List D:=xs.zipWith (fun x y=>D.tup [x,y]) ys
theorem qX {xs ys:List D}{i:Nat}{d:D}(h:(jQ xs ys)[i]?=some d):∃x y,xs[i]?=some x∧ys[i]?=some y∧d=.tup [x,y]:=by
 unfold jQ at h;rw[getElem?_zipWith] at h;cases q:xs[i]? with
 | none=>rw[q] at h;cases h
 | some x=>
  cases q2:ys[i]? with
  | none=>rw[q,q2] at h;cases h
  | some y=>rw[q,q2] at h;exact⟨x,y,rfl,rfl,(Option.some.inj h).symm⟩
def oQ (ds:List D)(M:am):aF iu:=match ds with
 | [.tup xs,.tup ys]=>if xs.length=ys.length then .ok ⟨jQ xs ys,none⟩ M else .bad
 | _=>.bad
theorem sU (ds:List D)(M:am):oQ ds M=.bad∨∃xs ys,ds=[.tup xs,.tup ys]∧xs.length=ys.length∧oQ ds M=.ok ⟨jQ xs ys,none⟩ M:=by
 match ds with
 | []=>exact .inl rfl
 | [x]=>cases x <;> exact .inl rfl
 | _::_::_::_=>exact .inl (by unfold oQ;split <;> first|rfl|(rename_i h;cases h))
 | [x,y]=>
  cases x with
  | tup xs=>
   cases y with
   | tup ys=>
    by_cases h:xs.length=ys.length
    ·exact .inr ⟨xs,ys,rfl,h,if_pos h⟩
    ·exact .inl (if_neg h)
   | _=>exact .inl rfl
  | _=>exact .inl rfl
def nc (g:GA):GI:=fun ρ M=>(g ρ M).bind oQ
theorem vM {K:W.Frag}{θ:List Addr}{H:Hp}{a b:Addr}{xs ys:List D}{vs us:List V}(ta:∀θ1 H1,Grow θ H θ1 H1→io K H1 a vs)(tb:∀θ1 H1,Grow θ H θ1 H1→io K H1 b us)(hl:xs.length=ys.length)(r1:aH K θ H xs vs)(r2:aH K θ H ys us):qw K (CC K a b) θ H ⟨jQ xs ys,none⟩:=by
 intro θ1 H1 M1 g _ i;have t1:=ta θ1 H1 g.toGrow;have t2:=tb θ1 H1 g.toGrow;have r1:=r1.go g;have r2:=r2.go g;refine⟨fun d e=>?_,fun h=>⟨vs,t1,by
  have h:(jQ xs ys).length≤i:=h;unfold jQ at h;rw[List.length_zipWith,←hl,Nat.min_self,al r1] at h;exact h⟩⟩
 obtain⟨x,y,ex,ey,ed⟩:=qX e;obtain⟨v,ev,rv⟩:=dh r1 ex;obtain⟨u,eu,ru⟩:=dh r2 ey;refine⟨⟨vs,us,v,u,t1,t2,ev,eu⟩,fun x' H2 q=>?_⟩;obtain⟨p,x2,y2,np,eH,exr,h1,h2⟩:=q;have e1:=h1 vs t1;rw[ev] at e1;cases e1;have e2:=h2 us t2;rw[eu] at e2;cases e2;subst eH exr ed;exact⟨cJ g.wr np,eN (ds:=[x,y]) g.wr np ⟨_,_,rfl,rv,_,_,rfl,ru,rfl⟩⟩
theorem yW {X:Cx}{es:List Expr}{kt:Nat}{tp:Pos}{l r:Expr}{g:GA}{p pos:Pos}(hg:Gl X "zip")(hm:X.mg "zip"=none)(hv:bootBuiltins "zip"=some (.type "zip"))(hl:PA X [l,r] (tA X g))(hs:starEach [l,r] X.env=(false,eval l X.env)::starEach [r] X.env:=by rfl)(hp:(backTo pos (starEach [r] X.env)).any (·.1)=false:=by rfl) :
  PI X (.Tuple es kt tp) (.Call (.Name "zip" p) [l,r] [] pos) (tI X (nc g)):=by
 intro af s σ H R I h;refine zo hg hm hv hl hs hp af s σ H R I ?_;obtain⟨ρ,θ,M,hd,hw,h⟩:=h;refine hG hd hw (rG X θ H R) (fun c M' h=>h) (fun h=>h) h fun ds M1 vs θ1 H1 g1 r1 h1=>?_
 rcases sU ds M1 with e|⟨xs,ys,rfl,hl,e⟩
 ·rw[e] at h1;exact h1.elim
 rw[e] at h1;obtain⟨v,rr,ev,⟨a,us,e2,ta,rs⟩,v2,rr2,ev2,⟨b,Dt,e3,tb,rs2⟩,rr3⟩:=r1;have rr3:rr2=[]:=rr3;subst rr3 ev2 e2 e3;exact⟨a,b,ev,⟨us,ta.sq⟩,⟨Dt,tb.sq⟩,h1 _ θ1 H1 g1 (vM (fun θ2 H2 g2=>(ta.grow g2).sq) (fun θ2 H2 g2=>(tb.grow g2).sq) hl rs rs2)⟩
def pG:FD:=iV fun kvs=>.int kvs.length
def kF:FD:=iV fun kvs=>.lst (kvs.map fun p=>.tup (p.1.map nM))
section
variable {X:Cx}{k:Nat}{o i e a b:Expr}{go gi ge:GE}{gA:GA}{pos p:Pos}
theorem C5 (hr:cq k X.A):X.A.units+1<cLine:=Nat.lt_of_le_of_lt (Nat.add_le_add_left (by decide) _) hr.units
theorem qH (hr:cq k X.A):Q2 X (compareOp .NotIn) (zI true):=⟨pk (C5 hr)⟩
theorem uz (hr:cq k X.A)(ho:QE X o go)(hi:QE X i gi)(hs:vf i:=by intro _ _;rfl):QE X (.Subscript o i pos) (g2 l7 go gi):=⟨uW (C5 hr) ho.h hi.h hs⟩
theorem uU {pos':Pos}(hr:cq k X.A)(ho:QE X o go)(hi:QE X i gi)(hv:QE X e ge)(hs:swapsWith e (some (.Subscript o i pos')) pos.line X.env=pure false:=by rfl):QS X (.Assign [.Subscript o i pos'] e pos) (j7 go gi ge):=⟨vU (C5 hr) ho.h hi.h hv.h hs⟩
theorem wM:QC X (.builtin "len") pG:=⟨vd⟩
theorem uY (hc:X.calm=true:=by rfl):QC X (.type "list") kF:=⟨rW hc⟩
theorem xH {es:List Expr}{kt:Nat}{tp:Pos}(hg:Gl X "zip")(hm:X.mg "zip"=none)(hv:bootBuiltins "zip"=some (.type "zip"))(ha:QA X [a,b] gA)(h1:bw a=true:=by rfl)(h2:cK [b]=true:=by rfl):QI X (.Tuple es kt tp) (.Call (.Name "zip" p) [a,b] [] pos) (nc gA):=⟨yW hg hm hv ha.h (sE h1) (sS h2)⟩
end
section
variable {X:Cx}{af:List (Addr×Obj)}{σ:L2.St}{H:Hp}{s:Shared}{θ:List Addr}
theorem lc (hu:X.A.units+64<cLine)(I:L2.Inv X af σ H s){dx:D}{x:V}{v:Value}{ds:List D}{vs:List V}{its:List Value}(hx:au 40 dx=true)(hc:ds.all (au 40)=true)(r1:cD X.K θ H dx x)(rx:aI x v)(ra:aH X.K θ H ds vs)(r:aD vs its) :
  ∀w∈its,SeqAt.EqAt X.A.in1 s w v (inE s.heap (eV dx) w):=fun w hw=>by
 obtain⟨bs,RX⟩:=fh I dx 40 x v hx r1 rx;have lx:=dQ dx 40 hx;obtain⟨d,as,R,l1,l2⟩:=(i4 I hx hc ra r).2 w hw;rw[nR R l1];exact SeqAt.eqAt_reads d (eV dx) X.A.in1 s w v as bs R RX l1 lx.1 (by
  show X.A.units+1+min d.depth (eV dx).depth<cLine;have:min d.depth (eV dx).depth≤d.depth:=Nat.min_le_left _ _;omega)
theorem pZ (hu:X.A.units+64<cLine):dO X (compareOp .NotIn) (rD X (zE true)):=by
 intro af s σ H x y v u Q I rx ry h;obtain⟨θ,M,dx,dy,hw,r1,r2,h⟩:=h;unfold zE at h;cases q:bu dy M with
 | none=>rw[q] at h;exact h.elim
 | some xs=>
  rw[q] at h;dsimp only at h
  by_cases hc:(au 40 dx&&xs.all (au 40))=true
  ·rw[if_pos hc] at h;rw[Bool.and_eq_true] at hc;obtain⟨a,vs,ea,sq,ra⟩:=jq hw r2 q;subst ea;cases ry;have k:=h _ θ H (.refl hw) rfl;rw[Bool.bne_true] at k;rcases sq with sq|sq
   ·obtain⟨its,r,pl,hz⟩:=I.list sq;refine SeqAt.notIn_listAt (inE s.heap (eV dx)) pl.isList (fun w hw=>lc hu I hc.1 hc.2 r1 rx ra r w (by simpa using hw)) ⟨.bl _,H,I,rfl,?_⟩;rw[show its.toArray.any (inE s.heap (eV dx))=its.any (inE s.heap (eV dx)) by simp,(i4 I hc.1 hc.2 ra r).1];exact k
   ·obtain⟨its,r,pl,hz⟩:=I.tuple sq;refine SeqAt.notIn_tupleAt (inE s.heap (eV dx)) pl (fun w hw=>lc hu I hc.1 hc.2 r1 rx ra r w (by simpa using hw)) ⟨.bl _,H,I,rfl,?_⟩;rw[show its.toArray.any (inE s.heap (eV dx))=its.any (inE s.heap (eV dx)) by simp,(i4 I hc.1 hc.2 ra r).1];exact k
  ·rw[if_neg hc] at h;exact h.elim
theorem oj (I:L2.Inv X af σ H s){x:D}(hx:au 40 x=true):∀{ds:List D} {vs:List V} {us:List Value},ds.all (au 40)=true→aH X.K θ H ds vs→aD vs us→us.map (inE s.heap (eV x))=ds.map fun y=>eW y x
 | [],vs,us,_,r,v=>by
  have e:vs=[]:=r;subst e;cases v;rfl
 | d::ds,vs,us,c,r,v=>by
  rw[all_cons,Bool.and_eq_true] at c;obtain⟨v1,vr,e1,r1,r2⟩:=r;subst e1;cases v with
  | cons h1 h2=>
   obtain⟨as,R⟩:=fh I d 40 _ _ c.1 r1 h1;rw[map_cons,map_cons,oj I hx c.2 r2 h2,nR R (dQ d 40 c.1).1,im d x 40 40 c.1 hx]
theorem fv {α β:Type}(f:α→β)(p:β→Bool):∀l:List α,(l.map f).findIdx? p=l.findIdx? fun x=>p (f x)
 | []=>rfl
 | a::l=>by rw[map_cons,findIdx?_cons,findIdx?_cons,fv f p l]
def gq (xs:List D)(x:D)(M:am):aF D:=if au 40 x&&xs.all (au 40) then(match xs.findIdx? fun y=>eW y x with|some j=>.ok (.int (j:Nat)) M|none=>.bad) else .bad
def oT (X:Cx):V→List V→Hp→VK→Prop:=fun x vs H Q=>∃θ p ds us dx y j,x=.ref p∧vs=[y]∧iJ X.K H p us∧aH X.K θ H ds us∧cD X.K θ H dx y∧au 40 dx=true∧ds.all (au 40)=true∧(ds.findIdx? fun z=>eW z dx)=some j∧Q (.int (j:Nat)) H
theorem p8 (hu:X.A.units+64<cLine):Dv X "list.index" (oT X):=by
 intro af s σ H x vs v us Q I rx rv h;obtain⟨θ,p,ds,ws,dx,y,j,rfl,rfl,hq,ra,r1,hx,hc,hj,q⟩:=h;cases rx;obtain⟨u,rfl,ru⟩:=rv.one;obtain⟨its,r,⟨o,n,h1,h2,h3,h4⟩,hz⟩:=I.list hq;obtain⟨c,dd,dat,sl⟩:=o;have e1:c=.type "list":=h2;have e2:dat=.seq its.toArray n:=h4;subst e1;subst e2;have hj2:its.findIdx? (inE s.heap (eV dx))=some j:=by
  have a:(its.map (inE s.heap (eV dx))).findIdx? id=its.findIdx? (inE s.heap (eV dx)):=fv _ _ _;have b:(ds.map fun z=>eW z dx).findIdx? id=ds.findIdx? fun z=>eW z dx:=fv _ _ _
  rw[←a,oj I hx hc ra r,b,hj]
 obtain⟨hlt,hhit,hno⟩:=findIdx?_eq_some_iff_getElem.mp hj2;have hsz:j<its.toArray.size:=by simpa using hlt
 have hsmall:(j:Int)<2 ^ 63-1:=by
  have l1:=r.length;have l2:=gD;omega
 refine call_meets PySem.F.slot_list_index ⟨_,h1,rfl⟩ PySem.F.entry_list_index (PySem.F.args_list_index_2 _ _) (SeqAt.list_indexAt p its.toArray n dd sl u (inE s.heap (eV dx)) j hsz hsmall (by simpa using hhit) (fun m hm hmj=>by have:=hno m hmj;simpa using this)) ⟨h1,fun w hw=>lc hu I hx hc r1 ru ra r w (by simpa using hw),?_⟩;exact⟨.int j,H,I.tok _,⟨s.toks,rfl⟩,q⟩
theorem o3 {M:am}{o x:D}{xs:List D}{v y:V}{Q:VK}(hw:Wr X.K θ H M)(r:cD X.K θ H o v)(el:fA o M=some xs)(ry:cD X.K θ H x y)(h:aE X θ H Q (gq xs x M)):oT X v [y] H Q:=by
 obtain⟨a,vs,ea,sq,ra⟩:=rR hw r el;unfold gq at h
 by_cases hc:(au 40 x&&xs.all (au 40))=true
 ·rw[if_pos hc] at h;rw[Bool.and_eq_true] at hc;cases hj:xs.findIdx? fun y=>eW y x with
  | none=>rw[hj] at h;exact h.elim
  | some j=>rw[hj] at h;exact⟨θ,a,xs,vs,x,y,j,ea,rfl,sq,ra,ry,hc.1,hc.2,hj,h _ θ H (.refl hw) rfl⟩
 ·rw[if_neg hc] at h;exact h.elim
end
section
variable {X:Cx}{k:Nat}{o e:Expr}{go ge:GE}{apos cpos:Pos}
theorem qR (hr:cq k X.A):Q2 X (compareOp .NotIn) (zE true):=⟨pZ hr.units⟩
theorem p4 (hr:cq k X.A)(ho:QE X o go)(he:QE X e ge)(h1:bw e=true:=by rfl)(hbase:attributeBase o "index" X.env (eval o X.env)=eval o X.env:=by rfl)(hline:(apos.endLine==cpos.line)=true:=by rfl) :
  QE X (.Call (.Attribute o "index" apos) [e] [] cpos) (fY gq go ge):=
 ⟨(wH PySem.F.plainAttrs_list PySem.F.slot_list_index PySem.F.type_list_index (p8 hr.units) ho.h (g6 he.h lq (sE h1)) hbase (tz h1) hline (sE h1) rfl).of fun σ H Q h=>vp (sE h1) (fun θ H M o x xs v y Q=>o3) h⟩
end
section
variable {prog:Program}{w:World}{A:Around}{R:Result→Shared→Prop}{s:Shared}
theorem dg {elt target:Expr}{gens:List Comprehension}{scope:Scope}{pos p:Pos}{dp:Nat}{it acc:Value}{env:Env}{cond:Sem Bool}{act:Sem Unit}
  (heq:compTurn (.ListComp elt gens scope pos) dp it acc env=(standAt p >>= fun _=>pyNext it >>= fun r=>match r with
   | none=>pure (.done .next)
   | some v=>letOwnedTupleGo target it v >>= fun _=>assign target env v >>= fun _=>cond >>= fun ok=>
    if ok=true then(act >>= fun _=>again (.compLoop (.ListComp elt gens scope pos) dp it acc env)) else again (.compLoop (.ListComp elt gens scope pos) dp it acc env))) (I:Nat→Shared→Prop)
  (turn:∀n s,I n s→wpAny (model prog w) A (pyNext it) (fun r s₁=>match r with
   | none=>R (.ok .next) s₁
   | some v=>wpAny (model prog w) A (letOwnedTupleGo target it v) (fun _ s₂=>wpAny (model prog w) A (assign target env v) (fun _ s₃=>wpAny (model prog w) A cond (fun ok s₄=>if ok=true then
     wpAny (model prog w) A act (fun _ s₅=>∃m,m<n∧I m s₅) (fun _ _=>False) s₄
     else∃m,m<n∧I m s₄) (fun _ _=>False) s₃) (fun _ _=>False) s₂) (fun _ _=>False) s₁) (fun _ _=>False) s)
  (n:Nat) (h:I n s):codeAny (model prog w) A (.compLoop (.ListComp elt gens scope pos) dp it acc env) R s:=by
 refine codeAny_loop rfl I (fun n s hI=>?_) n h;show wpAny _ _ ((compTurn (.ListComp elt gens scope pos) dp it acc env).onRaise (fun x=>do noteFrame x env;theTreesLotGoes x)) _ _ s;refine wpAny_noted ?_;rw[heq];refine wpAny_bind (wpAny_standAt (wpAny_bind (wpAny_mono (turn n s hI) (fun r s₁ h₁=>?_) fun _ _ z=>z.elim)));cases r with
 | none=>exact wpAny_pure h₁
 | some v=>
  refine wpAny_bind (wpAny_mono h₁ (fun _ s₂ h₂=>?_) fun _ _ z=>z.elim);refine wpAny_bind (wpAny_mono h₂ (fun _ s₃ h₃=>?_) fun _ _ z=>z.elim);refine wpAny_bind (wpAny_mono h₃ (fun ok s₄ h₄=>?_) fun _ _ z=>z.elim);cases ok with
  | true=>
   rw[if_pos rfl] at h₄;rw[if_pos rfl];exact wpAny_bind (wpAny_mono h₄ (fun x s₅ h₅=>wpAny_pure ⟨rfl,h₅⟩) fun _ _ z=>z.elim)
  | false=>
   rw[if_neg Bool.false_ne_true] at h₄;rw[if_neg Bool.false_ne_true];exact wpAny_pure ⟨rfl,h₄⟩
theorem gJ {elt:Expr}{g1 g2:Comprehension}{scope:Scope}{pos:Pos}{it acc:Value}{env:Env}(ha:g2.is_async=0)
  (h0:codeAny (model prog w) A (.compLoop (.ListComp elt [g1,g2] scope pos) 1 it acc env) R s)
  (h:wpAny (model prog w) A (pyIter it) (fun it' s'=>codeAny (model prog w) A (.compLoop (.ListComp elt [g1,g2] scope pos) 1 it' acc env) R s')
   (notedBy (model prog w) A env fun x s'=>R (.error x) s') s):codeAny (model prog w) A (.compStart (.ListComp elt [g1,g2] scope pos) 1 it acc env) R s:=by
 obtain⟨t2,i2,f2,a2⟩:=g2;have ha:a2=0:=ha;subst ha;refine codeAny_of_tree ?_;show wpAny _ _ ((compStart (.ListComp elt [g1,⟨t2,i2,f2,0⟩] scope pos) 1 it acc env).onRaise (fun x=>do noteFrame x env;standAt theWindowsPlace)) _ _ s;refine wpAny_notedAt ?_;unfold compStart;show wpAny _ _ (ask >>= _) _ _ s;refine wpAny_bind (wpAny_askSetting (wpAny_ite ?_));split
 ·first
   | exact wpAny_bind (wpAny_pure (wpAny_pure (And.intro rfl h0)))
   | exact wpAny_pure (And.intro rfl h0)
 ·refine wpAny_bind (wpAny_rule ?_);show wpAny _ _ (standAt i2.pos >>= _) _ _ s;exact wpAny_bind (wpAny_standAt (wpAny_bind (wpAny_mono h (fun it' s' h'=>wpAny_pure (And.intro rfl h')) fun _ _ x=>x)))
end
def iz (t:iu)(sg:GG)(gc:GT)(ge:GE):List D→a9→am→aF (List D)
 | [],_,M=>if t.ok M then .ok [] M else .bad
 | d::r,ρ,M=>if t.ok M then
   match sg d ρ with
   | none=>.bad
   | some ρ1=>match gc ρ1 M with
    | .ok true M1=>match ge ρ1 M1 with
     | .ok e M2=>(iz t sg gc ge r ρ1 M2).bind fun es M3=>.ok (e::es) M3
     | _=>.bad
    | .ok false M1=>iz t sg gc ge r ρ1 M1
    | _=>.bad
  else .bad
def aP (t:iu)(n:Nat)(sg:GG)(gc:GT)(gb:a9→am→aF (List D)):List D→a9→am→aF (List D)
 | [],_,M=>if t.ok M then .ok [] M else .bad
 | d::r,ρ,M=>if t.ok M then
   match sg d (List.replicate n none++ρ) with
   | none=>.bad
   | some ρ1=>match gc ρ1 M with
    | .ok true M1=>match gb ρ1 M1 with
     | .ok e M2=>(aP t n sg gc gb r ρ M2).bind fun es M3=>.ok (e++es) M3
     | _=>.bad
    | .ok false M1=>aP t n sg gc gb r ρ M1
    | _=>.bad
  else .bad
def nA (gi:GI)(sg:GG)(gc:GT)(ge:GE):a9→am→aF (List D):=fun ρ M=>match gi ρ M with
 | .ok t M1=>iz t sg gc ge t.ds ρ M1
 | _=>.bad
def eT (gi:GI)(n:Nat)(sg:GG)(gc:GT)(gi2:GI)(sg2:GG)(gc2:GT)(ge:GE)(mk:List D→am→aF D):GE:=fun ρ M=>(gi ρ M).bind fun t M1=>(aP t n sg gc (nA gi2 sg2 gc2 ge) t.ds ρ M1).bind mk
theorem mW (elt target iter:Expr)(g1:Comprehension)(ifs:List Expr)(scope:Scope)(pos:Pos)(it acc:Value)(env:Env)(cond:Sem Bool)
  (hc:(forIn (m:=Sem) ifs true fun c r=>if r=true then do let ok ←isTrue c env (eval c env);pure (ForInStep.yield ok) else pure (ForInStep.yield r))=cond) :
  compTurn (.ListComp elt [g1,⟨target,iter,ifs,0⟩] scope pos) 1 it acc env=(standAt iter.pos >>= fun _=>pyNext it >>= fun r=>match r with
   | none=>pure (.done .next)
   | some v=>letOwnedTupleGo target it v >>= fun _=>assign target env v >>= fun _=>cond >>= fun ok=>
    if ok=true then((eval elt env >>= fun x=>call (.builtin "list.append") [acc,x] >>= fun _=>pure ()) >>= fun _=>
     again (.compLoop (.ListComp elt [g1,⟨target,iter,ifs,0⟩] scope pos) 1 it acc env)) else again (.compLoop (.ListComp elt [g1,⟨target,iter,ifs,0⟩] scope pos) 1 it acc env)):=by
 subst hc;rfl
theorem lL (elt target iter tg2 iter2:Expr)(ifs ifs2:List Expr)(scope:Scope)(pos:Pos)(it acc:Value)(env:Env)(cond:Sem Bool)
  (hc:(forIn (m:=Sem) ifs true fun c r=>if r=true then do let ok ←isTrue c env (eval c env);pure (ForInStep.yield ok) else pure (ForInStep.yield r))=cond) :
  compTurn (.ListComp elt [⟨target,iter,ifs,0⟩,⟨tg2,iter2,ifs2,0⟩] scope pos) 0 it acc env=(standAt iter.pos >>= fun _=>pyNext it >>= fun r=>match r with
   | none=>pure (.done .next)
   | some v=>letOwnedTupleGo target it v >>= fun _=>assign target env v >>= fun _=>cond >>= fun ok=>
    if ok=true then(eval iter2 env >>= fun x=>standAt iter2.pos >>= fun _=>foldedSetIterable iter2 env x >>= fun x=>holding [x] (pyIter x) >>= fun it2=>runOwn (.compStart (.ListComp elt [⟨target,iter,ifs,0⟩,⟨tg2,iter2,ifs2,0⟩] scope pos) 1 it2 acc env) env >>= fun _=>
     again (.compLoop (.ListComp elt [⟨target,iter,ifs,0⟩,⟨tg2,iter2,ifs2,0⟩] scope pos) 0 it acc env)) else again (.compLoop (.ListComp elt [⟨target,iter,ifs,0⟩,⟨tg2,iter2,ifs2,0⟩] scope pos) 0 it acc env)):=by
 subst hc;rfl
theorem lC (elt target iter tg2 iter2:Expr)(ifs ifs2:List Expr)(scope:Scope)(pos:Pos)(it acc:Value)(env:Env)(cond:Sem Bool)
  (hc:(forIn (m:=Sem) ifs true fun c r=>if r=true then do let ok ←isTrue c env (eval c env);pure (ForInStep.yield ok) else pure (ForInStep.yield r))=cond) :
  compTurn (.ListComp elt [⟨target,iter,ifs,0⟩,⟨tg2,iter2,ifs2,0⟩] scope pos) 0 it acc env=(standAt iter.pos >>= fun _=>pyNext it >>= fun r=>match r with
   | none=>pure (.done .next)
   | some v=>letOwnedTupleGo target it v >>= fun _=>assign target env v >>= fun _=>cond >>= fun ok=>
    if ok=true then((eval iter2 env >>= fun x=>standAt iter2.pos >>= fun _=>foldedSetIterable iter2 env x >>= fun x=>holding [x] (pyIter x) >>= fun it2=>runOwn (.compStart (.ListComp elt [⟨target,iter,ifs,0⟩,⟨tg2,iter2,ifs2,0⟩] scope pos) 1 it2 acc env) env >>= fun _=>pure ()) >>= fun _=>
     again (.compLoop (.ListComp elt [⟨target,iter,ifs,0⟩,⟨tg2,iter2,ifs2,0⟩] scope pos) 0 it acc env)) else again (.compLoop (.ListComp elt [⟨target,iter,ifs,0⟩,⟨tg2,iter2,ifs2,0⟩] scope pos) 0 it acc env)):=by
 rw[lL _ _ _ _ _ _ _ _ _ _ _ _ _ hc];simp only[bind_assoc,pure_bind]
theorem qI {n:Nat}{K:W.Frag}{θ:List Addr}{H:Hp}{τ:L2.St}{ρ ρ1:a9}(a:ρ1.length=(List.replicate n none++ρ).length)(b:∀j,n≤j→ρ1[j]?=(List.replicate n none++ρ)[j]?)(h:dJ K θ H τ ρ1):dJ K θ H τ (List.replicate n none++ρ):=by
 refine⟨by rw[←a];exact h.len,fun i d' q=>?_⟩
 by_cases hi:i<n
 ·rw[getElem?_append_left (by rw[length_replicate];exact hi),getElem?_replicate,if_pos hi] at q;cases q
 ·rw[←b i (by omega)] at q;exact h.at_ i d' q
section
variable {X:Cx}{scope:Scope}{xs R:List Str}{f0:List Addr}{s0:Shared}{H0:Hp}{C:Addr}
inductive Cz (Y:Cx) (P0:List (Addr×Obj)) (acc:Addr) (its:List Value) (fp:List Addr) (tn:Nat→Heap→Prop) (t:iu) (nn:Nat) (ρ:a9) (θ:List Addr) (H:Hp) (es:List D) (go:List D→a9→am→aF (List D)) (Mend:am) (n:Nat) (s':Shared):Prop
 | mk (i:Nat) (τ:L2.St) (H':Hp) (θ':List Addr) (M':am) (ρ':a9) (ds rest:List D) (vs:List V) (its':List Value) (na:Nat) (e1:n=t.ds.length-i) (e2:i≤t.ds.length)
   (e3:L2.Inv Y ((acc,aC (its++its') na)::P0) τ H' s') (e4:dJ Y.K θ' H' τ ρ') (e5:tn i s'.heap) (e6:∀b∈fp,H' b=none) (e7:Go Y.K θ H θ' H' M') (e8:aH Y.K θ' H' ds vs) (e9:aD vs its') (e10:go (t.ds.drop i) ρ' M'=.ok rest Mend) (e11:ds++rest=es) (e12:ρ'.length=ρ.length∧∀j,nn≤j→ρ'[j]?=ρ[j]?)
theorem uK {P0:List (Addr×Obj)}{acc it:Addr}{its:List Value}{na nn:Nat}{fp:List Addr}{tn:Nat→Heap→Prop}{J:It}{τ:L2.St}{H:Hp}{s:Shared}{t:iu}{M Mend:am}{θ:List Addr}{ρ:a9}{gc:GT}{ge:GE}{es:List D}{tg elt iter:Expr}{sg:GG}{ifs:List Expr}{g1:Comprehension}{pos:Pos}{RR:Result→Shared→Prop}
  (hc:X.calm=true) (I:L2.Inv (ah X scope xs R f0 s0 H0 C) ((acc,aC its na)::P0) τ H s) (T:mB X.prog X.w X.K tg J fp it tn) (st:tn 0 s.heap) (f:∀b∈fp,fD (ah X scope xs R f0 s0 H0 C) ((acc,aC its na)::P0) H b)
  (hw:Wr X.K θ H M) (hd:dJ X.K θ H τ ρ) (hJ:qw X.K J θ H t) (hgo:iz t sg gc ge t.ds ρ M=.ok es Mend) (hlen:its.length+es.length≤sizeLine)
  (hcd:∃cond,(forIn (m:=Sem) ifs true fun c r=>if r=true then do let ok ←isTrue c (ah X scope xs R f0 s0 H0 C).env (eval c (ah X scope xs R f0 s0 H0 C).env);pure (ForInStep.yield ok) else pure (ForInStep.yield r))=cond∧
   ∀(af:List (Addr×Obj)) (s:Shared) (σ:L2.St) (H:Hp) (Q:Bool→Hp→Prop),L2.Inv (ah X scope xs R f0 s0 H0 C) af σ H s→tT (ah X scope xs R f0 s0 H0 C) gc σ H Q→wpAny (model X.prog X.w) X.A cond (TP (ah X scope xs R f0 s0 H0 C) af σ Q) (fun _ _=>False) s)
  (own:iQ nn sg) (hg:PG (ah X scope xs R f0 s0 H0 C) tg (tG (ah X scope xs R f0 s0 H0 C) sg)) (he:PE (ah X scope xs R f0 s0 H0 C) elt (tE (ah X scope xs R f0 s0 H0 C) ge))
  (a1:acc≠C) (a2:acc∉(ah X scope xs R f0 s0 H0 C).fs) (a3:s0.heap.objs.size≤acc) (a4:∀x c,(ah X scope xs R f0 s0 H0 C).env.cells.lookup x=some c→c≠acc) (a5:∀p∈P0,p.1≠acc)
  (fin:∀τ' H' s' θ' ρ' vs its' na',L2.Inv (ah X scope xs R f0 s0 H0 C) ((acc,aC (its++its') na')::P0) τ' H' s'→dJ X.K θ' H' τ' ρ'→(ρ'.length=ρ.length∧∀j,nn≤j→ρ'[j]?=ρ[j]?)→Go X.K θ H θ' H' Mend→aH X.K θ' H' es vs→aD vs its'→RR (.ok .next) s') :
  codeAny (model X.prog X.w) X.A (.compLoop (.ListComp elt [g1,⟨tg,iter,ifs,0⟩] scope pos) 1 (.ref it) (.ref acc) (ah X scope xs R f0 s0 H0 C).env) RR s:=by
 obtain⟨cond,hcond,hct⟩:=hcd;have fpY:∀{H':Hp} {o:Obj},(∀b∈fp,H' b=none)→∀b∈fp,fD (ah X scope xs R f0 s0 H0 C) ((acc,o)::P0) H' b:=fun {H' o} hn b hb=>by
  obtain⟨_,q1,q2,q3,q4,q5⟩:=f b hb;refine⟨hn b hb,q1,q2,q3,q4,fun p hp=>?_⟩;have hp:p∈(acc,o)::P0:=hp;rcases mem_cons.mp hp with rfl|hp
  ·exact q5 (acc,aC its na) (show _∈(acc,aC its na)::P0 from mem_cons_self)
  ·exact q5 p (show _∈(acc,aC its na)::P0 from mem_cons_of_mem _ hp)
 have nea:∀b∈fp,b≠acc:=fun b hb z=>(f b hb).2.2.2.2.2 (acc,aC its na) (show _∈(acc,aC its na)::P0 from mem_cons_self) z.symm
 refine dg (mW _ _ _ _ _ _ _ _ _ _ _ hcond) (Cz (ah X scope xs R f0 s0 H0 C) P0 acc its fp tn t nn ρ θ H es (fun l r N=>iz t sg gc ge l r N) Mend) ?_ t.ds.length
  ⟨0,_,H,θ,M,ρ,[],es,[],[],na,rfl,Nat.zero_le _,by rw[append_nil];exact I,hd,st,fun b hb=>(f b hb).1,.refl hw,rfl,.nil,hgo,rfl,rfl,fun _ _=>rfl⟩
 rintro n s' ⟨i,τ',H',θ',M',ρ',ds,rest,vs,its',na',rfl,hil,I',dn',st',fr',g',rd',rv',hrest,hes,hag⟩;have hok:t.ok M'=true:=by
  cases hq:t.ok M' with
  | true=>rfl
  | false=>
   exfalso;cases hdr:t.ds.drop i with
   | nil=>rw[hdr,iz,if_neg (by rw[hq];exact Bool.false_ne_true)] at hrest;cases hrest
   | cons d r=>rw[hdr,iz,if_neg (by rw[hq];exact Bool.false_ne_true)] at hrest;cases hrest
 obtain⟨hy,hst⟩:=hJ θ' H' M' g' hok i
 by_cases hlt:i<t.ds.length
 ·have e1:t.ds[i]?=some t.ds[i]:=getElem?_eq_getElem hlt;obtain⟨hgo',hyl⟩:=hy _ e1;rw[drop_eq_getElem_cons hlt,iz,if_pos hok] at hrest;refine bA (T.item (ah X scope xs R f0 s0 H0 C) rfl rfl rfl hc i _ s' _ H' _ I' (fpY fr') st' hgo') fun r s4 hxx=>?_
  obtain⟨u,hr,h4⟩:=hxx;subst hr;refine bA h4 fun _ s5 hxx=>?_
  obtain⟨v,H5,I5,r5,y5,st5,fr5⟩:=hxx;obtain⟨gy,rx⟩:=hyl v H5 y5;have I5':=I5.pinned (fpY fr5) (T.obj _ _ st5);cases qs:sg t.ds[i] ρ' with
  | none=>rw[qs] at hrest;cases hrest
  | some ρ1=>
  rw[qs] at hrest;dsimp only at hrest;obtain⟨o1,o2⟩:=own _ _ _ qs;have hag1:ρ1.length=ρ.length∧∀j,nn≤j→ρ1[j]?=ρ[j]?:=⟨o1.trans hag.1,fun j hj=>(o2 j hj).trans (hag.2 j hj)⟩;refine bA (hg _ s5 _ H5 v u (fun σ6 H6=>dJ X.K θ' H6 σ6 ρ1∧H6=H5) I5' r5 ⟨_,θ',M',t.ds[i],dn'.go gy,gy.wr,rx,ρ1,qs,fun σ6 d6=>⟨d6,rfl⟩⟩) fun _ s6 hxx=>?_
  obtain⟨σ6,H6,I6,hdY,eH6⟩:=hxx;subst eH6;cases qc:gc ρ1 M' with
  | bad=>rw[qc] at hrest;cases hrest
  | err c Mx=>rw[qc] at hrest;cases hrest
  | ok b Mb=>
   refine bA (hct _ s6 _ H6 (fun b' H7=>b'=b∧∃θ7,Go X.K θ' H6 θ7 H7 Mb) I6 ⟨_,θ',M',hdY,gy.wr,?_⟩) fun ok s7 ⟨H7,I7,eb,θ7,g7⟩=>?_
   ·rw[qc];exact fun θ7 H7 g7=>⟨rfl,θ7,g7⟩
   subst eb;have fpk:∀{s8:Shared} {σ8:L2.St} {H8:Hp},L2.Inv (ah X scope xs R f0 s0 H0 C) ((acc,aC (its++its') na')::P0++dW fp s5.heap) σ8 H8 s8→(∀b∈fp,H8 b=none)∧(∀b∈fp,∀o,s5.heap.get? b=some o→s8.heap.get? b=some o)∧s8.heap.get? acc=some (aC (its++its') na')∧H8 acc=none:=fun {s8 σ8 H8} I8=>by
    have pa:=I8.pin (acc,aC (its++its') na') (mem_append_right _ (mem_append_left _ mem_cons_self));refine⟨fun b hb=>?_,fun b hb o e=>(I8.pin (b,o) (mem_append_right _ (mem_append_right _ (bv hb e)))).1,pa.1,pa.2.1⟩;obtain⟨o,e,d⟩:=T.obj _ _ st5 b hb;exact(I8.pin (b,o) (mem_append_right _ (mem_append_right _ (bv hb e)))).2.1
   cases ok with
   | false=>
    rw[if_neg Bool.false_ne_true];rw[qc] at hrest;obtain⟨k1,k2,k3,k4⟩:=fpk I7;exact⟨t.ds.length-(i+1),by omega,i+1,σ6,H7,θ7,Mb,ρ1,ds,rest,vs,its',na',rfl,hlt,I7.unpinned,hdY.go g7,T.keep _ _ _ st5 k2,k1,g'.trans (gy.trans g7),rd'.go (gy.trans g7),rv',hrest,hes,hag1⟩
   | true=>
    rw[if_pos rfl];rw[qc] at hrest;have hrest:(match ge ρ1 Mb with
     | .ok e M2=>(iz t sg gc ge (t.ds.drop (i+1)) ρ1 M2).bind fun es M3=>.ok (e::es) M3
     | _=>.bad)=aF.ok rest Mend:=hrest
    cases qe:ge ρ1 Mb with
    | bad=>rw[qe] at hrest;cases hrest
    | err c Mx=>rw[qe] at hrest;cases hrest
    | ok dv Mv=>
     rw[qe] at hrest;have hrest:((iz t sg gc ge (t.ds.drop (i+1)) ρ1 Mv).bind fun es M3=>aF.ok (dv::es) M3)=aF.ok rest Mend:=hrest;refine wpAny_bind (bA (he _ s7 _ H7 (fun w H8=>∃θ8,Go X.K θ7 H7 θ8 H8 Mv∧cD X.K θ8 H8 dv w) I7 ⟨_,θ7,Mb,hdY.go g7,g7.wr,?_⟩) fun uv s8 ⟨w,H8,I8,rw8,θ8,g8,rd8⟩=>?_)
     ·rw[qe];exact fun w θ8 H8 g8 rd8=>⟨θ8,g8,rd8⟩
     obtain⟨k1,k2,k3,k4⟩:=fpk I8;cases qr:iz t sg gc ge (t.ds.drop (i+1)) ρ1 Mv with
     | bad=>rw[qr] at hrest;cases hrest
     | err c Mx=>rw[qr] at hrest;cases hrest
     | ok rest' Mr=>
      rw[qr] at hrest;have hrest:aF.ok (dv::rest') Mr=aF.ok rest Mend:=hrest;cases hrest;have hsz:(its++its').length<sizeLine:=by
       have e2:its.length+(ds++dv::rest').length≤sizeLine:=by rw[hes];exact hlen
       rw[length_append,length_cons,al rd',rv'.length] at e2;rw[length_append];omega
      refine wpAny_bind (call_meets F.slot_list_append ⟨_,k3,rfl⟩ F.entry_list_append (F.args_list_append_2 _ _) (PySem.list_append acc (its++its').toArray na' uv (by rw[size_toArray];omega)) ⟨k3,wpAny_pure ?_⟩);have qup:=PySem.IsL.update k3 (fun a=>a.push uv);have eup:((its++its').toArray.push uv)=(its++(its'++[uv])).toArray:=by simp
      have keepb:∀b o,b≠acc→s8.heap.get? b=some o→(s8.heap.update acc (Obj.mapSeq fun a=>a.push uv)).get? b=some o:=fun b o hb e=>(Heap.get?_update_other s8.heap _ (Ne.symm hb)).trans e
      have I9:L2.Inv (ah X scope xs R f0 s0 H0 C) P0 σ6 H8 {s8 with heap:=s8.heap.update acc (Obj.mapSeq fun a=>a.push uv),toks:=s8.toks}:=by
       refine Inv.turned (it:=acc) (I8.pins_of (pins':=P0) fun p hp=>I8.pin p (mem_append_right _ (mem_append_left _ (mem_cons_of_mem _ hp)))) keepb k4 a1 (.inr a3) a4 fun p hp=>a5 p (show p∈P0 from hp)
      obtain⟨n',eq'⟩:∃n',(s8.heap.update acc (Obj.mapSeq fun a=>a.push uv)).get? acc=some (aC (its++(its'++[uv])) n'):=by
       have q2:=qup;rw[eup] at q2;exact⟨_,q2⟩
      have I10:L2.Inv (ah X scope xs R f0 s0 H0 C) ((acc,aC (its++(its'++[uv])) n')::P0) σ6 H8 {s8 with heap:=s8.heap.update acc (Obj.mapSeq fun a=>a.push uv),toks:=s8.toks}:=I9.pins_of fun p hp=>by
       rcases mem_cons.mp hp with rfl|hp
       ·exact⟨eq',k4,a1,a2,fun v z=>by cases z⟩
       ·exact I9.pin p (mem_append_right _ hp)
      exact⟨t.ds.length-(i+1),by omega,i+1,σ6,H8,θ8,Mv,ρ1,ds++[dv],rest',vs++[w],its'++[uv],n',rfl,hlt,I10,hdY.go (g7.trans g8),T.keep _ _ _ st5 (fun b hb o e=>keepb b o (nea b hb) (k2 b hb o e)),k1,g'.trans (gy.trans (g7.trans g8)),bZ (rd'.go (gy.trans (g7.trans g8))) ⟨w,[],rfl,rd8,rfl⟩,rv'.append (.cons rw8 .nil),qr,by rw[←hes];simp,hag1⟩
 ·have e:i=t.ds.length:=by omega
  subst e;rw[drop_length,iz,if_pos hok] at hrest;cases hrest;have hes:ds=es:=by rw[←hes];simp
  subst hes;refine bA (T.done (ah X scope xs R f0 s0 H0 C) rfl rfl rfl hc _ _ s' _ H' _ I' (fpY fr') st' (hst (Nat.le_refl _))) fun r s4 hxx=>?_
  obtain⟨hr,I4⟩:=hxx;subst hr;exact fin _ _ _ _ _ _ _ _ I4 dn' hag g' rd' rv'
end
section
variable {X:Cx}{af:List (Addr×Obj)}{σ:L2.St}{s:Shared}{scope:Scope}{xs:List Str}{tg:Expr}{sg:GG}{R:List Str}{elt iter:Expr}{ifs:List Expr}{pos:Pos}{E:Value→Shared→Prop}
theorem my {fp:List Addr}{it:Addr}{tn:Nat→Heap→Prop}{J:It}{H2:Hp}{s2:Shared}{t:iu}{M1:am}{θ1:List Addr}{ρ:a9}{gc gc2:GT}{gi2:GI}{sg2:GG}{ge:GE}{es:List D}{tg2 iter2:Expr}{ifs2:List Expr}{Mend:am}{RR:Value→Addr→Result→Shared→Prop}
  (S:bg scope X.env.kindOf xs R X.N) (hc:X.calm=true) (I2:L2.Inv X af σ H2 s2) (T:mB X.prog X.w X.K tg J fp it tn) (st2:tn 0 s2.heap) (f2:∀b∈fp,fD X af H2 b)
  (hw1:Wr X.K θ1 H2 M1) (hd1:dJ X.K θ1 H2 σ ρ) (hJ:qw X.K J θ1 H2 t) (hgo:aP t xs.length sg gc (nA gi2 sg2 gc2 ge) t.ds ρ M1=.ok es Mend) (hlen:es.length≤sizeLine)
  (hcd:∀C,∃cond,(forIn (m:=Sem) ifs true fun c r=>if r=true then do let ok ←isTrue c (ah X scope xs R fp s2 H2 C).env (eval c (ah X scope xs R fp s2 H2 C).env);pure (ForInStep.yield ok) else pure (ForInStep.yield r))=cond∧
   ∀(af:List (Addr×Obj)) (s:Shared) (σ:L2.St) (H:Hp) (Q:Bool→Hp→Prop),L2.Inv (ah X scope xs R fp s2 H2 C) af σ H s→tT (ah X scope xs R fp s2 H2 C) gc σ H Q→wpAny (model X.prog X.w) X.A cond (TP (ah X scope xs R fp s2 H2 C) af σ Q) (fun _ _=>False) s)
  (hcd2:∀C,∃cond,(forIn (m:=Sem) ifs2 true fun c r=>if r=true then do let ok ←isTrue c (ah X scope xs R fp s2 H2 C).env (eval c (ah X scope xs R fp s2 H2 C).env);pure (ForInStep.yield ok) else pure (ForInStep.yield r))=cond∧
   ∀(af:List (Addr×Obj)) (s:Shared) (σ:L2.St) (H:Hp) (Q:Bool→Hp→Prop),L2.Inv (ah X scope xs R fp s2 H2 C) af σ H s→tT (ah X scope xs R fp s2 H2 C) gc2 σ H Q→wpAny (model X.prog X.w) X.A cond (TP (ah X scope xs R fp s2 H2 C) af σ Q) (fun _ _=>False) s)
  (hi2:∀C,PI (ah X scope xs R fp s2 H2 C) tg2 iter2 (tI (ah X scope xs R fp s2 H2 C) gi2)) (own2:iQ xs.length sg2) (hg2:∀C,PG (ah X scope xs R fp s2 H2 C) tg2 (tG (ah X scope xs R fp s2 H2 C) sg2))
  (hs2:∀C x,foldedSetIterable iter2 (ah X scope xs R fp s2 H2 C).env x=pure x)
  (own:iQ xs.length sg) (hg:∀C,PG (ah X scope xs R fp s2 H2 C) tg (tG (ah X scope xs R fp s2 H2 C) sg))
  (he:∀C,PE (ah X scope xs R fp s2 H2 C) elt (tE (ah X scope xs R fp s2 H2 C) ge))
  (fin:∀(acc C:Addr) (s':Shared) (H':Hp) (θ':List Addr) (vs:List V) (m:Str→Option Value),L2.Inv X af σ (bX H' acc (.lst vs)) s'→s'.heap.Ns C m→fD X af (bX H' acc (.lst vs)) C→Go X.K θ1 H2 θ' H' Mend→H' acc=none→aH X.K θ' H' es vs→RR (.ref acc) C (.ok .next) s') :
  wpAny (model X.prog X.w) X.A (newList []) (fun acc s₃=>wpAny (model X.prog X.w) X.A (newFunctionEnv scope X.env.globals (cg X.env.cells scope.names []) [] X.env.qual none .none (some X.env)) (fun cenv s₄=>
   codeAny (model X.prog X.w) X.A (.compStart (.ListComp elt [⟨tg,iter,ifs,0⟩,⟨tg2,iter2,ifs2,0⟩] scope pos) 0 (.ref it) acc {cenv with scope:=relabel scope X.env}) (RR acc cenv.locals) s₄) E s₃) E s2:=by
 refine wpAny_newObj_type (wpAny_newFunctionEnv S.nocell (by intro y hy;simp at hy) (fun h₁ hns₁ hsb₁=>?_) S.kind);dsimp only at hns₁ hsb₁ ⊢;generalize hHp:s2.heap.push {cls:=.type "list",dict:=none,data:=.seq ([]:List Value).toArray}=Hp2 at hns₁ hsb₁ ⊢;have hCe:Hp2.objs.size=s2.heap.objs.size+1:=by rw[←hHp,Heap.size_push]
 generalize hCd:Hp2.objs.size=C at hns₁ hsb₁ hCe ⊢;generalize hAd:s2.heap.objs.size=acc at hCe ⊢;have hDC:acc≠C:=by rw[hCe];exact Nat.ne_of_lt (Nat.lt_succ_self _)
 have old:∀b o,s2.heap.get? b=some o→h₁.get? b=some o:=fun b o e=>by
  have hb:b<acc:=by rw[←hAd];exact Heap.lt_size e
  refine hsb₁.extBut b o (oG hb hCe) (Heap.get?_push_of_some _ ?_);rw[←hHp];exact Heap.get?_push_of_some _ e
 have hacc0:h₁.get? acc=some (aC [] 0):=by
  refine hsb₁.extBut acc _ hDC (Heap.get?_push_of_some _ ?_);rw[←hHp,←hAd];exact Heap.get?_push_size _ rfl
 have hfl:∀b∈fp,b<s2.heap.objs.size:=fun b hb=>by
  obtain⟨o,e,_⟩:=T.obj 0 _ st2 b hb;exact Heap.lt_size e
 have hCs:s2.heap.objs.size≤C:=by omega
 have IY0:L2.Inv (ah X scope xs R fp s2 H2 C) [] (List.replicate xs.length none++σ) H2 {s2 with heap:=h₁,toks:=s2.toks+([]:List (Str×Value)).length}:=l6 S I2 hCs old hns₁ f2 hfl;obtain⟨cond,hcond,hct⟩:=hcd C;have fpY:∀{H':Hp} {p:Obj},(∀b∈fp,H' b=none)→∀b∈fp,fD (ah X scope xs R fp s2 H2 C) [(acc,p)] H' b:=fun {H' p} hn b hb=>by
  refine⟨hn b hb,?_,fun z=>?_,.inl hb,fun y c e=>?_,fun q hq=>?_⟩
  ·exact Nat.ne_of_lt (Nat.lt_of_lt_of_le (hfl b hb) hCs)
  ·rcases mem_cons.mp (I2.stkSub b z) with e|e
   ·exact(f2 b hb).2.1 e
   ·exact(f2 b hb).2.2.1 e
  ·exact(f2 b hb).2.2.2.2.1 y c (bf S I2 e)
  ·have hq:q∈([]:List (Addr×Obj))++[(acc,p)]:=hq;have e:q=(acc,p):=by simpa using hq
   rw[e];exact lH (hfl b hb) hAd
 have accF:∀b∈i5 X.stack,acc≠b:=fun b hb e=>by
  have:acc∉X.env.locals::X.fs:=by
   intro z;rcases mem_cons.mp z with z|z
   ·exact lH I2.lt hAd z
   ·exact I2.nofs (Nat.le_of_eq hAd) z
  exact this (e▸I2.stkSub b hb)
 have loop:∀s₃:Shared,s₃={s2 with heap:=h₁,toks:=s2.toks+([]:List (Str×Value)).length}→
   codeAny (model X.prog X.w) X.A (.compLoop (.ListComp elt [⟨tg,iter,ifs,0⟩,⟨tg2,iter2,ifs2,0⟩] scope pos) 0 (.ref it) (.ref acc) (ah X scope xs R fp s2 H2 C).env) (RR (.ref acc) C) s₃:=by
  rintro s₃ rfl;have pin0:∀{σ':L2.St} {H':Hp} {s':Shared} {its:List Value} {n:Nat},L2.Inv (ah X scope xs R fp s2 H2 C) [] σ' H' s'→s'.heap.get? acc=some (aC its n)→H' acc=none→L2.Inv (ah X scope xs R fp s2 H2 C) [(acc,aC its n)] σ' H' s':=fun {σ' H' s' its n} I' e hn=>
   I'.pins_of fun p hp=>by
    have ep:p=(acc,aC its n):=by simpa using hp
    subst ep;exact⟨e,hn,hDC,fun z=>accF acc z rfl,fun v z=>by cases z⟩
  refine dg (lC _ _ _ _ _ _ _ _ _ _ _ _ _ hcond) (Dg (ah X scope xs R fp s2 H2 C) fp tn X.K acc t (List.replicate xs.length none++ρ) θ1 H2 es (fun l N=>aP t xs.length sg gc (nA gi2 sg2 gc2 ge) l ρ N) Mend) ?_ t.ds.length
   ⟨0,_,H2,θ1,M1,[],es,[],[],0,rfl,Nat.zero_le _,pin0 IY0 hacc0 (I2.hok.fresh (Nat.le_of_eq hAd)),oh hd1,T.keep 0 _ _ st2 (fun b hb o e=>old b o e),fun b hb=>(f2 b hb).1,.refl hw1,rfl,.nil,hgo,rfl⟩
  rintro n s' ⟨i,τ,H',θ',M',ds,rest,vs,its,na,rfl,hil,I',dn',st',fr',g',rd',rv',hrest,hes⟩;have hok:t.ok M'=true:=by
   cases hq:t.ok M' with
   | true=>rfl
   | false=>
    exfalso;cases hdr:t.ds.drop i with
    | nil=>rw[hdr,aP,if_neg (by rw[hq];exact Bool.false_ne_true)] at hrest;cases hrest
    | cons d r=>rw[hdr,aP,if_neg (by rw[hq];exact Bool.false_ne_true)] at hrest;cases hrest
  obtain⟨hy,hst⟩:=hJ θ' H' M' g' hok i
  by_cases hlt:i<t.ds.length
  ·have e1:t.ds[i]?=some t.ds[i]:=getElem?_eq_getElem hlt;obtain⟨hgo',hyl⟩:=hy _ e1;rw[drop_eq_getElem_cons hlt,aP,if_pos hok] at hrest;refine bA (T.item (ah X scope xs R fp s2 H2 C) rfl rfl rfl hc i _ s' _ H' _ I' (fpY fr') st' hgo') fun r s4 hxx=>?_
   obtain⟨u,hr,h4⟩:=hxx;subst hr;refine bA h4 fun _ s5 hxx=>?_
   obtain⟨v,H5,I5,r5,y5,st5,fr5⟩:=hxx;obtain⟨gy,rx⟩:=hyl v H5 y5;have I5':=I5.pinned (fpY fr5) (T.obj _ _ st5);cases qs:sg t.ds[i] (List.replicate xs.length none++ρ) with
   | none=>rw[qs] at hrest;cases hrest
   | some ρ1=>
   rw[qs] at hrest;dsimp only at hrest;refine bA (hg C _ s5 _ H5 v u (fun σ6 H6=>dJ X.K θ' H6 σ6 ρ1∧H6=H5) I5' r5 ⟨_,θ',M',t.ds[i],dn'.go gy,gy.wr,rx,ρ1,qs,fun σ6 d6=>⟨d6,rfl⟩⟩) fun _ s6 hxx=>?_
   obtain⟨σ6,H6,I6,hdY,eH6⟩:=hxx;subst eH6;cases qc:gc ρ1 M' with
   | bad=>rw[qc] at hrest;cases hrest
   | err c Mx=>rw[qc] at hrest;cases hrest
   | ok b Mb=>
    refine bA (hct _ s6 _ H6 (fun b' H7=>b'=b∧∃θ7,Go X.K θ' H6 θ7 H7 Mb) I6 ⟨_,θ',M',hdY,gy.wr,?_⟩) fun ok s7 ⟨H7,I7,eb,θ7,g7⟩=>?_
    ·rw[qc];exact fun θ7 H7 g7=>⟨rfl,θ7,g7⟩
    subst eb;have fpk:∀{s8:Shared} {σ8:L2.St} {H8:Hp},L2.Inv (ah X scope xs R fp s2 H2 C) ([(acc,aC its na)]++dW fp s5.heap) σ8 H8 s8→(∀b∈fp,H8 b=none)∧(∀b∈fp,∀o,s5.heap.get? b=some o→s8.heap.get? b=some o)∧s8.heap.get? acc=some (aC its na)∧H8 acc=none:=fun {s8 σ8 H8} I8=>by
     have pa:=I8.pin (acc,aC its na) (mem_append_right _ (mem_append_left _ (by simp)));refine⟨fun b hb=>?_,fun b hb o e=>(I8.pin (b,o) (mem_append_right _ (mem_append_right _ (bv hb e)))).1,pa.1,pa.2.1⟩;obtain⟨o,e,d⟩:=T.obj _ _ st5 b hb;exact(I8.pin (b,o) (mem_append_right _ (mem_append_right _ (bv hb e)))).2.1
    cases ok with
    | false=>
     rw[if_neg Bool.false_ne_true];rw[qc] at hrest;obtain⟨k1,k2,k3,k4⟩:=fpk I7;exact⟨t.ds.length-(i+1),by omega,i+1,σ6,H7,θ7,Mb,ds,rest,vs,its,na,rfl,hlt,I7.unpinned,own.back qs (hdY.go g7),T.keep _ _ _ st5 k2,k1,g'.trans (gy.trans g7),rd'.go (gy.trans g7),rv',hrest,hes⟩
    | true=>
     rw[if_pos rfl];rw[qc] at hrest;have hrest:(match nA gi2 sg2 gc2 ge ρ1 Mb with
      | .ok e M2=>(aP t xs.length sg gc (nA gi2 sg2 gc2 ge) (t.ds.drop (i+1)) ρ M2).bind fun es M3=>.ok (e++es) M3
      | _=>.bad)=aF.ok rest Mend:=hrest
     cases qe:nA gi2 sg2 gc2 ge ρ1 Mb with
     | bad=>rw[qe] at hrest;cases hrest
     | err c Mx=>rw[qe] at hrest;cases hrest
     | ok dvs Mv=>
      rw[qe] at hrest;have hrest:((aP t xs.length sg gc (nA gi2 sg2 gc2 ge) (t.ds.drop (i+1)) ρ Mv).bind fun es M3=>aF.ok (dvs++es) M3)=aF.ok rest Mend:=hrest;cases qr:aP t xs.length sg gc (nA gi2 sg2 gc2 ge) (t.ds.drop (i+1)) ρ Mv with
      | bad=>rw[qr] at hrest;cases hrest
      | err c Mx=>rw[qr] at hrest;cases hrest
      | ok rest' Mr=>
      rw[qr] at hrest;have hrest:aF.ok (dvs++rest') Mr=aF.ok rest Mend:=hrest;cases hrest;unfold nA at qe;cases qi:gi2 ρ1 Mb with
      | bad=>rw[qi] at qe;cases qe
      | err c Mx=>rw[qi] at qe;cases qe
      | ok t2 M2=>
      rw[qi] at qe;have qe:iz t2 sg2 gc2 ge t2.ds ρ1 M2=.ok dvs Mv:=qe;refine wpAny_bind (bA (hi2 C _ s7 σ6 H7 (fun J2 H8=>∃θ8,Go X.K θ7 H7 θ8 H8 M2∧qw X.K J2 θ8 H8 t2) I7 ⟨ρ1,θ7,Mb,hdY.go g7,g7.wr,?_⟩) fun xv s8 h8=>wpAny_bind (wpAny_standAt (wpAny_bind (wpAny_of_eq (hs2 C xv) (wpAny_bind (wpAny_holding (bA h8 fun itv s9 h9=>?_)))))))
      ·rw[qi];exact fun J2 θ8 H8 g8 hJ2=>⟨θ8,g8,hJ2⟩
      obtain⟨it2,fp2,tn2,J2,H9,rfl,I9,T2,st9,f9,θ9,g9,hJ9⟩:=h9;have hsz:its.length+dvs.length≤sizeLine:=by
       have e2:(ds++(dvs++rest')).length≤sizeLine:=by rw[hes];exact hlen
       rw[length_append,length_append,al rd',rv'.length] at e2;omega
      have a2':acc∉(ah X scope xs R fp s2 H2 C).fs:=fun z=>accF acc z rfl
      have a4':∀x c,(ah X scope xs R fp s2 H2 C).env.cells.lookup x=some c→c≠acc:=fun y c e z=>by
       obtain⟨v',o,ho,hdd⟩:=I2.cell y c (bf S I2 e);exact fK (Heap.lt_size ho) hAd z
      have a5':∀p∈dW fp s5.heap,p.1≠acc:=fun p hp=>fK (hfl p.1 (ka hp).1) hAd
      have inl:∀RR:Result→Shared→Prop,(∀τ' H' s' θ' ρ' vs its' na',L2.Inv (ah X scope xs R fp s2 H2 C) ((acc,aC (its++its') na')::dW fp s5.heap) τ' H' s'→dJ X.K θ' H' τ' ρ'→(ρ'.length=ρ1.length∧∀j,xs.length≤j→ρ'[j]?=ρ1[j]?)→Go X.K θ9 H9 θ' H' Mv→aH X.K θ' H' dvs vs→aD vs its'→RR (.ok .next) s')→codeAny (model X.prog X.w) X.A (.compLoop (.ListComp elt [⟨tg,iter,ifs,0⟩,⟨tg2,iter2,ifs2,0⟩] scope pos) 1 (.ref it2) (.ref acc) (ah X scope xs R fp s2 H2 C).env) RR s9:=fun RR fin'=>
       uK hc I9 T2 st9 f9 g9.wr (hdY.go (g7.trans g9)) hJ9 qe hsz (hcd2 C) own2 (hg2 C) (he C) hDC a2' (Nat.le_of_eq hAd) a4' a5' fin'
      refine wpAny_bind (wpAny_runOwn (A:=X.A) (h:=none) ?_);have post:∀τ' H' s' θ' ρ' vs2 its2 na2,L2.Inv (ah X scope xs R fp s2 H2 C) ((acc,aC (its++its2) na2)::dW fp s5.heap) τ' H' s'→dJ X.K θ' H' τ' ρ'→(ρ'.length=ρ1.length∧∀j,xs.length≤j→ρ'[j]?=ρ1[j]?)→Go X.K θ9 H9 θ' H' Mv→aH X.K θ' H' dvs vs2→aD vs2 its2→
        ∃m,m<t.ds.length-i∧Dg (ah X scope xs R fp s2 H2 C) fp tn X.K acc t (List.replicate xs.length none++ρ) θ1 H2 es (fun l N=>aP t xs.length sg gc (nA gi2 sg2 gc2 ge) l ρ N) Mend m s':=fun τ' Hx s' θ' ρ' vs2 its2 na2 Ix dx agx gx rdx rvx=>by
       obtain⟨o1,o2⟩:=own _ _ _ qs;have kx:∀b∈fp,∀o,s5.heap.get? b=some o→s'.heap.get? b=some o:=fun b hb o e=>(Ix.pin (b,o) (mem_append_right _ (mem_cons_of_mem _ (bv hb e)))).1
       have k1:∀b∈fp,Hx b=none:=fun b hb=>by
        obtain⟨o,e,d⟩:=T.obj _ _ st5 b hb;exact(Ix.pin (b,o) (mem_append_right _ (mem_cons_of_mem _ (bv hb e)))).2.1
       have gg:=(gy.trans (g7.trans g9)).trans gx;exact⟨t.ds.length-(i+1),by omega,i+1,τ',Hx,θ',Mv,ds++dvs,rest',vs++vs2,its++its2,na2,rfl,hlt,Ix.pins_of (fun p hp=>Ix.pin p (mem_append_right _ (by rw[mem_singleton.mp hp];exact mem_cons_self))),qI (agx.1.trans o1) (fun j hj=>(agx.2 j hj).trans (o2 j hj)) dx,T.keep _ _ _ st5 kx,k1,g'.trans gg,bZ (rd'.go gg) rdx,rv'.append rvx,qr,by rw[←hes];simp⟩
      exact gJ rfl (inl _ fun τ' Hx s' θ' ρ' vs2 its2 na2 Ix dx agx gx rdx rvx=>wpAny_pure (post _ _ _ _ _ _ _ _ Ix dx agx gx rdx rvx)) (T2.self _ 0 _ _ _ st9 (inl _ fun τ' Hx s' θ' ρ' vs2 its2 na2 Ix dx agx gx rdx rvx=>wpAny_pure (post _ _ _ _ _ _ _ _ Ix dx agx gx rdx rvx)))
  ·have e:i=t.ds.length:=by omega
   subst e;rw[drop_length,aP,if_pos hok] at hrest;cases hrest;have hes:ds=es:=by rw[←hes];simp
   subst hes;refine bA (T.done (ah X scope xs R fp s2 H2 C) rfl rfl rfl hc _ _ s' _ H' _ I' (fpY fr') st' (hst (Nat.le_refl _))) fun r s4 hxx=>?_
   obtain⟨hr,I4⟩:=hxx;subst hr;have pa:=I4.pin (acc,aC its na) (mem_append_right _ (by simp));have e4:s4.heap.get? acc=some (aC its na):=pa.1;have n4:H' acc=none:=pa.2.1;have lv:vs.length≤sizeLine:=by rw[←al rd'];exact hlen
   obtain⟨mC,hnC,_⟩:=I4.loc;have hHC:H' C=none:=I4.free;have lN:Un (i5 X.stack) fp H2 H' s2.heap s4.heap:=I4.base;have neA:∀{b:Addr} {o:Obj},s2.heap.get? b=some o→b≠acc:=fun {b o} e=>fK (Heap.lt_size e) hAd
   have neH:∀{b:Addr} {u:HO},H' b=some u→b≠acc:=fun {b u} e z=>by rw[z,n4] at e;cases e
   have un4:Un (i5 X.stack) fp H2 (bX H' acc (.lst vs)) s2.heap s4.heap:=by
    refine⟨lN.keep,lN.slot,fun b o e n hx=>?_,lN.there,fun b xs e=>?_,fun b o u e=>?_,fun b ps e=>?_⟩
    ·rw[aq (neA e)];exact lN.free b o e n hx
    ·have z:=lN.tups b xs e;rw[aq (neH z)];exact z
    ·have z:=lN.frzs b o u e;rw[aq (neH z)];exact z
    ·obtain⟨more,z⟩:=lN.tbls b ps e;exact⟨more,by rw[aq (neH z)];exact z⟩
   have hok4:fZ X.prog X.w (bX H' acc (.lst vs)) s4.heap:=fun b u e=>by
    by_cases hb:b=acc
    ·subst hb;rw[cj] at e;cases e;exact⟨lv,its,na,rv',e4⟩
    ·rw[aq hb] at e;exact(I4.hok b u e).stay (fun c v _ q=>q) (fun c q=>by rw[aq (neH q)];exact q) fun c xs q=>by rw[aq (neH q)];exact q
   have IX:L2.Inv X af σ (bX H' acc (.lst vs)) s4:=I2.call' (ch:=fp) I4.os un4 hok4 I4.bare fun b hb=>⟨(f2 b hb).2.2.2.1,(f2 b hb).2.1,(f2 b hb).2.2.2.2.1,(f2 b hb).2.2.2.2.2⟩
   refine fin acc C s4 H' θ' vs mC IX hnC (I2.fpOk hCs ?_) g' n4 rd';rw[aq (Ne.symm hDC)];exact hHC
 exact codeAny_compStart_list (loop _ rfl) (T.self _ 0 _ _ _ (T.keep 0 _ _ st2 fun b hb o e=>old b o e) (loop _ rfl))
end
section
variable {X:Cx}{scope:Scope}{xs:List Str}{tg tg2:Expr}{sg sg2:GG}{R:List Str}{elt iter iter2:Expr}{ifs ifs2:List Expr}{pos:Pos}{gi gi2:GI}{gc gc2:GT}{ge:GE}
theorem fu {t:iu}{n:Nat}{gb:a9→am→aF (List D)}{ρ:a9}{c:Str}{M':am}:∀(ds:List D) (M:am),aP t n sg gc gb ds ρ M=.err c M'→False
 | [],M,h=>by
  unfold aP at h;split at h <;> cases h
 | d::r,M,h=>by
  unfold aP at h;split at h
  ·split at h
   ·cases h
   ·split at h
    ·rename_i M1 q1;split at h
     ·rename_i e M2 q2;cases q:aP t n sg gc gb r ρ M2 with
      | ok es M3=>rw[q] at h;cases h
      | err c2 M3=>exact fu r M2 q
      | bad=>rw[q] at h;cases h
     ·cases h
    ·rename_i M1 q1;exact fu r M1 h
    ·cases h
  ·cases h
theorem sn {mk:List D→am→aF D}(hS:bU scope X.env.kindOf xs R X.N=true)(hc:X.calm=true)(hm:mk=aQ∨mk=cO)(hi:PI X tg iter (tI X gi))(own:iQ xs.length sg)(hg:∀fp s H C,PG (ah X scope xs R fp s H C) tg (tG (ah X scope xs R fp s H C) sg))(hts:eD X scope xs R ifs gc)
  (hi2:∀fp s H C,PI (ah X scope xs R fp s H C) tg2 iter2 (tI (ah X scope xs R fp s H C) gi2)) (own2:iQ xs.length sg2) (hg2:∀fp s H C,PG (ah X scope xs R fp s H C) tg2 (tG (ah X scope xs R fp s H C) sg2)) (hts2:eD X scope xs R ifs2 gc2)
  (he:∀fp s H C,PE (ah X scope xs R fp s H C) elt (tE (ah X scope xs R fp s H C) ge))
  (hs:∀x,foldedSetIterable iter X.env x=pure x:=by intro _;rfl) (hs2:∀fp s H C x,foldedSetIterable iter2 (ah X scope xs R fp s H C).env x=pure x:=by intro _ _ _ _ _;rfl):PE X (.ListComp elt [⟨tg,iter,ifs,0⟩,⟨tg2,iter2,ifs2,0⟩] scope pos) (tE X (eT gi xs.length sg gc gi2 sg2 gc2 ge mk)):=by
 have S:=bg.of hS;intro af s σ H Q I h;obtain⟨ρ,θ,M,hd,hw,h⟩:=h;rw[eval_ListComp];refine wpAny_comprehension_free (use:=none) rfl hs (ie (S.cells I)) S.kind S.lnames ?_;refine bA (hi af s σ H (fun J H2=>∃t M1 θ1,gi ρ M=.ok t M1∧Go X.K θ H θ1 H2 M1∧qw X.K J θ1 H2 t) I ⟨ρ,θ,M,hd,hw,?_⟩) fun v s1 h1=>bA h1 fun itv s2 h2=>?_
 ·cases q:gi ρ M with
  | ok t M1=>exact fun J θ1 H1 g1 hJ=>⟨t,M1,θ1,rfl,g1,hJ⟩
  | err c M1=>unfold eT at h;rw[q] at h;exact h
  | bad=>unfold eT at h;rw[q] at h;exact h
 obtain⟨it,fp,tn,J,H2,rfl,I2,T,st2,f2,t,M1,θ1,eg,g1,hJ⟩:=h2;unfold eT at h;rw[eg] at h;have h:aE X θ H Q ((aP t xs.length sg gc (nA gi2 sg2 gc2 ge) t.ds ρ M1).bind mk):=h;cases q:aP t xs.length sg gc (nA gi2 sg2 gc2 ge) t.ds ρ M1 with
 | bad=>rw[q] at h;exact h.elim
 | err c Mx=>exact(fu _ _ q).elim
 | ok es Mend=>
  rw[q] at h;have h:aE X θ H Q (mk es Mend):=h;refine my (RR:=fun acc C=>compPost (model X.prog X.w) X.A X.xe none (EP X af σ Q) acc C) S hc I2 T st2 f2 g1.wr (hd.go g1) hJ q (tw hm h) (fun C=>hts fp s2 H2 C) (fun C=>hts2 fp s2 H2 C) (fun C=>hi2 fp s2 H2 C) own2 (fun C=>hg2 fp s2 H2 C) (fun C=>hs2 fp s2 H2 C) own (fun C=>hg fp s2 H2 C) (fun C=>he fp s2 H2 C) ?_;intro acc C s' H' θ' vs m IX hnC fC g' na rd;refine⟨m,hnC,fun h' sb=>?_⟩;have I3:L2.Inv X af σ (bX H' acc (.lst vs)) {s' with heap:=h',toks:=s'.toks}:=IX.turned (it:=C) (fun b o hb e=>(sb.2 b hb).trans e) fC.1 fC.2.1 fC.2.2.2.1 fC.2.2.2.2.1 fC.2.2.2.2.2;exact⟨.ref acc,_,I3,rfl,(wC hm X θ' H' Q es Mend vs (aE.go (g1.trans g') h) g'.wr rd).2 acc na⟩
theorem oV {n:Nat}{mk:List D→am→aF D}(_:RN pos.line pos.col xs R)(hS:bU scope X.env.kindOf xs R X.N=true)(hm:mk=aQ∨mk=cO)(own:QO xs.length sg)(own2:QO xs.length sg2)(hi:QI X tg iter gi)(hg:∀fp s H C,QG (ah X scope xs R fp s H C) tg sg)(hts:tU X scope xs R ifs gc)
  (hi2:∀fp s H C,QI (ah X scope xs R fp s H C) tg2 iter2 gi2) (hg2:∀fp s H C,QG (ah X scope xs R fp s H C) tg2 sg2) (hts2:tU X scope xs R ifs2 gc2) (he:∀fp s H C,QE (ah X scope xs R fp s H C) elt ge)
  (hn:xs.length=n:=by rfl) (hc:X.calm=true:=by rfl) (hs:∀x,foldedSetIterable iter X.env x=pure x:=by intro _;rfl) (hs2:∀fp s H C x,foldedSetIterable iter2 (ah X scope xs R fp s H C).env x=pure x:=by intro _ _ _ _ _;rfl):QE X (.ListComp elt [⟨tg,iter,ifs,0⟩,⟨tg2,iter2,ifs2,0⟩] scope pos) (eT gi n sg gc gi2 sg2 gc2 ge mk):=by
 subst hn;exact⟨sn hS hc hm hi.h own.h (fun fp s H C=>(hg fp s H C).h) hts.h (fun fp s H C=>(hi2 fp s H C).h) own2.h (fun fp s H C=>(hg2 fp s H C).h) hts2.h (fun fp s H C=>(he fp s H C).h) hs hs2⟩
end
def jT (a b:GE):GE:=fun ρ M=>(a ρ M).bind fun x M1=>match x with
 | .non=>b ρ M1
 | .tup xs=>if xs.isEmpty then b ρ M1 else .ok (.tup xs) M1
 | _=>.bad
section
variable {X:Cx}{a b:Expr}{rest:List Expr}{pos:Pos}{ga gb:GE}
theorem xL (ha:PE X a (tE X ga))(hb:PE X (.BoolOp .Or (b::rest) pos) (tE X gb)):PE X (.BoolOp .Or (a::b::rest) pos) (tE X (jT ga gb)):=by
 intro af s σ H Q I h;obtain⟨ρ,θ,M,hd,hw,h⟩:=h;refine BoolOp_or (bA (ha af s σ H (fun v H1=>∃d M1 θ1,ga ρ M=.ok d M1∧Go X.K θ H θ1 H1 M1∧cD X.K θ1 H1 d v) I ⟨ρ,θ,M,hd,hw,?_⟩) fun v s1 hxx=>?_)
 ·cases q:ga ρ M with
  | ok d M1=>exact fun v θ1 H1 g1 r1=>⟨d,M1,θ1,rfl,g1,r1⟩
  | err c M1=>unfold jT at h;rw[q] at h;exact h
  | bad=>unfold jT at h;rw[q] at h;exact h
 obtain⟨x,H1,I1,r1,d,M1,θ1,q,g1,rd⟩:=hxx;unfold jT at h;rw[q] at h;have other:∀s2,L2.Inv X af σ H1 s2→aE X θ H Q (gb ρ M1)→wpAny (model X.prog X.w) X.A (eval (.BoolOp .Or (b::rest) pos) X.env) (EP X af σ Q) X.xe s2:=fun s2 I2 h2=>hb af s2 σ H1 Q I2 ⟨ρ,θ1,M1,hd.go g1,g1.wr,aE.go g1 h2⟩
 cases d with
 | non=>
  have e:x=.non:=rd;subst e;refine bA (nj af s1 σ H1 .non v (fun k H2=>k=false∧H2=H1) I1 r1 ⟨false,rfl,rfl,rfl⟩) fun c s2 hx=>?_
  obtain⟨H2,I2,rfl,rfl⟩:=hx;rw[if_neg Bool.false_ne_true];exact other s2 I2 h
 | tup ys=>
  have h:aE X θ H Q (if ys.isEmpty then gb ρ M1 else .ok (.tup ys) M1):=h;have rd0:=rd;obtain⟨ad,vs,e,ta,ra⟩:=rd;subst e;refine bA (nj af s1 σ H1 (.ref ad) v (fun k H2=>k=(!ys.isEmpty)∧H2=H1) I1 r1 ⟨_,.inr (.inl ⟨vs,ta.sq,(dF ra).symm⟩),rfl,rfl⟩) fun c s2 hx=>?_
  obtain⟨H2,I2,rfl,rfl⟩:=hx;cases hy:ys.isEmpty with
  | true=>
   rw[hy,if_pos rfl] at h;exact other s2 I2 h
  | false=>
   rw[hy,if_neg Bool.false_ne_true] at h;exact⟨.ref ad,_,I2,r1,h _ θ1 _ g1 rd0⟩
 | _=>exact h.elim
theorem yy (ha:QE X a ga)(hb:QE X (.BoolOp .Or (b::rest) pos) gb):QE X (.BoolOp .Or (a::b::rest) pos) (jT ga gb):=⟨xL ha.h hb.h⟩
end
end DL
namespace DL
open PySem L2
def az:Nat→D→Bool
 | 0,_=>false
 | f+1,d=>match d with
  | .mr _=>false
  | .tup xs=>xs.all (az f)
  | .lst xs=>xs.all (az f)
  | .ro xs=>xs.all (az f)
  | _=>true
theorem bJ {f:D→Option D}:∀{xs:List D},(∀x∈xs,f x=some x)→aS f xs=some xs
 | [],_=>rfl
 | x::xs,h=>by
  unfold aS;rw[h x List.mem_cons_self,bJ fun y hy=>h y (List.mem_cons_of_mem _ hy)]
theorem gO {n:Nat}{M:am}:∀(f:Nat) (d:D),az f d=true→frz n M f d=some d
 | 0,d,h=>by cases h
 | f+1,d,h=>by
  cases d with
  | mr k=>cases h
  | tup xs=>
   have h:xs.all (az f)=true:=h;show(aS (frz n M f) xs).map D.tup=_;rw[bJ fun x hx=>gO f x (List.all_eq_true.mp h x hx)];rfl
  | lst xs=>
   have h:xs.all (az f)=true:=h;show(aS (frz n M f) xs).map D.lst=_;rw[bJ fun x hx=>gO f x (List.all_eq_true.mp h x hx)];rfl
  | ro xs=>
   have h:xs.all (az f)=true:=h;show(aS (frz n M f) xs).map D.ro=_;rw[bJ fun x hx=>gO f x (List.all_eq_true.mp h x hx)];rfl
  | _=>rfl
def wv:MO→Bool
 | .lst xs=>xs.all (az 30)
 | .obj _ fs=>fs.all fun p=>az 30 p.2
 | .dK fs=>fs.all fun p=>az 30 p.2
 | .dT fs=>fs.all fun p=>az 30 p.2
theorem iG {κ:Type}{f:D→Option D}:∀{fs:List (κ×D)},(∀p∈fs,f p.2=some p.2)→jR f fs=some fs
 | [],_=>rfl
 | (x,d)::fs,h=>by
  unfold jR;rw[h (x,d) List.mem_cons_self,iG fun y hy=>h y (List.mem_cons_of_mem _ hy)]
theorem kI {f:D→Option D}:∀{fs:List (Str×D)},(∀p∈fs,f p.2=some p.2)→mU f fs=some fs
 | [],_=>rfl
 | (x,d)::fs,h=>by
  unfold mU;rw[h (x,d) List.mem_cons_self,kI fun y hy=>h y (List.mem_cons_of_mem _ hy)]
@[simp] theorem zO (f:Nat) (i:Int):az (f+1) (.int i)=true:=rfl
@[simp] theorem A7 (f:Nat) (i:Bool):az (f+1) (.bl i)=true:=rfl
@[simp] theorem zK (f:Nat):az (f+1) .non=true:=rfl
@[simp] theorem zG (f:Nat) (x:Str):az (f+1) (.str x)=true:=rfl
theorem zP (f:Nat)(xs:List D):az (f+1) (.tup xs)=xs.all (az f):=rfl
theorem iy (f:Nat)(l:List Int):(l.map D.int).all (az (f+1))=true:=by
 rw[List.all_map];exact List.all_eq_true.mpr fun x _=>rfl
theorem vY {α:Type}(xs:List α)(x:α):j5 (xs++[x]) (-1)=some x:=by
 unfold j5 tV;have h:-((xs++[x]).length:Int)≤-1:=by simp;omega
 rw[if_neg (by decide),if_pos h];have e:(-1+((xs++[x]).length:Int)).toNat=xs.length:=by simp;omega
 rw[e];simp
theorem hV {t:GT}{b:GS}{n:Nat}{ρ ρ2:a9}{M M1 M2:am}(h1:t ρ M=.ok true M1)(h2:b ρ M1=.ok (.nx ρ2) M2):bT t b (n+1) ρ M=bT t b n ρ2 M2:=by
 rw[bT,h1,ai,if_pos rfl,h2,ai]
theorem eO {t:GT}{b:GS}{n:Nat}{ρ:a9}{M M1:am}(h1:t ρ M=.ok false M1):bT t b (n+1) ρ M=.ok (.nx ρ) M1:=by
 rw[bT,h1,ai,if_neg Bool.false_ne_true]
end DL
namespace DL
open PySem L2
theorem ao {a b:GS}{ρ ρ1:a9}{M M1:am}(h:a ρ M=.ok (.nx ρ1) M1):ar a b ρ M=b ρ1 M1:=by
 unfold ar;rw[h];rfl
theorem mD {a b:GS}{ρ:a9}{d:D}{M M1:am}(h:a ρ M=.ok (.rt d) M1):ar a b ρ M=.ok (.rt d) M1:=by
 unfold ar;rw[h];rfl
theorem mM {t:GT}{a b:GS}{ρ:a9}{M M1:am}(h:t ρ M=.ok true M1):gG t a b ρ M=a ρ M1:=by
 unfold gG;rw[h,ai,if_pos rfl]
theorem fo {t:GT}{a b:GS}{ρ:a9}{M M1:am}(h:t ρ M=.ok false M1):gG t a b ρ M=b ρ M1:=by
 unfold gG;rw[h,ai,if_neg Bool.false_ne_true]
theorem ay {i:Nat}{g:GE}{ρ:a9}{M M1:am}{d:D}(h:g ρ M=.ok d M1):aB i g ρ M=.ok (.nx (ρ.set i (some d))) M1:=by
 unfold aB;rw[h,ai]
theorem lr {g:GE}{ρ:a9}{M M1:am}{d:D}(h:g ρ M=.ok d M1):fi g ρ M=.ok (.nx ρ) M1:=by
 unfold fi;rw[h,ai]
theorem cn {g:GE}{ρ:a9}{M M1:am}{d:D}(h:g ρ M=.ok d M1):aR g ρ M=.ok (.rt d) M1:=by
 unfold aR;rw[h,ai]
theorem oy {a b:GT}{ρ:a9}{M:am}{x y:Bool}(ha:a ρ M=.ok x M)(hb:x=true→b ρ M=.ok y M):dD a b ρ M=.ok (x&&y) M:=by
 unfold dD;rw[ha,ai];cases x with
 | true=>exact hb rfl
 | false=>rfl
theorem qO {a b:GT}{ρ:a9}{M:am}{x y:Bool}(ha:a ρ M=.ok x M)(hb:x=false→b ρ M=.ok y M):iY a b ρ M=.ok (x||y) M:=by
 unfold iY;rw[ha,ai];cases x with
 | true=>rfl
 | false=>exact hb rfl
theorem va {a:GT}{ρ:a9}{M:am}{x:Bool}(ha:a ρ M=.ok x M):fW a ρ M=.ok (!x) M:=by
 unfold fW;rw[ha,ai]
theorem xk {a:GE}{ρ:a9}{M M1:am}{x:Bool}(ha:a ρ M=.ok (.bl x) M1):jJ a ρ M=.ok x M1:=by
 unfold jJ;rw[ha,ai];rfl
theorem bb {a:GE}{ρ:a9}{M M1:am}{x:Bool}(ha:a ρ M=.ok (.bl x) M1):aY a ρ M=.ok x M1:=by
 unfold aY;rw[ha,ai];rfl
theorem ap {f:F2}{a b:GE}{ρ:a9}{M M1 M2:am}{x y:D}{o:aF D}(ha:a ρ M=.ok x M1)(hb:b ρ M1=.ok y M2)(h:f x y M2=o):g2 f a b ρ M=o:=by
 unfold g2;rw[ha,ai,hb,ai,h]
theorem iW {F:FD}{a:GE}{ρ:a9}{M M1:am}{x:D}{o:aF D}(ha:a ρ M=.ok x M1)(h:F [x] M1=o):aL F (aa a ag) ρ M=o:=by
 unfold aL aa ag;rw[ha,ai,ai,ai,h]
theorem gT {F:FD}{a:GE}{ρ:a9}{M M1:am}{x:D}{o:aF D}(ha:a ρ M=.ok x M1)(h:F [x] M1=o):ak 1 F (aa a ag) ρ M=o:=by
 unfold ak aa ag;rw[ha,ai,ai,ai,if_pos (show [x].length=1 from rfl),h]
theorem bn {F:FD}{a b:GE}{ρ:a9}{M M1 M2:am}{x y:D}{o:aF D}(ha:a ρ M=.ok x M1)(hb:b ρ M1=.ok y M2)(h:F [x,y] M2=o):ak 2 F (aa a (aa b ag)) ρ M=o:=by
 unfold ak aa ag;rw[ha,ai,hb,ai,ai,ai,ai,if_pos (show [x,y].length=2 from rfl),h]
theorem Bg {F:FD}{a b c:GE}{ρ:a9}{M M1 M2 M3:am}{x y z:D}{o:aF D}(ha:a ρ M=.ok x M1)(hb:b ρ M1=.ok y M2)(hc:c ρ M2=.ok z M3)(h:F [x,y,z] M3=o):ak 3 F (aa a (aa b (aa c ag))) ρ M=o:=by
 unfold ak aa ag;rw[ha,ai,hb,ai,hc,ai,ai,ai,ai,ai,if_pos (show [x,y,z].length=3 from rfl),h]
theorem k6 {i:Nat}{ρ:a9}{M:am}{xs:List D}(h:ρ[i]?=some (some (.tup xs))):bO (ae i) ρ M=.ok ⟨xs,none⟩ M:=by
 unfold bO ae;rw[h];rfl
theorem uX {i:Nat}{ρ:a9}{M:am}{xs:List D}(h:ρ[i]?=some (some (.lst xs))):bO (ae i) ρ M=.ok ⟨xs,none⟩ M:=by
 unfold bO ae;rw[h];rfl
theorem Ag (a b:Int)(M:am):dH false (.int a) (.int b) M=.ok (.bl (decide (a=b))) M:=by
 show aF.ok (D.bl ((a==b) != false)) M=_
 by_cases q:a=b <;> simp[q]
theorem kM (M:am)(E:List D):(M++[MO.lst E])[M.length]?=some (.lst E):=by simp
theorem xG (M:am)(E E':List D):(M++[MO.lst E]).set M.length (.lst E')=M++[MO.lst E']:=by simp
theorem yJ {M:am}{E:List D}{d:D}(h:E.length<1000000):mf M.length d (M++[MO.lst E])=.ok .non (M++[MO.lst (E++[d])]):=by
 have l:E.length<sizeLine:=Nat.lt_of_lt_of_le h (by rw[sizeLine_eq];decide);unfold mf;rw[kM];dsimp only;rw[if_pos l,xG]
theorem yU {go ge:GE}{ρ:a9}{M:am}{E:List D}{d:D}(h1:go ρ (M++[MO.lst E])=.ok (.mr M.length) (M++[MO.lst E]))(h2:ge ρ (M++[MO.lst E])=.ok d (M++[MO.lst E]))(h:E.length<1000000) :
  ix go ge ρ (M++[MO.lst E])=.ok .non (M++[MO.lst (E++[d])]):=by
 unfold ix;rw[h1,ai];dsimp only;rw[kM];dsimp only;rw[h2,ai,yJ h]
theorem gw {xs:List D}{k:Nat}{d:D}{M:am}(h:xs[k]?=some d):bi (.lst xs) (.int k) M=.ok d M:=by
 have a:=lK (xs:=xs) (j:=k) h;unfold bi bu;dsimp only;rw[a]
theorem eP {xs:List D}{k:Nat}{d:D}{M:am}(h:xs[k]?=some d):bi (.tup xs) (.int k) M=.ok d M:=by
 have a:=lK (xs:=xs) (j:=k) h;unfold bi bu;dsimp only;rw[a]
theorem nW {ρ:a9}{M:am}:fU ag ρ M=.ok (.mr M.length) (M++[.lst []]):=by
 show(if([]:List D).length≤sizeLine then aF.ok (D.mr M.length) (M++[.lst []]) else .bad)=_;rw[if_pos (show([]:List D).length≤sizeLine from Nat.zero_le _)]
theorem bq {ga:GA}{ρ:a9}{M M1:am}{ds:List D}(h:ga ρ M=.ok ds M1)(hl:ds.length≤100000:=by exact Nat.le_of_ble_eq_true rfl):aK ga ρ M=.ok (.tup ds) M1:=by
 have:ds.length≤sizeLine:=bB (by omega);unfold aK;rw[h,ai];unfold jj;rw[if_pos this]
theorem gH {ga:GA}{ρ:a9}{M M1:am}{ds:List D}(h:ga ρ M=.ok ds M1)(hl:ds.length≤100000:=by exact Nat.le_of_ble_eq_true rfl):d7 ga ρ M=.ok (.lst ds) M1:=by
 have:ds.length≤sizeLine:=bB (by omega);unfold d7;rw[h,ai];unfold aQ;rw[if_pos this]
theorem aw {g:GE}{r:GA}{ρ:a9}{M M1 M2:am}{d:D}{ds:List D}(h:g ρ M=.ok d M1)(hr:r ρ M1=.ok ds M2):aa g r ρ M=.ok (d::ds) M2:=by
 unfold aa;rw[h,ai,hr,ai]
theorem tK {go ge:GE}{ρ:a9}{M M1:am}{k:Nat}{E E1:List D}{d:D}(h1:go ρ M=.ok (.mr k) M)(h2:M[k]?=some (.lst E))(h3:ge ρ M=.ok d M1)(h4:M1[k]?=some (.lst E1))(h:E1.length<1000000) :
  ix go ge ρ M=.ok .non (M1.set k (.lst (E1++[d]))):=by
 have l:E1.length<sizeLine:=Nat.lt_of_lt_of_le h (by rw[sizeLine_eq];decide);unfold ix;rw[h1,ai];dsimp only;rw[h2];dsimp only;rw[h3,ai];unfold mf;rw[h4];dsimp only;rw[if_pos l]
theorem i6 {ga:GA}{ρ:a9}{M M1:am}{n:Nat}(h:ga ρ M=.ok [.int (n:Int)] M1)(hn:n≤1000000):dB ga ρ M=.ok ⟨aZ 0 n,none⟩ M1:=by
 unfold dB;rw[h,ai,tx hn]
theorem eJ {gi:GI}{sg:GG}{b:GS}{ρ:a9}{M M1:am}{t:iu}{o:aF Fl}(h:gi ρ M=.ok t M1)(e:bI t sg b t.ds ρ M1=o):hZ gi sg b ρ M=o:=by
 unfold hZ;rw[h,ai,e]
theorem ig {i j:Int}(h0:0<j)(h1:j≤1000000)(M:am):bE (.int i) (.int j) M=.ok (.int (i / j)) M:=by
 have h2:j.natAbs<2 ^ 20:=by omega
 have h3:j.natAbs≠0:=by omega
 have h4:=(Nat.log2_lt h3).mpr h2;unfold bE;dsimp only;rw[if_pos ⟨h0,by omega⟩]
theorem n8 {d:D}(h:au 40 d=true)(hs:eW d d=true)(hm:∀M,iP d M=d)(M:am):dH true d d M=.ok (.bl false) M:=by
 unfold dH;rw[hm,h,hs];rfl
end DL
namespace DL
open PySem L2
def fQ (n:Nat):Nat→D→Bool
 | 0,_=>false
 | f+1,d=>match d with
  | .mr k=>decide (k<n)
  | .tup xs=>xs.all (fQ n f)
  | .lst xs=>xs.all (fQ n f)
  | .ro xs=>xs.all (fQ n f)
  | _=>true
theorem eS {n:Nat}{M:am}:∀(f:Nat) (d:D),fQ n f d=true→frz n M f d=some d
 | 0,d,h=>by cases h
 | f+1,d,h=>by
  cases d with
  | mr k=>
   have h:decide (k<n)=true:=h;show(if k<n then some (D.mr k) else _)=_;rw[if_pos (of_decide_eq_true h)]
  | tup xs=>
   have h:xs.all (fQ n f)=true:=h;show(aS (frz n M f) xs).map D.tup=_;rw[bJ fun x hx=>eS f x (List.all_eq_true.mp h x hx)];rfl
  | lst xs=>
   have h:xs.all (fQ n f)=true:=h;show(aS (frz n M f) xs).map D.lst=_;rw[bJ fun x hx=>eS f x (List.all_eq_true.mp h x hx)];rfl
  | ro xs=>
   have h:xs.all (fQ n f)=true:=h;show(aS (frz n M f) xs).map D.ro=_;rw[bJ fun x hx=>eS f x (List.all_eq_true.mp h x hx)];rfl
  | _=>rfl
theorem dA {n:Nat}:∀(f:Nat) (d:D),az f d=true→fQ n f d=true
 | 0,d,h=>by cases h
 | f+1,d,h=>by
  cases d with
  | mr k=>cases h
  | tup xs=>exact List.all_eq_true.mpr fun x hx=>dA f x (List.all_eq_true.mp (show xs.all (az f)=true from h) x hx)
  | lst xs=>exact List.all_eq_true.mpr fun x hx=>dA f x (List.all_eq_true.mp (show xs.all (az f)=true from h) x hx)
  | ro xs=>exact List.all_eq_true.mpr fun x hx=>dA f x (List.all_eq_true.mp (show xs.all (az f)=true from h) x hx)
  | _=>rfl
def yL (n:Nat):MO→Bool
 | .lst xs=>xs.all (fQ n 30)
 | .obj _ fs=>fs.all fun p=>fQ n 30 p.2
 | .dK fs=>fs.all fun p=>fQ n 30 p.2
 | .dT fs=>fs.all fun p=>fQ n 30 p.2
theorem oY {n:Nat}{o:MO}(h:wv o=true):yL n o=true:=by
 cases o with
 | lst xs=>exact List.all_eq_true.mpr fun x hx=>dA 30 x (List.all_eq_true.mp (show xs.all (az 30)=true from h) x hx)
 | obj c fs=>exact List.all_eq_true.mpr fun x hx=>dA 30 x.2 (List.all_eq_true.mp (show(fs.all fun p=>az 30 p.2)=true from h) x hx)
 | dK fs=>exact List.all_eq_true.mpr fun x hx=>dA 30 x.2 (List.all_eq_true.mp (show(fs.all fun p=>az 30 p.2)=true from h) x hx)
 | dT fs=>exact List.all_eq_true.mpr fun x hx=>dA 30 x.2 (List.all_eq_true.mp (show(fs.all fun p=>az 30 p.2)=true from h) x hx)
theorem eZ {n:Nat}{M:am}:∀{l:List MO},l.all (yL n)=true→dI n M l=some l
 | [],_=>rfl
 | .lst xs::r,h=>by
  rw[List.all_cons,Bool.and_eq_true] at h;unfold dI;rw[eZ h.2];have h1:xs.all (fQ n 30)=true:=h.1;rw[bJ fun x hx=>eS 30 x (List.all_eq_true.mp h1 x hx)]
 | .obj c fs::r,h=>by
  rw[List.all_cons,Bool.and_eq_true] at h;unfold dI;rw[eZ h.2];have h1:(fs.all fun p=>fQ n 30 p.2)=true:=h.1;rw[kI fun p hp=>eS 30 p.2 (List.all_eq_true.mp h1 p hp)]
 | .dK fs::r,h=>by
  rw[List.all_cons,Bool.and_eq_true] at h;unfold dI;rw[eZ h.2];have h1:(fs.all fun p=>fQ n 30 p.2)=true:=h.1;rw[iG fun p hp=>eS 30 p.2 (List.all_eq_true.mp h1 p hp)]
 | .dT fs::r,h=>by
  rw[List.all_cons,Bool.and_eq_true] at h;unfold dI;rw[eZ h.2];have h1:(fs.all fun p=>fQ n 30 p.2)=true:=h.1;rw[iG fun p hp=>eS 30 p.2 (List.all_eq_true.mp h1 p hp)]
def eY (M:am):Prop:=M.all (yL M.length)=true
theorem eY.pure {M:am}(h:M.all wv=true):eY M:=List.all_eq_true.mpr fun x hx=>oY (List.all_eq_true.mp h x hx)
theorem kU {d:D}{M E:am}(hd:az 30 d=true)(hM:eY M):iU M.length (.ok d (M++E))=.ok d M:=by
 unfold iU
 by_cases h:(M++E).length=M.length
 ·have:E=[]:=by
   rw[List.length_append] at h;exact List.length_eq_zero_iff.mp (by omega)
  subst this;simp
 ·simp only[if_neg h];rw[List.take_left,gO 30 d hd,eZ hM]
end DL
namespace Hd
open PySem PySem.W PySem.Calls PyProof.Rows
def topRunT (tb:String→Option Builtin)(p:Program)(w:World)(n0:Nat)(ann:Option Value):Nat→SharedT→Thread→Option SharedT
 | 0,_,_=>none
 | n+1,s,t=>match through t with
  | true=>some s
  | false=>match stepOk n0 ann t with
   | false=>none
   | true=>match stepT (denote tb) p w s t with
    | some (s',t')=>topRunT tb p w n0 ann n s' t'
    | none=>none
theorem j8 {tb:String→Option Builtin}{p:Program}{w:World}{n0:Nat}{ann:Option Value}:∀{n:Nat} {s s':SharedT} {t:Thread},topRunT tb p w n0 ann n s t=some s'→topRun tb p w n0 ann n s.abs t=some s'.abs
 | 0,_,_,_,h=>by cases h
 | n+1,s,s',t,h=>by
  unfold topRunT at h;unfold topRun;cases he:through t with
  | true=>rw[he] at h;cases h;rfl
  | false=>
   rw[he] at h;cases hk:stepOk n0 ann t with
   | false=>rw[hk] at h;cases h
   | true=>
    rw[hk] at h;cases hs:stepT (denote tb) p w s t with
    | none=>rw[hs] at h;cases h
    | some r=>obtain⟨s2,t2⟩:=r;rw[hs] at h;rw[stepT_spec hs];exact j8 h
def grow:List Obj→BT→Nat→BT
 | [],t,_=>t
 | o::r,t,n=>grow r (t.ins n o) (n+1)
def wy:List Obj→BT→Nat→Bool
 | [],_,_=>true
 | o::r,t,n=>((t.ins n o).get n).isSome&&wy r (t.ins n o) (n+1)
theorem m3 (life:Life):∀(l:List Obj) (t:BT) (n:Nat),wy l t n=true→absHeap (grow l t n) (n+l.length) life=⟨(absHeap t n life).objs++l.toArray,life⟩
 | [],t,n,_=>by simp[grow,absHeap]
 | o::r,t,n,h=>by
  obtain⟨h1,h2⟩:=Bool.and_eq_true_iff.mp h;have e:=m3 life r (t.ins n o) (n+1) h2;have e2:absHeap (t.ins n o) (n+1) life=(absHeap t n life).push o:=absHeap_ins h1;show absHeap (grow r (t.ins n o) (n+1)) (n+(r.length+1)) life=_;rw[show n+(r.length+1)=n+1+r.length by omega,e,e2];simp[Heap.push]
theorem nQ {p q:Program}{loose:List Str}{Xt:Shared→Bool}{A:Type}{Yf:Shared→A}{Ya:World→A}{N:Nat}{g0:Bool}{H:Params→Heap}{gs:Array GenState}{d:Drawn}{k:Nat}{m:Nat}{ann:Option Value}{T:Params→BT}{lf:Life}
  (open_:∀w:World,(fencedOpening treeTable p w N).map (fun s=>(s.heap,s.gens,s.drawn,s.toks))=some (H w.params,gs,d,k))
  (size:∀w:World,((H w.params).isNs mainGlobals&&gs.size==0,(H w.params).objs.size,(H w.params).nsMap mainGlobals "__annotations__")=(true,m,ann))
  (tree:∀P,H P=absHeap (T P) m lf)
  (run:∀(w:World) (os:OsState),(topRunT treeTable p w m ann N ⟨T w.params,m,lf,gs,d,k,os⟩ (topStub p)).map (fun s=>
    ((staticsOk (importedModules p.main.body) (H w.params) s.abs.heap&&namesBound p s.abs.heap&&gensDone s.abs&&laidKept (H w.params) s.abs.heap),
    openSeen q loose (importedModules p.main.body) Xt g0 s.abs,Yf s.abs))=some (true,openGood q loose,Ya w)):LeftO p q loose Xt Yf Ya N g0:=fun w=>by
 obtain⟨⟨h,gs',d',k',os⟩,e,e'⟩:=Option.map_eq_some_iff.mp (open_ w);obtain⟨rfl,rfl,rfl,rfl⟩:h=H w.params∧gs'=gs∧d'=d∧k'=k:=by simpa using e'
 obtain⟨z1,z2,z3⟩:_∧_∧_:=by simpa only[Prod.mk.injEq] using size w
 obtain⟨s,r1,r2⟩:=Option.map_eq_some_iff.mp (run w os);obtain⟨l1,l2,l3⟩:_∧_∧_:=by simpa only[Prod.mk.injEq] using r2
 have r:=j8 r1;have ea:SharedT.abs ⟨T w.params,m,lf,gs',d',k',os⟩=⟨H w.params,gs',d',k',os⟩:=by rw[tree];rfl
 rw[ea] at r;have t:topFrom treeTable p w N ⟨H w.params,gs',d',k',os⟩=some s.abs:=by
  unfold topFrom;dsimp only;rw[z1,z2,z3,r];show(match staticsOk (importedModules p.main.body) (H w.params) s.abs.heap&&namesBound p s.abs.heap&&gensDone s.abs&&laidKept (H w.params) s.abs.heap with|true=>_|false=>_)=_;rw[l1]
 unfold openEnds;rw[e];show(topFrom treeTable p w N _).map _=_;rw[t];exact congrArg some (Prod.ext l2 l3)
noncomputable def bootT (P:Params):BT:=grow (boot_heap P).objs.toList .nil 0
lay_quick Hd.topRunT W.topStub
theorem pW (P:Params):boot_heap P=absHeap (bootT P) 11 {}:=by
 have h:=m3 {} (boot_heap P).objs.toList .nil 0 (by kernel_rfl);exact h.symm
noncomputable def RT (p:Program) (w:World) (N:Nat) (os:OsState):Option SharedT:=topRunT treeTable p w 11 (some (Value.ref 6)) N ⟨bootT w.params,11,{},Array.mk [],boot_drawn,boot_toks,os⟩ (topStub p)
noncomputable def pA (p:Program) (P:Params) (s:Shared):Bool:=staticsOk (importedModules p.main.body) (boot_heap P) s.heap&&namesBound p s.heap&&gensDone s&&laidKept (boot_heap P) s.heap
def pB (q:Program)(mods:List Str)(Xt:Shared→Bool)(s:Shared):Bool:=(s.heap.keysOk (looseW q []) ((recsOf q).map (·.name)) ((litsOf q).map (·.1)) ((clssOf q (looseW q [])).map (·.name))&&s.heap.accountedOkI mods&&s.heap.isNs mainGlobals&&s.heap.isNs builtinsNs&&tablesOk q s.heap&&Xt s&&(if true then s.gens.size==0 else !leftWithCleanup s.gens))&&tabsOk q s
def pC (q:Program)(s:Shared):=(seen ((recsOf q).map (·.name)) (ownsOf q) [] {s with gens:=#[]},s.heap.bltView,wideSeen q s)
def pD (q:Program)(s:Shared):=(pinSeenD q (drecsOf q) s,plainSeenE q (looseW q []) s,plainSeenD q [] s,clsSeenW q [] s)
lay_quick Hd.pB
lay_quick Hd.pC
lay_quick Hd.pD
theorem lP {α A B:Type}{x:Option α}{f:α→A}{g:α→B}{a:A}{b:B}(h1:x.map f=some a)(h2:x.map g=some b):x.map (fun s=>(f s,g s))=some (a,b):=by
 cases x with
 | none=>cases h1
 | some s=>exact congrArg some (Prod.ext (Option.some.inj h1) (Option.some.inj h2))
theorem nI {p q:Program}{Xt:Shared→Bool}{A:Type}{Yf:Shared→A}{Ya:World→A}{N:Nat}
  (open_:∀w:World,(fencedOpening treeTable p w N).map (fun s=>(s.heap,s.gens,s.drawn,s.toks))=some (boot_heap w.params,Array.mk [],boot_drawn,boot_toks))
  (size:∀w:World,((boot_heap w.params).isNs mainGlobals&&(Array.mk ([]:List GenState)).size==0,(boot_heap w.params).objs.size,(boot_heap w.params).nsMap mainGlobals "__annotations__")=(true,11,some (Value.ref 6)))
  (r1:∀(w:World) (os:OsState),(RT p w N os).map (fun s=>pA p w.params s.abs&&pB q (importedModules p.main.body) Xt s.abs)=some true)
  (r2:∀(w:World) (os:OsState),(RT p w N os).map (fun s=>pC q s.abs)=some (expectedOf q,bltViewBooted,wideGood q))
  (r3:∀(w:World) (os:OsState),(RT p w N os).map (fun s=>pD q s.abs)=some (pinGoodD (drecsOf q),plainGoodE q (looseW q []),plainGoodD q [],clsGoodW q []))
  (r4:∀(w:World) (os:OsState),(RT p w N os).map (fun s=>Yf s.abs)=some (Ya w)):LeftO p q [] Xt Yf Ya N true:=
 nQ open_ size pW fun w os=>by
  show(RT p w N os).map _=_;have h:=lP (lP (r1 w os) (r2 w os)) (lP (r3 w os) (r4 w os));cases e:RT p w N os with
  | none=>rw[e] at h;cases h
  | some s=>
   rw[e] at h;obtain⟨h1,h2⟩:=Prod.mk.inj (Option.some.inj h);obtain⟨h1,h3⟩:=Prod.mk.inj h1;obtain⟨h4,h5⟩:=Prod.mk.inj h2;obtain⟨a,b⟩:=Bool.and_eq_true_iff.mp h1;obtain⟨b,c⟩:=Bool.and_eq_true_iff.mp b;obtain⟨c1,c2⟩:=Prod.mk.inj h3;obtain⟨c2,c3⟩:=Prod.mk.inj c2;obtain⟨d1,d2⟩:=Prod.mk.inj h4;obtain⟨d2,d3⟩:=Prod.mk.inj d2;obtain⟨d3,d4⟩:=Prod.mk.inj d3;exact congrArg some (Prod.ext a (Prod.ext (Prod.ext c1 (Prod.ext c2 (Prod.ext b (Prod.ext c (Prod.ext d1 (Prod.ext d2 (Prod.ext d3 (Prod.ext c3 d4)))))))) h5))
def lk (s:SharedT)(a:Nat):Option Obj:=match Nat.blt a s.n with
 | true=>(match s.tree.get a with
  | some o=>alive o
  | none=>none)
 | false=>none
theorem BH {s:SharedT}{a:Nat}{o:Obj}(h:lk s a=some o):s.abs.heap.get? a=some o:=by
 unfold lk at h;cases b:Nat.blt a s.n with
 | false=>rw[b] at h;cases h
 | true=>
  rw[b] at h;cases g:s.tree.get a with
  | none=>rw[g] at h;cases h
  | some x=>rw[g] at h;exact(abs_get (Nat.blt_eq.mp b) g).trans h
theorem tj {s:SharedT}{β:Type}{f:β→Obj}:∀{as:List Nat} {l:List β},as.map (lk s)=l.map (fun p=>some (f p))→as.map s.abs.heap.get?=l.map (fun p=>some (f p))
 | [],[],_=>rfl
 | [],_::_,h=>by cases h
 | _::_,[],h=>by cases h
 | a::as,p::l,h=>by
  obtain⟨x,y⟩:=List.cons.inj h;show s.abs.heap.get? a::as.map s.abs.heap.get?=_;rw[BH x,tj y];rfl
theorem left_k {p q:Program}{Xt:Shared→Bool}{N:Nat}{K:Params→Frag}{as:List Addr}{e:∀P,as=(K P).map (·.1)}
  (open_:∀w:World,(fencedOpening treeTable p w N).map (fun s=>(s.heap,s.gens,s.drawn,s.toks))=some (boot_heap w.params,Array.mk [],boot_drawn,boot_toks))
  (size:∀w:World,((boot_heap w.params).isNs mainGlobals&&(Array.mk ([]:List GenState)).size==0,(boot_heap w.params).objs.size,(boot_heap w.params).nsMap mainGlobals "__annotations__")=(true,11,some (Value.ref 6)))
  (r1:∀(w:World) (os:OsState),(RT p w N os).map (fun s=>pA p w.params s.abs&&pB q (importedModules p.main.body) Xt s.abs)=some true)
  (r2:∀(w:World) (os:OsState),(RT p w N os).map (fun s=>pC q s.abs)=some (expectedOf q,bltViewBooted,wideGood q))
  (r3:∀(w:World) (os:OsState),(RT p w N os).map (fun s=>pD q s.abs)=some (pinGoodD (drecsOf q),plainGoodE q (looseW q []),plainGoodD q [],clsGoodW q []))
  (r4:∀(w:World) (os:OsState),(RT p w N os).map (fun s=>as.map (lk s))=some ((K w.params).map (fun p=>some p.2))) :
  LeftO p q [] Xt (kHook K as e).obs (kHook K as e).val N true:=
 nI open_ size r1 r2 r3 fun w os=>by
  obtain⟨s,h1,h2⟩:=Option.map_eq_some_iff.mp (r4 w os);rw[h1];exact congrArg some (tj h2)
end Hd
namespace K31
open PySem PySem.Spec PyProof.Rows L2 DL List
noncomputable def top (i:Nat):Stmt:=PySem.Challenge.pw_glowrow_k31_whole_film_rounds.main.body.getD i (.Pass ⟨0,0,0,0⟩)
noncomputable abbrev wk:Stmt:=top 26
noncomputable abbrev TX:=Tx (("_law_draw",top 12,["tape","many"])::("_law_size",top 13,["tape","most"])::("_law_frame",top 14,["tape","most"])::("_law_inks",top 15,["tape","wide","thin"])::("_law_inked",top 16,["tape","most"])::("_law_far",top 17,["tape","size"])::("_law_mover",top 18,["tape","frame","shapes"])::("_law_stand",top 19,["tape","frame","movers_most"])::("_law_way",top 20,["tape","at"])::("_law_film",top 21,["tape","most"])::("path_behind",top 2,["path"])::("run_of",top 3,["path"])::("least_common",top 10,["one","other"])::("round_of_paths",top 9,["paths"])::("round_of",top 8,["film"])::("path_at",top 4,["path","many"])::("pair_at",top 6,["pair","many"])::("places_of",top 1,["pair"])::("mover_on",top 7,["mover","pair"])::("film_at",top 5,["film","many"])::("_law_parts_of",top 25,["number"])::("_law_path_on",top 22,["path"])::("_law_circle",top 24,["path"])::("_law_common",top 23,["one","other"])::[])
 ([])
 []
 ("bool"::"int"::"isinstance"::"len"::"list"::"max"::"min"::"range"::"tuple"::"zip"::[]) []
 ([]) []
 ([]) [] []
set_option hygiene false
local macro_rules | `(tactic| walk_at "o") => `(tactic| first | with_reducible exact Bm | with_reducible exact q_addM | with_reducible exact Aw | with_reducible exact BB | with_reducible exact yr | with_reducible exact Bp | with_reducible exact zZ | with_reducible exact CM | with_reducible exact Di | with_reducible exact CO | with_reducible exact C7 | with_reducible exact CB | with_reducible exact uu | with_reducible exact Ck | with_reducible exact q_notin | with_reducible exact q_mulT | with_reducible exact q_inA | ((with_reducible show Q2 _ _ (zE _)); first | exact q_inG hr | exact qR hr) | ((with_reducible show Q2 _ _ (zI _)); first | exact q_din hr | exact qH hr) | ((with_reducible show Q2 _ (compareOp .Eq) _); exact Df hr) | exact Cj hr)
local macro_rules | `(tactic| walk_at "c") => `(tactic| first | ((with_reducible refine zS)) | ((with_reducible refine wM)) | ((with_reducible refine Aj)) | ((with_reducible refine uY ?_); rfl) | ((with_reducible refine q_listM)) | ((with_reducible refine yz)) | ((with_reducible refine Bl ?_); rfl) | ((with_reducible refine AF ?_); rfl) | ((with_reducible refine uy)))
local macro_rules | `(tactic| walk_at "b") => `(tactic| with_reducible first | exact Boot.«bool» | exact Boot.«int» | exact Boot.«isinstance» | exact Boot.«len» | exact Boot.«list» | exact Boot.«max» | exact Boot.«min» | exact Boot.«range» | exact Boot.«tuple» | exact Boot.«zip»)
local macro_rules | `(tactic| walk_at "E") => `(tactic| first
  | ((with_reducible show QE _ _ (ae _));exact qv _)
  | ((with_reducible show QE _ _ (gC _));first|exact xU|exact qe_str|exact zy|exact Bn)
  | ((with_reducible show QE _ _ (g2 l7 _ _));refine uz hr ?_ ?_)
  | ((with_reducible show QE _ _ (g2 bi _ _));refine AO ?_ ?_)
  | ((with_reducible show QE _ _ (g2 _ _ _));first|refine Al (by walk_at "o") ?_ ?_|refine xj (by walk_at "o") ?_ ?_|refine qe_cmpI (by walk_at "o") ?_ ?_)
  | ((with_reducible show QE _ _ (ak _ _ _));refine zY (by assumption) hr ?_)
  | ((with_reducible show QE _ _ (aK _));refine yv ?_)
  | ((with_reducible show QE _ _ (je _ _));refine zV (by first|exact .inl rfl|exact .inr (.inl rfl)|exact .inr (.inr (.inl rfl))|exact .inr (.inr (.inr (.inl rfl)))|exact .inr (.inr (.inr (.inr rfl)))) (by walk_at "b") (by rfl) (T.z _ (by decide +kernel)) (by rfl) (T.z _ (by decide +kernel)) ?_)
  | ((with_reducible show QE _ _ (aL _ _));first|refine Ac (by walk_at "c") (T.z _ (by decide +kernel)) (by walk_at "b") ?_|refine Bk (by walk_at "c") (by rfl) (T.z _ (by decide +kernel)) (by walk_at "b") ?_)
  | ((with_reducible show QE _ _ (d7 _));refine yf ?_)
  | ((with_reducible show QE _ _ (fU _));refine wZ ?_)
  | ((with_reducible show QE _ _ (eX _));refine wN ?_)
  | ((with_reducible show QE _ _ (ph _ _ _ _ _));refine qe_chain (by walk_at "o") (by walk_at "o") ?_ ?_ ?_)
  | ((with_reducible show QE _ _ (sL _ _ _));refine sY ?_ ?_ ?_)
  | ((with_reducible show QE _ _ (bV _ _ _ _));first|refine sC (by assumption) (by kernel_rfl) (by first|exact .inl rfl|exact .inr rfl) ?_ ?_ ?_|refine sZ (by kernel_rfl) (by first|exact .inl rfl|exact .inr rfl) ?_ ?_ ?_)
  | ((with_reducible show QE _ _ (cU _ _ _ _ _ _));refine pV (by assumption) (by kernel_rfl) (by first|exact .inl rfl|exact .inr rfl) ?_ ?_ ?_ ?_ ?_)
  | ((with_reducible show QE _ _ (eT _ _ _ _ _ _ _ _ _));refine oV (by assumption) (by kernel_rfl) (by first|exact .inl rfl|exact .inr rfl) ?_ ?_ ?_ ?_ ?_ ?_ ?_ ?_ ?_)
  | ((with_reducible show QE _ _ (jT _ _));refine yy ?_ ?_)
  | ((with_reducible show QE _ _ (ix _ _));refine qj ?_ ?_)
  | ((with_reducible show QE _ _ (fY gq _ _));refine p4 hr ?_ ?_)
  | ((with_reducible show QE _ _ (fY _ _ _));first|refine qe_count ?_ ?_|refine qe_index ?_ ?_)
  | ((with_reducible show QE _ _ (mV));exact uD))
local macro_rules | `(tactic| walk_at "S") => `(tactic| first
  | ((with_reducible show QS _ _ (aR _));refine yI ?_)
  | ((with_reducible show QS _ _ (gG _ _ _));refine As ?_ ?_ ?_)
  | ((with_reducible show QS _ _ (aB _ (bV _ _ _ _)));first|refine qs_setCompR (by assumption) (by kernel_rfl) (by first|exact .inl rfl|exact .inr rfl) nd ?_ ?_ ?_|refine qs_setCompN (by kernel_rfl) (by first|exact .inl rfl|exact .inr rfl) nd ?_ ?_ ?_|refine qs_setC _ nd ?_)
  | ((with_reducible show QS _ _ (aB _ (cU _ _ _ _ _ _)));first|refine qs_setCompTR (by assumption) (by kernel_rfl) (by first|exact .inl rfl|exact .inr rfl) ?_ nd ?_ ?_ ?_ ?_|refine qs_setC _ nd ?_)
  | ((with_reducible show QS _ _ (aB _ _));refine yP _ nd ?_)
  | ((with_reducible show QS _ _ (cR _ _));refine xh ?_ ?_)
  | ((with_reducible show QS _ _ (hZ _ _ _));refine xN PassesOwn.leaving ?_ ?_ ?_)
  | ((with_reducible show QS _ _ (fi _));refine uo ?_)
  | ((with_reducible show QS _ _ (fR _ _ _));refine yq ?_ ?_ ?_)
  | ((with_reducible show QS _ _ (j7 _ _ _));refine uU hr ?_ ?_ ?_)
  | ((with_reducible show QS _ _ (bG));first|exact qs_pass|exact qs_doc)
  | ((with_reducible show QS _ _ (dX _ _ _));refine sr PassesOwn.leaving ?_ ?_)
  | ((with_reducible show QS _ _ (jV _ _ _));refine xg nd ?_))
local macro_rules | `(tactic| walk_at "Q") => `(tactic| first
  | ((with_reducible show QE _ _ _);first|walk_at "E"|refine yV ?_|refine qe_and ?_ ?_|refine qe_or ?_ ?_|refine qe_fstr1 ?_)
  | ((with_reducible show QA _ _ _);first|exact zz|refine CT ?_ ?_)
  | ((with_reducible show QT _ _ _);first
  | ((with_reducible show QT _ _ (aY (ph _ _ _ _ _)));refine qG (by walk_at "o") (by walk_at "o") ?_ ?_ ?_)
  | ((with_reducible show QT _ _ (aY _));first|refine xC (by walk_at "o") ?_ ?_|refine wa (by walk_at "o") ?_ ?_)
  | ((with_reducible show QT _ _ (fW _));refine zj ?_)
  | ((with_reducible show QT _ _ (jJ _));refine ye ?_)
  | ((with_reducible show QT _ _ (dD _ _));refine AT ?_)
  | ((with_reducible show QT _ _ (iY _ _));refine AT ?_))
  | ((with_reducible show QB _ _ _);first|exact yb|refine yt ?_|refine uZ ?_ ?_)
  | ((with_reducible show QS _ _ _);walk_at "S")
  | ((with_reducible show QW _ _ _);first|refine yZ ?_ ?_|refine AQ ?_ ?_|refine u9 ?_|refine xo ?_)
  | ((with_reducible show QI _ _ _ _);first|((with_reducible show QI _ _ _ (dB _));refine Bf (by rfl) (T.z _ (by decide +kernel)) ?_)|((with_reducible show QI _ _ _ (gRng2 _));refine qi_r2 (by rfl) (T.z _ (by decide +kernel)) ?_)|((with_reducible show QI _ _ _ (gEnum _));refine qi_enum (by rfl) (T.z _ (by decide +kernel)) (by walk_at "b") ?_)|((with_reducible show QI _ _ _ (nc _));refine xH (by rfl) (T.z _ (by decide +kernel)) (by walk_at "b") ?_)|refine xE ?_)
  | ((with_reducible show QG _ _ _);first|exact qn _ nd|exact Dz _ (by kernel_rfl)|refine wK ?_|refine qg_tupG ?_)
  | ((with_reducible show Bo _ _ _);first|exact uQ|refine A1 ?_ ?_)
  | ((with_reducible show QGG _ _ _);first|exact qgg_nil|refine qgg_c ?_ ?_)
  | ((with_reducible show QP _ _ _);first|exact v4|refine uH ?_)
  | ((with_reducible show tU _ _ _ _ _ _);first|exact pO|refine p7 ?_)
  | ((with_reducible show QO _ _);first|exact yC _ _|exact wV _|refine qo_tupG ?_)
  | ((with_reducible show QOs _ _);first|exact qos_nil|refine qos_c ?_ ?_)
  | ((with_reducible show QF _ _ _);first|exact qf_nil|refine qf_c ?_ ?_)
  | ((with_reducible show QD _ _ _ _ _);first|exact qd_nil|refine qd_c ?_)
  | intro _)
section
variable {P:Program}{w:World}{K:W.Frag}{mg:Str→Option Value}{base:Heap}
noncomputable def dM:GS:=(ar (aB 2 (gC (.int 2305843009213693951))) (ar (gG (aY (g2 m6 (g2 bi (ae 0) (gC (.int 2))) (ae 1))) (ar (aB 3 (gC (.int 0))) (ar (gG (aY (g2 jI (aL cT (aa (g2 bi (ae 0) (gC (.int 0))) ag)) (gC (.int 0)))) (aB 3 (g2 bi (g2 bi (ae 0) (gC (.int 0))) (g2 cH (g2 bi (ae 0) (gC (.int 1))) (aL cT (aa (g2 bi (ae 0) (gC (.int 0))) ag))))) bG) (ar (gG (iY (aY (g2 uB (g2 bi (ae 0) (gC (.int 1))) (aL cT (aa (g2 bi (ae 0) (gC (.int 0))) ag)))) (aY (g2 m6 (ae 3) (g2 jK (gC (.int 10)) (gC (.int 18)))))) (ar (aB 3 (g2 cH (g2 aV (ae 3) (g2 cE (gC (.int 1000003)) (g2 bi (ae 0) (gC (.int 1))))) (ae 2))) (ar (aB 3 (g2 cH (g2 aV (g2 aV (g2 cE (ae 3) (ae 3)) (g2 cE (gC (.int 1181783497276652981)) (ae 3))) (gC (.int 2049848353892358983))) (ae 2))) (aB 3 (g2 cH (g2 aV (g2 cE (ae 3) (ae 3)) (gC (.int 1442695040888963407))) (ae 2))))) bG) (ar (fR (ae 0) (gC (.int 1)) (g2 aV (g2 bi (ae 0) (gC (.int 1))) (gC (.int 1)))) (fR (ae 0) (gC (.int 2)) (ae 3)))))) bG) (ar (aB 4 (g2 cH (g2 bi (ae 0) (gC (.int 2))) (ae 1))) (ar (fR (ae 0) (gC (.int 2)) (g2 bE (g2 bi (ae 0) (gC (.int 2))) (ae 1))) (aR (ae 4))))))
noncomputable def aj:FD:=ck 3 dM
theorem ba (T:TX P w K mg base):Ok P w K mg base "_law_draw" 1 2 aj:=dq (dm T.f 0 rfl) ["tape","many","prime","cell","found"] bP rfl fun f _ A _ s H E nd hr=>by delta dM;repeat' walk_at "Q"
noncomputable def fB:GS:=(aR (g2 aV (gC (.int 1)) (g2 bi (d7 (aa (ak 2 aj (aa (ae 0) (aa (aL kY (aa (ae 1) (aa (gC (.int 6)) ag))) ag))) (aa (ak 2 aj (aa (ae 0) (aa (ae 1) ag))) (aa (g2 bN (ae 1) (gC (.int 1))) ag)))) (g2 bE (g2 cE (ak 2 aj (aa (ae 0) (aa (gC (.int 8)) ag))) (gC (.int 3))) (gC (.int 10))))))
noncomputable def cc:FD:=ck 0 fB
theorem gM (T:TX P w K mg base):Ok P w K mg base "_law_size" 2 2 cc:=dq (dm T.f 1 rfl) ["tape","most"] bP rfl fun f _ A _ s H E nd hr=>by have:=ba T;delta fB;repeat' walk_at "Q"
noncomputable def eF:GS:=(ar (aB 2 (g2 bi (d7 (aa (gC (.int 0)) (aa (ak 2 aj (aa (ae 0) (aa (gC (.int 21)) ag))) ag))) (ak 2 aj (aa (ae 0) (aa (gC (.int 2)) ag))))) (aR (aK (aa (ak 2 cc (aa (ae 0) (aa (ae 1) ag))) (aa (ak 2 cc (aa (ae 0) (aa (ae 1) ag))) (aa (ae 2) (aa (ak 2 aj (aa (ae 0) (aa (gC (.int 13)) ag))) ag)))))))
noncomputable def dr:FD:=ck 1 eF
theorem jN (T:TX P w K mg base):Ok P w K mg base "_law_frame" 3 2 dr:=dq (dm T.f 2 rfl) ["tape","most","gap"] bP rfl fun f _ A _ s H E nd hr=>by have:=ba T;have:=gM T;delta eF;repeat' walk_at "Q"
noncomputable def cL:GE:=(g2 cE (ak 2 aj (aa (ae 1) (aa (gC (.int 16)) ag))) (aL m9 (aa (g2 jI (ak 2 aj (aa (ae 1) (aa (ae 3) ag))) (gC (.int 0))) ag)))
noncomputable def fb:GS:=(aR (aL bp (aa (bV (dB (aa (ae 1) ag)) cz cL aQ) ag)))
noncomputable def dP:FD:=ck 0 fb
theorem lw (T:TX P w K mg base):Ok P w K mg base "_law_inks" 2 3 dP:=dq (dm T.f 3 rfl) ["tape","wide","thin"] bP rfl fun f _ A _ s H E nd hr=>by have:=ba T;delta fb cL;repeat' walk_at "Q"
noncomputable def de:GE:=(ak 3 dP (aa (ae 1) (aa (ae 3) (aa (ae 4) ag))))
noncomputable def eG:GS:=(ar (aB 2 (ak 2 cc (aa (ae 0) (aa (ae 1) ag)))) (ar (aB 3 (g2 aV (gC (.int 1)) (ak 2 aj (aa (ae 0) (aa (gC (.int 4)) ag))))) (aR (aL bp (aa (bV (dB (aa (ak 2 cc (aa (ae 0) (aa (ae 1) ag))) ag)) cz de aQ) ag)))))
noncomputable def cI:FD:=ck 2 eG
theorem jO (T:TX P w K mg base):Ok P w K mg base "_law_inked" 3 2 cI:=dq (dm T.f 4 rfl) ["tape","most","wide","thin"] bP rfl fun f _ A _ s H E nd hr=>by have:=ba T;have:=gM T;have:=lw T;delta eG de;repeat' walk_at "Q"
noncomputable def gE:GS:=(aR (g2 bi (d7 (aa (g2 bN (ak 2 aj (aa (ae 0) (aa (g2 aV (ae 1) (gC (.int 16))) ag))) (gC (.int 8))) (aa (g2 bN (ak 2 aj (aa (ae 0) (aa (gC (.int 2001)) ag))) (gC (.int 1000))) ag))) (g2 bE (ak 2 aj (aa (ae 0) (aa (gC (.int 8)) ag))) (gC (.int 7)))))
noncomputable def aT:FD:=ck 0 gE
theorem iL (T:TX P w K mg base):Ok P w K mg base "_law_far" 2 2 aT:=dq (dm T.f 5 rfl) ["tape","size"] bP rfl fun f _ A _ s H E nd hr=>by have:=ba T;delta gE;repeat' walk_at "Q"
noncomputable def br:GS:=(ar (aB 3 (gC .non)) (ar (gG (dD (aY (g2 jI (ae 2) (gC (.int 0)))) (aY (g2 jI (ak 2 aj (aa (ae 0) (aa (gC (.int 8)) ag))) (gC (.int 0))))) (aB 3 (ak 2 aj (aa (ae 0) (aa (ae 2) ag)))) bG) (aR (aK (aa (ae 3) (aa (ak 2 aT (aa (ae 0) (aa (g2 bi (ae 1) (gC (.int 0))) ag))) (aa (ak 2 aT (aa (ae 0) (aa (g2 bi (ae 1) (gC (.int 1))) ag))) (aa (ak 2 aj (aa (ae 0) (aa (gC (.int 4)) ag))) (aa (ak 2 aj (aa (ae 0) (aa (gC (.int 4)) ag))) ag)))))))))
noncomputable def eK:FD:=ck 1 br
theorem jS (T:TX P w K mg base):Ok P w K mg base "_law_mover" 3 3 eK:=dq (dm T.f 6 rfl) ["tape","frame","shapes","shape"] bP rfl fun f _ A _ s H E nd hr=>by have:=ba T;have:=iL T;delta br;repeat' walk_at "Q"
noncomputable def cY:GE:=(ak 2 cI (aa (ae 1) (aa (gC (.int 8)) ag)))
noncomputable def cZ:GE:=(ak 3 eK (aa (ae 1) (aa (ae 2) (aa (aL cT (aa (ae 7) ag)) ag))))
noncomputable def c5:GE:=(ak 2 aj (aa (ae 1) (aa (gC (.int 64)) ag)))
noncomputable def dk:GS:=(ar (aB 3 (ak 2 cI (aa (ae 0) (aa (gC (.int 16)) ag)))) (ar (aB 4 (aK (aa (ak 2 aT (aa (ae 0) (aa (gC (.int 9)) ag))) (aa (ak 2 aT (aa (ae 0) (aa (gC (.int 9)) ag))) ag)))) (ar (aB 5 (g2 bi (d7 (aa (ak 2 aj (aa (ae 0) (aa (gC (.int 4)) ag))) (aa (ak 2 aj (aa (ae 0) (aa (gC (.int 9)) ag))) ag))) (g2 bE (ak 2 aj (aa (ae 0) (aa (gC (.int 4)) ag))) (gC (.int 3))))) (ar (aB 6 (aL bp (aa (bV (dB (aa (ae 5) ag)) cz cY aQ) ag))) (ar (aB 7 (aL bp (aa (bV (dB (aa (ak 2 aj (aa (ae 0) (aa (g2 aV (ae 2) (gC (.int 1))) ag))) ag)) cz cZ aQ) ag))) (aR (aK (aa (ae 3) (aa (ae 4) (aa (ae 6) (aa (ae 7) (aa (aL bp (aa (bV (dB (aa (gC (.int 16)) ag)) cz c5 aQ) ag)) ag))))))))))))
noncomputable def eE:FD:=ck 5 dk
theorem jM (T:TX P w K mg base):Ok P w K mg base "_law_stand" 4 3 eE:=dq (dm T.f 7 rfl) ["tape","frame","movers_most","floor","shift","shapes","book","movers"] bP rfl fun f _ A _ s H E nd hr=>by have:=ba T;have:=jO T;have:=iL T;have:=jS T;delta dk cY cZ c5;repeat' walk_at "Q"
noncomputable def eB:GS:=(ar (aB 2 (g2 bi (d7 (aa (ak 2 aj (aa (ae 0) (aa (gC (.int 13)) ag))) (aa (gC (.int 12)) (aa (ak 2 aj (aa (ae 0) (aa (gC (.int 4)) ag))) ag)))) (ak 2 aj (aa (ae 0) (aa (gC (.int 3)) ag))))) (ar (aB 3 (g2 bN (ae 1) (ak 2 aj (aa (ae 0) (aa (g2 aV (ae 2) (gC (.int 1))) ag))))) (ar (aB 4 (g2 bi (d7 (aa (g2 bN (ak 2 aj (aa (ae 0) (aa (gC (.int 25)) ag))) (gC (.int 12))) (aa (g2 bN (ak 2 aj (aa (ae 0) (aa (gC (.int 5)) ag))) (gC (.int 2))) ag))) (ak 2 aj (aa (ae 0) (aa (gC (.int 2)) ag))))) (aR (aK (aa (ae 3) (aa (g2 aV (ae 3) (ae 2)) (aa (ae 1) (aa (ae 4) ag)))))))))
noncomputable def cW:FD:=ck 3 eB
theorem mE (T:TX P w K mg base):Ok P w K mg base "_law_way" 2 2 cW:=dq (dm T.f 8 rfl) ["tape","at","span","low","step"] bP rfl fun f _ A _ s H E nd hr=>by have:=ba T;delta eB;repeat' walk_at "Q"
noncomputable def bM:GS:=(ar (aB 7 (aL iR (aa (eX (gC (.int 880))) (aa (aL kY (aa (gC (.int 880)) (aa (ae 7) ag))) ag)))) (ar (aB 8 (aL iR (aa (eX (gC (.int 880))) (aa (aL kY (aa (gC (.int 880)) (aa (ae 8) ag))) ag)))) (ar (fi (ix (ae 5) (aK (aa (ae 6) (aa (ae 7) (aa (ae 8) (aa (ae 9) (aa (ae 10) ag)))))))) (fi (ix (ae 4) (g2 bi (d7 (aa (aK (aa (ak 2 cW (aa (ae 0) (aa (ae 7) ag))) (aa (ak 2 cW (aa (ae 0) (aa (ae 8) ag))) ag))) (aa (gC .non) ag))) (g2 bE (ak 2 aj (aa (ae 0) (aa (gC (.int 4)) ag))) (gC (.int 3)))))))))
noncomputable def df:GS:=(ar (aB 2 (ak 2 dr (aa (ae 0) (aa (ae 1) ag)))) (ar (aB 3 (ak 3 eE (aa (ae 0) (aa (ae 2) (aa (g2 bi (d7 (aa (gC (.int 4)) (aa (gC (.int 12)) ag))) (g2 bE (ak 2 aj (aa (ae 0) (aa (gC (.int 4)) ag))) (gC (.int 3)))) ag))))) (ar (aB 4 (fU ag)) (ar (aB 5 (fU ag)) (ar (hZ (bO (g2 bi (ae 3) (gC (.int 3)))) (cp [6,7,8,9,10]) bM) (aR (aK (aa (ae 2) (aa (g2 aV (sL (ae 3) c7 (fX (gC (.int 3)))) (aK (aa (aL bp (aa (ae 5) ag)) (aa (g2 bi (ae 3) (gC (.int 4))) ag)))) (aa (aL bp (aa (ae 4) ag)) ag))))))))))
noncomputable def fm:FD:=fun ds M=>iU M.length (ck 9 df ds M)
theorem kO (T:TX P w K mg base):Ok P w K mg base "_law_film" 5 2 fm:=m8 (F:=ck 9 df) <| dq (dm T.f 9 rfl) ["tape","most","frame","stand","paths","movers","shape","x","y","rank","turn"] bP rfl fun f _ A _ s H E nd hr=>by have:=ba T;have:=jN T;have:=jM T;have:=mE T;delta df bM;repeat' walk_at "Q"
noncomputable def c6:GS:=(ar (cR (cp [1,2,3,4]) (ae 0)) (ar (gG (aY (ph oo oo (ae 1) (g2 aV (ae 3) (ae 4)) (ae 2))) (aR (aK (aa (ae 1) (aa (ae 2) (aa (g2 aV (ae 3) (ae 4)) (aa (ae 4) ag)))))) bG) (ar (gG (aY (ph oo oo (ae 1) (g2 bN (ae 3) (ae 4)) (ae 2))) (aR (aK (aa (ae 1) (aa (ae 2) (aa (g2 bN (ae 3) (ae 4)) (aa (eX (ae 4)) ag)))))) bG) (aR (aK (aa (ae 1) (aa (ae 2) (aa (ae 3) (aa (eX (ae 4)) ag)))))))))
noncomputable def dS:FD:=ck 4 c6
theorem jm (T:TX P w K mg base):Ok P w K mg base "path_behind" 1 1 dS:=dq (dm T.f 10 rfl) ["path","low","high","at","step"] bP rfl fun f _ A _ s H E nd hr=>by delta c6;repeat' walk_at "Q"
noncomputable def dt:GS:=(ar (j7 (ae 1) (ae 0) (aL pG (aa (ae 1) ag))) (aB 0 (ak 1 dS (aa (ae 0) ag))))
noncomputable def dZ:GT:=(aY (g2 (zI true) (ae 0) (ae 1)))
noncomputable def fe:GS:=(ar (aB 1 mV) (ar (dX 100 dZ dt) (aR (aK (aa (aL kF (aa (ae 1) ag)) (aa (g2 l7 (ae 1) (ae 0)) ag))))))
noncomputable def en:FD:=fun ds M=>iU M.length (ck 1 fe ds M)
theorem kB (T:TX P w K mg base):Ok P w K mg base "run_of" 2 1 en:=m8 (F:=ck 1 fe) <| dq (dm T.f 11 rfl) ["path","places"] bP rfl fun f _ A _ s H E nd hr=>by have:=jm T;delta fe dt dZ;repeat' walk_at "Q"
noncomputable def cw:GS:=(jV 2 3 (aa (ae 3) (aa (g2 cH (ae 2) (ae 3)) ag)))
noncomputable def dj:GT:=(aY (g2 jI (ae 3) (gC (.int 0))))
noncomputable def cP:GS:=(ar (jV 2 3 (aa (ae 0) (aa (ae 1) ag))) (ar (dX 100 dj cw) (aR (g2 cE (g2 bE (ae 0) (ae 2)) (ae 1)))))
noncomputable def cF:FD:=ck 2 cP
theorem iS (T:TX P w K mg base):Ok P w K mg base "least_common" 1 2 cF:=dq (dm T.f 12 rfl) ["one","other","left","right"] bP rfl fun f _ A _ s H E nd hr=>by delta cP cw dj;repeat' walk_at "Q"
noncomputable def cQ:GS:=(ar (cR (cp [4,5]) (ak 1 en (aa (ae 3) ag))) (ar (aB 1 (aL iR (aa (ae 1) (aa (ae 5) ag)))) (aB 2 (ak 2 cF (aa (ae 2) (aa (g2 bN (aL cT (aa (ae 4) ag)) (ae 5)) ag))))))
noncomputable def cm:GS:=(ar (aB 1 (gC (.int 0))) (ar (aB 2 (gC (.int 1))) (ar (hZ (bO (ae 0)) (bL 3) cQ) (aR (aK (aa (ae 1) (aa (ae 2) ag)))))))
noncomputable def cV:FD:=ck 5 cm
theorem gS (T:TX P w K mg base):Ok P w K mg base "round_of_paths" 3 1 cV:=dq (dm T.f 13 rfl) ["paths","ahead","length","path","run","first"] bP rfl fun f _ A _ s H E nd hr=>by have:=kB T;have:=iS T;delta cm cQ;repeat' walk_at "Q"
noncomputable def cC:GE:=(ae 1)
noncomputable def cA:GT:=(aY (g2 (iT true) (ae 0) (gC .non)))
noncomputable def eC:GS:=(ar (cR (cp [1,2,3]) (ae 0)) (aR (ak 1 cV (aa (eT (bO (ae 3)) 2 (bL 0) cA (bO (ae 0)) (bL 1) cz cC aQ) ag))))
noncomputable def gF:FD:=ck 3 eC
theorem mn (T:TX P w K mg base):Ok P w K mg base "round_of" 4 1 gF:=dq (dm T.f 14 rfl) ["film","frame","stand","paths"] bP rfl fun f _ A _ s H E nd hr=>by have:=gS T;have:=rn 40 26 ["pair","path"] ["film","frame","stand","paths"];delta eC cC cA;repeat' walk_at "Q"
noncomputable def fJ:GS:=(ar (cR (cp [2,3]) (ak 1 en (aa (ae 0) ag))) (ar (gG (aY (g2 m6 (ae 1) (aL cT (aa (ae 2) ag)))) (aR (g2 bi (ae 2) (ae 1))) bG) (aR (g2 bi (ae 2) (g2 aV (ae 3) (g2 cH (g2 bN (ae 1) (ae 3)) (g2 bN (aL cT (aa (ae 2) ag)) (ae 3))))))))
noncomputable def fI:FD:=ck 2 fJ
theorem nP (T:TX P w K mg base):Ok P w K mg base "path_at" 3 2 fI:=dq (dm T.f 15 rfl) ["path","many","run","ahead"] bP rfl fun f _ A _ s H E nd hr=>by have:=kB T;delta fJ;repeat' walk_at "Q"
noncomputable def fH:GS:=(ar (gG (aY (g2 (iT false) (ae 0) (gC .non))) (aR (gC .non)) bG) (ar (cR (cp [2,3]) (ae 0)) (aR (aK (aa (ak 2 fI (aa (ae 2) (aa (ae 1) ag))) (aa (ak 2 fI (aa (ae 3) (aa (ae 1) ag))) ag))))))
noncomputable def iF:FD:=ck 2 fH
theorem nF (T:TX P w K mg base):Ok P w K mg base "pair_at" 4 2 iF:=dq (dm T.f 16 rfl) ["pair","many","across","down"] bP rfl fun f _ A _ s H E nd hr=>by have:=nP T;delta fH;repeat' walk_at "Q"
noncomputable def dR:GS:=(ar (cR (cp [1,2]) (ae 0)) (aR (aK (aa (g2 bi (ae 1) (gC (.int 2))) (aa (g2 bi (ae 2) (gC (.int 2))) ag)))))
noncomputable def fc:FD:=ck 2 dR
theorem lu (T:TX P w K mg base):Ok P w K mg base "places_of" 1 1 fc:=dq (dm T.f 17 rfl) ["pair","across","down"] bP rfl fun f _ A _ s H E nd hr=>by delta dR;repeat' walk_at "Q"
noncomputable def eA:GS:=(ar (gG (aY (g2 (iT false) (ae 1) (gC .non))) (aR (ae 0)) bG) (aR (g2 aV (g2 aV (sL (ae 0) c7 (fX (gC (.int 1)))) (ak 1 fc (aa (ae 1) ag))) (sL (ae 0) (fX (gC (.int 3))) c7))))
noncomputable def gk:FD:=ck 0 eA
theorem mQ (T:TX P w K mg base):Ok P w K mg base "mover_on" 2 2 gk:=dq (dm T.f 18 rfl) ["mover","pair"] bP rfl fun f _ A _ s H E nd hr=>by have:=lu T;delta eA;repeat' walk_at "Q"
noncomputable def gu:GE:=(ak 2 iF (aa (ae 0) (aa (ae 2) ag)))
noncomputable def eU:GE:=(ak 2 gk (aa (ae 0) (aa (ae 1) ag)))
noncomputable def fP:GS:=(ar (cR (cp [2,3,4]) (ae 0)) (ar (cR (cp [5,6,7,8,9]) (ae 3)) (ar (aB 10 (aL bp (aa (bV (bO (ae 4)) cz gu aQ) ag))) (ar (aB 11 (aL bp (aa (cU (nc (aa (ae 8) (aa (ae 10) ag))) 2 (cp [0,1]) cz eU aQ) ag))) (aR (aK (aa (ae 2) (aa (aK (aa (ae 5) (aa (ae 6) (aa (ae 7) (aa (ae 11) (aa (ae 9) ag)))))) (aa (ae 10) ag)))))))))
noncomputable def bR:FD:=ck 10 fP
theorem nH (T:TX P w K mg base):Ok P w K mg base "film_at" 5 2 bR:=dq (dm T.f 19 rfl) ["film","many","frame","stand","paths","floor","shift","book","movers","pots","gone","placed"] bP rfl fun f _ A _ s H E nd hr=>by have:=nF T;have:=mQ T;have:=rn 27 19 ["mover","pair"] ["film","many","frame","stand","paths","floor","shift","book","movers","pots","gone","placed"];delta fP gu eU;repeat' walk_at "Q"
noncomputable def bC:GE:=(ae 0)
noncomputable def bD:GT:=(aY (g2 (dH false) (g2 cH (ae 1) (ae 0)) (gC (.int 0))))
noncomputable def cy:GS:=(aR (bV (bO (d7 (aa (gC (.int 2)) (aa (gC (.int 3)) (aa (gC (.int 5)) (aa (gC (.int 7)) (aa (gC (.int 11)) (aa (gC (.int 13)) (aa (gC (.int 17)) (aa (gC (.int 19)) (aa (gC (.int 23)) (aa (gC (.int 29)) (aa (gC (.int 31)) (aa (gC (.int 37)) (aa (gC (.int 41)) (aa (gC (.int 43)) (aa (gC (.int 47)) ag))))))))))))))))) bD bC aQ))
noncomputable def bQ:FD:=ck 0 cy
theorem iB (T:TX P w K mg base):Ok P w K mg base "_law_parts_of" 1 1 bQ:=dq (dm T.f 20 rfl) ["number"] bP rfl fun f _ A _ s H E nd hr=>by delta cy bC bD;repeat' walk_at "Q"
noncomputable def cx:GS:=(gG (aY (ph oo oo (ae 1) (g2 aV (ae 3) (ae 5)) (ae 2))) (aR (aK (aa (ae 1) (aa (ae 2) (aa (g2 aV (ae 3) (ae 5)) (aa (ae 5) ag)))))) bG)
noncomputable def cN:GS:=(ar (cR (cp [1,2,3,4]) (ae 0)) (ar (hZ (bO (d7 (aa (ae 4) (aa (g2 bN (gC (.int 0)) (ae 4)) ag)))) (bL 5) cx) (aR (aK (aa (ae 1) (aa (ae 2) (aa (ae 3) (aa (g2 bN (gC (.int 0)) (ae 4)) ag))))))))
noncomputable def bh:FD:=ck 5 cN
theorem iO (T:TX P w K mg base):Ok P w K mg base "_law_path_on" 1 1 bh:=dq (dm T.f 21 rfl) ["path","low","high","at","step","turned"] bP rfl fun f _ A _ s H E nd hr=>by delta cN cx;repeat' walk_at "Q"
noncomputable def cb:GS:=(fi (ix (ae 1) (ak 1 bh (aa (g2 bi (ae 1) (eX (gC (.int 1)))) ag))))
noncomputable def b9:GT:=(aY (g2 (zE true) (ak 1 bh (aa (g2 bi (ae 1) (eX (gC (.int 1)))) ag)) (ae 1)))
noncomputable def cu:GS:=(ar (aB 1 (fU (aa (ae 0) ag))) (ar (dX 100 b9 cb) (ar (aB 2 (fY gq (ae 1) (ak 1 bh (aa (g2 bi (ae 1) (eX (gC (.int 1)))) ag)))) (aR (aK (aa (ae 2) (aa (g2 bN (aL cT (aa (ae 1) ag)) (ae 2)) ag)))))))
noncomputable def cr:FD:=fun ds M=>iU M.length (ck 2 cu ds M)
theorem jp (T:TX P w K mg base):Ok P w K mg base "_law_circle" 2 1 cr:=m8 (F:=ck 2 cu) <| dq (dm T.f 22 rfl) ["path","row","ahead"] bP rfl fun f _ A _ s H E nd hr=>by have:=iO T;delta cu cb b9;repeat' walk_at "Q"
noncomputable def ce:GS:=(ar (aB 4 (g2 cH (ae 2) (ae 3))) (ar (aB 2 (ae 3)) (aB 3 (ae 4))))
noncomputable def cf:GT:=(aY (g2 jI (ae 3) (gC (.int 0))))
noncomputable def db:GS:=(ar (aB 2 (ae 0)) (ar (aB 3 (ae 1)) (ar (dX 100 cf ce) (aR (g2 cE (g2 bE (ae 0) (ae 2)) (ae 1))))))
noncomputable def dU:FD:=ck 3 db
theorem jH (T:TX P w K mg base):Ok P w K mg base "_law_common" 1 2 dU:=dq (dm T.f 23 rfl) ["one","other","a","b","rest"] bP rfl fun f _ A _ s H E nd hr=>by delta db ce cf;repeat' walk_at "Q"
noncomputable def lO:GS:=(ar (cR (cp [8,9]) (ak 1 cr (aa (ae 7) ag))) (ar (aB 4 (aL iR (aa (ae 4) (aa (ae 8) ag)))) (aB 5 (ak 2 dU (aa (ae 5) (aa (ae 9) ag))))))
noncomputable def lW:GS:=(hZ (bO (aL fF (aa (jT (ae 6) (aK ag)) ag))) (bL 7) lO)
noncomputable def k9:GE:=(je "bool" (ae 0))
noncomputable def kQ:GS:=(gG (aY (g2 (dH false) (ak 2 bR (aa (ae 3) (aa (g2 aV (ae 4) (g2 bE (ae 5) (ae 12))) ag))) (ae 11))) (aR (gC (.bl false))) bG)
noncomputable def kT:GS:=(ar (aB 3 (ak 2 fm (aa (ae 1) (aa (gC (.int 12)) ag)))) (ar (aB 4 (gC (.int 0))) (ar (aB 5 (gC (.int 1))) (ar (hZ (bO (g2 bi (ae 3) (gC (.int 2)))) (bL 6) lW) (ar (aB 10 (ak 1 gF (aa (ae 3) ag))) (ar (gG (iY (fW (jJ (je "tuple" (ae 10)))) (aY (g2 (dH true) (ae 10) (aK (aa (ae 4) (aa (ae 5) ag)))))) (aR (gC (.bl false))) bG) (ar (gG (aY (g2 (lz false) (gC (.bl true)) (bV (bO (ae 10)) cz k9 aQ))) (aR (gC (.bl false))) bG) (ar (aB 11 (ak 2 bR (aa (ae 3) (aa (ae 4) ag)))) (ar (gG (aY (g2 (dH true) (ak 2 bR (aa (ae 3) (aa (g2 aV (ae 4) (ae 5)) ag))) (ae 11))) (aR (gC (.bl false))) bG) (ar (gG (dD (aY (g2 jI (ae 4) (gC (.int 0)))) (aY (g2 (dH false) (ak 2 bR (aa (ae 3) (aa (g2 bN (ae 4) (gC (.int 1))) ag))) (ak 2 bR (aa (ae 3) (aa (g2 aV (g2 bN (ae 4) (gC (.int 1))) (ae 5)) ag)))))) (aR (gC (.bl false))) bG) (hZ (bO (ak 1 bQ (aa (ae 5) ag))) (bL 12) kQ)))))))))))
noncomputable def n6:GS:=(ar (aB 1 (fU (aa (aL fF (aa (ae 0) ag)) (aa (gC (.int 0)) (aa (gC (.int 0)) ag))))) (ar (hZ (dB (aa (gC (.int 3)) ag)) (bL 2) kT) (aR (gC (.bl true)))))
noncomputable def ou:FD:=ck 12 n6
theorem xD (T:TX P w K mg base){f:Addr}{fd:FuncData}(F:Fn K mg "law" wk f fd ["script"]):ej P w K mg base (iN P w) 6 f fd ["script"] (nO K 1 ou):=AB F.F (N:=["script","tape","turn","film","ahead","length","pair","path","one","many","found","there","part"]) bP rfl fun _ A _ s H E hr=>by
 have nd:(["script","tape","turn","film","ahead","length","pair","path","one","many","found","there","part"]:List Str).Nodup:=by decide +kernel
 have:=kO T;have:=mn T;have:=nH T;have:=iB T;have:=jp T;have:=jH T;have:=rn 147 19 ["one"] ["script","tape","turn","film","ahead","length","pair","path","one.","many","found","there","part"];delta n6 lO lW k9 kQ kT;repeat' walk_at "Q"
end
end K31
section
open PySem PySem.W PyProof.Rows
noncomputable abbrev K31.VV:Program:=(view PySem.Challenge.pw_glowrow_k31_whole_film_rounds [1,2,3,4,5,6,7,8,9,10,12,13,14,15,16,17,18,19,20,21,22,23,24,25,26])
set_option maxHeartbeats 0 in
theorem K31.h1:∀(w:World) (os:OsState),(Hd.RT (OpenLaw.row PySem.Challenge.rw_glowrow_k31_whole_film_rounds).prog w 1686 os).map (fun s=>Hd.pA (OpenLaw.row PySem.Challenge.rw_glowrow_k31_whole_film_rounds).prog w.params s.abs&&Hd.pB K31.VV (importedModules (OpenLaw.row PySem.Challenge.rw_glowrow_k31_whole_film_rounds).prog.main.body) (fun s=>xlAt K31.VV [] s&&recOk (RowW.records (OpenRow.toRowW (OpenLaw.row PySem.Challenge.rw_glowrow_k31_whole_film_rounds))) s) s.abs)=some true:=by
 intro w os;unfold Hd.RT;rw[W.Fast.te15732481512506401174,W.Fast.te2530740449226627131,W.Fast.te13930993214811372802];kernel_rfl
set_option maxHeartbeats 0 in
theorem K31.h2:∀(w:World) (os:OsState),(Hd.RT (OpenLaw.row PySem.Challenge.rw_glowrow_k31_whole_film_rounds).prog w 1686 os).map (fun s=>Hd.pC K31.VV s.abs)=some (expectedOf K31.VV,bltViewBooted,wideGood K31.VV):=by
 intro w os;unfold Hd.RT;rw[W.Fast.te15732481512506401174,W.Fast.te2530740449226627131,W.Fast.te7338995916957470747];kernel_rfl
set_option maxHeartbeats 0 in
theorem K31.h3:∀(w:World) (os:OsState),(Hd.RT (OpenLaw.row PySem.Challenge.rw_glowrow_k31_whole_film_rounds).prog w 1686 os).map (fun s=>Hd.pD K31.VV s.abs)=some (pinGoodD (drecsOf K31.VV),plainGoodE K31.VV (looseW K31.VV []),plainGoodD K31.VV [],clsGoodW K31.VV []):=by
 intro w os;unfold Hd.RT;rw[W.Fast.te15732481512506401174,W.Fast.te2530740449226627131,W.Fast.te4913325751328045840];kernel_rfl
local macro_rules | `(tactic| o_head $H) => `(tactic| (
 refine holds_open (q:=K31.VV) (loose:=[]) (Xt:=(fun s=>xlAt K31.VV [] s&&recOk (RowW.records (OpenRow.toRowW (OpenLaw.row PySem.Challenge.rw_glowrow_k31_whole_film_rounds))) s)) (XP:=XL K31.VV []) (Yf:=Hook.obs $H) (Ya:=Hook.val $H) (YP:=Hook.says $H) (N:=1686) ?hl (Hook.of $H) (Hook.keeps $H) (fun s e=>xl_of s (Bool.and_eq_true_iff.mp e).1) XL.keeps (by rfl) (by rfl) (by rfl) (fun s e=>recFacts_of (Bool.and_eq_true_iff.mp e).2) (by rfl) (by first|assumption|decide +kernel) (by decide +kernel) ⟨rfl,rfl,rfl,rfl,rfl,by decide +kernel⟩ ?hw ?hc;
 (case hl=>
  refine Hd.left_k (boot_open (by kernel_rfl) rfl (fun s=>by kernel_rfl)) (fun w=>by kernel_rfl) K31.h1 K31.h2 K31.h3 ?_;intro w os;unfold Hd.RT;rw[W.Fast.te15732481512506401174,W.Fast.te2530740449226627131];kernel_rfl)))
set_option hygiene false
local macro_rules | `(tactic| walk_at "us") => `(tactic| first | rfl | (exfalso; simp at hl; done) | (cases us with | nil => (first | rfl | cases hl) | cons _ us => walk_at "us"))
local macro_rules | `(tactic| walk_at "kc") => `(tactic| refine' DL.kc_mk KX G ?y0 ?y1 ?y2 ?y3 ?y4 ?y5 ?y6; (case y0 => k_is); (case y1 => k_is); (case y2 => k_is); (case y3 => k_is); (case y4 => k_is); (case y5 => k_is); (case y6 => k_is))
local macro_rules | `(tactic| walk_at "ec") => `(tactic| refine' DL.ec_mk KX G ?w0 ?w1 ?w2 ?w3 ?w4 ?w5 ?w6 ?w7 ?w8 ?w9 ?w10 ?w11; (case w0 => k_is); (case w1 => k_is); (case w2 => k_is); (case w3 => k_is); (case w4 => k_is); (case w5 => k_is); (case w6 => k_is); (case w7 => k_is); (case w8 => k_is); (case w9 => k_exc); (case w10 => k_is); (case w11 => k_is))
local macro_rules | `(tactic| walk_at "ff") => `(tactic| (refine' DL.AD KX G ?x0 ?x1 ?x2 ?x3 ?x4; (case x0 => k_is); (case x1 => k_is); (case x2 => k_is); (case x3 => k_is); (case x4 => (intro _ _ _ _ _ _ us hl; walk_at "us"))))
local macro_rules | `(tactic| walk_at "mf") => `(tactic| (refine' DL.mf_mk ?x0 ?x1 ?x2 ?x3 ?x4 ?x5 ?x6; (case x0 => walk_at "kc"); (case x1 => k_is); (case x2 => k_is); (case x3 => k_is); (case x4 => k_is); (case x5 => k_is); (case x6 => (intro _ _ _ _ _ _ us hl; walk_at "us"))))
local macro_rules | `(tactic| walk_at "im") => `(tactic| (refine' DL.im_mk ?v0 ?v1; (case v0 => walk_at "ec"); (case v1 => k_is)))
set_option maxRecDepth 100000 in
set_option maxHeartbeats 0 in
theorem K31.pre (ht:∀ns:List Int,ns.length≤63→∃M',K31.ou [.ro (ns.map DL.D.int)] []=.ok (.bl true) M'):PySem.Challenge.rw_glowrow_k31_whole_film_rounds.Holds:=by
 w_on;o_law;k_head;(case hw=>w_witness2)
 k_fill
 refine DL.xb (l:=PySem.Challenge.rw_glowrow_k31_whole_film_rounds) (n:=63) (k:=6) (x:="script") (F:=K31.ou) rfl (by decide) rfl ⟨rfl,by decide,by decide⟩ (fun w h Y=>W.kIn_of Y) ?F ?t1 ?t2 ?t3 ?t4 ht
 case F=>
  intro w mg fa h KX G hmg;refine DL.yB (st:=K31.wk) hmg ?L (fun base f fd L=>K31.xD ?TT L) (fun _ _ _ _ _ _ _=>rfl)
  (case TT=>
   refine DL.Tx.mk ?q0 ?q1 ?q2 ?q3 ?q4 ?q5 ?q6 ?q7 ?q8 ?q9
   (case q0=>((repeat (refine' DL.Ls.cons ?x ?_;(case x=>(walk_at "ff"))));exact DL.Ls.nil))
   (case q1=>((repeat (refine' DL.Ls.cons ?x ?_;(case x=>(walk_at "mf"))));exact DL.Ls.nil))
   (case q2=>((repeat (refine' DL.Ls.cons ?x ?_;(case x=>(walk_at "lf"))));exact DL.Ls.nil))
   (case q3=>((repeat (refine' DL.Ls.cons ?x ?_;(case x=>(refine' DL.C8 KX G ?x0;(case x0=>k_is)))));exact DL.Ls.nil))
   (case q4=>((repeat (refine' DL.Ls.cons ?x ?_;(case x=>(refine' DL.Ba ?x0;(case x0=>walk_at "ec")))));exact DL.Ls.nil))
   (case q5=>((repeat (refine' DL.Ls.cons ?x ?_;(case x=>(refine' DL.zW ?u0 ?u1;(case u0=>walk_at "ec");(case u1=>((repeat (refine' DL.Ls.cons ?u2 ?_;(case u2=>walk_at "im")));exact DL.Ls.nil))))));exact DL.Ls.nil))
   (case q6=>((repeat (refine' DL.Ls.cons ?x ?_;(case x=>(walk_at "im"))));exact DL.Ls.nil))
   (case q7=>((repeat (refine' DL.Ls.cons ?x ?_;(case x=>(refine' DL.Bj ?x0 ?x1;(case x0=>walk_at "kc");(case x1=>k_is)))));exact DL.Ls.nil))
   (case q8=>((repeat (refine' DL.Ls.cons ?x ?_;(case x=>(refine' DL.AR (u:=PySem.Value.str _) KX G ?x0;(case x0=>k_is)))));exact DL.Ls.nil))
   (case q9=>((repeat (refine' DL.Ls.cons ?x ?_;(case x=>(refine' DL.AR (u:=PySem.Value.int _) KX G ?x0;(case x0=>k_is)))));exact DL.Ls.nil)))
  (case L=>walk_at "ff")
 case t1=>(intro w;k_is)
 case t2=>(intro w;k_is)
 case t3=>(intro w;k_is)
 case t4=>(intro w;k_is)
end
namespace K31
open PySem PySem.Spec PyProof.Rows L2 DL List
local macro_rules | `(tactic| simp_arith [$args,*] $[$loc]?) => `(tactic| first | (dsimp only [aF.bind, ar, aB, gG, aR, fR, fi, bG, cR, ae, gC, DL.g2, ak, aL, aa, ag, aY, BD, jJ, vw, iY, dD, fW, aK, d7, fU, jj, aQ, cO, eX, ph, je, B8, nw, aG, ck, jU, qq, aV, bN, cE, bE, cH, jK, m6, oo, jI, uB, bi, bu, cT, kY, iR, m9, fF, bp, bO, oC, dB, bL, cp, ij, fX, c7, sL, jF, lz, ft, iT, zQ, cz, fY, fA, mf, ix, lN, vF, nG, nS, jV] $[$loc]?; simp [ar, aB, gG, aR, fR, fi, bG, cR, ae, gC, DL.g2, ak, aL, aa, ag, aY, BD, jJ, vw, iY, dD, fW, aK, d7, fU, jj, aQ, cO, eX, ph, je, B8, nw, aG, ck, jU, qq, aV, bN, cE, bE, cH, jK, m6, oo, jI, uB, bi, bu, cT, kY, iR, m9, fF, bp, bO, oC, dB, bL, cp, ij, fX, c7, sL, jF, lz, ft, iT, zQ, cz, fY, fA, mf, ix, lN, vF, nG, nS, jV, $args,*] $[$loc]?) | simp [ar, aB, gG, aR, fR, fi, bG, cR, ae, gC, DL.g2, ak, aL, aa, ag, aY, BD, jJ, vw, iY, dD, fW, aK, d7, fU, jj, aQ, cO, eX, ph, je, B8, nw, aG, ck, jU, qq, aV, bN, cE, bE, cH, jK, m6, oo, jI, uB, bi, bu, cT, kY, iR, m9, fF, bp, bO, oC, dB, bL, cp, ij, fX, c7, sL, jF, lz, ft, iT, zQ, cz, fY, fA, mf, ix, lN, vF, nG, nS, jV, $args,*] $[$loc]?)
noncomputable def tp (l:List Int)(i c:Int):MO:=.lst [.lst (l.map D.int),.int i,.int c]
noncomputable def bj (l:List Int)(rest:am)(M:am):Prop:=∃i c,0≤i∧M=tp l i c::rest
theorem qJ {l:List Int}{k:Int}(h0:0≤k)(h1:k<l.length):∃v,j5 (l.map D.int) k=some (.int v):=by
 obtain⟨n,rfl⟩:=Int.eq_ofNat_of_zero_le h0;have hn:n<l.length:=by omega
 exact⟨l[n],lK (by simp[hn])⟩
noncomputable def Ct:GS:=ar (aB 4 (g2 cH (g2 bi (ae 0) (gC (.int 2))) (ae 1))) (ar (fR (ae 0) (gC (.int 2)) (g2 bE (g2 bi (ae 0) (gC (.int 2))) (ae 1))) (aR (ae 4)))
noncomputable def B7:GS:=ar (aB 3 (g2 cH (g2 aV (ae 3) (g2 cE (gC (.int 1000003)) (g2 bi (ae 0) (gC (.int 1))))) (ae 2))) (ar (aB 3 (g2 cH (g2 aV (g2 aV (g2 cE (ae 3) (ae 3)) (g2 cE (gC (.int 1181783497276652981)) (ae 3))) (gC (.int 2049848353892358983))) (ae 2))) (aB 3 (g2 cH (g2 aV (g2 cE (ae 3) (ae 3)) (gC (.int 1442695040888963407))) (ae 2))))
noncomputable def Cm:GS:=gG (aY (g2 jI (aL cT (aa (g2 bi (ae 0) (gC (.int 0))) ag)) (gC (.int 0)))) (aB 3 (g2 bi (g2 bi (ae 0) (gC (.int 0))) (g2 cH (g2 bi (ae 0) (gC (.int 1))) (aL cT (aa (g2 bi (ae 0) (gC (.int 0))) ag))))) bG
noncomputable def Do:GT:=iY (aY (g2 uB (g2 bi (ae 0) (gC (.int 1))) (aL cT (aa (g2 bi (ae 0) (gC (.int 0))) ag)))) (aY (g2 m6 (ae 3) (g2 jK (gC (.int 10)) (gC (.int 18)))))
noncomputable def Cr:GS:=ar (aB 3 (gC (.int 0))) (ar Cm (ar (gG Do B7 bG) (ar (fR (ae 0) (gC (.int 1)) (g2 aV (g2 bi (ae 0) (gC (.int 1))) (gC (.int 1)))) (fR (ae 0) (gC (.int 2)) (ae 3)))))
theorem Bv (ρ:a9)(M:am):dM ρ M=ar (aB 2 (gC (.int 2305843009213693951))) (ar (gG (aY (g2 m6 (g2 bi (ae 0) (gC (.int 2))) (ae 1))) Cr bG) Ct) ρ M:=rfl
theorem eQ {i j:Int}(h:0<j)(M:am):cH (.int i) (.int j) M=.ok (.int (i % j)) M:=by
 unfold cH;dsimp only;rw[if_pos h]
theorem iZ {i j:Int}(h:-18446744073709551616<i∧i<18446744073709551616)(M:am):cE (.int i) (.int j) M=.ok (.int (i*j)) M:=by
 unfold cE;dsimp only;rw[if_pos (.inl ⟨Int.lt_of_le_of_lt (by decide) h.1,Int.lt_of_lt_of_le h.2 (by decide)⟩)]
theorem lR {go gi g:GE}{ρ:a9}{M M1:am}{x:D}(h:g ρ M=.ok x M)(h2:(go ρ M).bind (fun o M2=>(gi ρ M2).bind fun i M3=>(qq o i x M3).bind fun _ M4=>.ok (Fl.nx ρ) M4)=.ok (Fl.nx ρ) M1):fR go gi g ρ M=.ok (.nx ρ) M1:=by
 unfold fR;rw[h,ai,h2]
theorem aO {l:List Int}{rest M:am}{many:Int}(hm:0<many)(hlog:many.natAbs.log2<9000)(h:bj l rest M) :
  ∃f M',0≤f∧f<many∧bj l rest M'∧aj [.mr 0,.int many] M=.ok (.int f) M':=by
 obtain⟨i,c,hi,rfl⟩:=h;have i0:∀(i c:Int) (x1 x2 x3 x4:Option D),g2 bi (ae 0) (gC (.int 0)) [some (.mr 0),x1,x2,x3,x4] (tp l i c::rest)=.ok (.lst (l.map D.int)) (tp l i c::rest):=fun _ _ _ _ _ _=>rfl
 have i1:∀(i c:Int) (x1 x2 x3 x4:Option D),g2 bi (ae 0) (gC (.int 1)) [some (.mr 0),x1,x2,x3,x4] (tp l i c::rest)=.ok (.int i) (tp l i c::rest):=fun _ _ _ _ _ _=>rfl
 have i2:∀(i c:Int) (x1 x2 x3 x4:Option D),g2 bi (ae 0) (gC (.int 2)) [some (.mr 0),x1,x2,x3,x4] (tp l i c::rest)=.ok (.int c) (tp l i c::rest):=fun _ _ _ _ _ _=>rfl
 have ln:∀(i c:Int) (x1 x2 x3 x4:Option D),aL cT (aa (g2 bi (ae 0) (gC (.int 0))) ag) [some (.mr 0),x1,x2,x3,x4] (tp l i c::rest)=.ok (.int (l.length:Int)) (tp l i c::rest):=fun i c x1 x2 x3 x4=>by
  refine iW (i0 i c x1 x2 x3 x4) ?_;show aF.ok (D.int ((l.map D.int).length:Int)) _=_;rw[length_map]
 have tail:∀(c i:Int) (x2 x3 x4:Option D),0≤i→∃f M',0≤f∧f<many∧bj l rest M'∧aG (Ct [some (.mr 0),some (.int many),x2,x3,x4] (tp l i c::rest))=.ok (.int f) M':=fun c i x2 x3 x4 hi=>by
  refine⟨c % many,tp l i (c / many)::rest,Int.emod_nonneg _ (by omega),Int.emod_lt_of_pos _ hm,⟨i,c / many,hi,rfl⟩,?_⟩;unfold Ct;rw[ao (ay (ap (i2 i c (some (.int many)) x2 x3 x4) rfl (eQ hm _)))];have fd:bE (.int c) (.int many) (tp l i c::rest)=.ok (.int (c / many)) (tp l i c::rest):=by
   unfold bE;dsimp only;rw[if_pos ⟨hm,hlog⟩]
  have k:fR (ae 0) (gC (.int 2)) (g2 bE (g2 bi (ae 0) (gC (.int 2))) (ae 1)) [some (.mr 0),some (.int many),x2,x3,some (.int (c % many))] (tp l i c::rest)=.ok (.nx [some (.mr 0),some (.int many),x2,x3,some (.int (c % many))]) (tp l i (c / many)::rest):=
   lR (ap (i2 i c (some (.int many)) x2 x3 _) rfl fd) rfl
  exact(congrArg aG (ao k)).trans rfl
 show∃f M',_∧_∧_∧aG (dM [some (.mr 0),some (.int many),none,none,none] (tp l i c::rest))=_;rw[Bv];have e0:∀b:GS,ar (aB 2 (gC (.int 2305843009213693951))) b [some (.mr 0),some (.int many),none,none,none] (tp l i c::rest)=b [some (.mr 0),some (.int many),some (.int 2305843009213693951),none,none] (tp l i c::rest):=fun b=>ao rfl
 rw[e0];have tst:aY (g2 m6 (g2 bi (ae 0) (gC (.int 2))) (ae 1)) [some (.mr 0),some (.int many),some (.int 2305843009213693951),none,none] (tp l i c::rest)=.ok (decide (c<many)) (tp l i c::rest):=bb (ap (i2 i c _ _ _ _) rfl rfl)
 by_cases h1:c<many
 ·rw[decide_eq_true h1] at tst;obtain⟨v,ev⟩:∃v:Int,Cm [some (.mr 0),some (.int many),some (.int 2305843009213693951),some (.int 0),none] (tp l i c::rest)=.ok (.nx [some (.mr 0),some (.int many),some (.int 2305843009213693951),some (.int v),none]) (tp l i c::rest):=by
   unfold Cm;have t0:aY (g2 jI (aL cT (aa (g2 bi (ae 0) (gC (.int 0))) ag)) (gC (.int 0))) [some (.mr 0),some (.int many),some (.int 2305843009213693951),some (.int 0),none] (tp l i c::rest)=.ok (decide ((l.length:Int)>0)) (tp l i c::rest):=bb (ap (ln i c _ _ _ _) rfl rfl)
   by_cases hl:(l.length:Int)>0
   ·rw[decide_eq_true hl] at t0;obtain⟨v,hv⟩:=qJ (l:=l) (Int.emod_nonneg _ (by omega)) (Int.emod_lt_of_pos _ hl);refine⟨v,(mM t0).trans (ay (ap (f:=bi) (i0 i c _ _ _ _) (ap (i1 i c _ _ _ _) (ln i c _ _ _ _) (eQ hl _)) ?_))⟩;show(match j5 (l.map D.int) (i % (l.length:Int)) with|some d=>aF.ok d (tp l i c::rest)|none=>.bad)=_;rw[hv]
   ·rw[decide_eq_false hl] at t0;exact⟨0,(fo t0).trans rfl⟩
  have bd:∀x:Int,-18446744073709551616<x % 2305843009213693951∧x % 2305843009213693951<18446744073709551616:=fun x=>by
   have h0:=Int.emod_nonneg x (show(2305843009213693951:Int)≠0 by decide);have h1:=Int.emod_lt_of_pos x (show(0:Int)<2305843009213693951 by decide);omega
  have md:∀x:Int,∀M,cH (.int x) (.int 2305843009213693951) M=.ok (.int (x % 2305843009213693951)) M:=fun x M=>eQ (by decide) M
  obtain⟨u,eu⟩:∃u:Int,gG Do B7 bG [some (.mr 0),some (.int many),some (.int 2305843009213693951),some (.int v),none] (tp l i c::rest)=.ok (.nx [some (.mr 0),some (.int many),some (.int 2305843009213693951),some (.int u),none]) (tp l i c::rest):=by
   have po:∀ρ,g2 jK (gC (.int 10)) (gC (.int 18)) ρ (tp l i c::rest)=.ok (.int (10 ^ 18)) (tp l i c::rest):=fun ρ=>by
    refine ap rfl rfl ?_;unfold jK;dsimp only;rw[if_pos (by decide)];rfl
   have to:=qO (bb (ap (f:=uB) (i1 i c (some (.int many)) (some (.int 2305843009213693951)) (some (.int v)) none) (ln i c _ _ _ _) rfl)) fun _=>bb (ap (f:=m6) (a:=ae 3) rfl (po _) rfl)
   generalize (decide (i≥(l.length:Int))||decide (v<10 ^ 18))=b at to;cases b with
   | false=>exact⟨v,(fo to).trans rfl⟩
   | true=>
    suffices hs:∃u:Int,B7 [some (.mr 0),some (.int many),some (.int 2305843009213693951),some (.int v),none] (tp l i c::rest)=.ok (.nx [some (.mr 0),some (.int many),some (.int 2305843009213693951),some (.int u),none]) (tp l i c::rest) from hs.elim fun u e=>⟨u,(mM to).trans e⟩
    unfold B7;rw[ao (ay (ap (ap (f:=aV) (a:=ae 3) rfl (ap (f:=cE) (a:=gC (.int 1000003)) rfl (i1 i c _ _ _ _) (iZ (by decide) _)) rfl) rfl (md _ _)))];generalize hz:(v+1000003*i) % 2305843009213693951=z;have bz:=hz▸bd (v+1000003*i);have k2:aB 3 (g2 cH (g2 aV (g2 aV (g2 cE (ae 3) (ae 3)) (g2 cE (gC (.int 1181783497276652981)) (ae 3))) (gC (.int 2049848353892358983))) (ae 2)) [some (.mr 0),some (.int many),some (.int 2305843009213693951),some (.int z),none] (tp l i c::rest)=.ok (.nx [some (.mr 0),some (.int many),some (.int 2305843009213693951),some (.int ((z*z+1181783497276652981*z+2049848353892358983) % 2305843009213693951)),none]) (tp l i c::rest):=
     ay (ap (ap (f:=aV) (ap (f:=aV) (ap (f:=cE) (a:=ae 3) rfl rfl (iZ bz _)) (ap (f:=cE) (a:=gC (.int 1181783497276652981)) rfl rfl (iZ (by decide) _)) rfl) rfl rfl) rfl (md _ _))
    refine Exists.imp (fun u e=>(ao k2).trans e) ?_;generalize hy:(z*z+1181783497276652981*z+2049848353892358983) % 2305843009213693951=y;have byy:=hy▸bd (z*z+1181783497276652981*z+2049848353892358983);exact⟨_,ay (ap (ap (f:=aV) (ap (f:=cE) (a:=ae 3) rfl rfl (iZ byy _)) rfl rfl) rfl (md _ _))⟩
  have kb:Cr [some (.mr 0),some (.int many),some (.int 2305843009213693951),none,none] (tp l i c::rest)=.ok (.nx [some (.mr 0),some (.int many),some (.int 2305843009213693951),some (.int u),none]) (tp l (i+1) u::rest):=by
   unfold Cr;have e3:∀b:GS,ar (aB 3 (gC (.int 0))) b [some (.mr 0),some (.int many),some (.int 2305843009213693951),none,none] (tp l i c::rest)=b [some (.mr 0),some (.int many),some (.int 2305843009213693951),some (.int 0),none] (tp l i c::rest):=fun b=>ao rfl
   rw[e3,ao ev,ao eu];have k1:fR (ae 0) (gC (.int 1)) (g2 aV (g2 bi (ae 0) (gC (.int 1))) (gC (.int 1))) [some (.mr 0),some (.int many),some (.int 2305843009213693951),some (.int u),none] (tp l i c::rest)=.ok (.nx [some (.mr 0),some (.int many),some (.int 2305843009213693951),some (.int u),none]) (tp l (i+1) c::rest):=
    lR (ap (i1 i c _ _ _ _) rfl rfl) rfl
   rw[ao k1];exact lR rfl rfl
  rw[ao ((mM tst).trans kb)];exact tail u (i+1) _ _ _ (by omega)
 ·rw[decide_eq_false h1] at tst;rw[ao ((fo tst).trans rfl)];exact tail c i _ _ _ hi
theorem av {x:Int}(h0:0<x)(h1:x≤1000000):x.natAbs.log2<9000:=by
 have h2:x.natAbs<2 ^ 20:=by omega
 have h3:x.natAbs≠0:=by omega
 have:=(Nat.log2_lt h3).mpr h2;omega
theorem i8 {l:List Int}{rest M:am}{most:Int}(hm:1≤most)(hm2:most≤1000)(h:bj l rest M) :
  ∃f M',1≤f∧f≤most∧bj l rest M'∧cc [.mr 0,.int most] M=.ok (.int f) M':=by
 have lg:∀x:Int,0<x→x≤1000→x.natAbs.log2<9000:=fun x h0 h1=>by
  have h2:x.natAbs<2 ^ 10:=by omega
  have h3:x.natAbs≠0:=by omega
  have:=(Nat.log2_lt h3).mpr h2;omega
 have hmin:0<(if 6<most then 6 else most)∧(if 6<most then 6 else most)≤most∧(if 6<most then(6:Int) else most)≤1000:=by split <;> omega
 obtain⟨f1,M1,a1,b1,t1,e1⟩:=aO hmin.1 (lg _ hmin.1 hmin.2.2) h;obtain⟨f2,M2,a2,b2,t2,e2⟩:=aO (many:=most) (by omega) (lg _ (by omega) hm2) t1;obtain⟨f3,M3,a3,b3,t3,e3⟩:=aO (many:=8) (by decide) (lg _ (by decide) (by decide)) t2;have l3:(3:Nat)≤sizeLine:=bB (by decide);have hix:0≤f3*3 / 10∧f3*3 / 10<3:=by omega
 have c3:Nat.log2 10<9000:=by decide
 have c4:-18446744073709551616<f3∧f3<18446744073709551616:=by omega
 have pick:∃f,1≤f∧f≤most∧∃y,f=1+y∧j5 [D.int f1,D.int f2,D.int (most-1)] (f3*3 / 10)=some (.int y):=by
  have:f3*3 / 10=0∨f3*3 / 10=1∨f3*3 / 10=2:=by omega
  rcases this with q|q|q <;> rw[q]
  ·exact⟨1+f1,by omega,by omega,f1,rfl,rfl⟩
  ·exact⟨1+f2,by omega,by omega,f2,rfl,rfl⟩
  ·exact⟨1+(most-1),by omega,by omega,most-1,rfl,rfl⟩
 obtain⟨f,hf1,hf2,y,ey,ha⟩:=pick;refine⟨f,M3,hf1,hf2,t3,?_⟩;unfold cc fB;simp_arith [e1,e2,e3,l3,c3,c4,ha,ey]
theorem ux {l:List Int}{rest M:am}{wide thin:Int}(hw:0≤wide)(hw2:wide≤1000)(ht:1≤thin)(ht2:thin≤1000)(h:bj l rest M) :
  ∃(ks:List Int) (M':am),(ks.length:Int)=wide∧(∀k∈ks,0≤k∧k≤15)∧bj l rest M'∧dP [.mr 0,.int wide,.int thin] M=.ok (.tup (ks.map D.int)) M':=by
 obtain⟨es,M',t',le,qe,ee⟩:=dY (ds0:=aZ 0 wide.toNat) (ge:=cL) (ρ:=[some (.mr 0),some (.int wide),some (.int thin)])
  (P:=bj l rest) (Q:=fun e=>∃k,e=.int k∧0≤k∧k≤15) (aZ 0 wide.toNat) (fun d hd M hM=>by
   obtain⟨f1,M1,a1,b1,t1,e1⟩:=aO (many:=16) (by decide) (av (by decide) (by decide)) hM;obtain⟨f2,M2,a2,b2,t2,e2⟩:=aO (many:=thin) (by omega) (av (by omega) (by omega)) t1;have c4:-18446744073709551616<f1∧f1<18446744073709551616:=by omega
   by_cases hz:0<f2
   ·exact⟨.int (f1*1),M2,t2,⟨_,rfl,by omega,by omega⟩,by simp_arith [cL,e1,e2,c4,hz]⟩
   ·exact⟨.int (f1*0),M2,t2,⟨_,rfl,by omega,by omega⟩,by simp_arith [cL,e1,e2,c4,hz]⟩) M h
 obtain⟨ks,ek,qk⟩:=um qe;refine⟨ks,M',?_,qk,t',?_⟩
 ·have:ks.length=es.length:=by rw[ek];simp
  rw[bc] at le;omega
 ·have l3:es.length≤sizeLine:=by rw[le,bc];exact bB (by omega)
  have l4:ks.length≤sizeLine:=by rw[ek] at l3;simpa using l3
  have b1:=fun M=>lQ (j:=wide) (by omega) M
  unfold dP fb;simp_arith [bV,b1,ee,l4,ek]
theorem mS {l:List Int}{rest M:am}{most:Int}(hm:1≤most)(hm2:most≤1000)(h:bj l rest M) :
  ∃(rs:List (List Int)) (w:Nat) (M':am),1≤rs.length∧(rs.length:Int)≤most∧1≤w∧(w:Int)≤most∧(∀r∈rs,r.length=w∧∀k∈r,0≤k∧k≤15)∧bj l rest M'∧
   cI [.mr 0,.int most] M=.ok (.tup (rs.map fun r=>D.tup (r.map D.int))) M':=by
 obtain⟨wide,M1,w1,w2,t1,e1⟩:=i8 hm hm2 h;obtain⟨f4,M2,a2,b2,t2,e2⟩:=aO (many:=4) (by decide) (av (by decide) (by decide)) t1;obtain⟨high,M3,h1,h2,t3,e3⟩:=i8 hm hm2 t2;obtain⟨es,M',t',le,qe,ee⟩:=dY (ds0:=aZ 0 high.toNat) (ge:=de) (ρ:=[some (.mr 0),some (.int most),some (.int wide),some (.int (1+f4))])
  (P:=bj l rest) (Q:=fun e=>∃ks:List Int,e=.tup (ks.map D.int)∧(ks.length:Int)=wide∧∀k∈ks,0≤k∧k≤15) (aZ 0 high.toNat) (fun d hd M hM=>by
   obtain⟨ks,M1,lk,qk,t1,e1⟩:=ux (wide:=wide) (thin:=1+f4) (by omega) (by omega) (by omega) (by omega) hM;exact⟨_,M1,t1,⟨ks,rfl,lk,qk⟩,by simp_arith [de,e1]⟩) M3 t3
 obtain⟨rs,er,qr⟩:=v9 qe;refine⟨rs,wide.toNat,M',?_,?_,by omega,by omega,fun r hr=>⟨by have:=(qr r hr).1;omega,(qr r hr).2⟩,t',?_⟩
 ·have:rs.length=es.length:=by rw[er];simp
  rw[bc] at le;omega
 ·have:rs.length=es.length:=by rw[er];simp
  rw[bc] at le;omega
 ·have l3:es.length≤sizeLine:=by rw[le,bc];exact bB (by omega)
  have l4:rs.length≤sizeLine:=by rw[er] at l3;simpa using l3
  have b1:=fun M=>lQ (j:=high) (by omega) M
  unfold cI eG;simp_arith [bV,b1,e1,e2,e3,ee,l4,er]
theorem rm {l:List Int}{rest M:am}{most:Int}(hm:1≤most)(hm2:most≤1000)(h:bj l rest M) :
  ∃(w hh g m:Int) (M':am),(1≤w∧w≤most)∧(1≤hh∧hh≤most)∧(0≤g∧g≤20)∧(0≤m∧m≤12)∧bj l rest M'∧dr [.mr 0,.int most] M=.ok (.tup [.int w,.int hh,.int g,.int m]) M':=by
 obtain⟨f1,M1,a1,b1,t1,e1⟩:=aO (many:=21) (by decide) (av (by decide) (by decide)) h;obtain⟨f2,M2,a2,b2,t2,e2⟩:=aO (many:=2) (by decide) (av (by decide) (by decide)) t1;obtain⟨w,M3,a3,b3,t3,e3⟩:=i8 hm hm2 t2;obtain⟨hh,M4,a4,b4,t4,e4⟩:=i8 hm hm2 t3;obtain⟨m,M5,a5,b5,t5,e5⟩:=aO (many:=13) (by decide) (av (by decide) (by decide)) t4;have l3:(2:Nat)≤sizeLine:=bB (by decide);have l4:(4:Nat)≤sizeLine:=bB (by decide);have pick:∃g,0≤g∧g≤20∧j5 [D.int 0,D.int f1] f2=some (.int g):=by
  have:f2=0∨f2=1:=by omega
  rcases this with q|q <;> rw[q]
  ·exact⟨0,by omega,by omega,rfl⟩
  ·exact⟨f1,by omega,by omega,rfl⟩
 obtain⟨g,g1,g2,ha⟩:=pick;refine⟨w,hh,g,m,M5,⟨a3,b3⟩,⟨a4,b4⟩,⟨g1,g2⟩,⟨a5,by omega⟩,t5,?_⟩;unfold dr eF;simp_arith [e1,e2,e3,e4,e5,l3,l4,ha]
theorem lG {l:List Int}{rest M:am}{size:Int}(hm:0≤size)(hm2:size≤900)(h:bj l rest M) :
  ∃(f:Int) (M':am),(-1000≤f∧f≤1000)∧bj l rest M'∧aT [.mr 0,.int size] M=.ok (.int f) M':=by
 obtain⟨f1,M1,a1,b1,t1,e1⟩:=aO (many:=size+16) (by omega) (av (by omega) (by omega)) h;obtain⟨f2,M2,a2,b2,t2,e2⟩:=aO (many:=2001) (by decide) (av (by decide) (by decide)) t1;obtain⟨f3,M3,a3,b3,t3,e3⟩:=aO (many:=8) (by decide) (av (by decide) (by decide)) t2;have l3:(2:Nat)≤sizeLine:=bB (by decide);have c3:Nat.log2 7<9000:=by decide
 have pick:∃g,-1000≤g∧g≤1000∧j5 [D.int (f1-8),D.int (f2-1000)] (f3 / 7)=some (.int g):=by
  have:f3 / 7=0∨f3 / 7=1:=by omega
  rcases this with q|q <;> rw[q]
  ·exact⟨_,by omega,by omega,rfl⟩
  ·exact⟨_,by omega,by omega,rfl⟩
 obtain⟨g,g1,g2,ha⟩:=pick;refine⟨g,M3,⟨g1,g2⟩,t3,?_⟩;unfold aT gE;simp_arith [e1,e2,e3,l3,c3,ha]
structure Mv where
 shape:Option Nat
 x:Int
 y:Int
 rank:Int
 turn:Int
noncomputable def Mv.d (m:Mv):D:=.tup [match m.shape with|some k=>.int k|none=>.non,.int m.x,.int m.y,.int m.rank,.int m.turn]
structure uM (n:Nat)(m:Mv):Prop where
 s:∀k,m.shape=some k→k<n
 x:-1000≤m.x∧m.x≤1000
 y:-1000≤m.y∧m.y≤1000
 r:0≤m.rank∧m.rank≤3
 t:0≤m.turn∧m.turn≤3
theorem su {a b:Int}{M:am}(h:b<a):jI (.int a) (.int b) M=.ok (.bl true) M:=by
 show aF.ok (D.bl (decide (a>b))) M=_;rw[decide_eq_true h]
theorem wI {a b:Int}{M:am}(h:¬b<a):jI (.int a) (.int b) M=.ok (.bl false) M:=by
 show aF.ok (D.bl (decide (a>b))) M=_;rw[decide_eq_false h]
theorem uS {a b:GT}{ρ:a9}{M M1:am}(ha:a ρ M=.ok false M1):dD a b ρ M=.ok false M1:=by
 unfold dD;rw[ha,ai];rfl
theorem lX {a b:GT}{ρ:a9}{M M1:am}{y:Bool}(ha:a ρ M=.ok true M)(hb:b ρ M=.ok y M1):dD a b ρ M=.ok y M1:=by
 unfold dD;rw[ha,ai];exact hb
theorem i9 {gi:GI}{ge:GE}{ρ:a9}{ds es:List D}{M M1 M2:am}(hi:gi ρ M=.ok ⟨ds,none⟩ M1)(he:cG ⟨ds,none⟩ cz ge ds ρ M1=.ok es M2)(hl:es.length≤1000000):bV gi cz ge aQ ρ M=.ok (.lst es) M2:=by
 unfold bV;rw[hi,ai];dsimp only;rw[he,ai];unfold aQ;rw[if_pos (bB hl)]
theorem nL {w hh x y r t:Int}{more:List D}{d2 d3:D}{M M2 M3 M4 M5:am}(q1:aT [.mr 0,.int w] M=.ok (.int x) M2)(q2:aT [.mr 0,.int hh] M2=.ok (.int y) M3)(q3:aj [.mr 0,.int 4] M3=.ok (.int r) M4)(q4:aj [.mr 0,.int 4] M4=.ok (.int t) M5) :
  aR (aK (aa (ae 3) (aa (ak 2 aT (aa (ae 0) (aa (g2 bi (ae 1) (gC (.int 0))) ag))) (aa (ak 2 aT (aa (ae 0) (aa (g2 bi (ae 1) (gC (.int 1))) ag))) (aa (ak 2 aj (aa (ae 0) (aa (gC (.int 4)) ag))) (aa (ak 2 aj (aa (ae 0) (aa (gC (.int 4)) ag))) ag)))))) [some (.mr 0),some (.tup (.int w::.int hh::more)),some d2,some d3] M=.ok (.rt (.tup [d3,.int x,.int y,.int r,.int t])) M5:=
 cn (bq (aw rfl (aw (bn rfl (ap rfl rfl (eP rfl)) q1) (aw (bn rfl (ap rfl rfl (eP rfl)) q2) (aw (bn rfl rfl q3) (aw (bn rfl rfl q4) rfl))))))
theorem rZ {l:List Int}{rest M:am}{w hh:Int}{more:List D}{n:Nat}(hw:0≤w∧w≤900)(hh2:0≤hh∧hh≤900)(hn:n≤1000)(h:bj l rest M) :
  ∃(m:Mv) (M':am),uM n m∧bj l rest M'∧eK [.mr 0,.tup (.int w::.int hh::more),.int n] M=.ok m.d M':=by
 have go:∀(s:Option Nat) (M:am),bj l rest M→(∀k,s=some k→k<n)→∃(m:Mv) (M':am),uM n m∧m.shape=s∧bj l rest M'∧
   ∃M2 M3 M4,aT [.mr 0,.int w] M=.ok (.int m.x) M2∧aT [.mr 0,.int hh] M2=.ok (.int m.y) M3∧aj [.mr 0,.int 4] M3=.ok (.int m.rank) M4∧aj [.mr 0,.int 4] M4=.ok (.int m.turn) M':=by
  intro s M h hs;obtain⟨x,M2,a2,t2,e2⟩:=lG hw.1 hw.2 h;obtain⟨y,M3,a3,t3,e3⟩:=lG hh2.1 hh2.2 t2;obtain⟨r,M4,a4,b4,t4,e4⟩:=aO (many:=4) (by decide) (av (by decide) (by decide)) t3;obtain⟨t,M5,a5,b5,t5,e5⟩:=aO (many:=4) (by decide) (av (by decide) (by decide)) t4;have r3:r≤3:=by omega
  have q3:t≤3:=by omega
  exact⟨⟨s,x,y,r,t⟩,M5,⟨hs,a2,a3,⟨a4,r3⟩,⟨a5,q3⟩⟩,rfl,t5,M2,M3,M4,e2,e3,e4,e5⟩
 by_cases h0:0<n
 ·obtain⟨f1,M1,a1,b1,t1,e1⟩:=aO (many:=8) (by decide) (av (by decide) (by decide)) h;have h0':(0:Int)<n:=by omega
  by_cases hf:0<f1
  ·obtain⟨f2,M2,a2,b2,t2,e2⟩:=aO (many:=(n:Int)) (by omega) (av (by omega) (by omega)) t1;obtain⟨k,rfl⟩:=Int.eq_ofNat_of_zero_le a2;obtain⟨m,M',ok,sm,t',M3,M4,M5,q1,q2,q3,q4⟩:=go (some k) M2 t2 (fun j hj=>by cases hj;omega);refine⟨m,M',ok,t',?_⟩;show aG (br [some (.mr 0),some (.tup (.int w::.int hh::more)),some (.int n),none] M)=_;unfold br;rw[ao (ay rfl)];rw[ao ((mM (lX (bb (ap rfl rfl (su (by omega)))) (bb (ap (bn rfl rfl e1) rfl (su hf))))).trans (ay (bn rfl rfl e2)))];refine(congrArg aG (nL q1 q2 q3 q4)).trans ?_;unfold Mv.d;rw[sm];rfl
  ·obtain⟨m,M',ok,sm,t',M3,M4,M5,q1,q2,q3,q4⟩:=go none M1 t1 (fun j hj=>by cases hj);refine⟨m,M',ok,t',?_⟩;show aG (br [some (.mr 0),some (.tup (.int w::.int hh::more)),some (.int n),none] M)=_;unfold br;rw[ao (ay rfl)];rw[ao ((fo (lX (bb (ap rfl rfl (su (by omega)))) (bb (ap (bn rfl rfl e1) rfl (wI hf))))).trans rfl)];refine(congrArg aG (nL q1 q2 q3 q4)).trans ?_;unfold Mv.d;rw[sm];rfl
 ·have h0':¬(0:Int)<n:=by omega
  obtain⟨m,M',ok,sm,t',M3,M4,M5,q1,q2,q3,q4⟩:=go none M h (fun j hj=>by cases hj);refine⟨m,M',ok,t',?_⟩;show aG (br [some (.mr 0),some (.tup (.int w::.int hh::more)),some (.int n),none] M)=_;unfold br;rw[ao (ay rfl)];rw[ao ((fo (uS (bb (ap rfl rfl (wI h0'))))).trans rfl)];refine(congrArg aG (nL q1 q2 q3 q4)).trans ?_;unfold Mv.d;rw[sm];rfl
theorem kZ {α:Type}{f:α→D}{P:α→Prop}:∀{es:List D},(∀e∈es,∃a,e=f a∧P a)→∃as:List α,es=as.map f∧∀a∈as,P a
 | [],_=>⟨[],rfl,fun _ z=>by cases z⟩
 | e::es,h=>by
  obtain⟨a,ea,pa⟩:=h e (mem_cons_self ..);obtain⟨as,eas,pas⟩:=kZ fun e' he=>h e' (mem_cons_of_mem _ he)
  refine⟨a::as,by rw[ea,eas];rfl,fun b hb=>?_⟩;rcases mem_cons.mp hb with q|q
  ·rw[q];exact pa
  ·exact pas b q
noncomputable def bo (rs:List (List Int)):D:=.tup (rs.map fun r=>D.tup (r.map D.int))
noncomputable def lB (most:Int)(rs:List (List Int)):Prop:=1≤rs.length∧(rs.length:Int)≤most∧∃w:Nat,1≤w∧(w:Int)≤most∧∀r∈rs,r.length=w∧∀k∈r,0≤k∧k≤15
structure BV where
 floor:List (List Int)
 sx:Int
 sy:Int
 book:List (List (List Int))
 movers:List Mv
 pots:List Int
noncomputable def BV.d (s:BV):D:=.tup [bo s.floor,.tup [.int s.sx,.int s.sy],.tup (s.book.map bo),.tup (s.movers.map Mv.d),.tup (s.pots.map D.int)]
structure Bh (most:Int)(s:BV):Prop where
 floor:lB 16 s.floor
 sx:-1000≤s.sx∧s.sx≤1000
 sy:-1000≤s.sy∧s.sy≤1000
 bl:s.book.length≤8
 book:∀b∈s.book,lB 8 b
 ml:(s.movers.length:Int)≤most
 movers:∀m∈s.movers,uM s.book.length m
 pl:s.pots.length=16
 pots:∀k∈s.pots,0≤k∧k≤63
theorem ji {ρ:a9}{M:am}:ag ρ M=.ok [] M:=rfl
theorem wj {xs:List D}{i:Int}{d:D}{M:am}(h:j5 xs i=some d):bi (.lst xs) (.int i) M=.ok d M:=by
 unfold bi bu;dsimp only;rw[h]
theorem sO {l:List Int}{rest M:am}{w hh:Int}{more:List D}{mm:Int}(hw:0≤w∧w≤900)(hh2:0≤hh∧hh≤900)(hm:0≤mm∧mm≤900)(h:bj l rest M) :
  ∃(s:BV) (M':am),Bh mm s∧bj l rest M'∧eE [.mr 0,.tup (.int w::.int hh::more),.int mm] M=.ok s.d M':=by
 obtain⟨fl,fw,M1,f1,f2,f3,f4,f5,t1,e1⟩:=mS (most:=16) (by decide) (by decide) h;obtain⟨sx,M2,a2,t2,e2⟩:=lG (size:=9) (by decide) (by decide) t1;obtain⟨sy,M3,a3,t3,e3⟩:=lG (size:=9) (by decide) (by decide) t2;obtain⟨d4,M4,a4,b4,t4,e4⟩:=aO (many:=4) (by decide) (av (by decide) (by decide)) t3;obtain⟨d5,M5,a5,b5,t5,e5⟩:=aO (many:=9) (by decide) (av (by decide) (by decide)) t4;obtain⟨d6,M6,a6,b6,t6,e6⟩:=aO (many:=4) (by decide) (av (by decide) (by decide)) t5;have pick:∃g,0≤g∧g≤8∧j5 [D.int d4,D.int d5] (d6 / 3)=some (.int g):=by
  have:d6 / 3=0∨d6 / 3=1:=by omega
  rcases this with q|q <;> rw[q]
  ·exact⟨_,by omega,by omega,rfl⟩
  ·exact⟨_,by omega,by omega,rfl⟩
 obtain⟨g,g1,g2,ha⟩:=pick;obtain⟨eb,M7,t7,lb,qb,ee1⟩:=dY (ds0:=aZ 0 g.toNat) (ge:=cY) (ρ:=[some (.mr 0),some (.tup (.int w::.int hh::more)),some (.int mm),some (bo fl),some (.tup [.int sx,.int sy]),some (.int g),none,none])
  (P:=bj l rest) (Q:=fun e=>∃b,e=bo b∧lB 8 b) (aZ 0 g.toNat) (fun d hd M hM=>by
   obtain⟨rs,rw',M1,q1,q2,q3,q4,q5,t1,e1⟩:=mS (most:=8) (by decide) (by decide) hM;exact⟨_,M1,t1,⟨rs,rfl,q1,q2,rw',q3,q4,q5⟩,by simp_arith [cY,e1,bo]⟩) M6 t6
 obtain⟨book,hb,okb⟩:=kZ qb;have lbk:book.length=g.toNat:=by rw[←bc 0 g.toNat,←lb,hb,length_map]
 obtain⟨d8,M8,a8,b8,t8,e8⟩:=aO (many:=mm+1) (by omega) (av (by omega) (by omega)) t7;obtain⟨em,M9,t9,lm,qm,ee2⟩:=dY (ds0:=aZ 0 d8.toNat) (ge:=cZ) (ρ:=[some (.mr 0),some (.tup (.int w::.int hh::more)),some (.int mm),some (bo fl),some (.tup [.int sx,.int sy]),some (.int g),some (.tup (book.map bo)),none])
  (P:=bj l rest) (Q:=fun e=>∃m,e=Mv.d m∧uM book.length m) (aZ 0 d8.toNat) (fun d hd M hM=>by
   obtain⟨m,M1,ok,t1,e1⟩:=rZ (more:=more) (n:=book.length) hw hh2 (by omega) hM;exact⟨_,M1,t1,⟨m,rfl,ok⟩,by simp_arith [cZ,e1]⟩) M8 t8
 obtain⟨movers,hmv,okm⟩:=kZ qm;have lmv:movers.length=d8.toNat:=by rw[←bc 0 d8.toNat,←lm,hmv,length_map]
 obtain⟨ep,M10,t10,lp,qp,ee3⟩:=dY (ds0:=aZ 0 16) (ge:=c5) (ρ:=[some (.mr 0),some (.tup (.int w::.int hh::more)),some (.int mm),some (bo fl),some (.tup [.int sx,.int sy]),some (.int g),some (.tup (book.map bo)),some (.tup (movers.map Mv.d))])
  (P:=bj l rest) (Q:=fun e=>∃k,e=D.int k∧0≤k∧k≤63) (aZ 0 16) (fun d hd M hM=>by
   obtain⟨f1,M1,a1,b1,t1,e1⟩:=aO (many:=64) (by decide) (av (by decide) (by decide)) hM;exact⟨_,M1,t1,⟨f1,rfl,a1,by omega⟩,by simp_arith [c5,e1]⟩) M9 t9
 obtain⟨pots,hp,okp⟩:=kZ qp;have lpt:pots.length=16:=by rw[←bc 0 16,←lp,hp,length_map]
 refine⟨⟨fl,sx,sy,book,movers,pots⟩,M10,⟨⟨f1,f2,fw,f3,f4,f5⟩,a2,a3,?_,okb,?_,okm,lpt,okp⟩,t10,?_⟩
 ·show book.length≤8;omega
 ·show(movers.length:Int)≤mm;omega
 ·rw[hb] at ee1;rw[hmv] at ee2;rw[hp] at ee3;obtain⟨gn,rfl⟩:=Int.eq_ofNat_of_zero_le g1;obtain⟨dn,rfl⟩:=Int.eq_ofNat_of_zero_le a8;rw[Int.toNat_natCast] at ee1 ee2;show aG (dk [some (.mr 0),some (.tup (.int w::.int hh::more)),some (.int mm),none,none,none,none,none] M)=_;unfold dk;rw[ao (ay (bn rfl rfl e1))];rw[ao (ay (bq (aw (bn rfl rfl e2) (aw (bn rfl rfl e3) ji))))];rw[ao (ay (ap (gH (aw (bn rfl rfl e4) (aw (bn rfl rfl e5) ji))) (ap (bn rfl rfl e6) rfl (ig (by decide) (by decide) M6)) (wj ha)))];show aG (ar _ _ [some (.mr 0),some (.tup (.int w::.int hh::more)),some (.int mm),some (bo fl),some (.tup [.int sx,.int sy]),some (.int gn),none,none] M6)=_;rw[ao (ay (iW (F:=bp) (i9 (i6 (n:=gn) (aw (g:=ae 5) rfl ji) (by omega)) ee1 (by rw[length_map];omega)) rfl))];show aG (ar _ _ [some (.mr 0),some (.tup (.int w::.int hh::more)),some (.int mm),some (bo fl),some (.tup [.int sx,.int sy]),some (.int gn),some (.tup (book.map bo)),none] M7)=_;rw[ao (ay (iW (F:=bp) (i9 (i6 (n:=dn) (aw (bn rfl rfl e8) ji) (by omega)) ee2 (by rw[length_map];omega)) rfl))];show aG (aR _ [some (.mr 0),some (.tup (.int w::.int hh::more)),some (.int mm),some (bo fl),some (.tup [.int sx,.int sy]),some (.int gn),some (.tup (book.map bo)),some (.tup (movers.map Mv.d))] M9)=_;refine(congrArg aG (cn (bq (ds:=[bo fl,.tup [.int sx,.int sy],.tup (book.map bo),.tup (movers.map Mv.d),.tup (pots.map D.int)]) (aw rfl (aw rfl (aw rfl (aw rfl (aw (iW (F:=bp) (i9 (i6 (n:=16) (aw (g:=gC (.int 16)) rfl ji) (by decide)) ee3 (by rw[length_map];omega)) rfl) rfl)))))))).trans ?_;rfl
theorem tq {ds0:List D}{s:GG}{body:GS}{W:Nat→a9→am→Prop}:∀(ds:List D) (i:Nat),(∀j d,ds[j]?=some d→∀ρ M,W (i+j) ρ M→∃ρ1 ρ2 M2,s d ρ=some ρ1∧body ρ1 M=.ok (.nx ρ2) M2∧W (i+j+1) ρ2 M2)→∀ρ M,W i ρ M→
  ∃ρ' M',W (i+ds.length) ρ' M'∧bI ⟨ds0,none⟩ s body ds ρ M=.ok (.nx ρ') M'
 | [],i,h,ρ,M,hW=>⟨ρ,M,hW,rfl⟩
 | d::ds,i,h,ρ,M,hW=>by
  obtain⟨ρ1,ρ2,M2,e1,e2,h2⟩:=h 0 d rfl ρ M hW;obtain⟨ρ',M',h3,e3⟩:=tq (ds0:=ds0) (body:=body) (W:=W) ds (i+1) (fun j d' hd ρ M hW=>by
   have e:i+1+j=i+(j+1):=by omega
   rw[e] at hW ⊢;exact h (j+1) d' hd ρ M hW) ρ2 M2 h2
  refine⟨ρ',M',?_,by simp[bI,nr,e1,e2,e3]⟩;have e:i+(d::ds).length=i+1+ds.length:=by simp;omega
  rw[e];exact h3
structure Pt where
 lo:Int
 hi:Int
 at_:Int
 st:Int
deriving DecidableEq
noncomputable def Pt.d (p:Pt):D:=.tup [.int p.lo,.int p.hi,.int p.at_,.int p.st]
structure fT (p:Pt):Prop where
 l:p.lo≤p.at_
 h:p.at_≤p.hi
 w:p.hi≤p.lo+12
noncomputable def dz (p:Pt):Pt:=if p.lo≤p.at_+p.st∧p.at_+p.st≤p.hi then⟨p.lo,p.hi,p.at_+p.st,p.st⟩ else if p.lo≤p.at_-p.st∧p.at_-p.st≤p.hi then⟨p.lo,p.hi,p.at_-p.st,-p.st⟩ else⟨p.lo,p.hi,p.at_,-p.st⟩
noncomputable def aA:Nat→Pt→Pt
 | 0,p=>p
 | n+1,p=>dz (aA n p)
theorem i7 (m n:Nat)(p:Pt):aA (m+n) p=aA m (aA n p):=by
 induction m with
 | zero=>rw[Nat.zero_add];rfl
 | succ m ih=>rw[show m+1+n=(m+n)+1 by omega];show dz (aA (m+n) p)=dz (aA m (aA n p));rw[ih]
theorem vT {p:Pt}(h:fT p):fT (dz p)∧(dz p).lo=p.lo∧(dz p).hi=p.hi∧((dz p).st=p.st∨(dz p).st=-p.st):=by
 unfold dz
 by_cases a:p.lo≤p.at_+p.st∧p.at_+p.st≤p.hi
 ·rw[if_pos a];exact⟨⟨a.1,a.2,h.w⟩,rfl,rfl,.inl rfl⟩
 ·rw[if_neg a]
  by_cases b:p.lo≤p.at_-p.st∧p.at_-p.st≤p.hi
  ·rw[if_pos b];exact⟨⟨b.1,b.2,h.w⟩,rfl,rfl,.inr rfl⟩
  ·rw[if_neg b];exact⟨⟨h.l,h.h,h.w⟩,rfl,rfl,.inr rfl⟩
theorem jr {p:Pt}(h:fT p):∀n,fT (aA n p)∧(aA n p).lo=p.lo∧(aA n p).hi=p.hi∧((aA n p).st=p.st∨(aA n p).st=-p.st)
 | 0=>⟨h,rfl,rfl,.inl rfl⟩
 | n+1=>by
  obtain⟨a,b,c,d⟩:=jr h n;obtain⟨a2,b2,c2,d2⟩:=vT a;refine⟨a2,b2.trans b,c2.trans c,?_⟩;show(dz (aA n p)).st=p.st∨(dz (aA n p)).st=-p.st;rcases d with d|d <;> rcases d2 with e|e <;> rw[e,d]
  ·exact .inl rfl
  ·exact .inr rfl
  ·exact .inr rfl
  ·exact .inl (Int.neg_neg _)
noncomputable def uJ (p q:Pt):Nat:=(q.at_-p.lo).toNat*2+if q.st=p.st then 0 else 1
theorem zl {p:Pt}(h:fT p)(n:Nat):uJ p (aA n p)<26:=by
 obtain⟨a,b,c,_⟩:=jr h n;have:=a.l;have:=a.h;have:=a.w;unfold uJ;rw[b] at *;split <;> omega
theorem oN {p:Pt}(h:fT p){m n:Nat}(e:uJ p (aA m p)=uJ p (aA n p)):aA m p=aA n p:=by
 obtain⟨a,b,c,d⟩:=jr h m;obtain⟨a2,b2,c2,d2⟩:=jr h n;have l1:=a.l;have l2:=a2.l;rw[b] at l1;rw[b2] at l2;unfold uJ at e;have ea:(aA m p).at_=(aA n p).at_:=by split at e <;> split at e <;> omega
 have es:(aA m p).st=(aA n p).st:=by
  split at e <;> split at e
  ·rename_i x y;rw[x,y]
  ·omega
  ·omega
  ·rename_i x y;rcases d with d|d
   ·exact absurd d x
   ·rcases d2 with q|q
    ·exact absurd q y
    ·rw[d,q]
 cases hm:aA m p with
 | mk _ _ _ _=>
  cases hn:aA n p with
  | mk _ _ _ _=>
   rw[hm] at b c ea es;rw[hn] at b2 c2 ea es;have x1:=b.trans b2.symm;have x2:=c.trans c2.symm;dsimp only at x1 x2 ea es;rw[x1,x2,ea,es]
theorem nK {p:Pt}(h:fT p):∃n j,j<n∧n≤26∧aA n p=aA j p:=by
 refine Classical.byContradiction fun z=>?_
 have inj:∀i j,i<27→j<27→i≠j→uJ p (aA i p)≠uJ p (aA j p):=fun i j hi hj ne e=>by
  rcases Nat.lt_or_gt_of_ne ne with lt|lt
  ·exact z ⟨j,i,lt,by omega,(oN h e).symm⟩
  ·exact z ⟨i,j,lt,by omega,oN h e⟩
 have nd:((List.range 27).map fun i=>uJ p (aA i p)).Nodup:=by
  rw[List.nodup_iff_pairwise_ne,pairwise_map];exact List.nodup_range.imp_of_mem fun {a b} ha hb ne=>inj a b (mem_range.mp ha) (mem_range.mp hb) ne
 have sub:∀x∈(List.range 27).map (fun i=>uJ p (aA i p)),x∈List.range 26:=fun x hx=>by
  obtain⟨i,_,rfl⟩:=mem_map.mp hx;exact mem_range.mpr (zl h i)
 have le:=nd.length_le_of_subset sub;rw[length_map,length_range,length_range] at le;omega
structure js (p:Pt)(n j:Nat):Prop where
 lt:j<n
 le:n≤26
 e:aA n p=aA j p
 new:∀i k,i<k→k<n→aA k p≠aA i p
theorem rK {p:Pt}(h:fT p):∃n j,js p n j:=by
 obtain⟨m,j0,hj,hm,e0⟩:=nK h;have:∀b,(∃n j,j<n∧n≤b∧aA n p=aA j p)→b≤26→∃n j,js p n j:=by
  intro b
  induction b with
  | zero=>intro⟨n,j,a,c,_⟩ _;omega
  | succ b ih=>
   intro⟨n,j,a,c,e⟩ hb
   by_cases q:∃n j,j<n∧n≤b∧aA n p=aA j p
   ·exact ih q (by omega)
   ·refine⟨n,j,a,by omega,e,fun i k hik hk z=>q ⟨k,i,hik,by omega,z⟩⟩
 exact this 26 ⟨m,j0,hj,hm,e0⟩ (Nat.le_refl _)
theorem qy {p:Pt}{n j:Nat}(o:js p n j)(i:Nat):aA (j+(n-j)+i) p=aA (j+i) p:=by
 have e:=o.lt;rw[show j+(n-j)+i=i+n by omega,i7,o.e,←i7,Nat.add_comm]
theorem fN {p:Pt}{n j:Nat}(o:js p n j)(i:Nat):∀k,aA (j+(n-j)*k+i) p=aA (j+i) p
 | 0=>by rw[Nat.mul_zero,Nat.add_zero]
 | k+1=>by
  have:=qy o ((n-j)*k+i);rw[Nat.mul_succ,show j+((n-j)*k+(n-j))+i=j+(n-j)+((n-j)*k+i) by omega,this,←Nat.add_assoc];exact fN o i k
theorem yh {p:Pt}{n j m:Nat}(o:js p n j)(h:n≤m):aA (j+(m-j) % (n-j)) p=aA m p:=by
 have l:=o.lt;have e:=Nat.div_add_mod (m-j) (n-j);have:=fN o ((m-j) % (n-j)) ((m-j) / (n-j));rw[←this,Nat.add_assoc,e,show j+(m-j)=m by omega]
theorem iC {g:GE}{ρ:a9}{M:am}{d:D}(h:g ρ M=.ok d M):aG (aR g ρ M)=.ok d M:=by rw[cn h];rfl
theorem kP {a b c:GE}{ρ:a9}{M:am}{x y z:Int}(ha:a ρ M=.ok (.int x) M)(hb:b ρ M=.ok (.int y) M)(hc:c ρ M=.ok (.int z) M):ph oo oo a b c ρ M=.ok (.bl (decide (x≤y)&&decide (y≤z))) M:=by
 unfold ph;rw[ha,ai,hb,ai];show(aF.ok (D.bl (decide (x≤y))) M).bind _=_;rw[ai]
 by_cases q:x≤y
 ·rw[decide_eq_true q];dsimp only;rw[hc,ai];rfl
 ·rw[decide_eq_false q];rfl
theorem ja {ds0:List D}{sg:GG}{b:GS}{d:D}{ds:List D}{ρ ρ1 ρ2:a9}{M M1:am}(h1:sg d ρ=some ρ1)(h2:b ρ1 M=.ok (.nx ρ2) M1):bI ⟨ds0,none⟩ sg b (d::ds) ρ M=bI ⟨ds0,none⟩ sg b ds ρ2 M1:=by
 show(match sg d ρ with|none=>aF.bad|some ρ1=>(b ρ1 M).bind fun f M1=>match f with | .nx ρ2=>bI ⟨ds0,none⟩ sg b ds ρ2 M1 | .ct ρ2=>bI ⟨ds0,none⟩ sg b ds ρ2 M1 | .bk ρ2=>.ok (.nx ρ2) M1 | .rt d=>.ok (.rt d) M1)=_;rw[h1];dsimp only;rw[h2,ai]
theorem ow {ds0:List D}{sg:GG}{b:GS}{d r:D}{ds:List D}{ρ ρ1:a9}{M M1:am}(h1:sg d ρ=some ρ1)(h2:b ρ1 M=.ok (.rt r) M1):bI ⟨ds0,none⟩ sg b (d::ds) ρ M=.ok (.rt r) M1:=by
 show(match sg d ρ with|none=>aF.bad|some ρ1=>(b ρ1 M).bind fun f M1=>match f with | .nx ρ2=>bI ⟨ds0,none⟩ sg b ds ρ2 M1 | .ct ρ2=>bI ⟨ds0,none⟩ sg b ds ρ2 M1 | .bk ρ2=>.ok (.nx ρ2) M1 | .rt d=>.ok (.rt d) M1)=_;rw[h1];dsimp only;rw[h2,ai]
theorem Bu (a b c:Int):(decide (a≤b)&&decide (b≤c))=decide (a≤b∧b≤c):=(Bool.decide_and ..).symm
theorem p9 (p:Pt)(M:am):dS [p.d] M=.ok (dz p).d M:=by
 show aG (c6 [some p.d,none,none,none,none] M)=_;have k1:cR (cp [1,2,3,4]) (ae 0) [some p.d,none,none,none,none] M=.ok (.nx [some p.d,some (.int p.lo),some (.int p.hi),some (.int p.at_),some (.int p.st)]) M:=rfl;unfold c6;rw[ao k1];have t1:=bb (kP (a:=ae 1) (b:=g2 aV (ae 3) (ae 4)) (c:=ae 2) (ρ:=[some p.d,some (.int p.lo),some (.int p.hi),some (.int p.at_),some (.int p.st)]) (M:=M) (x:=p.lo) (y:=p.at_+p.st) (z:=p.hi) rfl rfl rfl);have t2:=bb (kP (a:=ae 1) (b:=g2 bN (ae 3) (ae 4)) (c:=ae 2) (ρ:=[some p.d,some (.int p.lo),some (.int p.hi),some (.int p.at_),some (.int p.st)]) (M:=M) (x:=p.lo) (y:=p.at_-p.st) (z:=p.hi) rfl rfl rfl);rw[Bu] at t1 t2;unfold dz
 by_cases a:p.lo≤p.at_+p.st∧p.at_+p.st≤p.hi
 ·rw[decide_eq_true a] at t1;rw[if_pos a,mD ((mM t1).trans (cn (bq (ds:=[.int p.lo,.int p.hi,.int (p.at_+p.st),.int p.st]) rfl)))];rfl
 ·rw[decide_eq_false a] at t1;rw[if_neg a,ao ((fo t1).trans rfl)]
  by_cases b:p.lo≤p.at_-p.st∧p.at_-p.st≤p.hi
  ·rw[decide_eq_true b] at t2;rw[if_pos b,mD ((mM t2).trans (cn (bq (ds:=[.int p.lo,.int p.hi,.int (p.at_-p.st),.int (-p.st)]) rfl)))];rfl
  ·rw[decide_eq_false b] at t2;rw[if_neg b,ao ((fo t2).trans rfl)];exact iC (bq (ds:=[.int p.lo,.int p.hi,.int p.at_,.int (-p.st)]) rfl)
theorem Bt (p:Pt)(M:am):bh [p.d] M=.ok (dz p).d M:=by
 show aG (cN [some p.d,none,none,none,none,none] M)=_;have k1:cR (cp [1,2,3,4]) (ae 0) [some p.d,none,none,none,none,none] M=.ok (.nx [some p.d,some (.int p.lo),some (.int p.hi),some (.int p.at_),some (.int p.st),none]) M:=rfl;unfold cN;rw[ao k1];have kb:∀(v:Int),cx [some p.d,some (.int p.lo),some (.int p.hi),some (.int p.at_),some (.int p.st),some (.int v)] M=if p.lo≤p.at_+v∧p.at_+v≤p.hi then .ok (.rt (.tup [.int p.lo,.int p.hi,.int (p.at_+v),.int v])) M else .ok (.nx [some p.d,some (.int p.lo),some (.int p.hi),some (.int p.at_),some (.int p.st),some (.int v)]) M:=fun v=>by
  have t1:=bb (kP (a:=ae 1) (b:=g2 aV (ae 3) (ae 5)) (c:=ae 2) (ρ:=[some p.d,some (.int p.lo),some (.int p.hi),some (.int p.at_),some (.int p.st),some (.int v)]) (M:=M) (x:=p.lo) (y:=p.at_+v) (z:=p.hi) rfl rfl rfl);rw[Bu] at t1;unfold cx
  by_cases a:p.lo≤p.at_+v∧p.at_+v≤p.hi
  ·rw[decide_eq_true a] at t1;rw[if_pos a];exact(mM t1).trans (cn (bq (ds:=[.int p.lo,.int p.hi,.int (p.at_+v),.int v]) rfl))
  ·rw[decide_eq_false a] at t1;rw[if_neg a];exact(fo t1).trans rfl
 have its:bO (d7 (aa (ae 4) (aa (g2 bN (gC (.int 0)) (ae 4)) ag))) [some p.d,some (.int p.lo),some (.int p.hi),some (.int p.at_),some (.int p.st),none] M=.ok ⟨[.int p.st,.int (0-p.st)],none⟩ M:=by
  unfold bO;rw[gH (ds:=[.int p.st,.int (0-p.st)]) rfl,ai];rfl
 have e0:p.at_+(0-p.st)=p.at_-p.st:=by omega
 have e1:(0:Int)-p.st=-p.st:=by omega
 unfold dz
 by_cases a:p.lo≤p.at_+p.st∧p.at_+p.st≤p.hi
 ·have k:=kb p.st;rw[if_pos a] at k;rw[if_pos a,mD (eJ its (ow rfl k))];rfl
 ·have k:=kb p.st;rw[if_neg a] at k;have k2:=kb (0-p.st);rw[e0] at k2;rw[if_neg a]
  by_cases b:p.lo≤p.at_-p.st∧p.at_-p.st≤p.hi
  ·rw[if_pos b] at k2;rw[if_pos b,mD (eJ its ((ja rfl k).trans (ow rfl k2))),e1];rfl
  ·rw[if_neg b] at k2;rw[if_neg b,ao (eJ its ((ja rfl k).trans ((ja rfl k2).trans rfl)))];refine(iC (bq (ds:=[.int p.lo,.int p.hi,.int p.at_,.int (0-p.st)]) rfl)).trans ?_;rw[e1];rfl
noncomputable def Pt.k (p:Pt):List bF:=[.inl p.lo,.inl p.hi,.inl p.at_,.inl p.st]
theorem Bd {p q:Pt}(h:p.k=q.k):p=q:=by
 cases p;cases q;unfold Pt.k at h;simp only[List.cons.injEq,Sum.inl.injEq,and_true] at h;obtain⟨a,b,c,d⟩:=h;rw[a,b,c,d]
theorem C4 (p:Pt):jE p.d=some p.k:=rfl
noncomputable def ir (p:Pt)(i:Nat):List (List bF×D):=(List.range i).map fun k=>((aA k p).k,D.int k)
theorem mY (p:Pt)(i:Nat):ir p (i+1)=ir p i++[((aA i p).k,D.int i)]:=by
 unfold ir;rw[range_succ,map_append];rfl
theorem vS (p:Pt)(i:Nat):(ir p i).length=i:=by unfold ir;rw[length_map,length_range]
theorem ju {p q:Pt}{i:Nat}(h:∀k,k<i→aA k p≠q):cX (ir p i) q.k=none:=by
 unfold cX;rw[List.find?_eq_none.mpr fun x hx=>?_];rfl;obtain⟨k,hk,rfl⟩:=mem_map.mp hx;simp only[decide_eq_true_eq];exact fun z=>h k (mem_range.mp hk) (Bd z)
theorem rV {kvs:List (List bF×D)}{k q:List bF}{d:D}:cX (kvs++[(k,d)]) q=(cX kvs q).or (if k=q then some d else none):=by
 unfold cX;rw[List.find?_append];cases kvs.find? fun kv=>decide (kv.1=q) with
 | some x=>rfl
 | none=>
  rw[find?_cons]
  by_cases h:k=q
  ·rw[if_pos h];simp[h]
  ·rw[if_neg h];simp[h]
theorem jA {p:Pt}{j:Nat}(h:∀k,k<j→aA k p≠aA j p):∀{i:Nat},j<i→cX (ir p i) (aA j p).k=some (.int j)
 | 0,hj=>absurd hj (Nat.not_lt_zero _)
 | i+1,hj=>by
  rw[mY,rV]
  by_cases q:j<i
  ·rw[jA h q];rfl
  ·have e:i=j:=by omega
   subst e;rw[ju h,if_pos rfl];rfl
theorem sK (M:am)(kvs:List (List bF×D)):(M++[MO.dT kvs])[M.length]?=some (.dT kvs):=by simp
theorem jw {α:Type}{f:Nat→List (List bF×D)→List bF→am→aF α}{M:am}{kvs:List (List bF×D)}{q:Pt}:et f (.mr M.length) q.d (M++[MO.dT kvs])=f M.length kvs q.k (M++[MO.dT kvs]):=by
 unfold et;dsimp only;rw[sK];dsimp only;rw[C4]
theorem vB {M:am}{kvs:List (List bF×D)}:pG [.mr M.length] (M++[MO.dT kvs])=.ok (.int kvs.length) (M++[MO.dT kvs]):=by
 unfold pG iV;dsimp only;rw[sK]
theorem re {M:am}{kvs:List (List bF×D)}:kF [.mr M.length] (M++[MO.dT kvs])=.ok (.lst (kvs.map fun p=>.tup (p.1.map nM))) (M++[MO.dT kvs]):=by
 unfold kF iV;dsimp only;rw[sK]
theorem tM {p:Pt}{M:am}{i:Nat}(hi:i≤1000)(h:∀k,k<i→aA k p≠aA i p):dt [some (aA i p).d,some (.mr M.length)] (M++[.dT (ir p i)])=.ok (.nx [some (aA (i+1) p).d,some (.mr M.length)]) (M++[.dT (ir p (i+1))]):=by
 unfold dt;have k1:j7 (ae 1) (ae 0) (aL pG (aa (ae 1) ag)) [some (aA i p).d,some (.mr M.length)] (M++[.dT (ir p i)])=.ok (.nx [some (aA i p).d,some (.mr M.length)]) (M++[.dT (ir p (i+1))]):=by
  unfold j7;rw[iW (F:=pG) (a:=ae 1) (x:=.mr M.length) (M1:=M++[.dT (ir p i)]) rfl vB,ai];rw[show ae 1 [some (aA i p).d,some (.mr M.length)] (M++[.dT (ir p i)])=.ok (.mr M.length) (M++[.dT (ir p i)]) from rfl,ai];rw[show ae 0 [some (aA i p).d,some (.mr M.length)] (M++[.dT (ir p i)])=.ok (aA i p).d (M++[.dT (ir p i)]) from rfl,ai];unfold wO;rw[jw,ju h,vS];dsimp only;rw[if_pos (Nat.lt_of_le_of_lt hi (by rw[sizeLine_eq];decide)),ai,mY];simp
 rw[ao k1];exact ay (gT (a:=ae 0) (x:=(aA i p).d) rfl (p9 (aA i p) _))
theorem l5 {p:Pt}{M:am}{i:Nat}{q:Pt}{b:Bool}(h:(cX (ir p i) q.k).isSome=!b):dZ [some q.d,some (.mr M.length)] (M++[.dT (ir p i)])=.ok b (M++[.dT (ir p i)]):=by
 refine bb (ap (f:=zI true) (a:=ae 0) (b:=ae 1) (x:=q.d) (y:=.mr M.length) rfl rfl ?_);unfold zI;rw[jw,h];cases b <;> rfl
theorem tm {p:Pt}{M:am}{n j:Nat}(o:js p n j):∀(r i:Nat),i+r=n→bT dZ dt (100-i) [some (aA i p).d,some (.mr M.length)] (M++[.dT (ir p i)])=.ok (.nx [some (aA n p).d,some (.mr M.length)]) (M++[.dT (ir p n)])
 | 0,i,e=>by
  have le:=o.le;have e:i=n:=by omega
  subst e;rw[show 100-i=(99-i)+1 by omega];refine eO (l5 ?_);rw[o.e,jA (fun k hk z=>o.new k j hk o.lt z.symm) o.lt];rfl
 | r+1,i,e=>by
  have le:=o.le;rw[show 100-i=(99-i)+1 by omega];have new:∀k,k<i→aA k p≠aA i p:=fun k hk z=>o.new k i hk (by omega) z.symm
  refine(hV (l5 (b:=true) ?_) (tM (by omega) new)).trans ?_
  ·rw[ju new];rfl
  ·rw[show 99-i=100-(i+1) by omega];exact tm o r (i+1) (by omega)
noncomputable def aM (p:Pt)(n:Nat):List D:=(List.range n).map fun k=>(aA k p).d
theorem oX (p:Pt)(n m:Nat):(aM p n).all (az (m+2))=true:=all_eq_true.mpr fun x hx=>by
 obtain⟨k,_,rfl⟩:=mem_map.mp hx;rfl
theorem mP {p:Pt}{M:am}{n j:Nat}(o:js p n j)(hM:eY M):en [p.d] M=.ok (.tup [.lst (aM p n),.int j]) M:=by
 show iU M.length (aG (fe [some p.d,none] M))=_;unfold fe;have k1:aB 1 mV [some p.d,none] M=.ok (.nx [some p.d,some (.mr M.length)]) (M++[.dT (ir p 0)]):=rfl;have k2:dX 100 dZ dt [some p.d,some (.mr M.length)] (M++[.dT (ir p 0)])=.ok (.nx [some (aA n p).d,some (.mr M.length)]) (M++[.dT (ir p n)]):=tm (M:=M) o n 0 (Nat.zero_add _);have el:(ir p n).map (fun q=>D.tup (q.1.map nM))=aM p n:=by
  unfold ir aM;rw[map_map];rfl
 have k3:aR (aK (aa (aL kF (aa (ae 1) ag)) (aa (g2 l7 (ae 1) (ae 0)) ag))) [some (aA n p).d,some (.mr M.length)] (M++[.dT (ir p n)])=.ok (.rt (.tup [.lst (aM p n),.int j])) (M++[.dT (ir p n)]):=by
  refine cn (bq (ds:=[.lst (aM p n),.int j]) (aw (iW (F:=kF) (a:=ae 1) (x:=.mr M.length) rfl (by rw[re,el])) (aw (ap (f:=l7) (a:=ae 1) (b:=ae 0) (x:=.mr M.length) (y:=(aA n p).d) rfl rfl ?_) rfl)));unfold l7;rw[jw,o.e,jA (fun k hk z=>o.new k j hk o.lt z.symm) o.lt]
 rw[ao k1,ao k2,k3];refine kU ?_ hM;show((aM p n).all (az 28)&&([D.int j].all (az 29)))=true;rw[oX];rfl
theorem i3 {p:Pt}{n m:Nat}(h:m<n):(aM p n)[m]?=some (aA m p).d:=by
 unfold aM;rw[getElem?_map,getElem?_range h];rfl
theorem fE (p:Pt)(n:Nat):(aM p n).length=n:=by unfold aM;rw[length_map,length_range]
theorem sM {p:Pt}{M N:am}{n j m:Nat}{l i:Nat}{ρ:a9}(o:js p n j)(hm:ρ[1]?=some (some (.int m)))(hj:ρ[i]?=some (some (.int j)))(hl:∀k:Nat,k<n→g2 bi (ae l) (gC (.int k)) ρ N=.ok (aA k p).d N)
  (hv:∀k:Nat,k<n→∀x,x ρ N=.ok (.int k) N→g2 bi (ae l) x ρ N=.ok (aA k p).d N) (hn:aL cT (aa (ae l) ag) ρ N=.ok (.int n) N) :
  ar (gG (aY (g2 m6 (ae 1) (aL cT (aa (ae l) ag)))) (aR (g2 bi (ae l) (ae 1))) bG) (aR (g2 bi (ae l) (g2 aV (ae i) (g2 cH (g2 bN (ae 1) (ae i)) (g2 bN (aL cT (aa (ae l) ag)) (ae i)))))) ρ N=.ok (.rt (aA m p).d) N:=by
 have v1:ae 1 ρ N=.ok (.int m) N:=by unfold ae;rw[hm]
 have vi:ae i ρ N=.ok (.int j) N:=by unfold ae;rw[hj]
 have t1:aY (g2 m6 (ae 1) (aL cT (aa (ae l) ag))) ρ N=.ok (decide ((m:Int)<n)) N:=bb (ap (f:=m6) v1 hn rfl)
 by_cases h:m<n
 ·rw[decide_eq_true (by omega)] at t1;exact mD ((mM t1).trans (cn (hv m h _ v1)))
 ·rw[decide_eq_false (by omega)] at t1;rw[ao ((fo t1).trans rfl)];have lt:=o.lt;have hk:j+(m-j) % (n-j)<n:=by
   have:=Nat.mod_lt (m-j) (show 0<n-j by omega);omega
  refine(cn (hv (j+(m-j) % (n-j)) hk _ (ap (f:=aV) vi (ap (f:=cH) (ap (f:=bN) v1 vi rfl) (ap (f:=bN) hn vi rfl) (eQ (by omega) N)) ?_))).trans ?_
  ·show aF.ok (D.int ((j:Int)+((m:Int)-j) % ((n:Int)-j))) N=_;rw[show(m:Int)-j=((m-j:Nat):Int) by omega,show(n:Int)-j=((n-j:Nat):Int) by omega,←Int.natCast_emod,←Int.natCast_add]
  ·rw[yh o (by omega)]
theorem wo {p:Pt}{M:am}{m:Nat}(h:fT p)(hM:eY M):fI [p.d,.int m] M=.ok (aA m p).d M:=by
 obtain⟨n,j,o⟩:=rK h;show aG (fJ [some p.d,some (.int m),none,none] M)=_;unfold fJ;have k1:cR (cp [2,3]) (ak 1 en (aa (ae 0) ag)) [some p.d,some (.int m),none,none] M=.ok (.nx [some p.d,some (.int m),some (.lst (aM p n)),some (.int j)]) M:=by
  unfold cR;rw[gT (a:=ae 0) (x:=p.d) rfl (mP o hM),ai];rfl
 rw[ao k1,sM (l:=2) (i:=3) (M:=M) o rfl rfl (fun k hk=>ap (f:=bi) (a:=ae 2) (b:=gC (.int k)) (x:=.lst (aM p n)) (y:=.int k) rfl rfl (gw (i3 hk))) (fun k hk x hx=>ap (f:=bi) (a:=ae 2) (x:=.lst (aM p n)) rfl hx (gw (i3 hk))) (iW (F:=cT) (a:=ae 2) (x:=.lst (aM p n)) rfl (by show aF.ok (D.int ((aM p n).length:Int)) M=_;rw[fE]))];rfl
theorem nT (p:Pt):p.d=.tup ([p.lo,p.hi,p.at_,p.st].map D.int):=rfl
theorem kl (p q:Pt):eW p.d q.d=decide (p=q):=by
 rw[nT,nT];show dL _ _=_;rw[kH];refine decide_eq_decide.mpr ⟨fun h=>?_,fun h=>by rw[h]⟩;simp only[List.cons.injEq,and_true] at h;obtain⟨a,b,c,d⟩:=h;cases p;cases q;dsimp only at a b c d;rw[a,b,c,d]
theorem sB (p:Pt):au 40 p.d=true:=rfl
theorem oz (p:Pt)(n:Nat):(aM p n).all (au 40)=true:=all_eq_true.mpr fun x hx=>by
 obtain⟨k,_,rfl⟩:=mem_map.mp hx;rfl
theorem tY {p q:Pt}{n:Nat}{b:Bool}(h:(∃k,k<n∧aA k p=q)↔b=true):((aM p n).any fun y=>eW y q.d)=b:=by
 rw[Bool.eq_iff_iff,←h,List.any_eq_true];constructor
 ·intro⟨x,hx,e⟩;obtain⟨k,hk,rfl⟩:=mem_map.mp hx;rw[kl,decide_eq_true_eq] at e;exact⟨k,mem_range.mp hk,e⟩
 ·intro⟨k,hk,e⟩;exact⟨_,mem_map.mpr ⟨k,mem_range.mpr hk,rfl⟩,by rw[kl,decide_eq_true_eq];exact e⟩
theorem uh {p:Pt}{j:Nat}(h:∀k,k<j→aA k p≠aA j p){n:Nat}(hn:j<n):(aM p n).findIdx? (fun y=>eW y (aA j p).d)=some j:=by
 rw[findIdx?_eq_some_iff_getElem];refine⟨by rw[fE];exact hn,?_,fun k hk=>?_⟩
 ·have:=i3 (p:=p) hn;rw[List.getElem?_eq_some_iff] at this;obtain⟨_,e⟩:=this;rw[e,kl,decide_eq_true rfl]
 ·have:=i3 (p:=p) (Nat.lt_trans hk hn);rw[List.getElem?_eq_some_iff] at this;obtain⟨_,e⟩:=this;rw[e,kl,decide_eq_false (h k hk)];exact Bool.false_ne_true
theorem kE (p:Pt)(i:Nat):aM p (i+1)=aM p i++[(aA i p).d]:=by
 unfold aM;rw[range_succ,map_append];rfl
theorem qE {p:Pt}{M:am}{i:Nat}{x0 x2:Option D}:g2 bi (ae 1) (eX (gC (.int 1))) [x0,some (.mr M.length),x2] (M++[.lst (aM p (i+1))])=.ok (aA i p).d (M++[.lst (aM p (i+1))]):=by
 refine ap (f:=bi) (a:=ae 1) (b:=eX (gC (.int 1))) (x:=.mr M.length) (y:=.int (-1)) rfl rfl ?_;show(match (match (M++[MO.lst (aM p (i+1))])[M.length]? with|some (.lst xs)=>some xs|_=>none),D.int (-1) with|some xs,.int z=>(match j5 xs z with|some d=>aF.ok d (M++[MO.lst (aM p (i+1))])|none=>.bad)|_,_=>.bad)=_;rw[kM];dsimp only;rw[kE,vY]
theorem lT {p:Pt}{M:am}{i:Nat}{x0 x2:Option D}:ak 1 bh (aa (g2 bi (ae 1) (eX (gC (.int 1)))) ag) [x0,some (.mr M.length),x2] (M++[.lst (aM p (i+1))])=.ok (aA (i+1) p).d (M++[.lst (aM p (i+1))]):=gT qE (Bt _ _)
theorem kD {p:Pt}{M:am}{i:Nat}{x0 x2:Option D}{b:Bool}(h:(∃k,k<i+1∧aA k p=aA (i+1) p)↔b=false):b9 [x0,some (.mr M.length),x2] (M++[.lst (aM p (i+1))])=.ok b (M++[.lst (aM p (i+1))]):=by
 refine bb (ap (f:=zE true) (b:=ae 1) lT rfl ?_);show(match (match (M++[MO.lst (aM p (i+1))])[M.length]? with|some (.lst xs)=>some xs|_=>none) with|some xs=>if(au 40 (aA (i+1) p).d&&xs.all (au 40))=true then aF.ok (D.bl ((xs.any fun y=>eW y (aA (i+1) p).d) != true)) (M++[MO.lst (aM p (i+1))]) else .bad|none=>.bad)=_;rw[kM];dsimp only;rw[oz,sB,if_pos (by rfl),tY (b:=!b) (by rw[h];cases b <;> simp)];cases b <;> rfl
theorem oZ {p:Pt}{M:am}{i:Nat}{x0 x2:Option D}(hi:i≤1000):cb [x0,some (.mr M.length),x2] (M++[.lst (aM p (i+1))])=.ok (.nx [x0,some (.mr M.length),x2]) (M++[.lst (aM p (i+2))]):=by
 refine(lr (yU (go:=ae 1) (M:=M) (E:=aM p (i+1)) rfl lT (by rw[fE];omega))).trans ?_;rw[←kE]
theorem oO {p:Pt}{M:am}{n j:Nat}{x0 x2:Option D}(o:js p n j):∀(r i:Nat),i+1+r=n→bT b9 cb (100-i) [x0,some (.mr M.length),x2] (M++[.lst (aM p (i+1))])=.ok (.nx [x0,some (.mr M.length),x2]) (M++[.lst (aM p n)])
 | 0,i,e=>by
  have le:=o.le;have e:n=i+1:=by omega
  subst e;rw[show 100-i=(99-i)+1 by omega];exact eO (kD (b:=false) ⟨fun _=>rfl,fun _=>⟨j,o.lt,o.e.symm⟩⟩)
 | r+1,i,e=>by
  have le:=o.le;rw[show 100-i=(99-i)+1 by omega];refine(hV (kD (b:=true) ⟨fun⟨k,hk,z⟩=>absurd z.symm (o.new k (i+1) hk (by omega)),fun z=>by cases z⟩) (oZ (by omega))).trans ?_;rw[show 99-i=100-(i+1) by omega];exact oO o r (i+1) (by omega)
theorem pj {p:Pt}{M:am}{n j:Nat}(o:js p n j)(hM:eY M):cr [p.d] M=.ok (.tup [.int j,.int ((n-j:Nat):Int)]) M:=by
 obtain⟨n,rfl⟩:∃n',n=n'+1:=⟨n-1,by have:=o.lt;omega⟩;have lt:=o.lt;show iU M.length (aG (cu [some p.d,none,none] M))=_;unfold cu;have k1:aB 1 (fU (aa (ae 0) ag)) [some p.d,none,none] M=.ok (.nx [some p.d,some (.mr M.length),none]) (M++[.lst (aM p 1)]):=by
  refine ay ?_;unfold fU;rw[aw (d:=p.d) (M1:=M) (ds:=[]) (M2:=M) rfl rfl,ai];exact if_pos (bB (show 1≤1000000 by decide))
 have k2:dX 100 b9 cb [some p.d,some (.mr M.length),none] (M++[.lst (aM p 1)])=.ok (.nx [some p.d,some (.mr M.length),none]) (M++[.lst (aM p (n+1))]):=oO o n 0 (by omega);have lo:fA (.mr M.length) (M++[MO.lst (aM p (n+1))])=some (aM p (n+1)):=by
  show(match (M++[MO.lst (aM p (n+1))])[M.length]? with|some (.lst xs)=>some xs|_=>none)=_;rw[kM]
 have k3:aB 2 (fY gq (ae 1) (ak 1 bh (aa (g2 bi (ae 1) (eX (gC (.int 1)))) ag))) [some p.d,some (.mr M.length),none] (M++[.lst (aM p (n+1))])=.ok (.nx [some p.d,some (.mr M.length),some (.int j)]) (M++[.lst (aM p (n+1))]):=by
  refine ay ?_;unfold fY;rw[show ae 1 [some p.d,some (.mr M.length),none] (M++[MO.lst (aM p (n+1))])=.ok (.mr M.length) (M++[MO.lst (aM p (n+1))]) from rfl,ai,lo];dsimp only;rw[lT,ai,lo];dsimp only;unfold gq;rw[oz,sB,if_pos (by rfl),o.e,uh (fun k hk z=>o.new k j hk o.lt z.symm) o.lt]
 have k4:aR (aK (aa (ae 2) (aa (g2 bN (aL cT (aa (ae 1) ag)) (ae 2)) ag))) [some p.d,some (.mr M.length),some (.int j)] (M++[.lst (aM p (n+1))])=.ok (.rt (.tup [.int j,.int ((n+1-j:Nat):Int)])) (M++[.lst (aM p (n+1))]):=by
  refine cn (bq (ds:=[.int j,.int ((n+1-j:Nat):Int)]) (aw (d:=.int j) rfl (aw (ap (f:=bN) (M1:=M++[.lst (aM p (n+1))]) (M2:=M++[.lst (aM p (n+1))]) (x:=.int ((n+1:Nat):Int)) (y:=.int j) (iW (F:=cT) (a:=ae 1) (x:=.mr M.length) (M1:=M++[.lst (aM p (n+1))]) rfl ?_) rfl ?_) rfl)))
  ·show(match (match (M++[MO.lst (aM p (n+1))])[M.length]? with|some (.lst xs)=>some xs|_=>none) with|some xs=>aF.ok (D.int (xs.length:Int)) (M++[MO.lst (aM p (n+1))])|none=>.bad)=_;rw[kM];dsimp only;rw[fE]
  ·show aF.ok (D.int (((n+1:Nat):Int)-(j:Int))) _=_;rw[←Int.ofNat_sub (by omega)]
 rw[ao k1,ao k2,ao k3,k4];exact kU rfl hM
structure aN where
 sh:D
 x:Int
 y:Int
 rk:D
 tn:D
 pr:Option (Pt×Pt)
noncomputable def aN.m (i:aN):D:=.tup [i.sh,.int i.x,.int i.y,i.rk,i.tn]
noncomputable def cS:Option (Pt×Pt)→D
 | none=>.non
 | some (a,b)=>.tup [a.d,b.d]
noncomputable def oH (n:Nat):Option (Pt×Pt)→Option (Pt×Pt)
 | none=>none
 | some (a,b)=>some (aA n a,aA n b)
noncomputable def aN.go (n:Nat)(i:aN):aN:=match i.pr with
 | none=>i
 | some (a,b)=>{i with x:=(aA n a).at_,y:=(aA n b).at_,pr:=some (aA n a,aA n b)}
theorem mK (n:Nat)(i:aN):(i.go n).pr=oH n i.pr:=by
 unfold aN.go;cases h:i.pr with
 | none=>exact h
 | some q=>rfl
noncomputable def xO (q:Option (Pt×Pt)):Prop:=∀a b,q=some (a,b)→fT a∧fT b
noncomputable def ax (fr fl s bk ps:D)(is:List aN):D:=.tup [fr,.tup [fl,s,bk,.tup (is.map aN.m),ps],.tup (is.map fun i=>cS i.pr)]
theorem oF {α:Type}{ds0:List D}{ge:GE}{ρ:a9}{M:am}{g h:α→D}:∀l:List α,(∀a∈l,ge (some (g a)::ρ) M=.ok (h a) M)→cG ⟨ds0,none⟩ cz ge (l.map g) ρ M=.ok (l.map h) M
 | [],_=>rfl
 | a::l,k=>by
  have ih:=oF (ds0:=ds0) (ge:=ge) (ρ:=ρ) (M:=M) (g:=g) (h:=h) l fun x hx=>k x (mem_cons_of_mem _ hx)
  show cG ⟨ds0,none⟩ cz ge (g a::l.map g) ρ M=_;unfold cG;rw[show iu.ok ⟨ds0,none⟩ M=true from rfl,if_pos rfl,show cz (some (g a)::ρ) M=.ok true M from rfl];dsimp only;rw[k a mem_cons_self];dsimp only;rw[ih];rfl
theorem mF {α:Type}{ds0:List D}{n:Nat}{sg:GG}{ge:GE}{ρ:a9}{M:am}{g h:α→D}:∀l:List α,(∀a∈l,∃ρ1,sg (g a) (List.replicate n none++ρ)=some ρ1∧ge ρ1 M=.ok (h a) M)→aJ ⟨ds0,none⟩ n sg cz ge (l.map g) ρ M=.ok (l.map h) M
 | [],_=>rfl
 | a::l,k=>by
  obtain⟨ρ1,e1,e2⟩:=k a mem_cons_self;have ih:=mF (ds0:=ds0) (n:=n) (sg:=sg) (ge:=ge) (ρ:=ρ) (M:=M) (g:=g) (h:=h) l fun x hx=>k x (mem_cons_of_mem _ hx)
  show aJ ⟨ds0,none⟩ n sg cz ge (g a::l.map g) ρ M=_;unfold aJ;rw[show iu.ok ⟨ds0,none⟩ M=true from rfl,if_pos rfl,e1];dsimp only;rw[show cz ρ1 M=.ok true M from rfl];dsimp only;rw[e2];dsimp only;rw[ih];rfl
theorem o4 {q:Option (Pt×Pt)}{n:Nat}{M:am}(h:xO q)(hM:eY M):iF [cS q,.int n] M=.ok (cS (oH n q)) M:=by
 cases q with
 | none=>exact rfl
 | some ab=>
  obtain⟨a,b⟩:=ab;obtain⟨ha,hb⟩:=h a b rfl;show aG (fH [some (.tup [a.d,b.d]),some (.int n),none,none] M)=_;unfold fH;rw[ao ((fo (M1:=M) rfl).trans rfl),ao (show cR (cp [2,3]) (ae 0) [some (.tup [a.d,b.d]),some (.int n),none,none] M=.ok (.nx [some (.tup [a.d,b.d]),some (.int n),some a.d,some b.d]) M from rfl)];exact iC (bq (ds:=[(aA n a).d,(aA n b).d]) (aw (bn (a:=ae 2) (b:=ae 1) rfl rfl (wo ha hM)) (aw (bn (a:=ae 3) (b:=ae 1) rfl rfl (wo hb hM)) rfl)))
theorem yx {a b:List D}{M:am}(h:a.length+b.length≤1000):aV (.tup a) (.tup b) M=.ok (.tup (a++b)) M:=by
 unfold aV;dsimp only;rw[if_pos (bB (by omega))]
theorem pc (a b:Pt)(M:am):fc [.tup [a.d,b.d]] M=.ok (.tup [.int a.at_,.int b.at_]) M:=by
 show aG (dR [some (.tup [a.d,b.d]),none,none] M)=_;unfold dR;rw[ao (show cR (cp [1,2]) (ae 0) [some (.tup [a.d,b.d]),none,none] M=.ok (.nx [some (.tup [a.d,b.d]),some a.d,some b.d]) M from rfl)];exact iC (bq (ds:=[.int a.at_,.int b.at_]) (aw (ap (f:=bi) (a:=ae 1) (b:=gC (.int 2)) (x:=a.d) (y:=.int 2) rfl rfl (eP (k:=2) rfl)) (aw (ap (f:=bi) (a:=ae 2) (b:=gC (.int 2)) (x:=b.d) (y:=.int 2) rfl rfl (eP (k:=2) rfl)) rfl)))
theorem nz {i:aN}{n:Nat}{M:am}:gk [i.m,cS (oH n i.pr)] M=.ok (i.go n).m M:=by
 unfold aN.go;cases h:i.pr with
 | none=>exact rfl
 | some ab=>
  obtain⟨a,b⟩:=ab;show aG (eA [some i.m,some (.tup [(aA n a).d,(aA n b).d])] M)=_;unfold eA;rw[ao ((fo (M1:=M) rfl).trans rfl)];exact iC (ap (f:=aV) (x:=.tup [i.sh,.int (aA n a).at_,.int (aA n b).at_]) (y:=.tup [i.rk,i.tn]) (ap (f:=aV) (x:=.tup [i.sh]) (y:=.tup [.int (aA n a).at_,.int (aA n b).at_]) rfl (gT (a:=ae 1) rfl (pc _ _ M)) (yx (a:=[i.sh]) (b:=[.int (aA n a).at_,.int (aA n b).at_]) (show 1+2≤1000 by decide))) rfl (yx (a:=[i.sh,.int (aA n a).at_,.int (aA n b).at_]) (b:=[i.rk,i.tn]) (show 3+2≤1000 by decide)))
theorem oA {α:Type}(f g:α→D):∀l:List α,jQ (l.map f) (l.map g)=l.map fun a=>.tup [f a,g a]
 | []=>rfl
 | a::l=>by
  have:=oA f g l;unfold jQ at this ⊢;rw[map_cons,map_cons,List.zipWith_cons_cons,this];rfl
theorem pe {fr fl s bk ps:D}{is:List aN}{n:Nat}{M:am}(h:∀i∈is,xO i.pr)(hl:is.length≤1000)(hM:eY M):bR [ax fr fl s bk ps is,.int n] M=.ok (ax fr fl s bk ps (is.map (aN.go n))) M:=by
 show aG (fP [some (ax fr fl s bk ps is),some (.int n),none,none,none,none,none,none,none,none,none,none] M)=_;unfold fP;rw[ao (show cR (cp [2,3,4]) (ae 0) [some (ax fr fl s bk ps is),some (.int n),none,none,none,none,none,none,none,none,none,none] M=.ok (.nx [some (ax fr fl s bk ps is),some (.int n),some fr,some (.tup [fl,s,bk,.tup (is.map aN.m),ps]),some (.tup (is.map fun i=>cS i.pr)),none,none,none,none,none,none,none]) M from rfl)];rw[ao (show cR (cp [5,6,7,8,9]) (ae 3) [some (ax fr fl s bk ps is),some (.int n),some fr,some (.tup [fl,s,bk,.tup (is.map aN.m),ps]),some (.tup (is.map fun i=>cS i.pr)),none,none,none,none,none,none,none] M=.ok (.nx [some (ax fr fl s bk ps is),some (.int n),some fr,some (.tup [fl,s,bk,.tup (is.map aN.m),ps]),some (.tup (is.map fun i=>cS i.pr)),some fl,some s,some bk,some (.tup (is.map aN.m)),some ps,none,none]) M from rfl)];have k10:=i9 (k6 (i:=4) (ρ:=[some (ax fr fl s bk ps is),some (.int n),some fr,some (.tup [fl,s,bk,.tup (is.map aN.m),ps]),some (.tup (is.map fun i=>cS i.pr)),some fl,some s,some bk,some (.tup (is.map aN.m)),some ps,none,none]) (M:=M) rfl) (oF (ge:=gu) (g:=fun i=>cS i.pr) (h:=fun i=>cS (oH n i.pr)) is fun i hi=>bn (a:=ae 0) (b:=ae 2) rfl rfl (o4 (h i hi) hM)) (by rw[length_map];omega);have kz:nc (aa (ae 8) (aa (ae 10) ag)) [some (ax fr fl s bk ps is),some (.int n),some fr,some (.tup [fl,s,bk,.tup (is.map aN.m),ps]),some (.tup (is.map fun i=>cS i.pr)),some fl,some s,some bk,some (.tup (is.map aN.m)),some ps,some (.tup (is.map fun i=>cS (oH n i.pr))),none] M=.ok ⟨is.map fun i=>.tup [i.m,cS (oH n i.pr)],none⟩ M:=by
  unfold nc;rw[aw (d:=.tup (is.map aN.m)) (M1:=M) (ds:=[.tup (is.map fun i=>cS (oH n i.pr))]) (M2:=M) rfl rfl,ai];show(if(is.map aN.m).length=(is.map fun i=>cS (oH n i.pr)).length then aF.ok (iu.mk (jQ (is.map aN.m) (is.map fun i=>cS (oH n i.pr))) none) M else .bad)=_;rw[if_pos (by rw[length_map,length_map]),oA]
 have k11:cU (nc (aa (ae 8) (aa (ae 10) ag))) 2 (cp [0,1]) cz eU aQ [some (ax fr fl s bk ps is),some (.int n),some fr,some (.tup [fl,s,bk,.tup (is.map aN.m),ps]),some (.tup (is.map fun i=>cS i.pr)),some fl,some s,some bk,some (.tup (is.map aN.m)),some ps,some (.tup (is.map fun i=>cS (oH n i.pr))),none] M=.ok (.lst (is.map fun i=>(i.go n).m)) M:=by
  unfold cU;rw[kz,ai];dsimp only;rw[mF (ge:=eU) (g:=fun i=>.tup [i.m,cS (oH n i.pr)]) (h:=fun i=>(i.go n).m) is fun i hi=>⟨_,rfl,bn (a:=ae 0) (b:=ae 1) rfl rfl nz⟩,ai];exact if_pos (bB (by rw[length_map];omega))
 refine(congrArg aG ((ao (ay (d:=.tup (is.map fun i=>cS (oH n i.pr))) (iW (F:=bp) k10 rfl))).trans ((ao (ay (d:=.tup (is.map fun i=>(i.go n).m)) (iW (F:=bp) k11 rfl))).trans (cn (bq (ds:=[fr,.tup [fl,s,bk,.tup (is.map fun i=>(i.go n).m),ps],.tup (is.map fun i=>cS (oH n i.pr))]) (aw rfl (aw (bq (ds:=[fl,s,bk,.tup (is.map fun i=>(i.go n).m),ps]) rfl) (aw rfl rfl)))))))).trans ?_;show aF.ok (D.tup [fr,.tup [fl,s,bk,.tup (is.map fun i=>(i.go n).m),ps],.tup (is.map fun i=>cS (oH n i.pr))]) M=_;unfold ax;rw[map_map,map_map];congr 4;exact congrArg (fun z=>[D.tup z]) (map_congr_left fun i _=>by show _=cS (i.go n).pr;rw[mK])
structure nE (i:aN):Prop where
 pr:xO i.pr
 sh:az 26 i.sh=true
 rk:az 26 i.rk=true
 tn:az 26 i.tn=true
theorem qM {p:Pt}(h:fT p)(n:Nat):fT (aA n p):=(jr h n).1
theorem nE.go {i:aN}(h:nE i)(n:Nat):nE (i.go n):=by
 have e:=mK n i;refine⟨fun a b q=>?_,?_,?_,?_⟩
 ·rw[e] at q;cases hp:i.pr with
  | none=>rw[hp] at q;cases q
  | some ab=>
   obtain⟨c,d⟩:=ab;rw[hp] at q;have q:some (aA n c,aA n d)=some (a,b):=q;cases q;obtain⟨h1,h2⟩:=h.pr c d hp;exact⟨qM h1 n,qM h2 n⟩
 all_goals
  unfold aN.go;cases i.pr with
  | none=>first|exact h.sh|exact h.rk|exact h.tn
  | some ab=>first|exact h.sh|exact h.rk|exact h.tn
theorem wL {i:aN}(h:nE i):az 27 i.m=true:=by
 show(az 26 i.sh&&(true&&(true&&(az 26 i.rk&&(az 26 i.tn&&true)))))=true;rw[h.sh,h.rk,h.tn];rfl
theorem ul (q:Option (Pt×Pt))(n:Nat):az (n+3) (cS q)=true:=by
 cases q with
 | none=>rfl
 | some ab=>rfl
structure zJ (fr fl s bk ps:D)(is:List aN):Prop where
 fr:az 29 fr=true
 fl:az 28 fl=true
 s:az 28 s=true
 bk:az 28 bk=true
 ps:az 28 ps=true
 i:∀i∈is,nE i
 l:is.length≤1000
theorem ua {is:List aN}(h:∀i∈is,nE i):(is.map aN.m).all (az 27)=true:=all_eq_true.mpr fun x hx=>by
 obtain⟨i,hi,rfl⟩:=mem_map.mp hx;exact wL (h i hi)
theorem si (is:List aN)(n:Nat):(is.map fun i=>cS i.pr).all (az (n+3))=true:=all_eq_true.mpr fun x hx=>by
 obtain⟨i,hi,rfl⟩:=mem_map.mp hx;exact ul _ _
theorem zJ.pure {fr fl s bk ps:D}{is:List aN}(f:zJ fr fl s bk ps is):az 30 (ax fr fl s bk ps is)=true:=by
 show(az 29 fr&&((az 28 fl&&(az 28 s&&(az 28 bk&&((is.map aN.m).all (az 27)&&(az 28 ps&&true)))))&&((is.map fun i=>cS i.pr).all (az 28)&&true)))=true;rw[f.fr,f.fl,f.s,f.bk,f.ps,ua f.i,si is 25];rfl
theorem zJ.go {fr fl s bk ps:D}{is:List aN}(f:zJ fr fl s bk ps is)(n:Nat):zJ fr fl s bk ps (is.map (aN.go n)):=
 ⟨f.fr,f.fl,f.s,f.bk,f.ps,fun i hi=>by obtain⟨j,hj,rfl⟩:=mem_map.mp hi;exact(f.i j hj).go n,by rw[length_map];exact f.l⟩
theorem kW {p:Pt}{n j m:Nat}(o:js p n j)(h:j≤m):aA (j+(m-j) % (n-j)) p=aA m p:=by
 have l:=o.lt;have e:=Nat.div_add_mod (m-j) (n-j);have:=fN o ((m-j) % (n-j)) ((m-j) / (n-j));rw[←this,Nat.add_assoc,e,show j+(m-j)=m by omega]
theorem rh {p:Pt}{n j m k:Nat}(o:js p n j)(h:j≤m)(hk:(n-j) ∣ k):aA (m+k) p=aA m p:=by
 obtain⟨c,rfl⟩:=hk;have:=fN o (m-j) c;rw[show j+(m-j)=m by omega] at this;rw[←this];congr 1;omega
theorem vA {p:Pt}{n j m k:Nat}(o:js p n j)(h:j≤m)(e:aA (m+k) p=aA m p):(n-j) ∣ k:=by
 have l:=o.lt;have e1:=kW o h;have e2:=kW o (m:=m+k) (by omega);have r1:=Nat.mod_lt (m-j) (show 0<n-j by omega);have r2:=Nat.mod_lt (m+k-j) (show 0<n-j by omega);have q:(m-j) % (n-j)=(m+k-j) % (n-j):=by
  refine Classical.byContradiction fun z=>?_
  rcases Nat.lt_or_gt_of_ne z with lt|lt
  ·exact o.new (j+(m-j) % (n-j)) (j+(m+k-j) % (n-j)) (by omega) (by omega) (by rw[e1,e2,e])
  ·exact o.new (j+(m+k-j) % (n-j)) (j+(m-j) % (n-j)) (by omega) (by omega) (by rw[e1,e2,e])
 have:=Nat.sub_mod_eq_zero_of_mod_eq q.symm;rw[show m+k-j-(m-j)=k by omega] at this;exact Nat.dvd_of_mod_eq_zero this
theorem rl {p:Pt}{n j s t:Nat}(o:js p n j)(hs:s<j)(ht:j≤t):aA s p≠aA t p:=fun z=>by
 have l:=o.lt;have r:=Nat.mod_lt (t-j) (show 0<n-j by omega);exact o.new s (j+(t-j) % (n-j)) (by omega) (by omega) (by rw[kW o ht,z])
noncomputable def m5 (f:Pt→Nat×Nat)(a:Nat×Nat)(p:Pt):Nat×Nat:=(max a.1 (f p).2,Nat.lcm a.2 ((f p).1-(f p).2))
structure BK (f:Pt→Nat×Nat)(l:List Pt)(a:Nat×Nat):Prop where
 ge:∀p∈l,(f p).2≤a.1
 at_:a.1=0∨∃p∈l,(f p).2=a.1
 pos:0<a.2
 dv:∀p∈l,((f p).1-(f p).2) ∣ a.2
 least:∀k,(∀p∈l,((f p).1-(f p).2) ∣ k)→a.2 ∣ k
theorem wf {f:Pt→Nat×Nat}:BK f [] (0,1):=⟨(fun _ h=>by cases h),.inl rfl,Nat.zero_lt_one,(fun _ h=>by cases h),fun k _=>Nat.one_dvd k⟩
theorem sH {f:Pt→Nat×Nat}{l:List Pt}{a:Nat×Nat}{p:Pt}(r:BK f l a)(h:(f p).2<(f p).1):BK f (l++[p]) (m5 f a p):=by
 refine⟨fun q hq=>?_,?_,Nat.lcm_pos r.pos (by omega),fun q hq=>?_,fun k hk=>?_⟩
 ·show(f q).2≤max a.1 (f p).2;rcases mem_append.mp hq with h|h
  ·exact Nat.le_trans (r.ge q h) (Nat.le_max_left _ _)
  ·rw[mem_singleton.mp h];exact Nat.le_max_right _ _
 ·show max a.1 (f p).2=0∨_
  by_cases q:a.1≤(f p).2
  ·exact .inr ⟨p,by simp,(Nat.max_eq_right q).symm⟩
  ·rw[show(m5 f a p).1=a.1 from Nat.max_eq_left (by omega),Nat.max_eq_left (by omega)];rcases r.at_ with z|⟨x,hx,e⟩
   ·exact .inl z
   ·exact .inr ⟨x,mem_append_left _ hx,e⟩
 ·show _ ∣ Nat.lcm _ _;rcases mem_append.mp hq with h|h
  ·exact Nat.dvd_trans (r.dv q h) (Nat.dvd_lcm_left _ _)
  ·rw[mem_singleton.mp h];exact Nat.dvd_lcm_right _ _
 ·exact Nat.lcm_dvd (r.least k fun q hq=>hk q (mem_append_left _ hq)) (hk p (by simp))
theorem l8 {f:Pt→Nat×Nat}:∀(l:List Pt) {l0:List Pt} {a:Nat×Nat},BK f l0 a→(∀p∈l,(f p).2<(f p).1)→BK f (l0++l) (l.foldl (m5 f) a)
 | [],l0,a,r,_=>by rw[append_nil];exact r
 | p::l,l0,a,r,h=>by
  have:=l8 l (sH r (h p mem_cons_self)) fun q hq=>h q (mem_cons_of_mem _ hq)
  rw[append_assoc] at this;exact this
theorem C2:∃f:Pt→Nat×Nat,∀p,fT p→js p (f p).1 (f p).2:=by
 refine⟨fun p=>Classical.epsilon fun x:Nat×Nat=>js p x.1 x.2,fun p h=>?_⟩;obtain⟨n,j,o⟩:=rK h;exact Classical.epsilon_spec (p:=fun x:Nat×Nat=>js p x.1 x.2) ⟨(n,j),o⟩
theorem kG {w:GT}{b:GS}{E:Int→Int→a9}{M:am}(hw:∀x y:Int,w (E x y) M=.ok (decide (y>0)) M)(hb:∀x y:Int,0<y→b (E x y) M=.ok (.nx (E y (x % y))) M):∀(k x y:Nat),y<k→bT w b k (E x y) M=.ok (.nx (E (Nat.gcd x y:Nat) 0)) M
 | 0,x,y,h=>by omega
 | k+1,x,y,h=>by
  by_cases hy:y=0
  ·subst hy;rw[Nat.gcd_zero_right];exact eO (hw x 0)
  ·refine(hV ((hw x y).trans (by rw[decide_eq_true (show(y:Int)>0 by omega)])) (hb x y (by omega))).trans ?_;have lt:=Nat.mod_lt x (show 0<y by omega);rw[show(x:Int) % (y:Int)=((x % y:Nat):Int) by rw[Int.natCast_emod],kG hw hb k y (x % y) (by omega),Nat.gcd_comm x y,Nat.gcd_rec y x,Nat.gcd_comm]
theorem ue {c m:Nat}:c / Nat.gcd c m*m=Nat.lcm c m:=by
 rw[Nat.div_mul_right_comm (Nat.gcd_dvd_left c m)];rfl
theorem vQ {i j:Int}(h0:-1000000≤j)(h1:j≤1000000)(M:am):cE (.int i) (.int j) M=.ok (.int (i*j)) M:=by
 have a:-(2 ^ 64:Int)<j:=Int.lt_of_lt_of_le (by decide) h0;have b:j<(2 ^ 64:Int):=Int.lt_of_le_of_lt h1 (by decide);unfold cE;dsimp only;rw[if_pos (.inr ⟨a,b⟩)]
theorem ox {ρ:a9}{M:am}{c m:Nat}(h0:ρ[0]?=some (some (.int c)))(h1:ρ[1]?=some (some (.int m)))(h2:ρ[2]?=some (some (.int (Nat.gcd c m:Nat))))(hm:0<m)(hm2:m≤100):aR (g2 cE (g2 bE (ae 0) (ae 2)) (ae 1)) ρ M=.ok (.rt (.int (Nat.lcm c m:Nat))) M:=by
 have v:∀{i:Nat} {x:Int},ρ[i]?=some (some (.int x))→ae i ρ M=.ok (.int x) M:=fun h=>by unfold ae;rw[h]
 have gp:=Nat.gcd_pos_of_pos_right c hm;have gl:=Nat.le_of_dvd hm (Nat.gcd_dvd_right c m);refine cn (ap (f:=cE) (ap (f:=bE) (v h0) (v h2) (o:=.ok (.int ((c / Nat.gcd c m:Nat):Int)) M) ?_) (v h1) ?_)
 ·rw[ig (by omega) (by omega),Int.natCast_ediv]
 ·rw[vQ (by omega) (by omega),←Int.natCast_mul,ue]
theorem sw {c m:Nat}{M:am}(hm:0<m)(hm2:m≤90):cF [.int c,.int m] M=.ok (.int (Nat.lcm c m:Nat)) M:=by
 have kw:=kG (w:=dj) (b:=cw) (E:=fun x y=>[some (.int c),some (.int m),some (.int x),some (.int y)]) (M:=M) (fun x y=>bb (ap (f:=jI) (a:=ae 3) (b:=gC (.int 0)) (x:=.int y) (y:=.int 0) rfl rfl rfl)) (fun x y hy=>by
  unfold cw jV;rw[aw (d:=.int y) (M1:=M) (ds:=[.int (x % y)]) (M2:=M) rfl (aw (ap (f:=cH) (a:=ae 2) (b:=ae 3) (x:=.int x) (y:=.int y) rfl rfl (eQ hy M)) rfl),ai];rfl) 100 c m (by omega)
 show aG (cP [some (.int c),some (.int m),none,none] M)=_;unfold cP;exact(congrArg aG ((ao (show jV 2 3 (aa (ae 0) (aa (ae 1) ag)) [some (.int c),some (.int m),none,none] M=.ok (.nx [some (.int c),some (.int m),some (.int c),some (.int m)]) M from rfl)).trans ((ao kw).trans (ox rfl rfl rfl hm (by omega))))).trans rfl
theorem pR {c m:Nat}{M:am}(hm:0<m)(hm2:m≤90):dU [.int c,.int m] M=.ok (.int (Nat.lcm c m:Nat)) M:=by
 have kw:∀(k x y:Nat) (r:Option D),y<k→∃r',bT cf ce k [some (.int c),some (.int m),some (.int x),some (.int y),r] M=.ok (.nx [some (.int c),some (.int m),some (.int (Nat.gcd x y:Nat)),some (.int 0),r']) M:=by
  intro k
  induction k with
  | zero=>intro x y r h;omega
  | succ k ih=>
   intro x y r h;have hw:cf [some (.int c),some (.int m),some (.int x),some (.int y),r] M=.ok (decide ((y:Int)>0)) M:=bb (ap (f:=jI) (a:=ae 3) (b:=gC (.int 0)) (x:=.int y) (y:=.int 0) rfl rfl rfl)
   by_cases hy:y=0
   ·subst hy;rw[Nat.gcd_zero_right];exact⟨r,eO hw⟩
   ·have lt:=Nat.mod_lt x (show 0<y by omega);obtain⟨r',e⟩:=ih y (x % y) (some (.int ((x % y:Nat):Int))) (by omega);refine⟨r',(hV (hw.trans (by rw[decide_eq_true (show(y:Int)>0 by omega)])) ?_).trans (e.trans (by rw[Nat.gcd_comm x y,Nat.gcd_rec y x,Nat.gcd_comm]))⟩;unfold ce;exact(ao (ay (ap (f:=cH) (a:=ae 2) (b:=ae 3) (x:=.int x) (y:=.int y) rfl rfl ((eQ (by omega) M).trans (by rw[←Int.natCast_emod]))))).trans ((ao (ay (g:=ae 3) rfl)).trans (ay (g:=ae 4) rfl))
 obtain⟨r',kw⟩:=kw 100 c m none (by omega);show aG (db [some (.int c),some (.int m),none,none,none] M)=_;unfold db;exact(congrArg aG ((ao (ay (g:=ae 0) rfl)).trans ((ao (ay (g:=ae 1) rfl)).trans ((ao (show dX 100 cf ce [some (.int c),some (.int m),some (.int c),some (.int m),none] M=_ from kw)).trans (ox rfl rfl rfl hm (by omega)))))).trans rfl
theorem sV {a b c f:Int}(h0:0≤f)(h1:f<3):∃v,(v=a∨v=b∨v=c)∧∀M,bi (.lst [.int a,.int b,.int c]) (.int f) M=.ok (.int v) M:=by
 have:f=0∨f=1∨f=2:=by omega
 rcases this with rfl|rfl|rfl
 ·exact⟨a,.inl rfl,fun M=>gw (k:=0) rfl⟩
 ·exact⟨b,.inr (.inl rfl),fun M=>gw (k:=1) rfl⟩
 ·exact⟨c,.inr (.inr rfl),fun M=>gw (k:=2) rfl⟩
theorem m7 {a b:D}{f:Int}(h0:0≤f)(h1:f<2):∃v,(v=a∨v=b)∧∀M,bi (.lst [a,b]) (.int f) M=.ok v M:=by
 have:f=0∨f=1:=by omega
 rcases this with rfl|rfl
 ·exact⟨a,.inl rfl,fun M=>gw (k:=0) rfl⟩
 ·exact⟨b,.inr rfl,fun M=>gw (k:=1) rfl⟩
theorem tW {l:List Int}{rest N:am}{ρ:a9}{i:Nat}{many:Int}(t:bj l rest N)(hi:ρ[i]?=some (some (.mr 0)))(h0:0<many)(h1:many.natAbs.log2<9000):∃f N1,0≤f∧f<many∧bj l rest N1∧∀g:GE,g ρ N=.ok (.int many) N→ak 2 aj (aa (ae i) (aa g ag)) ρ N=.ok (.int f) N1:=by
 obtain⟨f,N1,a,b,t1,e⟩:=aO h0 h1 t;exact⟨f,N1,a,b,t1,fun g hg=>bn (a:=ae i) (by unfold ae;rw[hi]) hg e⟩
theorem sj {l:List Int}{rest M:am}{x:Int}(t:bj l rest M):∃p M',fT p∧p.at_=x∧bj l rest M'∧cW [.mr 0,.int x] M=.ok p.d M':=by
 obtain⟨f1,N1,a1,b1,t1,e1⟩:=tW (ρ:=[some (.mr 0),some (.int x),none,none,none]) (i:=0) (many:=13) t rfl (by decide) (av (by decide) (by decide));obtain⟨f2,N2,a2,b2,t2,e2⟩:=tW (ρ:=[some (.mr 0),some (.int x),none,none,none]) (i:=0) (many:=4) t1 rfl (by decide) (av (by decide) (by decide));obtain⟨f3,N3,a3,b3,t3,e3⟩:=tW (ρ:=[some (.mr 0),some (.int x),none,none,none]) (i:=0) (many:=3) t2 rfl (by decide) (av (by decide) (by decide));obtain⟨sp,hs,es⟩:=sV (a:=f1) (b:=12) (c:=f2) a3 b3;have s0:0≤sp∧sp≤12:=by rcases hs with h|h|h <;> omega
 obtain⟨f4,N4,a4,b4,t4,e4⟩:=tW (ρ:=[some (.mr 0),some (.int x),some (.int sp),none,none]) (i:=0) (many:=sp+1) t3 rfl (by omega) (av (by omega) (by omega));obtain⟨f5,N5,a5,b5,t5,e5⟩:=tW (ρ:=[some (.mr 0),some (.int x),some (.int sp),some (.int (x-f4)),none]) (i:=0) (many:=25) t4 rfl (by decide) (av (by decide) (by decide));obtain⟨f6,N6,a6,b6,t6,e6⟩:=tW (ρ:=[some (.mr 0),some (.int x),some (.int sp),some (.int (x-f4)),none]) (i:=0) (many:=5) t5 rfl (by decide) (av (by decide) (by decide));obtain⟨f7,N7,a7,b7,t7,e7⟩:=tW (ρ:=[some (.mr 0),some (.int x),some (.int sp),some (.int (x-f4)),none]) (i:=0) (many:=2) t6 rfl (by decide) (av (by decide) (by decide));obtain⟨v,hv,ev⟩:=m7 (a:=.int (f5-12)) (b:=.int (f6-2)) a7 b7;obtain⟨st,hst⟩:∃st:Int,v=.int st:=by rcases hv with h|h <;> exact⟨_,h⟩
 subst hst;refine⟨⟨x-f4,x-f4+sp,x,st⟩,N7,⟨by show x-f4≤x;omega,by show x≤x-f4+sp;omega,by show x-f4+sp≤x-f4+12;omega⟩,rfl,t7,?_⟩;show aG (eB [some (.mr 0),some (.int x),none,none,none] M)=_;unfold eB;refine(congrArg aG ((ao (ay (ap (f:=bi) (gH (ds:=[.int f1,.int 12,.int f2]) (aw (e1 _ rfl) (aw rfl (aw (e2 _ rfl) rfl)))) (e3 _ rfl) (es N3)))).trans ((ao (ay (ap (f:=bN) (a:=ae 1) (x:=.int x) rfl (e4 _ rfl) rfl))).trans ((ao (ay (ap (f:=bi) (gH (ds:=[.int (f5-12),.int (f6-2)]) (aw (ap (f:=bN) (e5 _ rfl) (b:=gC (.int 12)) (y:=.int 12) rfl rfl) (aw (ap (f:=bN) (e6 _ rfl) (b:=gC (.int 2)) (y:=.int 2) rfl rfl) rfl))) (e7 _ rfl) (ev N7)))).trans (cn (bq (ds:=[.int (x-f4),.int (x-f4+sp),.int x,.int st]) rfl)))))).trans rfl
section
variable {l:List Int}{rest N:am}{P A C:List D}
theorem AH (t:bj l (rest++[.lst P]++[.lst A]) N):N[rest.length+1]?=some (.lst P):=by
 obtain⟨i,c,_,rfl⟩:=t;simp
theorem Ad (t:bj l (rest++[.lst P]++[.lst A]) N):N[rest.length+2]?=some (.lst A):=by
 obtain⟨i,c,_,rfl⟩:=t;simp
theorem Am (t:bj l (rest++[.lst P]++[.lst A]) N):bj l (rest++[.lst C]++[.lst A]) (N.set (rest.length+1) (.lst C)):=by
 obtain⟨i,c,h,rfl⟩:=t;exact⟨i,c,h,by simp⟩
theorem z0 (t:bj l (rest++[.lst P]++[.lst A]) N):bj l (rest++[.lst P]++[.lst C]) (N.set (rest.length+2) (.lst C)):=by
 obtain⟨i,c,h,rfl⟩:=t;exact⟨i,c,h,by simp⟩
end
noncomputable def mx (x:Int):Int:=if(if x<880 then x else 880)>-880 then(if x<880 then x else 880) else -880
structure BZ (i:aN):Prop where
 ok:nE i
 at0:i.go 0=i
 sh:au 36 i.sh=true
 rk:au 36 i.rk=true
 tn:au 36 i.tn=true
theorem pS {l:List Int}{rest N:am}{P A:List D}{x2 x3:Option D}{sh:D}{x y rk tn:Int}(hp:az 26 sh=true)(hc:au 36 sh=true)(lp:P.length<1000)(la:A.length<1000)(t:bj l (rest++[.lst P]++[.lst A]) N) :
  ∃it N' y7 y8,BZ it∧bj l (rest++[.lst (P++[cS it.pr])]++[.lst (A++[it.m])]) N'∧bM [some (.mr 0),some (.int 12),x2,x3,some (.mr (rest.length+1)),some (.mr (rest.length+2)),some sh,some (.int x),some (.int y),some (.int rk),some (.int tn)] N=.ok (.nx [some (.mr 0),some (.int 12),x2,x3,some (.mr (rest.length+1)),some (.mr (rest.length+2)),some sh,y7,y8,some (.int rk),some (.int tn)]) N':=by
 have t1:=z0 (C:=A++[.tup [sh,.int (mx x),.int (mx y),.int rk,.int tn]]) t;obtain⟨a,N2,oa,ea,u2,w2⟩:=sj (x:=mx x) t1;obtain⟨b,N3,ob,eb,u3,w3⟩:=sj (x:=mx y) u2;obtain⟨f,N4,a4,b4,u4,w4⟩:=tW (ρ:=[some (.mr 0),some (.int 12),x2,x3,some (.mr (rest.length+1)),some (.mr (rest.length+2)),some sh,some (.int (mx x)),some (.int (mx y)),some (.int rk),some (.int tn)]) (i:=0) (many:=4) u3 rfl (by decide) (av (by decide) (by decide));obtain⟨v,hv,ev⟩:=m7 (a:=.tup [a.d,b.d]) (b:=.non) (f:=f / 3) (by omega) (by omega);have ap1:=lr (tK (go:=ae 5) (ge:=aK (aa (ae 6) (aa (ae 7) (aa (ae 8) (aa (ae 9) (aa (ae 10) ag)))))) (ρ:=[some (.mr 0),some (.int 12),x2,x3,some (.mr (rest.length+1)),some (.mr (rest.length+2)),some sh,some (.int (mx x)),some (.int (mx y)),some (.int rk),some (.int tn)]) rfl (Ad t) (bq (ds:=[sh,.int (mx x),.int (mx y),.int rk,.int tn]) rfl) (Ad t) (by omega));have ap2:=lr (tK (go:=ae 4) (ge:=g2 bi (d7 (aa (aK (aa (ak 2 cW (aa (ae 0) (aa (ae 7) ag))) (aa (ak 2 cW (aa (ae 0) (aa (ae 8) ag))) ag))) (aa (gC .non) ag))) (g2 bE (ak 2 aj (aa (ae 0) (aa (gC (.int 4)) ag))) (gC (.int 3)))) (ρ:=[some (.mr 0),some (.int 12),x2,x3,some (.mr (rest.length+1)),some (.mr (rest.length+2)),some sh,some (.int (mx x)),some (.int (mx y)),some (.int rk),some (.int tn)]) (d:=v) rfl (AH t1) (ap (f:=bi) (gH (ds:=[.tup [a.d,b.d],.non]) (aw (bq (ds:=[a.d,b.d]) (aw (bn (a:=ae 0) (b:=ae 7) rfl rfl w2) (aw (bn (a:=ae 0) (b:=ae 8) rfl rfl w3) rfl))) (aw (d:=.non) rfl rfl))) (ap (f:=bE) (w4 _ rfl) (b:=gC (.int 3)) (y:=.int 3) rfl (ig (by decide) (by decide) N4)) (ev N4)) (AH u4) (by omega));have u5:=Am (C:=P++[v]) u4;have run:bM [some (.mr 0),some (.int 12),x2,x3,some (.mr (rest.length+1)),some (.mr (rest.length+2)),some sh,some (.int x),some (.int y),some (.int rk),some (.int tn)] N=_:=(ao (ay (d:=.int (mx x)) rfl)).trans ((ao (ay (d:=.int (mx y)) rfl)).trans ((ao ap1).trans ap2));rcases hv with hv|hv
 ·subst hv;refine⟨⟨sh,mx x,mx y,.int rk,.int tn,some (a,b)⟩,_,_,_,⟨⟨fun c d q=>by cases q;exact⟨oa,ob⟩,hp,rfl,rfl⟩,?_,hc,rfl,rfl⟩,u5,run⟩;show aN.mk sh (aA 0 a).at_ (aA 0 b).at_ (.int rk) (.int tn) (some (aA 0 a,aA 0 b))=_;rw[show aA 0 a=a from rfl,show aA 0 b=b from rfl,ea,eb]
 ·subst hv;exact⟨⟨sh,mx x,mx y,.int rk,.int tn,none⟩,_,_,_,⟨⟨(fun c d q=>by cases q),hp,rfl,rfl⟩,rfl,hc,rfl,rfl⟩,u5,run⟩
mutual
theorem jy:∀(d:D) (n:Nat),au n d=true→eW d d=true
 | .non,n,h=>rfl
 | .bl a,n,h=>beq_self_eq_true a
 | .int a,n,h=>beq_self_eq_true a
 | .str a,n,h=>beq_self_eq_true a
 | .tup xs,n,h=>by
  cases n with
  | zero=>exact ff h
  | succ n=>exact fL xs n h
 | .lst xs,n,h=>by
  cases n with
  | zero=>exact ff h
  | succ n=>exact fL xs n h
 | .ro xs,n,h=>by
  cases n with
  | zero=>exact ff h
  | succ n=>exact fL xs n h
 | .mr a,n,h=>by cases n <;> exact ff h
 | .exc a,n,h=>by cases n <;> exact ff h
 | .any,n,h=>by cases n <;> exact ff h
theorem fL:∀(ds:List D) (n:Nat),aU n ds=true→dL ds ds=true
 | [],n,h=>rfl
 | d::ds,n,h=>
  have h:=Bool.and_eq_true_iff.mp (show(au n d&&aU n ds)=true from h)
  Bool.and_eq_true_iff.mpr ⟨jy d n h.1,fL ds n h.2⟩
end
theorem dC {n:Nat}:∀{ds:List D},(∀d∈ds,au n d=true)→aU n ds=true
 | [],_=>rfl
 | d::ds,h=>Bool.and_eq_true_iff.mpr ⟨h d mem_cons_self,dC fun e he=>h e (mem_cons_of_mem _ he)⟩
structure FN (fr fl s bk ps:D)(is:List aN):Prop where
 ok:zJ fr fl s bk ps is
 it:∀i∈is,BZ i
 fr:au 39 fr=true
 fl:au 38 fl=true
 s:au 38 s=true
 bk:au 38 bk=true
 ps:au 38 ps=true
theorem jZ (rs:List (List Int))(n:Nat):az (n+3) (bo rs)=true:=all_eq_true.mpr fun x hx=>by
 obtain⟨r,_,rfl⟩:=mem_map.mp hx;exact iy n r
theorem mG (rs:List (List Int))(n:Nat):au (n+2) (bo rs)=true:=dC (n:=n+1) fun x hx=>by
 obtain⟨r,_,rfl⟩:=mem_map.mp hx;exact fg n r
theorem nU (l:List Int)(i c:Int):eY [tp l i c]:=by
 refine eY.pure ?_;show((D.lst (l.map D.int)::[D.int i,D.int c]).all (az 30)&&true)=true;have:=iy 28 l;simp[az,this]
theorem nB {l:List Int}{x2 x3:Option D}(ms:List Mv)(hms:ms.length≤900){N:am}(t:bj l ([]++[.lst []]++[.lst []]) N):∃(is:List aN) (N':am) (y:Nat→Option D),is.length=ms.length∧(∀i∈is,BZ i)∧bj l ([]++[.lst (is.map fun i=>cS i.pr)]++[.lst (is.map aN.m)]) N'∧
  bI ⟨ms.map Mv.d,none⟩ (cp [6,7,8,9,10]) bM (ms.map Mv.d) [some (.mr 0),some (.int 12),x2,x3,some (.mr 1),some (.mr 2),none,none,none,none,none] N=.ok (.nx [some (.mr 0),some (.int 12),x2,x3,some (.mr 1),some (.mr 2),y 6,y 7,y 8,y 9,y 10]) N':=by
 obtain⟨ρ',N',⟨is,y,rfl,hl,hi,t'⟩,ef⟩:=tq (ds0:=ms.map Mv.d) (s:=cp [6,7,8,9,10]) (body:=bM) (W:=fun j ρ N=>∃(is:List aN) (y:Nat→Option D),ρ=[some (.mr 0),some (.int 12),x2,x3,some (.mr 1),some (.mr 2),y 6,y 7,y 8,y 9,y 10]∧is.length=j∧(∀i∈is,BZ i)∧bj l ([]++[.lst (is.map fun i=>cS i.pr)]++[.lst (is.map aN.m)]) N) (ms.map Mv.d) 0 (fun j d hd ρ N hW=>by
  obtain⟨is,y,rfl,hl,hi,t⟩:=hW;have hj:=(List.getElem?_eq_some_iff.mp hd).1;rw[length_map] at hj;rw[getElem?_map] at hd;obtain⟨m,hm,rfl⟩:=Option.map_eq_some_iff.mp hd;obtain⟨it,N',y7,y8,k,t',e⟩:=pS (rest:=[]) (x2:=x2) (x3:=x3) (sh:=match m.shape with|some k=>.int k|none=>.non) (x:=m.x) (y:=m.y) (rk:=m.rank) (tn:=m.turn) (by cases m.shape <;> rfl) (by cases m.shape <;> rfl) (by rw[length_map];omega) (by rw[length_map];omega) t;refine⟨_,_,N',rfl,e,is++[it],fun z=>[some (match m.shape with|some k=>D.int k|none=>.non),y7,y8,some (.int m.rank),some (.int m.turn)][z-6]?.getD none,rfl,?_,?_,?_⟩
  ·rw[length_append,hl];rfl
  ·intro i h;rcases mem_append.mp h with q|q
   ·exact hi i q
   ·rw[mem_singleton.mp q];exact k
  ·rw[map_append,map_append];exact t') [some (.mr 0),some (.int 12),x2,x3,some (.mr 1),some (.mr 2),none,none,none,none,none] N ⟨[],fun _=>none,rfl,rfl,(fun i h=>by cases h),t⟩
 rw[Nat.zero_add,length_map] at hl;exact⟨is,N',y,hl,hi,t',ef⟩
theorem v5 {l:List Int}{M:am}(t:bj l [] M):∃fr fl s bk ps is M',FN fr fl s bk ps is∧bj l [] M'∧fm [.mr 0,.int 12] M=.ok (ax fr fl s bk ps is) M':=by
 obtain⟨w,hh,g,m,M1,kw,kh,kg,km,t1,e1⟩:=rm (most:=12) (by decide) (by decide) t;obtain⟨f,M2,a2,b2,t2,e2⟩:=tW (ρ:=[some (.mr 0),some (.int 12),some (.tup [.int w,.int hh,.int g,.int m]),none,none,none,none,none,none,none,none]) (i:=0) (many:=4) t1 rfl (by decide) (av (by decide) (by decide));obtain⟨v,hv,ev⟩:=m7 (a:=.int 4) (b:=.int 12) (f:=f / 3) (by omega) (by omega);obtain⟨mm,hmm,h4⟩:∃mm:Int,v=.int mm∧0≤mm∧mm≤12:=by rcases hv with h|h <;> exact⟨_,h,by decide,by decide⟩
 subst hmm;obtain⟨st,M3,ok,t3,e3⟩:=sO (w:=w) (hh:=hh) (more:=[.int g,.int m]) (mm:=mm) ⟨by omega,by omega⟩ ⟨by omega,by omega⟩ ⟨h4.1,by omega⟩ t2;have ml:=ok.ml;have t5:bj l ([]++[.lst []]++[.lst []]) (M3++[.lst []]++[.lst []]):=by
  obtain⟨i,c,h,rfl⟩:=t3;exact⟨i,c,h,rfl⟩
 obtain⟨is,N,y,il,ii,t6,ef⟩:=nB (x2:=some (.tup [.int w,.int hh,.int g,.int m])) (x3:=some st.d) st.movers (by omega) t5;obtain⟨i,c,hi,rfl⟩:=t6;have l3:M3.length=1:=by obtain⟨i,c,h,rfl⟩:=t3;rfl
 have lM:M.length=1:=by obtain⟨i,c,h,rfl⟩:=t;rfl
 have fn:FN (.tup [.int w,.int hh,.int g,.int m]) (bo st.floor) (.tup [.int st.sx,.int st.sy]) (.tup (st.book.map bo)) (.tup (st.pots.map D.int)) is:=by
  refine⟨⟨rfl,jZ st.floor 25,rfl,?_,iy 26 st.pots,fun i h=>(ii i h).ok,by omega⟩,ii,rfl,mG st.floor 36,rfl,?_,fg 37 st.pots⟩
  ·exact all_eq_true.mpr fun x hx=>by
    obtain⟨r,_,rfl⟩:=mem_map.mp hx;exact jZ r 24
  ·exact dC (n:=37) fun x hx=>by
    obtain⟨r,_,rfl⟩:=mem_map.mp hx;exact mG r 35
 refine⟨_,_,_,_,_,is,[tp l i c],fn,⟨i,c,hi,rfl⟩,?_⟩;show iU M.length (aG (df [some (.mr 0),some (.int 12),none,none,none,none,none,none,none,none,none] M))=_;unfold df;have k4:aB 4 (fU ag) [some (.mr 0),some (.int 12),some (.tup [.int w,.int hh,.int g,.int m]),some st.d,none,none,none,none,none,none,none] M3=.ok (.nx [some (.mr 0),some (.int 12),some (.tup [.int w,.int hh,.int g,.int m]),some st.d,some (.mr 1),none,none,none,none,none,none]) (M3++[.lst []]):=by
  rw[←l3];exact ay nW
 have k5:aB 5 (fU ag) [some (.mr 0),some (.int 12),some (.tup [.int w,.int hh,.int g,.int m]),some st.d,some (.mr 1),none,none,none,none,none,none] (M3++[.lst []])=.ok (.nx [some (.mr 0),some (.int 12),some (.tup [.int w,.int hh,.int g,.int m]),some st.d,some (.mr 1),some (.mr 2),none,none,none,none,none]) (M3++[.lst []]++[.lst []]):=by
  rw[show(2:Nat)=(M3++[MO.lst []]).length by rw[length_append,l3];rfl];exact ay nW
 have kf:hZ (bO (g2 bi (ae 3) (gC (.int 3)))) (cp [6,7,8,9,10]) bM [some (.mr 0),some (.int 12),some (.tup [.int w,.int hh,.int g,.int m]),some st.d,some (.mr 1),some (.mr 2),none,none,none,none,none] (M3++[.lst []]++[.lst []])=_:=eJ (t:=⟨st.movers.map Mv.d,none⟩) (by
  unfold bO;rw[ap (f:=bi) (a:=ae 3) (b:=gC (.int 3)) (x:=st.d) (y:=.int 3) (o:=.ok (.tup (st.movers.map Mv.d)) (M3++[.lst []]++[.lst []])) rfl rfl (eP (k:=3) rfl),ai];rfl) ef
 generalize hP:(is.map fun i=>cS i.pr)=P at *;generalize hA:is.map aN.m=A at *;have s3:sL (ae 3) c7 (fX (gC (.int 3))) [some (.mr 0),some (.int 12),some (.tup [.int w,.int hh,.int g,.int m]),some st.d,some (.mr 1),some (.mr 2),y 6,y 7,y 8,y 9,y 10] (tp l i c::([]++[.lst P]++[.lst A]))=.ok (.tup [bo st.floor,.tup [.int st.sx,.int st.sy],.tup (st.book.map bo)]) (tp l i c::([]++[.lst P]++[.lst A])):=rfl;have kr:aR (aK (aa (ae 2) (aa (g2 aV (sL (ae 3) c7 (fX (gC (.int 3)))) (aK (aa (aL bp (aa (ae 5) ag)) (aa (g2 bi (ae 3) (gC (.int 4))) ag)))) (aa (aL bp (aa (ae 4) ag)) ag)))) [some (.mr 0),some (.int 12),some (.tup [.int w,.int hh,.int g,.int m]),some st.d,some (.mr 1),some (.mr 2),y 6,y 7,y 8,y 9,y 10] (tp l i c::([]++[.lst P]++[.lst A]))=.ok (.rt (.tup [.tup [.int w,.int hh,.int g,.int m],.tup [bo st.floor,.tup [.int st.sx,.int st.sy],.tup (st.book.map bo),.tup A,.tup (st.pots.map D.int)],.tup P])) (tp l i c::([]++[.lst P]++[.lst A])):=cn (bq (ds:=[.tup [.int w,.int hh,.int g,.int m],.tup [bo st.floor,.tup [.int st.sx,.int st.sy],.tup (st.book.map bo),.tup A,.tup (st.pots.map D.int)],.tup P]) (aw rfl (aw (ap (f:=aV) (x:=.tup [bo st.floor,.tup [.int st.sx,.int st.sy],.tup (st.book.map bo)]) (y:=.tup [.tup A,.tup (st.pots.map D.int)]) s3 (bq (ds:=[.tup A,.tup (st.pots.map D.int)]) (aw rfl (aw (ap (f:=bi) (a:=ae 3) (b:=gC (.int 4)) (x:=st.d) (y:=.int 4) rfl rfl (eP (k:=4) rfl)) rfl))) (yx (a:=[bo st.floor,.tup [.int st.sx,.int st.sy],.tup (st.book.map bo)]) (b:=[.tup A,.tup (st.pots.map D.int)]) (show 3+2≤1000 by decide))) (aw rfl rfl))));refine(congrArg (fun o=>iU M.length (aG o)) ((ao (ay (bn (a:=ae 0) (b:=ae 1) rfl rfl e1))).trans ((ao (ay (Bg (a:=ae 0) (b:=ae 2) rfl rfl (ap (f:=bi) (gH (ds:=[.int 4,.int 12]) rfl) (ap (f:=bE) (e2 _ rfl) (b:=gC (.int 3)) (y:=.int 3) rfl (ig (by decide) (by decide) M2)) (ev M2)) e3))).trans ((ao k4).trans ((ao k5).trans ((ao kf).trans kr)))))).trans ?_;have pf:=fn.ok.pure;unfold ax at pf ⊢;rw[hP,hA] at pf ⊢;rw[lM];exact kU (M:=[tp l i c]) (E:=[.lst P,.lst A]) pf (nU l i c)
theorem BC (n:Nat)(i:aN):(i.go n).sh=i.sh∧(i.go n).rk=i.rk∧(i.go n).tn=i.tn:=by
 unfold aN.go;cases i.pr with
 | none=>exact⟨rfl,rfl,rfl⟩
 | some ab=>exact⟨rfl,rfl,rfl⟩
theorem BQ (m n:Nat)(i:aN):(i.go m).go n=i.go (n+m):=by
 have e:=mK m i;cases h:i.pr with
 | none=>
  have e1:∀k,i.go k=i:=fun k=>by unfold aN.go;rw[h]
  rw[e1,e1,e1]
 | some ab=>
  obtain⟨a,b⟩:=ab;have e1:∀k,i.go k=⟨i.sh,(aA k a).at_,(aA k b).at_,i.rk,i.tn,some (aA k a,aA k b)⟩:=fun k=>by unfold aN.go;rw[h]
  rw[e1 m,e1 (n+m)];show aN.mk i.sh (aA n (aA m a)).at_ (aA n (aA m b)).at_ i.rk i.tn (some (aA n (aA m a),aA n (aA m b)))=_;rw[←i7,←i7]
theorem Dx (is:List aN)(m n:Nat):(is.map (aN.go m)).map (aN.go n)=is.map (aN.go (n+m)):=by
 rw[map_map];exact map_congr_left fun i _=>BQ m n i
theorem gQ {fr fl s bk ps:D}{is:List aN}(f:FN fr fl s bk ps is)(n:Nat):au 40 (ax fr fl s bk ps (is.map (aN.go n)))=true:=by
 have c1:aU 37 ((is.map (aN.go n)).map aN.m)=true:=dC fun x hx=>by
  obtain⟨j,hj,rfl⟩:=mem_map.mp hx;obtain⟨i,hi,rfl⟩:=mem_map.mp hj;have k:=f.it i hi;obtain⟨g1,g2,g3⟩:=BC n i;show(au 36 (i.go n).sh&&(true&&(true&&(au 36 (i.go n).rk&&(au 36 (i.go n).tn&&true)))))=true;rw[g1,g2,g3,k.sh,k.rk,k.tn];rfl
 have c2:aU 38 ((is.map (aN.go n)).map fun i=>cS i.pr)=true:=dC fun x hx=>by
  obtain⟨j,hj,rfl⟩:=mem_map.mp hx;cases j.pr with
  | none=>rfl
  | some ab=>rfl
 show(au 39 fr&&((au 38 fl&&(au 38 s&&(au 38 bk&&(aU 37 ((is.map (aN.go n)).map aN.m)&&(au 38 ps&&true)))))&&(aU 38 ((is.map (aN.go n)).map fun i=>cS i.pr)&&true)))=true;rw[f.fr,f.fl,f.s,f.bk,f.ps,c1,c2];rfl
theorem vE {fr fl s bk ps:D}{is:List aN}(f:FN fr fl s bk ps is)(n:Nat)(M:am):dH true (ax fr fl s bk ps (is.map (aN.go n))) (ax fr fl s bk ps (is.map (aN.go n))) M=.ok (.bl false) M:=n8 (gQ f n) (jy _ _ (gQ f n)) (fun _=>rfl) M
theorem Cw {fr fl s bk ps:D}{is:List aN}(f:FN fr fl s bk ps is):is.map (aN.go 0)=is:=(map_congr_left fun i hi=>(f.it i hi).at0).trans (map_id _)
theorem sk {fr fl s bk ps:D}{is:List aN}{M:am}(f:FN fr fl s bk ps is)(hM:eY M)(m n:Nat):bR [ax fr fl s bk ps (is.map (aN.go m)),.int n] M=.ok (ax fr fl s bk ps (is.map (aN.go (n+m)))) M:=by
 have k:=f.ok.go m;rw[pe (fun i hi=>(k.i i hi).pr) k.l hM,Dx]
theorem o8 {l:List Int}{M:am}(t:bj l [] M):eY M:=by
 obtain⟨i,c,_,rfl⟩:=t;exact nU l i c
theorem gW {α β:Type}{ds0:List D}{s:GG}{body:GS}{M:am}{g:α→D}{E:β→a9→Prop}{stp:β→α→β}:∀(l:List α) (b:β),(∀a∈l,∀b ρ,E b ρ→∃ρ1 ρ2,s (g a) ρ=some ρ1∧body ρ1 M=.ok (.nx ρ2) M∧E (stp b a) ρ2)→∀ρ,E b ρ→∃ρ',E (l.foldl stp b) ρ'∧bI ⟨ds0,none⟩ s body (l.map g) ρ M=.ok (.nx ρ') M
 | [],b,_,ρ,h=>⟨ρ,h,rfl⟩
 | a::l,b,k,ρ,h=>by
  obtain⟨ρ1,ρ2,e1,e2,h2⟩:=k a mem_cons_self b ρ h;obtain⟨ρ',h',e'⟩:=gW (ds0:=ds0) l (stp b a) (fun x hx=>k x (mem_cons_of_mem _ hx)) ρ2 h2;exact⟨ρ',h',(ja e1 e2).trans e'⟩
theorem z7 (a j:Nat):(if(j:Int)>(a:Int) then(j:Int) else a)=((max a j:Nat):Int):=by
 by_cases h:a≤j
 ·rw[Nat.max_eq_right h];split <;> omega
 ·rw[Nat.max_eq_left (by omega),if_neg (by omega)]
theorem wG {p:Pt}{n j:Nat}(o:js p n j):0<n-j∧n-j≤90:=by have:=o.lt;have:=o.le;omega
theorem xV {f:Pt→Nat×Nat}{l:List Pt}{M:am}(hf:∀p∈l,js p (f p).1 (f p).2)(hM:eY M):cV [.lst (l.map Pt.d)] M=.ok (.tup [.int ((l.foldl (m5 f) (0,1)).1:Nat),.int ((l.foldl (m5 f) (0,1)).2:Nat)]) M:=by
 obtain⟨ρ',⟨y3,y4,y5,rfl⟩,ef⟩:=gW (ds0:=l.map Pt.d) (s:=bL 3) (body:=cQ) (M:=M) (g:=Pt.d) (E:=fun(b:Nat×Nat) ρ=>∃y3 y4 y5,ρ=[some (.lst (l.map Pt.d)),some (.int (b.1:Nat)),some (.int (b.2:Nat)),y3,y4,y5]) (stp:=m5 f) l (0,1) (fun p hp b ρ h=>by
  obtain⟨y3,y4,y5,rfl⟩:=h;have o:=hf p hp;have om:=wG o;have lt:=o.lt;have k1:cR (cp [4,5]) (ak 1 en (aa (ae 3) ag)) [some (.lst (l.map Pt.d)),some (.int (b.1:Nat)),some (.int (b.2:Nat)),some p.d,y4,y5] M=.ok (.nx [some (.lst (l.map Pt.d)),some (.int (b.1:Nat)),some (.int (b.2:Nat)),some p.d,some (.lst (aM p (f p).1)),some (.int ((f p).2:Nat))]) M:=by
   unfold cR;rw[gT (a:=ae 3) (x:=p.d) rfl (mP o hM),ai];rfl
  have k2:aL iR (aa (ae 1) (aa (ae 5) ag)) [some (.lst (l.map Pt.d)),some (.int (b.1:Nat)),some (.int (b.2:Nat)),some p.d,some (.lst (aM p (f p).1)),some (.int ((f p).2:Nat))] M=.ok (.int ((max b.1 (f p).2:Nat):Int)) M:=by
   rw[←z7];rfl
  have k3:ak 2 cF (aa (ae 2) (aa (g2 bN (aL cT (aa (ae 4) ag)) (ae 5)) ag)) [some (.lst (l.map Pt.d)),some (.int ((max b.1 (f p).2:Nat):Int)),some (.int (b.2:Nat)),some p.d,some (.lst (aM p (f p).1)),some (.int ((f p).2:Nat))] M=.ok (.int (Nat.lcm b.2 ((f p).1-(f p).2):Nat)) M:=by
   refine bn (a:=ae 2) (x:=.int (b.2:Nat)) (y:=.int (((f p).1-(f p).2:Nat):Int)) rfl (ap (f:=bN) (x:=.int (((f p).1:Nat):Int)) (y:=.int ((f p).2:Nat)) (M1:=M) (M2:=M) (iW (F:=cT) (a:=ae 4) (x:=.lst (aM p (f p).1)) (M1:=M) rfl ?_) rfl ?_) (sw om.1 om.2)
   ·show aF.ok (D.int ((aM p (f p).1).length:Int)) M=_;rw[fE]
   ·show aF.ok (D.int (((f p).1:Int)-((f p).2:Int))) M=_;rw[←Int.ofNat_sub (by omega)]
  exact⟨_,_,rfl,(ao k1).trans ((ao (ay k2)).trans (ay k3)),_,_,_,rfl⟩) [some (.lst (l.map Pt.d)),some (.int 0),some (.int 1),none,none,none] ⟨_,_,_,rfl⟩
 show aG (cm [some (.lst (l.map Pt.d)),none,none,none,none,none] M)=_;unfold cm;exact(congrArg aG ((ao (ay (g:=gC (.int 0)) rfl)).trans ((ao (ay (g:=gC (.int 1)) rfl)).trans ((ao (eJ (uX (i:=0) rfl) ef)).trans (cn (bq (ds:=[.int ((l.foldl (m5 f) (0,1)).1:Nat),.int ((l.foldl (m5 f) (0,1)).2:Nat)]) rfl)))))).trans rfl
noncomputable def b0 (i:aN):List Pt:=match i.pr with
 | none=>[]
 | some (a,b)=>[a,b]
theorem jl {ds0:List D}{ρ:a9}{M:am}:∀is:List aN,aP ⟨ds0,none⟩ 2 (bL 0) cA (nA (bO (ae 0)) (bL 1) cz cC) (is.map fun i=>cS i.pr) ρ M=.ok ((is.flatMap b0).map Pt.d) M
 | []=>rfl
 | i::is=>by
  have ih:=jl (ds0:=ds0) (ρ:=ρ) (M:=M) is;rw[List.flatMap_cons,map_append];show aP ⟨ds0,none⟩ 2 (bL 0) cA (nA (bO (ae 0)) (bL 1) cz cC) (cS i.pr::is.map fun i=>cS i.pr) ρ M=_;unfold b0;cases h:i.pr with
  | none=>exact ih
  | some ab=>
   obtain⟨a,b⟩:=ab;show((aP ⟨ds0,none⟩ 2 (bL 0) cA (nA (bO (ae 0)) (bL 1) cz cC) (is.map fun i=>cS i.pr) ρ M).bind fun es M3=>aF.ok ([a.d,b.d]++es) M3)=_;rw[ih];rfl
theorem sI (is:List aN):(is.flatMap b0).length≤2*is.length:=by
 induction is with
 | nil=>exact Nat.le_refl 0
 | cons i is ih=>
  rw[List.flatMap_cons,length_append,length_cons];have:(b0 i).length≤2:=by
   unfold b0;cases i.pr with
   | none=>exact Nat.zero_le _
   | some _=>exact Nat.le_refl 2
  omega
theorem qV {f:Pt→Nat×Nat}{fr fl s bk ps:D}{is:List aN}{M:am}(hf:∀p∈is.flatMap b0,js p (f p).1 (f p).2)(hl:is.length≤1000)(hM:eY M):gF [ax fr fl s bk ps is] M=.ok (.tup [.int (((is.flatMap b0).foldl (m5 f) (0,1)).1:Nat),.int (((is.flatMap b0).foldl (m5 f) (0,1)).2:Nat)]) M:=by
 show aG (eC [some (ax fr fl s bk ps is),none,none,none] M)=_;unfold eC;have kc:eT (bO (ae 3)) 2 (bL 0) cA (bO (ae 0)) (bL 1) cz cC aQ [some (ax fr fl s bk ps is),some fr,some (.tup [fl,s,bk,.tup (is.map aN.m),ps]),some (.tup (is.map fun i=>cS i.pr))] M=.ok (.lst ((is.flatMap b0).map Pt.d)) M:=by
  unfold eT;rw[k6 (i:=3) (xs:=is.map fun i=>cS i.pr) rfl,ai];dsimp only;rw[jl,ai];have:=sI is;exact if_pos (bB (by rw[length_map];omega))
 exact(congrArg aG ((ao (show cR (cp [1,2,3]) (ae 0) [some (ax fr fl s bk ps is),none,none,none] M=.ok (.nx [some (ax fr fl s bk ps is),some fr,some (.tup [fl,s,bk,.tup (is.map aN.m),ps]),some (.tup (is.map fun i=>cS i.pr))]) M from rfl)).trans (cn (gT kc (xV hf hM))))).trans rfl
theorem kd {f:Pt→Nat×Nat}:∀(is:List aN) (b:Nat×Nat),is.foldl (fun b i=>(b0 i).foldl (m5 f) b) b=(is.flatMap b0).foldl (m5 f) b
 | [],_=>rfl
 | i::is,b=>by
  rw[List.flatMap_cons,foldl_append];exact kd is _
section
variable {x0 x2 x10 x11 x12:Option D}{F:D}
noncomputable def lE (x0 x2 x10 x11 x12:Option D)(F:D)(b:Nat×Nat)(y:Nat→Option D):a9:=[x0,some (.mr 0),x2,some F,some (.int (b.1:Nat)),some (.int (b.2:Nat)),y 6,y 7,y 8,y 9,x10,x11,x12]
theorem y9 {f:Pt→Nat×Nat}{M:am}(hM:eY M){l:List Pt}(hf:∀p∈l,js p (f p).1 (f p).2)(b:Nat×Nat)(y:Nat→Option D):∃y',bI ⟨l.map Pt.d,none⟩ (bL 7) lO (l.map Pt.d) (lE x0 x2 x10 x11 x12 F b y) M=.ok (.nx (lE x0 x2 x10 x11 x12 F (l.foldl (m5 f) b) y')) M:=by
 obtain⟨ρ',⟨y',rfl⟩,ef⟩:=gW (ds0:=l.map Pt.d) (s:=bL 7) (body:=lO) (M:=M) (g:=Pt.d) (E:=fun(b:Nat×Nat) ρ=>∃y,ρ=lE x0 x2 x10 x11 x12 F b y) (stp:=m5 f) l b (fun p hp b ρ h=>by
  obtain⟨y,rfl⟩:=h;have o:=hf p hp;have om:=wG o;have k1:cR (cp [8,9]) (ak 1 cr (aa (ae 7) ag)) (lE x0 x2 x10 x11 x12 F b fun z=>[y 6,some p.d,y 8,y 9][z-6]?.getD none) M=.ok (.nx (lE x0 x2 x10 x11 x12 F b fun z=>[y 6,some p.d,some (.int ((f p).2:Nat)),some (.int (((f p).1-(f p).2:Nat):Int))][z-6]?.getD none)) M:=by
   unfold cR;rw[gT (F:=cr) (a:=ae 7) (x:=p.d) rfl (pj o hM),ai];rfl
  have k2:aL iR (aa (ae 4) (aa (ae 8) ag)) (lE x0 x2 x10 x11 x12 F b fun z=>[y 6,some p.d,some (.int ((f p).2:Nat)),some (.int (((f p).1-(f p).2:Nat):Int))][z-6]?.getD none) M=.ok (.int ((max b.1 (f p).2:Nat):Int)) M:=by
   rw[←z7];rfl
  exact⟨_,_,rfl,(ao k1).trans ((ao (ay k2)).trans (ay (bn (a:=ae 5) (b:=ae 9) (x:=.int (b.2:Nat)) rfl rfl (pR om.1 om.2)))),(fun z=>[y 6,some p.d,some (.int ((f p).2:Nat)),some (.int (((f p).1-(f p).2:Nat):Int))][z-6]?.getD none),rfl⟩) _ ⟨y,rfl⟩
 exact⟨y',ef⟩
theorem uR {f:Pt→Nat×Nat}{M:am}(hM:eY M){is:List aN}(hf:∀p∈is.flatMap b0,js p (f p).1 (f p).2)(y:Nat→Option D):∃y',bI ⟨is.map fun i=>cS i.pr,none⟩ (bL 6) lW (is.map fun i=>cS i.pr) (lE x0 x2 x10 x11 x12 F (0,1) y) M=.ok (.nx (lE x0 x2 x10 x11 x12 F ((is.flatMap b0).foldl (m5 f) (0,1)) y')) M:=by
 obtain⟨ρ',⟨y',rfl⟩,ef⟩:=gW (ds0:=is.map fun i=>cS i.pr) (s:=bL 6) (body:=lW) (M:=M) (g:=fun i=>cS i.pr) (E:=fun(b:Nat×Nat) ρ=>∃y,ρ=lE x0 x2 x10 x11 x12 F b y) (stp:=fun b i=>(b0 i).foldl (m5 f) b) is (0,1) (fun i hi b ρ h=>by
  obtain⟨y,rfl⟩:=h;obtain⟨y',e⟩:=y9 (x0:=x0) (x2:=x2) (x10:=x10) (x11:=x11) (x12:=x12) (F:=F) hM (l:=b0 i) (fun p hp=>hf p (List.mem_flatMap.mpr ⟨i,hi,hp⟩)) b (fun z=>[some (cS i.pr),y 7,y 8,y 9][z-6]?.getD none);have ki:bO (aL fF (aa (jT (ae 6) (aK ag)) ag)) (lE x0 x2 x10 x11 x12 F b fun z=>[some (cS i.pr),y 7,y 8,y 9][z-6]?.getD none) M=.ok ⟨(b0 i).map Pt.d,none⟩ M:=by
   have ko:jT (ae 6) (aK ag) (lE x0 x2 x10 x11 x12 F b fun z=>[some (cS i.pr),y 7,y 8,y 9][z-6]?.getD none) M=.ok (.tup ((b0 i).map Pt.d)) M:=by
    unfold jT;rw[show ae 6 (lE x0 x2 x10 x11 x12 F b fun z=>[some (cS i.pr),y 7,y 8,y 9][z-6]?.getD none) M=.ok (cS i.pr) M from rfl,ai];unfold b0;cases i.pr with
    | none=>exact bq (ds:=[]) rfl
    | some ab=>rfl
   unfold bO;rw[iW (F:=fF) ko (o:=.ok (.lst ((b0 i).map Pt.d)) M) rfl,ai];rfl
  exact⟨_,_,rfl,eJ ki e,_,rfl⟩) _ ⟨y,rfl⟩
 rw[kd] at ef;exact⟨y',ef⟩
end
theorem rp {a b:Nat}:∀is:List aN,dL ((is.map (aN.go a)).map fun i=>cS i.pr) ((is.map (aN.go b)).map fun i=>cS i.pr)=true→∀p∈is.flatMap b0,aA a p=aA b p
 | [],_,p,hp=>by cases hp
 | i::is,h,p,hp=>by
  have h:(eW (cS (i.go a).pr) (cS (i.go b).pr)&&dL ((is.map (aN.go a)).map fun i=>cS i.pr) ((is.map (aN.go b)).map fun i=>cS i.pr))=true:=h;rw[Bool.and_eq_true,mK,mK] at h;rw[List.flatMap_cons] at hp;rcases mem_append.mp hp with q|q
  ·unfold b0 at q;cases hq:i.pr with
   | none=>rw[hq] at q;cases q
   | some ab=>
    obtain⟨x,y⟩:=ab;rw[hq] at q h;have h1:(eW (aA a x).d (aA b x).d&&(eW (aA a y).d (aA b y).d&&true))=true:=h.1;rw[Bool.and_eq_true,Bool.and_true,kl,kl,decide_eq_true_eq,decide_eq_true_eq] at h1;have q:p∈[x,y]:=q;simp only[mem_cons,not_mem_nil,or_false] at q;rcases q with rfl|rfl
    ·exact h1.1
    ·exact h1.2
  ·exact rp is h.2 p q
theorem wd {fr fl s bk ps:D}{a b:Nat}{is:List aN}(h:eW (ax fr fl s bk ps (is.map (aN.go a))) (ax fr fl s bk ps (is.map (aN.go b)))=true):∀p∈is.flatMap b0,aA a p=aA b p:=by
 have h:(eW fr fr&&(_&&(dL ((is.map (aN.go a)).map fun i=>cS i.pr) ((is.map (aN.go b)).map fun i=>cS i.pr)&&true)))=true:=h;rw[Bool.and_eq_true,Bool.and_eq_true,Bool.and_eq_true] at h;exact rp is h.2.2.1
theorem oP {fr fl s bk ps:D}{is:List aN}(f:FN fr fl s bk ps is){a b:Nat}{p:Pt}(hp:p∈is.flatMap b0)(hn:aA a p≠aA b p)(M:am):dH false (ax fr fl s bk ps (is.map (aN.go a))) (ax fr fl s bk ps (is.map (aN.go b))) M=.ok (.bl false) M:=by
 show(if(au 40 (ax fr fl s bk ps (is.map (aN.go a)))&&au 40 (ax fr fl s bk ps (is.map (aN.go b))))=true then aF.ok (D.bl (eW (ax fr fl s bk ps (is.map (aN.go a))) (ax fr fl s bk ps (is.map (aN.go b))) != false)) M else .bad)=_;rw[gQ f,gQ f,if_pos (by rfl)];cases h:eW (ax fr fl s bk ps (is.map (aN.go a))) (ax fr fl s bk ps (is.map (aN.go b))) with
 | true=>exact absurd (wd h p hp) hn
 | false=>rfl
theorem uF {fr fl s bk ps:D}{is:List aN}{a b:Nat}(h:∀p∈is.flatMap b0,aA a p=aA b p):ax fr fl s bk ps (is.map (aN.go a))=ax fr fl s bk ps (is.map (aN.go b)):=by
 have:is.map (aN.go a)=is.map (aN.go b):=map_congr_left fun i hi=>by
  have h:∀p∈b0 i,aA a p=aA b p:=fun p hp=>h p (List.mem_flatMap.mpr ⟨i,hi,hp⟩)
  unfold b0 at h;unfold aN.go;cases hq:i.pr with
  | none=>rfl
  | some ab=>
   obtain⟨x,y⟩:=ab;rw[hq] at h;have h1:=h x (show x∈[x,y] by simp);have h2:=h y (show y∈[x,y] by simp);dsimp only;rw[h1,h2]
 rw[this]
theorem rF {fr fl s bk ps:D}{is:List aN}(f:FN fr fl s bk ps is):∀p∈is.flatMap b0,fT p:=fun p hp=>by
 obtain⟨i,hi,q⟩:=List.mem_flatMap.mp hp;have k:=(f.it i hi).ok.pr;unfold b0 at q;cases hq:i.pr with
 | none=>rw[hq] at q;cases q
 | some ab=>
  obtain⟨x,y⟩:=ab;rw[hq] at q;obtain⟨k1,k2⟩:=k x y hq;have q:p∈[x,y]:=q;simp only[mem_cons,not_mem_nil,or_false] at q;rcases q with rfl|rfl
  ·exact k1
  ·exact k2
noncomputable def gf:List Nat:=[2,3,5,7,11,13,17,19,23,29,31,37,41,43,47]
theorem jf {ds0:List D}{M:am}{n:Nat}:∀l:List Nat,(∀p∈l,0<p)→cG ⟨ds0,none⟩ bD bC (l.map fun p=>D.int (p:Nat)) [some (.int (n:Nat))] M=.ok ((l.filter fun p=>decide (n % p=0)).map fun p=>D.int (p:Nat)) M
 | [],_=>rfl
 | p::l,h=>by
  have ih:=jf (ds0:=ds0) (M:=M) (n:=n) l fun q hq=>h q (mem_cons_of_mem _ hq)
  have hp:=h p mem_cons_self;have kt:bD [some (.int (p:Nat)),some (.int (n:Nat))] M=.ok (decide (n % p=0)) M:=by
   refine bb (ap (f:=dH false) (x:=.int ((n % p:Nat):Int)) (y:=.int 0) (ap (f:=cH) (a:=ae 1) (b:=ae 0) (x:=.int (n:Nat)) (y:=.int (p:Nat)) rfl rfl ((eQ (by omega) M).trans (by rw[←Int.natCast_emod]))) rfl ((Ag _ _ M).trans ?_));rw[decide_eq_decide.mpr (show((n % p:Nat):Int)=0↔n % p=0 by omega)]
  show cG ⟨ds0,none⟩ bD bC (D.int (p:Nat)::l.map fun p=>D.int (p:Nat)) [some (.int (n:Nat))] M=_;unfold cG;rw[show iu.ok ⟨ds0,none⟩ M=true from rfl,if_pos rfl,kt,List.filter_cons]
  by_cases q:n % p=0
  ·rw[decide_eq_true q,if_pos rfl];dsimp only;rw[show bC [some (.int (p:Nat)),some (.int (n:Nat))] M=.ok (.int (p:Nat)) M from rfl];dsimp only;rw[ih];rfl
  ·rw[decide_eq_false q,if_neg Bool.false_ne_true];dsimp only;rw[ih]
theorem tF {n:Nat}{M:am}:bQ [.int (n:Nat)] M=.ok (.lst ((gf.filter fun p=>decide (n % p=0)).map fun p=>D.int (p:Nat))) M:=by
 show aG (cy [some (.int (n:Nat))] M)=_;unfold cy;refine iC ?_;unfold bV bO;rw[gH (ds:=gf.map fun p=>D.int (p:Nat)) rfl,ai];show(aF.bind (.ok (iu.mk (gf.map fun p=>D.int (p:Nat)) none) M) _)=_;rw[ai];dsimp only;rw[jf gf (by decide),ai];refine if_pos (bB ?_);have:=length_filter_le (fun p=>decide (n % p=0)) gf;rw[length_map];have:gf.length=15:=rfl;omega
theorem zB {A L:Nat}{ρ:a9}{M:am}(h:ρ[10]?=some (some (.tup [.int (A:Nat),.int (L:Nat)]))):aY (g2 (lz false) (gC (.bl true)) (bV (bO (ae 10)) cz k9 aQ)) ρ M=.ok false M:=by
 have kc:bV (bO (ae 10)) cz k9 aQ ρ M=.ok (.lst [.bl false,.bl false]) M:=by
  unfold bV;rw[k6 (i:=10) h,ai];show(aF.bind (.ok [D.bl false,D.bl false] M) aQ)=_;rw[ai];exact if_pos (bB (show 2≤1000000 by decide))
 exact bb (ap (f:=lz false) (a:=gC (.bl true)) (x:=.bl true) rfl kc rfl)
theorem tL {A L:Nat}{x:Option D}{ρ:a9}{M:am}(h:ρ[10]?=some (some (.tup [.int (A:Nat),.int (L:Nat)])))(h4:ρ[4]?=some (some (.int (A:Nat))))(h5:ρ[5]?=some (some (.int (L:Nat)))):iY (fW (jJ (je "tuple" (ae 10)))) (aY (g2 (dH true) (ae 10) (aK (aa (ae 4) (aa (ae 5) ag))))) ρ M=.ok false M:=by
 have v:∀{i:Nat} {d:D},ρ[i]?=some (some d)→ae i ρ M=.ok d M:=fun h=>by unfold ae;rw[h]
 refine qO (x:=false) (y:=false) (va (x:=true) (xk ?_)) fun _=>bb (ap (f:=dH true) (v h) (bq (ds:=[.int (A:Nat),.int (L:Nat)]) (aw (v h4) (aw (v h5) rfl))) (n8 (by rfl) (jy _ 40 (by rfl)) (fun _=>rfl) M))
 unfold je;rw[v h];rfl
theorem vH {fr fl s bk ps:D}{is:List aN}{x0 x2 x10:Option D}{y:Nat→Option D}{A L p:Nat}{M:am}(f:FN fr fl s bk ps is)(hM:eY M)(hp:0<p)(hp2:p≤100)(hn:∃q∈is.flatMap b0,aA (A+L / p) q≠aA A q) :
  kQ (lE x0 x2 x10 (some (ax fr fl s bk ps (is.map (aN.go A)))) (some (.int (p:Nat))) (ax fr fl s bk ps is) (A,L) y) M=.ok (.nx (lE x0 x2 x10 (some (ax fr fl s bk ps (is.map (aN.go A)))) (some (.int (p:Nat))) (ax fr fl s bk ps is) (A,L) y)) M:=by
 obtain⟨q,hq,ne⟩:=hn;have a:=sk f hM 0 (A+L / p);rw[Cw f,Nat.add_zero] at a;refine(fo (bb (ap (f:=dH false) (bn (a:=ae 3) (x:=ax fr fl s bk ps is) (y:=.int ((A+L / p:Nat):Int)) rfl (ap (f:=aV) (a:=ae 4) (x:=.int (A:Nat)) (y:=.int ((L / p:Nat):Int)) rfl (ap (f:=bE) (a:=ae 5) (b:=ae 12) (x:=.int (L:Nat)) (y:=.int (p:Nat)) rfl rfl ?_) rfl) a) (b:=ae 11) rfl (oP f hq ne M)))).trans rfl;rw[ig (by omega) (by omega),Int.natCast_ediv]
theorem vV {ns:List Int}{M:am}{x0 x2:Option D}{y:Nat→Option D}(t:bj ns [] M) :
  ∃(y':Nat→Option D) (M':am),bj ns [] M'∧kT [x0,some (.mr 0),x2,y 3,y 4,y 5,y 6,y 7,y 8,y 9,y 10,y 11,y 12] M=.ok (.nx [x0,some (.mr 0),x2,y' 3,y' 4,y' 5,y' 6,y' 7,y' 8,y' 9,y' 10,y' 11,y' 12]) M':=by
 obtain⟨fr,fl,s,bk,ps,is,M1,f,t1,e1⟩:=v5 t;have hM:=o8 t1;obtain⟨g,hg⟩:=C2;have og:∀p∈is.flatMap b0,js p (g p).1 (g p).2:=fun p hp=>hg p (rF f p hp)
 have il:is.length≤1000:=f.ok.l;have R:=l8 (is.flatMap b0) wf fun p hp=>(og p hp).lt
 rw[nil_append] at R;obtain⟨y1,e4⟩:=uR (x0:=x0) (x2:=x2) (x10:=y 10) (x11:=y 11) (x12:=y 12) (F:=ax fr fl s bk ps is) hM og y;have e5:=qV (fr:=fr) (fl:=fl) (s:=s) (bk:=bk) (ps:=ps) og il hM;generalize (is.flatMap b0).foldl (m5 g) (0,1)=AL at *;obtain⟨A,L⟩:=AL;have Lp:0<L:=R.pos;have c0:=sk f hM 0 A;have c1:=sk f hM 0 (A+L);rw[Cw f,Nat.add_zero] at c0 c1;have same:ax fr fl s bk ps (is.map (aN.go (A+L)))=ax fr fl s bk ps (is.map (aN.go A)):=uF fun p hp=>rh (og p hp) (R.ge p hp) (R.dv p hp)
 rw[same] at c1;have s4:=eJ (t:=⟨is.map fun i=>cS i.pr,none⟩) (show bO (g2 bi (ae 3) (gC (.int 2))) (lE x0 x2 (y 10) (y 11) (y 12) (ax fr fl s bk ps is) (0,1) y) M1=_ by
  unfold bO;rw[ap (f:=bi) (a:=ae 3) (b:=gC (.int 2)) (x:=ax fr fl s bk ps is) (y:=.int 2) (o:=.ok (.tup (is.map fun i=>cS i.pr)) M1) rfl rfl (eP (k:=2) rfl),ai];rfl) e4
 have s10:gG (dD (aY (g2 jI (ae 4) (gC (.int 0)))) (aY (g2 (dH false) (ak 2 bR (aa (ae 3) (aa (g2 bN (ae 4) (gC (.int 1))) ag))) (ak 2 bR (aa (ae 3) (aa (g2 aV (g2 bN (ae 4) (gC (.int 1))) (ae 5)) ag)))))) (aR (gC (.bl false))) bG (lE x0 x2 (some (.tup [.int (A:Nat),.int (L:Nat)])) (some (ax fr fl s bk ps (is.map (aN.go A)))) (y 12) (ax fr fl s bk ps is) (A,L) y1) M1=.ok (.nx (lE x0 x2 (some (.tup [.int (A:Nat),.int (L:Nat)])) (some (ax fr fl s bk ps (is.map (aN.go A)))) (y 12) (ax fr fl s bk ps is) (A,L) y1)) M1:=by
  have ta:aY (g2 jI (ae 4) (gC (.int 0))) (lE x0 x2 (some (.tup [.int (A:Nat),.int (L:Nat)])) (some (ax fr fl s bk ps (is.map (aN.go A)))) (y 12) (ax fr fl s bk ps is) (A,L) y1) M1=.ok (decide ((A:Int)>0)) M1:=bb (ap (f:=jI) (a:=ae 4) (b:=gC (.int 0)) (x:=.int (A:Nat)) (y:=.int 0) rfl rfl rfl)
  by_cases hA:A=0
  ·subst hA;exact(fo (oy (x:=false) (y:=false) ta fun z=>by cases z)).trans rfl
  ·obtain⟨B,rfl⟩:∃B,A=B+1:=⟨A-1,by omega⟩;have d0:=sk f hM 0 B;have d1:=sk f hM 0 (B+L);rw[Cw f,Nat.add_zero] at d0 d1;obtain⟨q,hq,eq⟩:∃p∈is.flatMap b0,(g p).2=B+1:=by
    rcases R.at_ with z|z
    ·have z:B+1=0:=z;omega
    ·exact z
   have ne:aA B q≠aA (B+L) q:=rl (og q hq) (by omega) (by omega);have sb:g2 bN (ae 4) (gC (.int 1)) (lE x0 x2 (some (.tup [.int ((B+1:Nat):Int),.int (L:Nat)])) (some (ax fr fl s bk ps (is.map (aN.go (B+1))))) (y 12) (ax fr fl s bk ps is) (B+1,L) y1) M1=.ok (.int (B:Nat)) M1:=ap (f:=bN) (a:=ae 4) (b:=gC (.int 1)) (x:=.int ((B+1:Nat):Int)) (y:=.int 1) rfl rfl (by
    show aF.ok (D.int (((B+1:Nat):Int)-1)) M1=_;rw[show((B+1:Nat):Int)-1=(B:Int) by omega])
   exact(fo (oy (x:=true) (y:=false) (ta.trans (by rw[decide_eq_true (by omega)])) fun _=>bb (ap (f:=dH false) (bn (a:=ae 3) rfl sb d0) (bn (a:=ae 3) (y:=.int ((B+L:Nat):Int)) rfl (ap (f:=aV) sb (b:=ae 5) (y:=.int (L:Nat)) rfl rfl) d1) (oP f hq ne M1)))).trans rfl
 obtain⟨ρ',M',⟨y12,rfl,eM⟩,e11⟩:=lD (ds0:=(gf.filter fun p=>decide (L % p=0)).map fun p=>D.int (p:Nat)) (s:=bL 12) (body:=kQ) (W:=fun ρ N=>∃x12,ρ=lE x0 x2 (some (.tup [.int (A:Nat),.int (L:Nat)])) (some (ax fr fl s bk ps (is.map (aN.go A)))) x12 (ax fr fl s bk ps is) (A,L) y1∧N=M1) ((gf.filter fun p=>decide (L % p=0)).map fun p=>D.int (p:Nat)) (fun d hd ρ N hW=>by
  obtain⟨x12,rfl,rfl⟩:=hW;obtain⟨p,hp,rfl⟩:=mem_map.mp hd;rw[mem_filter,decide_eq_true_eq] at hp;have pb:∀q∈gf,2≤q∧q≤100:=by decide
  have pp:=pb p hp.1;have dv:p ∣ L:=Nat.dvd_of_mod_eq_zero hp.2;have lt:L / p<L:=Nat.div_lt_self Lp (by omega);have ps':0<L / p:=Nat.div_pos (Nat.le_of_dvd Lp dv) (by omega);have hn:∃q∈is.flatMap b0,aA (A+L / p) q≠aA A q:=Classical.byContradiction fun z=>by
   have z:∀q∈is.flatMap b0,aA (A+L / p) q=aA A q:=fun q hq=>Classical.byContradiction fun h=>z ⟨q,hq,h⟩
   have:=R.least (L / p) fun q hq=>vA (og q hq) (R.ge q hq) (z q hq)
   have:=Nat.le_of_dvd ps' this;have h3:L≤L / p:=this;omega
  exact⟨_,_,_,rfl,vH f hM (by omega) pp.2 hn,_,rfl,rfl⟩) (lE x0 x2 (some (.tup [.int (A:Nat),.int (L:Nat)])) (some (ax fr fl s bk ps (is.map (aN.go A)))) (y 12) (ax fr fl s bk ps is) (A,L) y1) M1 ⟨_,rfl,rfl⟩
 subst eM;have s11:=eJ (t:=⟨(gf.filter fun p=>decide (L % p=0)).map fun p=>D.int (p:Nat),none⟩) (show bO (ak 1 bQ (aa (ae 5) ag)) (lE x0 x2 (some (.tup [.int (A:Nat),.int (L:Nat)])) (some (ax fr fl s bk ps (is.map (aN.go A)))) (y 12) (ax fr fl s bk ps is) (A,L) y1) M'=_ by
  unfold bO;rw[gT (F:=bQ) (a:=ae 5) (x:=.int (L:Nat)) rfl tF,ai];rfl) e11
 refine⟨fun z=>[some (ax fr fl s bk ps is),some (.int (A:Nat)),some (.int (L:Nat)),y1 6,y1 7,y1 8,y1 9,some (.tup [.int (A:Nat),.int (L:Nat)]),some (ax fr fl s bk ps (is.map (aN.go A))),y12][z-3]?.getD none,M',t1,?_⟩;exact(ao (ay (bn (a:=ae 1) (b:=gC (.int 12)) rfl rfl e1))).trans ((ao (ay (g:=gC (.int 0)) rfl)).trans ((ao (ay (g:=gC (.int 1)) rfl)).trans ((ao s4).trans ((ao (ay (gT (a:=ae 3) rfl e5))).trans ((ao ((fo (tL (x:=none) rfl rfl rfl)).trans rfl)).trans ((ao ((fo (zB rfl)).trans rfl)).trans ((ao (ay (bn (a:=ae 3) (b:=ae 4) rfl rfl c0))).trans ((ao ((fo (bb (ap (f:=dH true) (bn (a:=ae 3) (b:=g2 aV (ae 4) (ae 5)) (y:=.int ((A+L:Nat):Int)) rfl rfl c1) (b:=ae 11) rfl (vE f A M')))).trans rfl)).trans ((ao s10).trans s11)))))))))
theorem law_true (ns:List Int)(hl:ns.length≤63):∃M',ou [.ro (ns.map D.int)] []=.ok (.bl true) M':=by
 obtain⟨ρ2,M2,_,ef⟩:=lD (ds0:=aZ 0 3) (s:=bL 2) (body:=kT) (W:=fun ρ M=>∃(x2:Option D) (y:Nat→Option D),bj ns [] M∧ρ=[some (.ro (ns.map D.int)),some (.mr 0),x2,y 3,y 4,y 5,y 6,y 7,y 8,y 9,y 10,y 11,y 12]) (aZ 0 3)
  (fun d hd ρ M hW=>by
   obtain⟨x2,y,t,rfl⟩:=hW;obtain⟨y',M',t',e⟩:=vV (x0:=some (.ro (ns.map D.int))) (x2:=some d) (y:=y) t;exact⟨_,_,M',rfl,e,_,_,t',rfl⟩) [some (.ro (ns.map D.int)),some (.mr 0),none,none,none,none,none,none,none,none,none,none,none] [tp ns 0 0] ⟨_,fun _=>none,⟨0,0,by decide,rfl⟩,rfl⟩
 have l3:(3:Nat)≤sizeLine:=bB (by decide);refine⟨M2,?_⟩;show aG (n6 [some (.ro (ns.map D.int)),none,none,none,none,none,none,none,none,none,none,none,none] [])=_;unfold n6;have s1:aB 1 (fU (aa (aL fF (aa (ae 0) ag)) (aa (gC (.int 0)) (aa (gC (.int 0)) ag)))) [some (.ro (ns.map D.int)),none,none,none,none,none,none,none,none,none,none,none,none] []=.ok (.nx [some (.ro (ns.map D.int)),some (.mr 0),none,none,none,none,none,none,none,none,none,none,none]) [tp ns 0 0]:=by
  refine ay (d:=.mr 0) (M1:=[tp ns 0 0]) ?_;show(if [D.lst (ns.map D.int),.int 0,.int 0].length≤sizeLine then aF.ok (D.mr 0) [MO.lst [D.lst (ns.map D.int),.int 0,.int 0]] else .bad)=_;rw[if_pos (show [D.lst (ns.map D.int),.int 0,.int 0].length≤sizeLine from l3)];rfl
 rw[ao s1,ao (eJ (i6 (n:=3) rfl (by decide)) ef)];rfl
end K31
theorem PySem.Challenge.cw_glowrow_k31_whole_film_rounds_holds : PySem.Challenge.rw_glowrow_k31_whole_film_rounds.Holds :=
 K31.pre K31.law_true
