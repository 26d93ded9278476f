import PyProof.Rows.All
import Wide.All
import KE.KNestM
import OpenK.KOwn
import OpenK.KRaise
import KE.KIsAll
import KE.KTypeName
import Wide.FinOn
import Lean
import PyProof.EqAt
import PyProof.EqKinds
import PyProof.TupleCall
import PyProof.Draws
import PyProof.EnumMake
import KE.KLam
import KE.KMinKey
import PyProof.StrCalls2
import PyProof.Rows.StrIndexOr
import PyProof.CollectIter
import PyProof.ListStr
import KE.KDictLaws
import PyProof.P3Eq
import KE.KSortTup
import KE.KDictList
import PyProof.ZipIter
import PyProof.Rows.ZipGen
import PyProof.DictItems
import PySem.Challenge.RW_glowrow_k15_windows
set_option Elab.async false
set_option linter.all false
set_option maxRecDepth 100000
set_option maxHeartbeats 4000000
namespace L2
open PySem PySem.Spec PyProof.Rows List
abbrev bH:=Sum Int Str
def ii:bH→Value→Bool
 | .inl k,v=>Value.isInt k v
 | .inr x,v=>Value.isStrOf x v
def CI (w:World):bH→Int
 | .inl k=>hashInt k
 | .inr x=>hashStr w x
theorem aM:∀{k:bH} {v:Value},ii k v=true→(∃i t,k=Sum.inl i∧v=Value.int i t)∨(∃x t,k=Sum.inr x∧v=Value.str x t)
 | .inl i,v,h=>by
  obtain⟨t,e⟩:=Value.isInt_shape (k:=i) (v:=v) h;exact .inl ⟨i,t,rfl,e⟩
 | .inr x,v,h=>by
  obtain⟨t,e⟩:=Value.isStrOf_shape (x:=x) (v:=v) h;exact .inr ⟨x,t,rfl,e⟩
theorem pW (i:Int)(t:Tok):ii (.inl i) (.int i t)=true:=by simp[ii,Value.isInt]
theorem qq (x:Str)(t:Tok):ii (.inr x) (.str x t)=true:=by simp[ii,Value.isStrOf]
theorem yh (a b:Int):decide ((Sum.inl a:bH)=Sum.inl b)=(a==b):=by
 by_cases e:a=b
 ·subst e;simp
 ·have h:¬(Sum.inl a:bH)=Sum.inl b:=fun q=>e (Sum.inl.inj q)
  rw[decide_eq_false h];exact(beq_eq_false_iff_ne.mpr e).symm
theorem yw (a b:Str):decide ((Sum.inr a:bH)=Sum.inr b)=decide (a=b):=by
 by_cases e:a=b
 ·subst e;simp
 ·have h:¬(Sum.inr a:bH)=Sum.inr b:=fun q=>e (Sum.inr.inj q)
  rw[decide_eq_false h,decide_eq_false e]
theorem xh (a:Int)(b:Str):decide ((Sum.inl a:bH)=Sum.inr b)=false:=decide_eq_false (fun q=>nomatch q)
theorem xC (a:Str)(b:Int):decide ((Sum.inr a:bH)=Sum.inl b)=false:=decide_eq_false (fun q=>nomatch q)
def aE (prog:Program)(w:World):PySem.KeyKind prog w bH where
 is:=ii
 hash:=CI w
 inj:=fun v a b ha hb=>by
  rcases aM ha with⟨i,t,rfl,rfl⟩|⟨x,t,rfl,rfl⟩
  ·rcases aM hb with⟨j,u,rfl,e⟩|⟨y,u,rfl,e⟩
   ·injection e with e1 _;rw[e1]
   ·exact nomatch e
  ·rcases aM hb with⟨j,u,rfl,e⟩|⟨y,u,rfl,e⟩
   ·exact nomatch e
   ·injection e with e1 _;rw[e1]
 byValue:=fun k v h=>by
  rcases aM h with⟨i,t,rfl,rfl⟩|⟨x,t,rfl,rfl⟩ <;> rfl
 pyHash:=fun hv h=>by
  rcases aM hv with⟨i,t,rfl,rfl⟩|⟨x,t,rfl,rfl⟩
  ·exact wpAny_pyHash_int h
  ·exact wpAny_pyHash_str h
 eqBool:=fun hu hv h=>by
  rcases aM hu with⟨i,t,rfl,rfl⟩|⟨x,t,rfl,rfl⟩
  ·rcases aM hv with⟨j,u,rfl,rfl⟩|⟨y,u,rfl,rfl⟩
   ·rw[yh] at h;exact wpAny_eqBool_int h
   ·rw[xh] at h;exact SeqAt.EqAt.int_str i t y u _ _ _ _ h
  ·rcases aM hv with⟨j,u,rfl,rfl⟩|⟨y,u,rfl,rfl⟩
   ·rw[xC] at h;exact SeqAt.EqAt.str_int x t j u _ _ _ _ h
   ·rw[yw] at h;exact wpAny_eqBool_str h
 «strs»:=fun k x t v h=>by
  rcases aM h with⟨i,u,rfl,e⟩|⟨y,u,rfl,e⟩
  ·exact nomatch e
  ·injection e with e1 _
   subst e1;cases v <;> rfl
theorem mi (prog:Program)(w:World)(i:Int)(t:Tok):(aE prog w).is (.inl i) (.int i t)=true:=pW i t
theorem mq (prog:Program)(w:World)(x:Str)(t:Tok):(aE prog w).is (.inr x) (.str x t)=true:=qq x t
inductive V where
 | non|bl (b:Bool)|int (i:Int)|str (x:Str)|byt (b:Array UInt8)|flt (b:UInt64)|ref (a:Addr)|ty (n:String)
 deriving DecidableEq
def RelV:V→Value→Prop
 | .non,u=>u=Value.none
 | .bl b,u=>u=Value.bool b
 | .int i,u=>∃t,u=Value.int i t
 | .str x,u=>∃t,u=Value.str x t
 | .byt b,u=>∃t,u=Value.bytes b t
 | .flt b,u=>∃t,u=Value.float b t
 | .ref a,u=>u=Value.ref a
 | .ty n,u=>u=Value.type n
abbrev aC:List V→List Value→Prop:=Paired RelV
variable{xs:List V}{us:List Value}
theorem aC.length (r:aC xs us):xs.length=us.length:=Paired.length r
theorem aC.get:∀{xs:List V} {us:List Value} {i:Nat} {x:V},aC xs us→xs[i]?=some x→∃u,us[i]?=some u∧RelV x u
 | _,_,_,_,.nil,e=>by simp at e
 | _,_,0,_,.cons r _,e=>by simp at e;subst e;exact⟨_,rfl,r⟩
 | _,_,i+1,x,.cons _ t,e=>by
  obtain⟨u,h1,h2⟩:=aC.get (i:=i) (x:=x) t (by simpa using e);exact⟨u,by simpa using h1,h2⟩
variable{u:Value}
theorem aC.set {x:V}(r:RelV x u):∀{xs:List V} {us:List Value} (i:Nat),aC xs us→aC (xs.set i x) (us.set i u)
 | _,_,_,.nil=>.nil
 | _,_,0,.cons _ t=>.cons r t
 | _,_,i+1,.cons q t=>.cons q (aC.set r i t)
theorem aC.append:∀{xs ys:List V} {us ws:List Value},aC xs us→aC ys ws→aC (xs++ys) (us++ws)
 | _,_,_,_,.nil,s=>s
 | _,_,_,_,.cons r t,s=>.cons r (aC.append t s)
theorem aC.take:∀{xs:List V} {us:List Value} (n:Nat),aC xs us→aC (xs.take n) (us.take n)
 | _,_,0,_=>.nil
 | _,_,_+1,.nil=>.nil
 | _,_,n+1,.cons r t=>.cons r (aC.take n t)
theorem aC.drop:∀{xs:List V} {us:List Value} (n:Nat),aC xs us→aC (xs.drop n) (us.drop n)
 | _,_,0,r=>r
 | _,_,_+1,.nil=>.nil
 | _,_,n+1,.cons _ t=>aC.drop n t
def fu:Option V→Option Value→Prop
 | some v,some u=>RelV v u
 | none,none=>True
 | _,_=>False
def KV {κ:Type}:List (κ×V)→List (κ×Value)→Prop:=Paired fun(p:κ×V) (q:κ×Value)=>p.1=q.1∧RelV p.2 q.2
def kV:bH→V
 | .inl i=>.int i
 | .inr x=>.str x
inductive HO where
 | lst (xs:List V)
 | tup (xs:List V)
 | dK (kvs:List (bH×V))|dT (kvs:List (List bH×V))
 | set (S:Int→Bool) (n:Nat)
 | ins (C dx:Addr) (fs:List (Str×V))
 | own (x:Addr)
 | xd (fs:List (Str×V))
 | met (f x:Addr)
 | rng (lo hi:Int)
 | frz (o:Obj) (u:HO)
 | tbl (ps:Array Value)
 | ext (φ:Heap→Prop)
abbrev Hp:=Addr→Option HO
def bi (H:Hp)(a:Addr)(o:HO):Hp:=fun b=>if b=a then some o else H b
variable{H:Hp}{a:Addr}{o:HO}
theorem aT :bi H a o a=some o:=by unfold bi;rw[if_pos rfl]
variable{b:Addr}
theorem aj (h:b≠a):bi H a o b=H b:=by unfold bi;rw[if_neg h]
theorem mD {u:HO}(h:H a=some o)(h':H b=some u)(d:o≠u):a≠b:=by
 intro e;subst e;rw[h] at h';exact d (Option.some.inj h')
theorem aQ (h:H a=some o)(h':H b=none):a≠b:=by
 intro e;subst e;rw[h] at h';cases h'
section
variable (P:Program)(w:World)
def aV (H:Hp)(h:Heap)(a:Addr):HO→Prop
 | .lst xs=>xs.length≤sizeLine∧∃(its:List Value) (n:Nat),aC xs its∧h.get? a=some {cls:=.type "list",data:=.seq its.toArray n}
 | .tup xs=>xs.length≤sizeLine∧∃its:List Value,aC xs its∧IsTup h a its.toArray
 | .dK kvs=>kvs.length≤sizeLine∧(a==sysModules)=false∧∃vs,KV kvs vs∧h.DictOf (aE P w) a vs
 | .dT kvs=>kvs.length≤sizeLine∧(a==sysModules)=false∧∃xs:List (List bH×Addr×Value),
   Paired (fun(p:List bH×V) (q:List bH×Addr×Value)=>p.1=q.1∧H q.2.1=some (.tup (p.1.map kV))∧RelV p.2 q.2.2) kvs xs∧
   ∃o es ep,h.get? a=some o∧o.ExactDict∧o.data=.dict es ep∧es.toList=xs.map (entryOfKey (tupleKind (aE P w)))∧(xs.map (·.1)).Nodup
 | .set S n=>h.SetOf (intKind P w) a S n
 | .ins C dx fs=>H dx=some (.own a)∧fs.length≤1000∧dx≠a∧h.get? a=some (W.instObj C dx)∧
   ∃mA,h.Ns1 dx mA∧(∀f,fu (fs.lookup f) (mA f))∧PySem.Within mA (fs.map (·.1))
 | .own _=>∃o,h.get? a=some o
 | .xd fs=>∃mA,h.Ns1 a mA∧∀f,fu (fs.lookup f) (mA f)
 | .rng lo hi=>∃t u v,h.get? a=some {cls:=.type "range",data:=.fields #[.int lo t,.int hi u,.int 1 v]}
 | .frz o u=>h.get? a=some o∧aV H h a u
 | .tbl ps=>h.get? a=some {cls:=.none,data:=.fields ps}
 | .met f x=>h.get? a=some (W.methodObj (.ref f) (.ref x))
 | .ext φ=>φ h∧(∃o,h.get? a=some o)∧∀h1 h2:Heap,φ h1→(∀o,h1.get? a=some o→h2.get? a=some o)→φ h2
def fB (H:Hp)(h:Heap):Prop:=∀a o,H a=some o→aV P w H h a o
end
section
variable {P:Program}{w:World}{H H':Hp}{h h':Heap}{a:Addr}{o:HO}
theorem aV.lt (x:aV P w H h a o):a<h.objs.size:=by
 cases o with
 | lst xs=>obtain⟨_,_,_,_,e⟩:=x;exact Heap.lt_size e
 | tup xs=>obtain⟨_,_,_,p⟩:=x;exact p.lt
 | dK kvs=>obtain⟨_,_,_,_,o,_,_,e,_⟩:=x;exact Heap.lt_size e
 | dT kvs=>obtain⟨_,_,_,_,o,_,_,e,_⟩:=x;exact Heap.lt_size e
 | set S n=>obtain⟨o,_,_,_,e,_⟩:=x;exact Heap.lt_size e
 | ins C dx fs=>obtain⟨_,_,_,e,_⟩:=x;exact Heap.lt_size e
 | own y=>obtain⟨_,e⟩:=x;exact Heap.lt_size e
 | xd fs=>obtain⟨_,⟨_,_,_,e,_⟩,_⟩:=x;exact Heap.lt_size e
 | rng lo hi=>obtain⟨_,_,_,e⟩:=x;exact Heap.lt_size e
 | frz ob u=>obtain⟨e,_⟩:=x;exact Heap.lt_size e
 | tbl ps=>exact Heap.lt_size (show h.get? a=some _ from x)
 | met f y=>exact Heap.lt_size (show h.get? a=some _ from x)
 | ext φ=>obtain⟨_,⟨_,e⟩,_⟩:=x;exact Heap.lt_size e
theorem Paired.mapP {α β:Type}{F G:α→β→Prop}:∀{l₁:List α} {l₂:List β},Paired F l₁ l₂→(∀a b,F a b→G a b)→Paired G l₁ l₂
 | _,_,.nil,_=>.nil
 | _,_,.cons r t,f=>.cons (f _ _ r) (Paired.mapP t f)
theorem aV.stay (x:aV P w H h a o)(k:∀b u,(b=a∨H b=some (.own a))→h.get? b=some u→h'.get? b=some u)
  (ho:∀b,H b=some (.own a)→H' b=some (.own a)) (ht:∀b xs,H b=some (.tup xs)→H' b=some (.tup xs)):aV P w H' h' a o:=by
 induction o with
 | lst xs=>obtain⟨z,its,n,r,e⟩:=x;exact⟨z,its,n,r,k _ _ (.inl rfl) e⟩
 | tup xs=>obtain⟨z,its,r,ob,e,c⟩:=x;exact⟨z,its,r,ob,k _ _ (.inl rfl) e,c⟩
 | dK kvs=>obtain⟨z,y,vs,r,ob,es,ep,e,c⟩:=x;exact⟨z,y,vs,r,ob,es,ep,k _ _ (.inl rfl) e,c⟩
 | dT kvs=>
  obtain⟨z,y,xs,r,ob,es,ep,e,c⟩:=x;exact⟨z,y,xs,Paired.mapP r fun p q z=>⟨z.1,ht _ _ z.2.1,z.2.2⟩,ob,es,ep,k _ _ (.inl rfl) e,c⟩
 | set S n=>obtain⟨ob,es,ep,t,e,c⟩:=x;exact⟨ob,es,ep,t,k _ _ (.inl rfl) e,c⟩
 | ins C dx fs=>
  obtain⟨d,z,ne,e,mA,⟨od,es,ep,e2,c⟩,r⟩:=x;exact⟨ho _ d,z,ne,k _ _ (.inl rfl) e,mA,⟨od,es,ep,k _ _ (.inr d) e2,c⟩,r⟩
 | own y=>obtain⟨ob,e⟩:=x;exact⟨ob,k _ _ (.inl rfl) e⟩
 | xd fs=>obtain⟨mA,⟨od,es,ep,e,c⟩,r⟩:=x;exact⟨mA,⟨od,es,ep,k _ _ (.inl rfl) e,c⟩,r⟩
 | rng lo hi=>obtain⟨t,u,v,e⟩:=x;exact⟨t,u,v,k _ _ (.inl rfl) e⟩
 | frz ob u ih=>obtain⟨e,q⟩:=x;exact⟨k _ _ (.inl rfl) e,ih q⟩
 | tbl ps=>
  have e:h.get? a=some {cls:=.none,data:=.fields ps}:=x;show h'.get? a=some {cls:=.none,data:=.fields ps};exact k a _ (.inl rfl) e
 | met f y=>
  have e:h.get? a=some (W.methodObj (.ref f) (.ref y)):=x;show h'.get? a=some (W.methodObj (.ref f) (.ref y));exact k a _ (.inl rfl) e
 | ext φ=>obtain⟨p,⟨o,e⟩,st⟩:=x;exact⟨st _ _ p fun o q=>k _ _ (.inl rfl) q,⟨o,k _ _ (.inl rfl) e⟩,st⟩
theorem fB.lt (x:fB P w H h)(e:H a=some o):a<h.objs.size:=(x a o e).lt
theorem fB.fresh (x:fB P w H h)(e:h.objs.size≤a):H a=none:=by
 cases q:H a with
 | none=>rfl
 | some u=>exact absurd (Nat.lt_of_lt_of_le (x.lt q) e) (Nat.lt_irrefl _)
theorem fB.kept (x:fB P w H h)(k:∀b u,h.get? b=some u→h'.get? b=some u):fB P w H h':=fun a o e=>
 (x a o e).stay (fun b u _ q=>k b u q) (fun _ q=>q) fun _ _ q=>q
theorem fB.laid (x:fB P w H h)(k:∀b u,h.get? b=some u→h'.get? b=some u)(hp:h.objs.size≤a)(new:aV P w (bi H a o) h' a o):fB P w (bi H a o) h':=fun b u e=>by
 have hn:=x.fresh hp
 by_cases hb:b=a
 ·subst hb;rw[aT] at e;cases e;exact new
 ·rw[aj hb] at e;exact(x b u e).stay (fun c v _ q=>k c v q) (fun c q=>by rw[aj (aQ q hn)];exact q) fun c xs q=>by rw[aj (aQ q hn)];exact q
end
def Rd (H:Hp)(a:Addr)(u:HO):Prop:=H a=some u∨∃o,H a=some (.frz o u)
variable{P:Program}{w:World}{h:Heap}
theorem Rd.ok {u:HO}(r:Rd H a u)(x:fB P w H h):aV P w H h a u:=by
 rcases r with r|⟨o,r⟩
 ·exact x a u r
 ·obtain⟨_,q⟩:=x a _ r;exact q
def A5:Option HO→Prop
 | some (.lst _)=>True
 | some (.dK _)=>True
 | some (.dT _)=>True
 | some (.set _ _)=>True
 | some (.ins _ _ _)=>True
 | some (.ext _)=>True
 | _=>False
section
variable {P:Program}{w:World}{H:Hp}{h h':Heap}{x e:Addr}{o':HO}
theorem fB.write (ok:fB P w H h)(mu:A5 (H x))(he:e=x∨H e=some (.own x))(k:∀b u,b≠e→h.get? b=some u→h'.get? b=some u)(heo:∃u,h'.get? e=some u)
  (new:aV P w (bi H x o') h' x o'):fB P w (bi H x o') h':=fun b u q=>by
 have nown:∀c y,H c=some (.own y)→c≠x:=fun c y r z=>by subst z;rw[r] at mu;exact mu
 have ntup:∀c xs,H c=some (.tup xs)→c≠x:=fun c xs r z=>by subst z;rw[r] at mu;exact mu
 by_cases hb:b=x
 ·subst hb;rw[aT] at q;cases q;exact new
 ·rw[aj hb] at q
  by_cases hbe:b=e
  ·have q':H b=some (.own x):=by
    rcases he with z|z
    ·exact absurd (hbe.trans z) hb
    ·rw[hbe];exact z
   rw[q] at q';cases q';obtain⟨v,hv⟩:=heo;exact⟨v,by rw[hbe];exact hv⟩
  ·refine(ok b u q).stay (fun c v hc r=>k c v ?_ r) (fun c r=>by rw[aj (nown c b r)];exact r) fun c xs r=>by rw[aj (ntup c xs r)];exact r
   rcases hc with rfl|hc
   ·exact hbe
   ·rintro rfl;rcases he with z|z
    ·exact nown c b hc z
    ·rw[hc] at z;cases z;exact hb rfl
end
structure Un (fs ex:List Addr)(H H':Hp)(h h':Heap):Prop where
 keep:∀b o,h.get? b=some o→H b=none→b∉fs→b∉ex→h'.get? b=some o
 slot:∀b o,h.get? b=some o→H b=none→b∈fs→b∉ex→∃sl,h'.get? b=some {o with slots:=sl}
 free:∀b o,h.get? b=some o→H b=none→b∉ex→H' b=none
 there:∀b o,h.get? b=some o→b∉ex→∃o',h'.get? b=some o'
 tups:∀b xs,H b=some (.tup xs)→H' b=some (.tup xs)
 frzs:∀b o u,H b=some (.frz o u)→H' b=some (.frz o u)
 tbls:∀b ps,H b=some (.tbl ps)→∃more,H' b=some (.tbl (ps++more))
section
variable {fs fs' ex ex':List Addr}{H H1 H2:Hp}{h h1 h2 h':Heap}{a x e:Addr}{o:HO}
theorem Un.any (u:Un fs ex H H1 h h1){ob:Obj}(q:h.get? b=some ob)(n:H b=none)(hx:b∉ex):∃sl,h1.get? b=some {ob with slots:=sl}:=by
 by_cases hb:b∈fs
 ·exact u.slot b ob q n hb hx
 ·exact⟨ob.slots,u.keep b ob q n hb hx⟩
theorem Un.kept (k:∀b u,h.get? b=some u→h'.get? b=some u):Un fs ex H H h h':=
 ⟨fun b ob q _ _ _=>k b ob q,fun b ob q _ _ _=>⟨ob.slots,k b ob q⟩,fun _ _ _ n _=>n,fun b ob q _=>⟨ob,k b ob q⟩,fun _ _ q=>q,fun _ _ _ q=>q,fun _ ps q=>⟨#[],by rw[q];simp⟩⟩
theorem Un.refl:Un fs ex H H h h:=Un.kept fun _ _ q=>q
theorem Un.laid (k:∀b u,h.get? b=some u→h'.get? b=some u)(hp:h.objs.size≤a)(hn:H a=none):Un fs ex H (bi H a o) h h' where
 keep:=fun b u q _ _ _=>k b u q
 slot:=fun b u q _ _ _=>⟨u.slots,k b u q⟩
 free:=fun b u q n _=>by rw[aj (Nat.ne_of_lt (Nat.lt_of_lt_of_le (Heap.lt_size q) hp))];exact n
 there:=fun b u q _=>⟨u,k b u q⟩
 tups:=fun b xs q=>by rw[aj (aQ q hn)];exact q
 frzs:=fun b u xs q=>by rw[aj (aQ q hn)];exact q
 tbls:=fun b ps q=>⟨#[],by rw[aj (aQ q hn),q];simp⟩
theorem Un.write (mu:A5 (H x))(he:e=x∨H e=some (.own x))(k:∀b u,b≠e→h.get? b=some u→h'.get? b=some u)(heo:∃u,h'.get? e=some u):Un fs ex H (bi H x o) h h':=by
 have hx:∀b,H b=none→b≠x:=fun b n z=>by subst z;rw[n] at mu;exact mu
 have hb:∀b,H b=none→b≠e:=fun b n z=>by
  subst z;rcases he with r|r
  ·exact hx b n r
  ·rw[n] at r;cases r
 have hm:∀b u,H b=some u→¬A5 (some u)→b≠x:=fun b u q nm z=>by subst z;rw[q] at mu;exact nm mu
 refine⟨fun b u q n _ _=>k b u (hb b n) q,fun b u q n _ _=>⟨u.slots,k b u (hb b n) q⟩,fun b u q n _=>by rw[aj (hx b n)];exact n,fun b u q _=>?_,
  fun b xs q=>by rw[aj (hm b _ q fun z=>z)];exact q,fun b u xs q=>by rw[aj (hm b _ q fun z=>z)];exact q,fun b ps q=>⟨#[],by rw[aj (hm b _ q fun z=>z),q];simp⟩⟩
 by_cases hbe:b=e
 ·subst hbe;exact heo
 ·exact⟨u,k b u hbe q⟩
end
def trk (h:Heap)(H:Hp):List Addr:=(List.range h.objs.size).filter fun a=>(H a).isSome
def lU (h:Heap)(H:Hp):Heap:=W.hideAll h (trk h H)
theorem o7 (h:Heap)(H:Hp):(lU h H).objs.size=h.objs.size:=W.hideAll_size _ _
theorem tQ {o:Obj}(e:h.get? b=some o)(n:H b=none):(lU h H).get? b=some o:=
 W.hideAll_get _ e fun hm=>by
  have q:(H b).isSome=true:=(mem_filter.mp hm).2;rw[n] at q;simp at q
theorem wf {o:Obj}(e:(lU h H).get? b=some o):h.get? b=some o∧H b=none:=by
 have e':h.get? b=some o:=W.of_hideAll (trk h H) e;refine⟨e',?_⟩;cases q:H b with
 | none=>rfl
 | some x=>
  have hm:b∈trk h H:=mem_filter.mpr ⟨mem_range.mpr (Heap.lt_size e'),by simp[q]⟩;have z:(lU h H).get? b=none:=W.hideAll_none (trk h H) hm;rw[z] at e;cases e
def vB (g h:Heap)(L:Addr):List (Addr×Obj):=(List.range h.objs.size).filterMap fun a=>if a=L∨(g.get? a).isSome=true then none else(h.get? a).map fun o=>(a,o)
def rest (g h:Heap)(L d:Addr):List (Addr×Obj):=(vB g h L).filter fun p=>decide (p.1≠d)
structure Mod (K:W.Frag)(mg:Str→Option Value)(base:Heap):Prop where
 kin:K.In base
 glob:base.Ns mainGlobals mg
 blt:∃mb,base.Ns builtinsNs mb∧∀x:Str,x≠"__name__"→mb x=bootBuiltins x
 nolimit:base.NoLimit
structure Cx where
 prog:Program
 w:World
 K:W.Frag
 mg:Str→Option Value
 base:Heap
 A:Around
 N:List Str
 s₀:Shared
 H₀:Hp
 env:Env
 outer:List Env
 stack:List Env
 ex:List Addr
 fn:Str→Bool
 calm:Bool
 pn:List (Addr×Obj)
 xe:Value→Shared→Prop
def iW (l:List Env):List Addr:=l.filterMap (·.frame)
abbrev Cx.fs (X:Cx):List Addr:=iW X.outer
def AZ (sc:Scope)(x:Str):Prop:=sc.names.lookup x=some .local∨sc.names.lookup x=some .cell∨sc.names.lookup x=some .free
def rk (sc:Scope)(x:Str):Prop:=sc.names.lookup x=some .local∨sc.names.lookup x=some .cell
def BY (env:Env)(h:Heap)(m:Str→Option Value)(x:Str)(u:Value):Prop:=
 (env.kindOf x=some .local∧m x=some u)∨((env.kindOf x=some .cell∨env.kindOf x=some .free)∧∃c,env.cells.lookup x=some c∧h.IsCell c (some u))
structure Cx.Ok (X:Cx):Prop where
 mod:Mod X.K X.mg X.base
 kind:X.env.scope.kind=.function
 glob:X.env.globals=mainGlobals
 blt:X.env.builtins=builtinsNs
 above:X.s₀.heap.objs.size≤X.env.locals
 inj:∀x y c,X.env.cells.lookup x=some c→X.env.cells.lookup y=some c→x=y
 has:∀x,(X.env.kindOf x=some .cell∨X.env.kindOf x=some .free)→∃c,X.env.cells.lookup x=some c
 cab:∀x c,X.fn x=true→X.env.cells.lookup x=some c→X.s₀.heap.objs.size≤c
 hd:X.calm=true→X.A.handled=none
 frames:X.A.frames=some X.stack
 stk:X.stack=X.outer∨(X.stack=X.env::X.outer∧X.env.frame=some X.env.locals)
 exf:∀b∈X.ex,b≠X.env.locals∧∀x c,X.env.cells.lookup x=some c→c≠b
 bs:∀b o,X.base.get? b=some o→X.s₀.heap.get? b=some o∧X.H₀ b=none
 bsz:X.base.objs.size≤X.s₀.heap.objs.size
 noex:∀b o,X.base.get? b=some o→b∉X.ex
 exfs:∀b∈X.ex,b∉X.fs
 funs:X.s₀.heap.FunFrames X.base X.outer
 frf:∀b∈X.fs,X.H₀ b=none
structure Inv (X:Cx)(aa:List (Addr×Obj))(σ:List (Option V))(H:Hp)(s:Shared):Prop where
 ok:X.Ok
 os:s.os=X.s₀.os
 bare:AllBare s.gens
 base:Un X.fs X.ex X.H₀ H X.s₀.heap s.heap
 loc:∃m,s.heap.Ns X.env.locals m∧∀(i:Nat) (x:Str) (v:V),X.N[i]?=some x→σ[i]?=some (some v)→AZ X.env.scope x→∃u,RelV v u∧BY X.env s.heap m x u
 cell:∀x c,X.env.cells.lookup x=some c→∃v,s.heap.IsCell c v
 free:H X.env.locals=none
 freeC:∀x c,X.env.cells.lookup x=some c→H c=none
 pin:∀p∈X.pn++aa,s.heap.get? p.1=some p.2∧H p.1=none∧p.1≠X.env.locals∧p.1∉X.fs∧∀v,p.2.data≠.cell v
 hok:fB X.prog X.w H s.heap
 len:σ.length=X.N.length
variable{x:Str}{ch:List Addr}{i:Nat}{v:V}
section
variable {X:Cx}{aa:List (Addr×Obj)}{σ:List (Option V)}{H H':Hp}{s:Shared}{h':Heap}
theorem Cx.Ok.nofr (ok:X.Ok){o:Obj}(e:X.base.get? b=some o):b∉X.fs:=fun hb=>by
 have:=(ok.funs.mem hb).1;rw[e] at this;cases this
theorem Inv.bs (I:Inv X aa σ H s):∀b o,X.base.get? b=some o→s.heap.get? b=some o∧H b=none:=fun b o e=>
 ⟨I.base.keep b o (I.ok.bs b o e).1 (I.ok.bs b o e).2 (I.ok.nofr e) (I.ok.noex b o e),I.base.free b o (I.ok.bs b o e).1 (I.ok.bs b o e).2 (I.ok.noex b o e)⟩
theorem Inv.bk (I:Inv X aa σ H s):∀b o,X.base.get? b=some o→s.heap.get? b=some o:=fun b o e=>(I.bs b o e).1
theorem Inv.mod (I:Inv X aa σ H s):Mod X.K X.mg X.base:=I.ok.mod
theorem Inv.kIn (I:Inv X aa σ H s):X.K.In s.heap:=I.ok.mod.kin.keeps I.bk
theorem Inv.lt (I:Inv X aa σ H s):X.env.locals<s.heap.objs.size:=let ⟨_,hn,_⟩:=I.loc;hn.lt
theorem Inv.sz (I:Inv X aa σ H s):X.s₀.heap.objs.size≤s.heap.objs.size:=Nat.le_trans I.ok.above (Nat.le_of_lt I.lt)
theorem Inv.nofs (I:Inv X aa σ H s)(h:s.heap.objs.size≤a):a∉X.fs:=fun hb=>by
 obtain⟨_,o,ho,_⟩:=I.ok.funs.mem hb;exact absurd (Nat.lt_of_lt_of_le (Heap.lt_size ho) (Nat.le_trans I.sz h)) (Nat.lt_irrefl _)
theorem Inv.cne (I:Inv X aa σ H s):∀x c,X.env.cells.lookup x=some c→c≠X.env.locals:=fun x c e z=>by
 obtain⟨v,o,ho,hd⟩:=I.cell x c e;obtain⟨m,⟨o',es,ep,ho',hd',_⟩,_⟩:=I.loc;rw[z,ho'] at ho;cases ho;rw[hd'] at hd;cases hd
theorem Inv.funs (I:Inv X aa σ H s):s.heap.FunFrames X.base X.outer:=by
 have all:∀(l:List Env),(∀b∈iW l,b∈X.fs)→X.s₀.heap.FunFrames X.base l→s.heap.FunFrames X.base l:=by
  intro l
  induction l with
  | nil=>intro _ _;trivial
  | cons env r ih=>
   intro hs hl;obtain⟨hk,⟨L,o,hf,hn,ho,hd⟩,hr⟩:=hl;have hL:L∈X.fs:=hs L (by unfold iW;rw[filterMap_cons,hf];exact mem_cons_self);obtain⟨sl,e⟩:=I.base.slot L o ho (I.ok.frf L hL) hL fun z=>I.ok.exfs L z hL
   exact⟨hk,⟨L,_,hf,hn,e,hd⟩,ih (fun b hb=>hs b (by unfold iW;rw[filterMap_cons,hf];exact mem_cons_of_mem _ hb)) hr⟩
 exact all X.outer (fun _ hb=>hb) I.ok.funs
theorem Inv.stack (I:Inv X aa σ H s):s.heap.FunFrames X.base X.stack:=by
 rcases I.ok.stk with e|⟨e,hf⟩
 ·rw[e];exact I.funs
 ·rw[e];obtain⟨m,hn,_⟩:=I.loc;refine .cons (by rw[I.ok.kind];decide) hf hn ?_ I.funs;exact Heap.get?_none_of_le (Nat.le_trans I.ok.bsz I.ok.above)
theorem Inv.stkSub (I:Inv X aa σ H s):∀b∈iW X.stack,b∈X.env.locals::X.fs:=fun b hb=>by
 rcases I.ok.stk with e|⟨e,hf⟩
 ·rw[e] at hb;exact mem_cons_of_mem _ hb
 ·rw[e] at hb;unfold iW at hb;rw[filterMap_cons,hf] at hb;exact hb
theorem Inv.stkFree (I:Inv X aa σ H s):∀b∈iW X.stack,H b=none:=fun b hb=>by
 rcases mem_cons.mp (I.stkSub b hb) with e|hb
 ·rw[e];exact I.free
 ·obtain⟨_,o,ho,_⟩:=I.ok.funs.mem hb;exact I.base.free b o ho (I.ok.frf b hb) fun z=>I.ok.exfs b z hb
theorem Inv.step {g':Array GenState}{t':Nat}{d':Drawn}(I:Inv X aa σ H s)
  (hch:∀b∈ch,(b∈X.ex∨X.s₀.heap.objs.size≤b)∧b≠X.env.locals∧(∀x c,X.env.cells.lookup x=some c→c≠b)∧∀p∈X.pn++aa,p.1≠b)
  (keep:∀b o,b≠X.env.locals→b∉X.fs→b∉ch→s.heap.get? b=some o→H b=none→h'.get? b=some o)
  (slot:∀b o,b≠X.env.locals→b∈X.fs→b∉ch→s.heap.get? b=some o→H b=none→∃sl,h'.get? b=some {o with slots:=sl}) (free:∀b o,b∉ch→s.heap.get? b=some o→H b=none→H' b=none)
  (there:∀b o,b∉ch→s.heap.get? b=some o→∃o',h'.get? b=some o')
  (tups:∀b xs,H b=some (.tup xs)→H' b=some (.tup xs)) (frzs:∀b o u,H b=some (.frz o u)→H' b=some (.frz o u)) (tbls:∀b ps,H b=some (.tbl ps)→∃more,H' b=some (.tbl (ps++more)))
  (ns:∀m,s.heap.Ns X.env.locals m→h'.Ns X.env.locals m) (hok:fB X.prog X.w H' h') (hg:AllBare g') :
  Inv X aa σ H' {s with heap:=h',gens:=g',drawn:=d',toks:=t'}:=by
 have neL:∀b o,X.s₀.heap.get? b=some o→b≠X.env.locals:=fun b o e=>Nat.ne_of_lt (Nat.lt_of_lt_of_le (Heap.lt_size e) I.ok.above)
 have neC:∀b o,X.s₀.heap.get? b=some o→b∉X.ex→b∉ch:=fun b o e hx hb=>by
  rcases(hch b hb).1 with z|z
  ·exact hx z
  ·exact absurd (Nat.lt_of_lt_of_le (Heap.lt_size e) z) (Nat.lt_irrefl _)
 have cellK:∀x c,X.env.cells.lookup x=some c→∀v,s.heap.IsCell c v→h'.IsCell c v:=fun x c e v hxx=>by
  obtain⟨o,ho,hd⟩:=hxx;have nch:c∉ch:=fun z=>(hch c z).2.2.1 x c e rfl
  by_cases hc:c∈X.fs
  ·obtain⟨sl,q⟩:=slot c o (I.cne x c e) hc nch ho (I.freeC x c e);exact⟨_,q,hd⟩
  ·exact⟨o,keep c o (I.cne x c e) hc nch ho (I.freeC x c e),hd⟩
 refine⟨I.ok,I.os,hg,⟨fun b o e n hb hx=>?_,fun b o e n hb hx=>?_,fun b o e n hx=>?_,fun b o e hx=>?_,fun b xs e=>tups b xs (I.base.tups b xs e),fun b o xs e=>frzs b o xs (I.base.frzs b o xs e),fun b ps e=>?_⟩,?_,fun x c e=>?_,?_,fun x c e=>?_,fun p hp=>?_,hok,I.len⟩
 ·exact keep b o (neL b o e) hb (neC b o e hx) (I.base.keep b o e n hb hx) (I.base.free b o e n hx)
 ·obtain⟨sl,e1⟩:=I.base.slot b o e n hb hx;obtain⟨sl',e2⟩:=slot b _ (neL b o e) hb (neC b o e hx) e1 (I.base.free b o e n hx);exact⟨sl',e2⟩
 ·obtain⟨o',e1⟩:=I.base.there b o e hx;exact free b o' (neC b o e hx) e1 (I.base.free b o e n hx)
 ·obtain⟨o',e1⟩:=I.base.there b o e hx;exact there b o' (neC b o e hx) e1
 ·obtain⟨m1,e1⟩:=I.base.tbls b ps e;obtain⟨m2,e2⟩:=tbls b _ e1;exact⟨m1++m2,by rw[e2,Array.append_assoc]⟩
 ·obtain⟨m,hn,hl⟩:=I.loc;refine⟨m,ns m hn,fun i x v e1 e2 e3=>?_⟩;obtain⟨u,r,l⟩:=hl i x v e1 e2 e3;refine⟨u,r,?_⟩;rcases l with l|⟨k,c,e,z⟩
  ·exact .inl l
  ·exact .inr ⟨k,c,e,cellK x c e _ z⟩
 ·obtain⟨v,z⟩:=I.cell x c e;exact⟨v,cellK x c e v z⟩
 ·obtain⟨m,⟨o,_,_,ho,_⟩,_⟩:=I.loc;exact free _ o (fun z=>(hch _ z).2.1 rfl) ho I.free
 ·obtain⟨v,o,ho,hd⟩:=I.cell x c e;exact free c o (fun z=>(hch c z).2.2.1 x c e rfl) ho (I.freeC x c e)
 ·obtain⟨e,n,ne,nf,d⟩:=I.pin p hp;have nch:p.1∉ch:=fun z=>(hch p.1 z).2.2.2 p hp rfl
  exact⟨keep p.1 p.2 ne nf nch e n,free p.1 p.2 nch e n,ne,nf,d⟩
theorem Inv.un {t':Nat}(I:Inv X aa σ H s)(u:Un X.fs [] H H' s.heap h')(hok:fB X.prog X.w H' h'):Inv X aa σ H' {s with heap:=h',toks:=t'}:=by
 obtain⟨m,⟨o,es,ep,ho,r⟩,_⟩:=id I.loc;obtain⟨sl,hL⟩:=u.any ho I.free (by simp);exact I.step (g':=s.gens) (d':=s.drawn) (ch:=[]) (fun _ z=>nomatch z) (fun b o _ hb _ e n=>u.keep b o e n hb (by simp)) (fun b o _ hb _ e n=>u.slot b o e n hb (by simp)) (fun b o _ e n=>u.free b o e n (by simp)) (fun b o _ e=>u.there b o e (by simp)) u.tups u.frzs u.tbls (fun m' hm=>by
  obtain⟨o',es',ep',ho',r'⟩:=hm;rw[ho] at ho';cases ho';exact⟨_,es',ep',hL,r'⟩) hok I.bare
theorem Inv.call {g':Array GenState}{t':Nat}{d':Drawn}(I:Inv X aa σ H s)(u:Un (iW X.stack) ch H H' s.heap h')(hok:fB X.prog X.w H' h')(hg:AllBare g')
  (hch:∀b∈ch,(b∈X.ex∨X.s₀.heap.objs.size≤b)∧b≠X.env.locals∧(∀x c,X.env.cells.lookup x=some c→c≠b)∧∀p∈X.pn++aa,p.1≠b) :
  Inv X aa σ H' {s with heap:=h',gens:=g',drawn:=d',toks:=t'}:=by
 obtain⟨m,⟨o,es,ep,ho,r⟩,_⟩:=id I.loc;obtain⟨sl,hL⟩:=u.any ho I.free fun z=>(hch _ z).2.1 rfl
 exact I.step (ch:=ch) hch (fun b o hL hb hc e n=>u.keep b o e n (fun z=>(mem_cons.mp (I.stkSub b z)).elim hL hb) hc) (fun b o _ _ hc e n=>u.any e n hc) (fun b o hc e n=>u.free b o e n hc) (fun b o hc e=>u.there b o e hc) u.tups u.frzs u.tbls (fun m' hm=>by
  obtain⟨o',es',ep',ho',r'⟩:=hm;rw[ho] at ho';cases ho';exact⟨_,es',ep',hL,r'⟩) hok hg
theorem Inv.turned {t':Nat}{it:Addr}(I:Inv X aa σ H s)(k:∀b o,b≠it→s.heap.get? b=some o→h'.get? b=some o)(hn:H it=none)(hL:it≠X.env.locals)
  (h1:it∈X.ex∨X.s₀.heap.objs.size≤it) (h2:∀x c,X.env.cells.lookup x=some c→c≠it) (h3:∀p∈X.pn++aa,p.1≠it):Inv X aa σ H {s with heap:=h',toks:=t'}:=by
 have nit:∀b u,H b=some u→b≠it:=fun b u e z=>by rw[z,hn] at e;cases e
 refine I.step (g':=s.gens) (d':=s.drawn) (ch:=[it]) (fun b hb=>?_) (fun b o _ _ hc e _=>k b o (fun z=>hc (by simp[z])) e) (fun b o _ _ hc e _=>⟨o.slots,k b o (fun z=>hc (by simp[z])) e⟩) (fun _ _ _ _ n=>n)
  (fun b o hc e=>⟨o,k b o (fun z=>hc (by simp[z])) e⟩) (fun _ _ e=>e) (fun _ _ _ e=>e) (fun b ps e=>⟨#[],by rw[e];simp⟩) (fun m hm=>?_) (fun b u e=>?_) I.bare
 ·have e:b=it:=by simpa using hb
  subst e;exact⟨h1,hL,h2,h3⟩
 ·obtain⟨o,es,ep,ho,r⟩:=hm;exact⟨o,es,ep,k _ o (Ne.symm hL) ho,r⟩
 ·refine(I.hok b u e).stay (fun c v hc q=>k c v ?_ q) (fun _ q=>q) fun _ _ q=>q
  rcases hc with z|z
  ·rw[z];exact nit b u e
  ·exact nit c _ z
theorem Inv.tok (I:Inv X aa σ H s)(t:Nat):Inv X aa σ H {s with toks:=t}:=I.un (h':=s.heap) (t':=t) Un.refl I.hok
theorem Inv.kept {t':Nat}(I:Inv X aa σ H s)(k:∀b u,s.heap.get? b=some u→h'.get? b=some u):Inv X aa σ H {s with heap:=h',toks:=t'}:=I.un (Un.kept k) (I.hok.kept k)
theorem Inv.laid {t':Nat}(I:Inv X aa σ H s)(k:∀b u,s.heap.get? b=some u→h'.get? b=some u)(hp:s.heap.objs.size≤a)(new:aV X.prog X.w (bi H a o) h' a o) :
  Inv X aa σ (bi H a o) {s with heap:=h',toks:=t'}:=I.un (Un.laid k hp (I.hok.fresh hp)) (I.hok.laid k hp new)
theorem Inv.write {x e:Addr}{t':Nat}(I:Inv X aa σ H s)(mu:A5 (H x))(he:e=x∨H e=some (.own x))(k:∀b u,b≠e→s.heap.get? b=some u→h'.get? b=some u)(heo:∃u,h'.get? e=some u)
  (new:aV X.prog X.w (bi H x o) h' x o):Inv X aa σ (bi H x o) {s with heap:=h',toks:=t'}:=I.un (Un.write mu he k heo) (I.hok.write mu he k heo new)
theorem Inv.pins_of {pins':List (Addr×Obj)}(I:Inv X aa σ H s)(h:∀p∈pins',s.heap.get? p.1=some p.2∧H p.1=none∧p.1≠X.env.locals∧p.1∉X.fs∧∀v,p.2.data≠.cell v):Inv X pins' σ H s:=
 ⟨I.ok,I.os,I.bare,I.base,I.loc,I.cell,I.free,I.freeC,fun p hp=>(mem_append.mp hp).elim (fun z=>I.pin p (mem_append_left _ z)) (h p),I.hok,I.len⟩
theorem jx {N:List Str}(hN:N.Nodup){j:Nat}(a:N[i]?=some x)(b:N[j]?=some x):i=j:=by
 obtain⟨h1,e1⟩:=List.getElem?_eq_some_iff.mp a;obtain⟨h2,e2⟩:=List.getElem?_eq_some_iff.mp b;exact(getElem_inj hN).mp (e1.trans e2.symm)
theorem qB {M:Model}{A:Around}{E:Value→Shared→Prop}{Q:Unit→Shared→Prop}(I:Inv X aa σ H s)(hN:X.N.Nodup)(hi:X.N[i]?=some x)(hx:rk X.env.scope x)(r:RelV v u)
  (h:∀s',Inv X aa (σ.set i (some v)) H s'→(∃a,Heap.SameBut a s.heap s'.heap∧(a=X.env.locals∨X.env.cells.lookup x=some a))→Q () s') (hf:X.fn x=true∨X.env.scope.names.lookup x=some .local:=by first|exact .inl rfl|exact .inr rfl|assumption):wpAny M A (storeName X.env x u) Q E s:=by
 obtain⟨m,hn,hl⟩:=id I.loc;have hcls:(X.env.scope.kind==.class||(X.env.scope.kind==.module&&X.env.locals != X.env.globals))=false:=by rw[I.ok.kind];rfl
 have hiσ:i<σ.length:=by rw[I.len];exact(List.getElem?_eq_some_iff.mp hi).1
 have cne:=I.cne;have tracked:∀{a:Addr} {h':Heap},(∃o,s.heap.get? a=some o∧H a=none)→Heap.SameBut a s.heap h'→fB X.prog X.w H h':=fun {a h'} ha hs b ob e=>by
  obtain⟨_,_,hfree⟩:=ha;refine(I.hok b ob e).stay (fun c w' hc q=>(hs.2 c ?_).trans q) (fun _ q=>q) fun _ _ q=>q
  rintro rfl;rcases hc with rfl|hc
  ·rw[hfree] at e;cases e
  ·rw[hfree] at hc;cases hc
 rcases hx with hk|hk
 ·refine wpAny_storeName_local hk hn (fun h' hn' hs=>?_) hcls;obtain⟨oL,_,_,hoL,_⟩:=id hn;refine h _ ⟨I.ok,I.os,I.bare,⟨fun b o e n hb hx=>?_,fun b o e n hb hx=>?_,I.base.free,fun b o e hx=>?_,I.base.tups,I.base.frzs,I.base.tbls⟩,⟨_,hn',fun j y v' e1 e2 e3=>?_⟩,fun y c e=>?_,I.free,I.freeC,fun p hp=>?_,tracked ⟨oL,hoL,I.free⟩ hs,by simpa using I.len⟩ ⟨_,hs,.inl rfl⟩
  ·exact(hs.2 b (Nat.ne_of_lt (Nat.lt_of_lt_of_le (Heap.lt_size e) I.ok.above))).trans (I.base.keep b o e n hb hx)
  ·obtain⟨sl,e1⟩:=I.base.slot b o e n hb hx;exact⟨sl,(hs.2 b (Nat.ne_of_lt (Nat.lt_of_lt_of_le (Heap.lt_size e) I.ok.above))).trans e1⟩
  ·obtain⟨o',e1⟩:=I.base.there b o e hx;exact⟨o',(hs.2 b (Nat.ne_of_lt (Nat.lt_of_lt_of_le (Heap.lt_size e) I.ok.above))).trans e1⟩
  ·by_cases hj:j=i
   ·subst hj;rw[hi] at e1;cases e1;rw[getElem?_set_self hiσ] at e2;cases e2;exact⟨u,r,.inl ⟨hk,by simp⟩⟩
   ·rw[getElem?_set_ne (Ne.symm hj)] at e2;obtain⟨u',r',q⟩:=hl j y v' e1 e2 e3;refine⟨u',r',?_⟩;rcases q with⟨k,e⟩|⟨k,c,e,z⟩
    ·refine .inl ⟨k,?_⟩;have:y≠x:=fun e=>hj (jx hN e1 (e▸hi))
     simp[this,e]
    ·exact .inr ⟨k,c,e,z.sameBut hs (cne y c e)⟩
  ·obtain⟨w',z⟩:=I.cell y c e;exact⟨w',z.sameBut hs (cne y c e)⟩
  ·obtain⟨e,n,ne,nf,d⟩:=I.pin p hp;exact⟨(hs.2 p.1 ne).trans e,n,ne,nf,d⟩
 ·have hfn:X.fn x=true:=by
   rcases hf with z|z
   ·exact z
   ·rw[z] at hk;cases hk
  obtain⟨c,hc⟩:=I.ok.has x (.inl hk);obtain⟨w',z⟩:=I.cell x c hc;refine wpAny_storeName_cell I.ok.kind hk hc z (fun h' hc' hs=>?_);obtain⟨oc,hoc,hocd⟩:=id z;refine h {s with heap:=h'} ⟨I.ok,I.os,I.bare,⟨fun b o e n hb hx=>?_,fun b o e n hb hx=>?_,I.base.free,fun b o e hx=>?_,I.base.tups,I.base.frzs,I.base.tbls⟩,⟨m,hn.sameBut hs (Ne.symm (cne x c hc)),fun j y v' e1 e2 e3=>?_⟩,fun y c' e=>?_,I.free,I.freeC,fun p hp=>?_,tracked ⟨oc,hoc,I.freeC x c hc⟩ hs,by simpa using I.len⟩ ⟨c,hs,.inr hc⟩
  ·exact(hs.2 b (Nat.ne_of_lt (Nat.lt_of_lt_of_le (Heap.lt_size e) (I.ok.cab x c hfn hc)))).trans (I.base.keep b o e n hb hx)
  ·obtain⟨sl,e1⟩:=I.base.slot b o e n hb hx;exact⟨sl,(hs.2 b (Nat.ne_of_lt (Nat.lt_of_lt_of_le (Heap.lt_size e) (I.ok.cab x c hfn hc)))).trans e1⟩
  ·obtain⟨o',e1⟩:=I.base.there b o e hx;exact⟨o',(hs.2 b (Nat.ne_of_lt (Nat.lt_of_lt_of_le (Heap.lt_size e) (I.ok.cab x c hfn hc)))).trans e1⟩
  ·by_cases hj:j=i
   ·subst hj;rw[hi] at e1;cases e1;rw[getElem?_set_self hiσ] at e2;cases e2;exact⟨u,r,.inr ⟨.inl hk,c,hc,hc'⟩⟩
   ·rw[getElem?_set_ne (Ne.symm hj)] at e2;obtain⟨u',r',q⟩:=hl j y v' e1 e2 e3;refine⟨u',r',?_⟩;rcases q with q|⟨k,c',e,z'⟩
    ·exact .inl q
    ·refine .inr ⟨k,c',e,z'.sameBut hs ?_⟩;rintro rfl;exact hj (jx hN e1 (I.ok.inj _ _ _ e hc▸hi))
  ·by_cases hcc:c'=c
   ·subst hcc;exact⟨_,hc'⟩
   ·obtain⟨w2,z2⟩:=I.cell y c' e;exact⟨w2,z2.sameBut hs hcc⟩
  ·obtain⟨e,n,ne,nf,d⟩:=I.pin p hp;refine⟨(hs.2 p.1 ?_).trans e,n,ne,nf,d⟩;intro q;rw[q,hoc] at e;have q':oc=p.2:=Option.some.inj e;exact d w' (by rw[←q'];exact hocd)
theorem jB {M:Model}{A:Around}{E:Value→Shared→Prop}{Q:Unit→Shared→Prop}(I:Inv X aa σ H s)(hN:X.N.Nodup)(hi:X.N[i]?=some x)(hx:rk X.env.scope x)(r:RelV v u)
  (h:∀s',Inv X aa (σ.set i (some v)) H s'→Q () s') (hf:X.fn x=true∨X.env.scope.names.lookup x=some .local:=by first|exact .inl rfl|exact .inr rfl|assumption):wpAny M A (storeName X.env x u) Q E s:=
 qB I hN hi hx r (fun s' I' _=>h s' I') hf
theorem Inv.call' {s':Shared}(I:Inv X aa σ H s)(ho:s'.os=s.os)(u:Un (iW X.stack) ch H H' s.heap s'.heap)(hok:fB X.prog X.w H' s'.heap)(hg:AllBare s'.gens)
  (hch:∀b∈ch,(b∈X.ex∨X.s₀.heap.objs.size≤b)∧b≠X.env.locals∧(∀x c,X.env.cells.lookup x=some c→c≠b)∧∀p∈X.pn++aa,p.1≠b):Inv X aa σ H' s':=by
 obtain⟨h',g',d',t',o'⟩:=s';have e:o'=s.os:=ho;subst e;exact I.call (g':=g') (t':=t') (d':=d') u hok hg hch
end
abbrev XK:=Value→Option Addr→Hp→Prop
abbrev St:=List (Option V)
abbrev VK:=V→Hp→Prop
abbrev TE:=St→Hp→VK→Prop
abbrev TT:=St→Hp→(Bool→Hp→Prop)→Prop
abbrev TA:=St→Hp→(List V→Hp→Prop)→Prop
structure pd where
 nx:St→Hp→Prop
 rt:VK
 bk:St→Hp→Prop:=fun _ _=>False
 ct:St→Hp→Prop:=fun _ _=>False
abbrev TS:=pd→St→Hp→Prop
def EP (X:Cx)(aa:List (Addr×Obj))(σ:St)(Q:VK)(u:Value)(s':Shared):Prop:=∃v H',Inv X aa σ H' s'∧RelV v u∧Q v H'
def TP (X:Cx)(aa:List (Addr×Obj))(σ:St)(Q:Bool→Hp→Prop)(b:Bool)(s':Shared):Prop:=∃H',Inv X aa σ H' s'∧Q b H'
def AP (X:Cx)(aa:List (Addr×Obj))(σ:St)(Q:List V→Hp→Prop)(us:List Value)(s':Shared):Prop:=∃vs H',Inv X aa σ H' s'∧aC vs us∧Q vs H'
def SP (X:Cx)(aa:List (Addr×Obj))(D:pd)(f:Flow)(s':Shared):Prop:=
 match f with
 | .next=>∃σ' H',Inv X aa σ' H' s'∧D.nx σ' H'
 | .brk=>∃σ' H',Inv X aa σ' H' s'∧D.bk σ' H'
 | .cont=>∃σ' H',Inv X aa σ' H' s'∧D.ct σ' H'
 | .ret u=>∃v σ' H',Inv X aa σ' H' s'∧RelV v u∧D.rt v H'
def PE (X:Cx)(e:Expr)(t:TE):Prop:=
 ∀(aa:List (Addr×Obj)) (s:Shared) (σ:St) (H:Hp) (Q:VK),Inv X aa σ H s→t σ H Q→wpAny (model X.prog X.w) X.A (eval e X.env) (EP X aa σ Q) X.xe s
def PT (X:Cx)(e:Expr)(t:TT):Prop:=
 ∀(aa:List (Addr×Obj)) (s:Shared) (σ:St) (H:Hp) (Q:Bool→Hp→Prop),Inv X aa σ H s→t σ H Q→wpAny (model X.prog X.w) X.A (isTrue e X.env (eval e X.env)) (TP X aa σ Q) X.xe s
def PW (X:Cx)(e:Expr)(t:TT):Prop:=
 ∀(whole:Sem Value) (aa:List (Addr×Obj)) (s:Shared) (σ:St) (H:Hp) (Q:Bool→Hp→Prop),Inv X aa σ H s→t σ H Q→wpAny (model X.prog X.w) X.A (isTrue e X.env whole) (TP X aa σ Q) X.xe s
variable{X:Cx}{e:Expr}
theorem PW.pt {t:TT}(h:PW X e t):PT X e t:=h _
def PA (X:Cx)(es:List Expr)(t:TA):Prop:=
 ∀(pos:Pos) (aa:List (Addr×Obj)) (s:Shared) (σ:St) (H:Hp) (Q:List V→Hp→Prop),Inv X aa σ H s→t σ H Q→wpAny (model X.prog X.w) X.A (spliced (backTo pos (starEach es X.env))) (AP X aa σ Q) X.xe s
def PS (X:Cx)(st:Stmt)(t:TS):Prop:=
 ∀(aa:List (Addr×Obj)) (s:Shared) (σ:St) (H:Hp) (D:pd),Inv X aa σ H s→t D σ H→wpAny (model X.prog X.w) X.A (exec st X.env) (SP X aa D) X.xe s
def PSs (X:Cx)(st:List Stmt)(t:TS):Prop:=
 ∀(aa:List (Addr×Obj)) (s:Shared) (σ:St) (H:Hp) (D:pd),Inv X aa σ H s→t D σ H→wpAny (model X.prog X.w) X.A (execs st X.env) (SP X aa D) X.xe s
variable{A:Around}{E:Value→Shared→Prop}{s:Shared}
theorem b8 {α:Type}{t:Sem α}{Q Q':α→Shared→Prop}{M:Model}(h:wpAny M A t Q E s)(hQ:∀a s,Q a s→Q' a s):wpAny M A t Q' E s:=wpAny_mono h hQ fun _ _ x=>x
variable{Q:Value→Shared→Prop}{aa:List (Addr×Obj)}{σ:St}
section
variable {X:Cx}
def Az (i:Nat):TE:=fun σ H Q=>∃v,σ[i]?=some (some v)∧Q v H
def tC (v:V):TE:=fun _ H Q=>Q v H
theorem yG {pos:Pos}(hN:X.N[i]?=some x)(hv:AZ X.env.scope x)(hd:(x==("__debug__":Str))=false:=by decide)(hcd:(x==("__classdict__":Str))=false:=by decide):PE X (.Name x pos) (Az i):=by
 intro aa s σ H Q I h;obtain⟨v,e,h⟩:=h;obtain⟨m,hn,hl⟩:=I.loc;obtain⟨u,r,l⟩:=hl i x v hN e hv;have fin:EP X aa σ Q u s:=⟨v,H,I,r,h⟩;rcases l with⟨hk,hm⟩|⟨hk,c,hc,hcell⟩
 ·exact wpAny_Name (wpAny_loadName_local I.ok.kind hk hn hm fin) hd
 ·rcases hk with hk|hk
  ·exact wpAny_Name (wpAny_loadName_cell I.ok.kind hk hc hcell fin) hd
  ·exact wpAny_Name (wpAny_loadName_free I.ok.kind hk hc hcell fin hcd) hd
theorem yy {i j pos}:PE X (.Constant (.int i) j pos) (tC (.int i)):=fun _ _ _ H _ I h=>wpAny_Constant_int ⟨.int i,H,I.tok _,⟨_,rfl⟩,h⟩
theorem AG {b j pos}:PE X (.Constant (.bool b) j pos) (tC (.bl b)):=fun _ _ _ H _ I h=>Constant_bool ⟨.bl b,H,I,rfl,h⟩
theorem yv {j pos}:PE X (.Constant .none j pos) (tC .non):=fun _ _ _ H _ I h=>Constant_none ⟨.non,H,I,rfl,h⟩
theorem wQ {x j pos}:PE X (.Constant (.str x) j pos) (tC (.str x)):=fun _ _ _ H _ I h=>Calls.Constant_str ⟨.str x,H,I.tok _,⟨_,rfl⟩,h⟩
def Gl (X:Cx)(x:Str):Prop:=X.env.kindOf x=some .globalImplicit
theorem iR {E:Value→Shared→Prop}{pos:Pos}(I:Inv X aa σ H s)(hg:Gl X x)(hm:X.mg x=some u)(h:Q u s)
  (hd:(x==("__debug__":Str))=false:=by decide):wpAny (model X.prog X.w) X.A (eval (.Name x pos) X.env) Q E s:=
 Calls.Name_function_global I.ok.kind hg (Calls.loadGlobal_global (by rw[I.ok.glob];exact I.mod.glob.keeps I.bk) hm h) hd
theorem kO {E:Value→Shared→Prop}{pos:Pos}(I:Inv X aa σ H s)(hg:Gl X x)(hm:X.mg x=none)(hv:bootBuiltins x=some u)(h:Q u s)
  (hn:x≠"__name__":=by decide) (hd:(x==("__debug__":Str))=false:=by decide):wpAny (model X.prog X.w) X.A (eval (.Name x pos) X.env) Q E s:=by
 obtain⟨mb,h1,h2⟩:=I.mod.blt;exact Calls.Name_function_global I.ok.kind hg (Calls.loadGlobal_builtin (by rw[I.ok.glob];exact I.mod.glob.keeps I.bk) hm (by rw[I.ok.blt];exact h1.keeps I.bk) ((h2 x hn).trans hv) h) hd
theorem vd {pos:Pos}(hg:Gl X x)(hm:X.mg x=some u)(r:RelV v u)(hd:(x==("__debug__":Str))=false:=by decide):PE X (.Name x pos) (tC v):=
 fun _ _ _ H _ I h=>iR I hg hm ⟨v,H,I,r,h⟩ hd
theorem vO {pos:Pos}(hg:Gl X x)(hm:X.mg x=none)(hv:bootBuiltins x=some u)(r:RelV v u)(hn:x≠"__name__":=by decide)(hd:(x==("__debug__":Str))=false:=by decide):PE X (.Name x pos) (tC v):=
 fun _ _ _ H _ I h=>kO I hg hm hv ⟨v,H,I,r,h⟩ hn hd
variable {a b:Expr}{ta tb:TE}{pos:Pos}
variable {tA tB':TT}{rest:List Expr}
def BZ (t u:TT):TT:=fun σ H Q=>t σ H fun c H1=>if c=true then u σ H1 Q else Q false H1
def Dc (t u:TT):TT:=fun σ H Q=>t σ H fun c H1=>if c=true then Q true H1 else u σ H1 Q
def Ci (t:TT):TT:=fun σ H Q=>t σ H fun c H1=>Q (!c) H1
theorem uS (ha:PT X a tA):PW X (.BoolOp .And [a] pos) tA:=by
 intro wh aa s σ H Q I h;refine isTrue_and (b8 (ha aa s σ H Q I h) fun c s1 e=>?_);cases c with
 | true=>exact isTrue_and_nil e
 | false=>exact e
theorem zg (ha:PT X a tA):PW X (.BoolOp .Or [a] pos) tA:=by
 intro wh aa s σ H Q I h;refine isTrue_or (b8 (ha aa s σ H Q I h) fun c s1 e=>?_);cases c with
 | false=>exact isTrue_or_nil e
 | true=>exact e
theorem yY (ha:PT X a tA)(hb:PW X (.BoolOp .And (b::rest) pos) tB'):PW X (.BoolOp .And (a::b::rest) pos) (BZ tA tB'):=by
 intro wh aa s σ H Q I h;refine isTrue_and (b8 (ha aa s σ H _ I h) fun c s1 hxx=>?_);obtain⟨H1,I1,q1⟩:=hxx;cases c with
 | true=>exact hb wh aa s1 σ H1 Q I1 q1
 | false=>exact⟨H1,I1,q1⟩
theorem AN (ha:PT X a tA)(hb:PW X (.BoolOp .Or (b::rest) pos) tB'):PW X (.BoolOp .Or (a::b::rest) pos) (Dc tA tB'):=by
 intro wh aa s σ H Q I h;refine isTrue_or (b8 (ha aa s σ H _ I h) fun c s1 hxx=>?_);obtain⟨H1,I1,q1⟩:=hxx;cases c with
 | true=>exact⟨H1,I1,q1⟩
 | false=>exact hb wh aa s1 σ H1 Q I1 q1
theorem zB (ha:PT X a tA):PT X (.UnaryOp .Not a pos) (Ci tA):=by
 intro aa s σ H Q I h;exact isTrue_not (ha aa s σ H (fun c H1=>Q (!c) H1) I h)
end
def gT (K:W.Frag)(H:Hp)(a:Addr)(xs:List V):Prop:=
 Rd H a (.lst xs)∨
  ∃(o:Obj) (its:Array Value) (n:Nat),K.lookup a=some o∧o.cls=.type "list"∧o.dict=none∧o.data=.seq its n∧its.size≤sizeLine∧aC xs its.toList
def lK (K:W.Frag)(H:Hp)(a:Addr)(xs:List V):Prop:=
 Rd H a (.tup xs)∨
  ∃(o:Obj) (its:Array Value) (n:Nat),K.lookup a=some o∧o.cls=.type "tuple"∧o.data=.seq its n∧its.size≤sizeLine∧aC xs its.toList
def CZ:Value→Option V
 | .none=>some .non
 | .bool b=>some (.bl b)
 | .int i _=>some (.int i)
 | .str x _=>some (.str x)
 | .bytes b _=>some (.byt b)
 | .float b _=>some (.flt b)
 | .ref a=>some (.ref a)
 | .type n=>some (.ty n)
 | _=>none
theorem RelV.abs {x:V}(r:RelV x u):CZ u=some x:=by
 cases x with
 | non=>cases r;rfl
 | bl _=>cases r;rfl
 | int _=>obtain⟨t,rfl⟩:=r;rfl
 | str _=>obtain⟨t,rfl⟩:=r;rfl
 | byt _=>obtain⟨t,rfl⟩:=r;rfl
 | flt _=>obtain⟨t,rfl⟩:=r;rfl
 | ref _=>cases r;rfl
 | ty _=>cases r;rfl
theorem RelV.inj {x y:V}(r:RelV x u)(q:RelV y u):x=y:=Option.some.inj (r.abs.symm.trans q.abs)
theorem aC.inj:∀{xs ys:List V} {us:List Value},aC xs us→aC ys us→xs=ys
 | _,_,_,.nil,.nil=>rfl
 | _,_,_,.cons r t,.cons r' t'=>by rw[r.inj r',aC.inj t t']
section
variable {X:Cx}{aa:List (Addr×Obj)}{σ:St}{H:Hp}{s:Shared}{a:Addr}{xs ys:List V}
theorem Inv.list (I:Inv X aa σ H s)(h:gT X.K H a xs):∃its:List Value,aC xs its∧PlainL s.heap a its.toArray∧xs.length≤sizeLine:=by
 rcases h with h|⟨o,its,n,hk,hc,hd,hs,hz,r⟩
 ·obtain⟨z,its,n,r,e⟩:=h.ok I.hok;exact⟨its,r,⟨_,n,e,rfl,rfl,rfl⟩,z⟩
 ·refine⟨its.toList,r,⟨o,n,I.kIn a o hk,hc,hd,by simpa using hs⟩,?_⟩;have e:=r.length;simp only[Array.length_toList] at e;omega
theorem Inv.tuple (I:Inv X aa σ H s)(h:lK X.K H a xs):∃its:List Value,aC xs its∧IsTup s.heap a its.toArray∧xs.length≤sizeLine:=by
 rcases h with h|⟨o,its,n,hk,hc,hs,hz,r⟩
 ·obtain⟨z,its,r,p⟩:=h.ok I.hok;exact⟨its,r,p,z⟩
 ·refine⟨its.toList,r,⟨o,I.kIn a o hk,hc,n,by simpa using hs⟩,?_⟩;have e:=r.length;simp only[Array.length_toList] at e;omega
theorem Inv.list_inj (I:Inv X aa σ H s)(h:gT X.K H a xs)(h':gT X.K H a ys):xs=ys:=by
 obtain⟨its,r,⟨o,n,e,_,_,d⟩,_⟩:=I.list h;obtain⟨its',r',⟨o',n',e',_,_,d'⟩,_⟩:=I.list h';rw[e] at e';cases e';rw[d] at d';injection d' with d1 _
 have:its=its':=by simpa using congrArg Array.toList d1
 subst this;exact r.inj r'
theorem Inv.tuple_inj (I:Inv X aa σ H s)(h:lK X.K H a xs)(h':lK X.K H a ys):xs=ys:=by
 obtain⟨its,r,⟨o,e,_,n,d⟩,_⟩:=I.tuple h;obtain⟨its',r',⟨o',e',_,n',d'⟩,_⟩:=I.tuple h';rw[e] at e';cases e';rw[d] at d';injection d' with d1 _
 have:its=its':=by simpa using congrArg Array.toList d1
 subst this;exact r.inj r'
end
section
variable {X:Cx}{st:Stmt}{rest:List Stmt}{t u:TS}{e:Expr}{te:TE}{pos:Pos}
def AW:TS:=fun D σ H=>D.nx σ H
def CY (t u:TS):TS:=fun D σ H=>t {D with nx:=u D} σ H
theorem vW:PSs X [] AW:=fun _ _ σ H _ I h=>wpAny_execs_nil ⟨σ,H,I,h⟩
theorem re (h1:PS X st t)(h2:PSs X rest u):PSs X (st::rest) (CY t u):=by
 intro aa s σ H D I h;refine wpAny_execs_cons (b8 (h1 aa s σ H {D with nx:=u D} I h) fun f s1 q=>?_);cases f with
 | next=>
  obtain⟨σ',H',I',q⟩:=q;exact h2 aa s1 σ' H' D I' q
 | ret v=>exact q
 | brk=>exact q
 | cont=>exact q
theorem vR (h1:PS X st t):PSs X [st] t:=by
 intro aa s σ H D I h;refine wpAny_execs_cons (b8 (h1 aa s σ H D I h) fun f s1 q=>?_);cases f with
 | next=>exact wpAny_execs_nil q
 | ret v=>exact q
 | brk=>exact q
 | cont=>exact q
theorem Inv.quiet (I:Inv X aa σ H s):interactive X.env=false:=by simp[interactive,I.ok.kind]
def Ar (te:TE):TS:=fun D σ H=>te σ H fun _ H1=>D.nx σ H1
theorem uM (he:PE X e te)(hs:swapsWith e none pos.line X.env=pure false:=by rfl):PS X (.Expr e pos) (Ar te):=by
 intro aa s σ H D I h;exact wpAny_Expr_any (b8 (he aa s σ H _ I h) fun v s1 ⟨x,H1,I1,r1,q1⟩=>⟨σ,H1,I1,q1⟩) I.quiet hs
def B1 (te:TE):TS:=fun D σ H=>te σ H D.rt
theorem xc (he:PE X e te):PS X (.Return (some e) pos) (B1 te):=by
 intro aa s σ H D I h;exact wpAny_Return_some (b8 (he aa s σ H _ I h) fun v s1 ⟨x,H1,I1,r1,q1⟩=>⟨x,σ,H1,I1,r1,q1⟩)
def Cs (c:TT)(t u:TS):TS:=fun D σ H=>c σ H fun b H1=>if b=true then t D σ H1 else u D σ H1
theorem AT {c:Expr}{a b:List Stmt}{tc:TT}(hc:PT X c tc)(ha:PSs X a t)(hb:PSs X b u):PS X (.If c a b pos) (Cs tc t u):=by
 intro aa s σ H D I h;refine wpAny_If (b8 (hc aa s σ H _ I h) fun d s1 hxx=>?_);obtain⟨H1,I1,q1⟩:=hxx;cases d with
 | true=>exact ha aa s1 σ H1 D I1 q1
 | false=>exact hb aa s1 σ H1 D I1 q1
end
abbrev TG:=V→St→Hp→(St→Hp→Prop)→Prop
abbrev wH:=List V→St→Hp→(St→Hp→Prop)→Prop
def PG (X:Cx)(target:Expr)(t:TG):Prop:=
 ∀(aa:List (Addr×Obj)) (s:Shared) (σ:St) (H:Hp) (v:V) (u:Value) (Q:St→Hp→Prop),Inv X aa σ H s→RelV v u→t v σ H Q→
  wpAny (model X.prog X.w) X.A (assign target X.env u) (fun _ s'=>∃σ' H',Inv X aa σ' H' s'∧Q σ' H') X.xe s
def v4 (X:Cx)(ts:List Expr)(t:wH):Prop:=
 ∀(aa:List (Addr×Obj)) (s:Shared) (σ:St) (H:Hp) (vs:List V) (us:List Value) (Q:St→Hp→Prop),Inv X aa σ H s→aC vs us→t vs σ H Q→
  wpAny (model X.prog X.w) X.A (assignInOrder ((assignEach ts X.env).map (·.2)) us) (fun _ s'=>∃σ' H',Inv X aa σ' H' s'∧Q σ' H') X.xe s
abbrev yQ:=V→V→V→Hp→(Hp→Prop)→Prop
def Bj (X:Cx)(t:yQ):Prop:=
 ∀(aa:List (Addr×Obj)) (s:Shared) (σ:St) (H:Hp) (o i v:V) (ov iv u:Value) (Q:Hp→Prop),Inv X aa σ H s→RelV o ov→RelV i iv→RelV v u→t o i v H Q→
  wpAny (model X.prog X.w) X.A (setItem ov iv u) (fun _ s'=>∃H',Inv X aa σ H' s'∧Q H') X.xe s
variable{es:List Expr}{tg:Expr}
section
variable {X:Cx}{pos:Pos}
def wB (i:Nat):TG:=fun v σ H Q=>Q (σ.set i (some v)) H
theorem wd (hN:X.N.Nodup)(hi:X.N[i]?=some x)(hx:rk X.env.scope x)(hf:X.fn x=true∨X.env.scope.names.lookup x=some .local:=by first|exact .inl rfl|exact .inr rfl|assumption):PG X (.Name x pos) (wB i):=by
 intro aa s σ H v u Q I r h;exact wpAny_assign_Name (jB I hN hi hx r (fun s' I'=>⟨_,H,I',h⟩) hf)
def Ck:wH:=fun vs σ H Q=>vs=[]∧Q σ H
def zT (t:TG)(u:wH):wH:=fun vs σ H Q=>∃v r,vs=v::r∧t v σ H fun σ' H'=>u r σ' H' Q
theorem v3:v4 X [] Ck:=by
 intro aa s σ H vs us Q I r h;obtain⟨e,h⟩:=h;subst e;cases r;exact assignInOrder_nil ⟨σ,H,I,h⟩
theorem tz {t:TG}{u:wH}(h1:PG X e t)(h2:v4 X es u)
  (hs:(assignEach (e::es) X.env).map (·.2)=assign e X.env::(assignEach es X.env).map (·.2):=by rfl):v4 X (e::es) (zT t u):=by
 intro aa s σ H vs us Q I r h;obtain⟨v,vr,e1,h⟩:=h;subst e1;cases r with
 | cons r rr=>
  rw[hs];refine assignInOrder_cons (b8 (h1 aa s σ H _ _ _ I r h) fun _ s1 hxx=>?_);obtain⟨σ1,H1,I1,q1⟩:=hxx;exact h2 aa s1 σ1 H1 _ _ Q I1 rr q1
def CO (K:W.Frag)(n:Nat)(t:wH):TG:=fun v σ H Q=>∃a xs,v=.ref a∧lK K H a xs∧xs.length=n∧t xs σ H Q
theorem zu {k:Nat}{t:wH}{n:Nat}(hc:X.calm=true)(h:v4 X es t)
  (hn:(assignEach es X.env).length=n:=by rfl) (hst:(assignEach es X.env).findIdx? (·.1)=none:=by rfl):PG X (.Tuple es k pos) (CO X.K n t):=by
 intro aa s σ H v u Q I r hw;obtain⟨a,xs,e1,hq,hl,hw⟩:=hw;subst e1;cases r;obtain⟨its,rv,ht,hz⟩:=I.tuple hq;refine assign_Tuple_tuple (I.ok.hd hc) ht (by simp[hn,←hl,rv.length]) hst fun h' hx=>?_
 have I1:Inv X aa σ H {s with heap:=h'}:=I.kept (t':=s.toks) fun b o e=>hx b o (Nat.ne_of_lt (Heap.lt_size e)) e
 exact h aa _ σ H xs _ Q I1 (by simpa using rv) hw
def B7 (to ti:TE)(t:yQ):TG:=fun v σ H Q=>to σ H fun o H1=>ti σ H1 fun i H2=>t o i v H2 fun H3=>Q σ H3
theorem wO {o i:Expr}{to ti:TE}{t:yQ}(ho:PE X o to)(hi:PE X i ti)(hs:Bj X t)
  (ha:∀v,assign (.Subscript o i pos) X.env v=(do
   let ov ←holding [v] (eval o X.env)
   let iv ←holding [v,ov] (eval i X.env)
   standAt pos
   holding [v,ov,iv] (setItem ov iv v)
   release [v,ov,iv] []):=by intro _;rfl):PG X (.Subscript o i pos) (B7 to ti t):=by
 intro aa s σ H v u Q I r h;rw[ha];refine wpAny_bind (wpAny_holding (b8 (ho aa s σ H _ I h) fun ov s1 hxx=>?_));obtain⟨x,H1,I1,r1,q1⟩:=hxx;refine wpAny_bind (wpAny_holding (b8 (hi aa s1 σ H1 _ I1 q1) fun iv s2 hxx=>?_));obtain⟨y,H2,I2,r2,q2⟩:=hxx;refine wpAny_bind (wpAny_standAt (wpAny_bind (wpAny_holding (b8 (hs aa s2 σ H2 x y v ov iv u _ I2 r1 r2 r q2) fun _ s3 hxx=>?_))));obtain⟨H3,I3,q3⟩:=hxx;exact wpAny_release ⟨σ,H3,I3,q3⟩
def Bz (te:TE)(g:TG):TS:=fun D σ H=>te σ H fun x H1=>g x σ H1 D.nx
theorem za {te:TE}{g:TG}(he:PE X e te)(hg:PG X tg g)(hs:swapsWithSole [tg] e pos.line X.env=pure false:=by rfl)(hw:swappedStores [tg] e X.env=pure none:=by rfl)
  (h1:(assignEach [tg] X.env).map (·.2)=[assign tg X.env]:=by rfl):PS X (.Assign [tg] e pos) (Bz te g):=by
 intro aa s σ H D I h;refine wpAny_Assign_stores (b8 (he aa s σ H _ I h) fun v s1 hxx=>?_) hs hw;obtain⟨x,H1,I1,r1,q1⟩:=hxx;rw[h1];exact b8 (hg aa s1 σ H1 x v _ I1 r1 q1) fun _ s2 q=>q
theorem yp {te:TE}{pos':Pos}(hN:X.N.Nodup)(hi:X.N[i]?=some x)(hx:rk X.env.scope x)(he:PE X e te)(hs:swapsWith e (some (.Name x pos')) pos.line X.env=pure false:=by rfl)(hf:X.fn x=true∨X.env.scope.names.lookup x=some .local:=by first|exact .inl rfl|exact .inr rfl|assumption) :
  PS X (.Assign [.Name x pos'] e pos) (Bz te (wB i)):=by
 intro aa s σ H D I h;refine wpAny_Assign_Name (b8 (he aa s σ H _ I h) fun v s1 hxx=>?_) hs;obtain⟨y,H1,I1,r1,q1⟩:=hxx;exact jB I1 hN hi hx r1 (fun s2 I2=>⟨_,H1,I2,q1⟩) hf
end
structure It where
 go:Nat→Hp→Prop
 yld:Nat→Hp→V→Hp→Prop
 stop:Nat→Hp→Prop
def eV (X:Cx)(aa:List (Addr×Obj))(H:Hp)(b:Addr):Prop:=
 H b=none∧b≠X.env.locals∧b∉X.fs∧(b∈X.ex∨X.s₀.heap.objs.size≤b)∧(∀x c,X.env.cells.lookup x=some c→c≠b)∧∀p∈X.pn++aa,p.1≠b
theorem Inv.fpOk {H':Hp}(I:Inv X aa σ H s)(hb:s.heap.objs.size≤b)(hn:H' b=none):eV X aa H' b:=by
 refine⟨hn,Nat.ne_of_gt (Nat.lt_of_lt_of_le I.lt hb),I.nofs hb,.inr (Nat.le_trans I.sz hb),fun x c e z=>?_,fun p hp z=>?_⟩
 ·obtain⟨v,q⟩:=I.cell x c e;exact absurd (Nat.lt_of_lt_of_le q.lt (by rw[z];exact hb)) (Nat.lt_irrefl _)
 ·exact absurd (Nat.lt_of_lt_of_le (Heap.lt_size (I.pin p hp).1) (by rw[z];exact hb)) (Nat.lt_irrefl _)
structure TurnF (P:Program)(w:World)(K:W.Frag)(tg:Expr)(J:It)(fp:List Addr)(it:Addr)(tn:Nat→Heap→Prop):Prop where
 mem:it∈fp
 obj:∀i h,tn i h→∀b∈fp,∃o,h.get? b=some o∧∀v,o.data≠.cell v
 keep:∀i h h',tn i h→(∀b∈fp,∀o,h.get? b=some o→h'.get? b=some o)→tn i h'
 item:∀(X:Cx),X.prog=P→X.w=w→X.K=K→X.calm=true→∀(i:Nat) (aa:List (Addr×Obj)) (s:Shared) (σ:St) (H:Hp) (E:Value→Shared→Prop),Inv X aa σ H s→(∀b∈fp,eV X aa H b)→tn i s.heap→J.go i H→
  wpAny (model P w) X.A (pyNext (.ref it)) (fun r s1=>∃u,r=some u∧
   wpAny (model P w) X.A (letOwnedTupleGo tg (.ref it) u) (fun _ s2=>∃x H',Inv X aa σ H' s2∧RelV x u∧J.yld i H x H'∧tn (i+1) s2.heap∧∀b∈fp,H' b=none) E s1) E s
 done:∀(X:Cx),X.prog=P→X.w=w→X.K=K→X.calm=true→∀(i:Nat) (aa:List (Addr×Obj)) (s:Shared) (σ:St) (H:Hp) (E:Value→Shared→Prop),Inv X aa σ H s→(∀b∈fp,eV X aa H b)→tn i s.heap→J.stop i H→
  wpAny (model P w) X.A (pyNext (.ref it)) (fun r s1=>r=none∧Inv X aa σ H s1) E s
structure sR (P:Program)(w:World)(K:W.Frag)(tg:Expr)(J:It)(fp:List Addr)(it:Addr)(tn:Nat→Heap→Prop):Prop extends TurnF P w K tg J fp it tn where
 self:∀(A:Around) (i:Nat) (s:Shared) (Q:Value→Shared→Prop) (E:Value→Shared→Prop),tn i s.heap→Q (.ref it) s→wpAny (model P w) A (pyIter (.ref it)) Q E s
abbrev TI:=St→Hp→(It→Hp→Prop)→Prop
def C3 (X:Cx)(aa:List (Addr×Obj))(σ:St)(tg:Expr)(R:It→Hp→Prop)(itv:Value)(s2:Shared):Prop:=
 ∃(it:Addr) (fp:List Addr) (tn:Nat→Heap→Prop) (J:It) (H':Hp),itv=.ref it∧Inv X aa σ H' s2∧sR X.prog X.w X.K tg J fp it tn∧tn 0 s2.heap∧(∀b∈fp,eV X aa H' b)∧R J H'
def PI (X:Cx)(tg iter:Expr)(wi:TI):Prop:=
 ∀(aa:List (Addr×Obj)) (s:Shared) (σ:St) (H:Hp) (R:It→Hp→Prop),Inv X aa σ H s→wi σ H R→
  wpAny (model X.prog X.w) X.A (eval iter X.env) (fun v s1=>wpAny (model X.prog X.w) X.A (pyIter v) (C3 X aa σ tg R) X.xe s1) X.xe s
def CK (X:Cx)(aa:List (Addr×Obj))(σ:St)(tg:Expr)(R:It→Hp→Prop)(itv:Value)(s2:Shared):Prop:=
 ∃(it:Addr) (fp:List Addr) (tn:Nat→Heap→Prop) (J:It) (H':Hp),itv=.ref it∧Inv X aa σ H' s2∧TurnF X.prog X.w X.K tg J fp it tn∧tn 0 s2.heap∧(∀b∈fp,eV X aa H' b)∧R J H'
def An (X:Cx)(tg iter:Expr)(wi:TI):Prop:=
 ∀(aa:List (Addr×Obj)) (s:Shared) (σ:St) (H:Hp) (R:It→Hp→Prop),Inv X aa σ H s→wi σ H R→
  wpAny (model X.prog X.w) X.A (eval iter X.env) (fun v s1=>wpAny (model X.prog X.w) X.A (pyIter v) (CK X aa σ tg R) X.xe s1) X.xe s
theorem PI.toF {iter:Expr}{wi:TI}(h:PI X tg iter wi):An X tg iter wi:=fun aa s σ H R I q=>b8 (h aa s σ H R I q) fun v s1 h1=>b8 h1 fun itv s2 h2=>by
 obtain⟨it,fp,tn,J,H2,e,I2,T,r⟩:=h2;exact⟨it,fp,tn,J,H2,e,I2,T.toTurnF,r⟩
theorem sr {M:Model}{it:Addr}{o:Obj}{n:String}{vs:Array Value}{Q:Unit→Shared→Prop}(ho:s.heap.get? it=some o)(hc:o.cls=.type n)(hd:o.data=.fields vs)
  (hn:["enumerate","zip","dict_itemiterator","dict_reverseitemiterator","odict_iterator","itertools.zip_longest","itertools.pairwise"].contains n=false) (hQ:Q () s):wpAny M A (letOwnedTupleGo tg (.ref it) u) Q E s:=by
 unfold letOwnedTupleGo;cases tg <;> first
  | exact wpAny_pure hQ
  | (cases u <;> first
    | exact wpAny_pure hQ
    | (refine wpAny_bind (wpAny_load ho ?_)
       rw[hc,hd];show wpAny M A (if(["enumerate","zip","dict_itemiterator","dict_reverseitemiterator","odict_iterator","itertools.zip_longest","itertools.pairwise"].contains n&&vs[0]?==some (rawInt _))=true then _ else _) Q E s;rw[if_neg (by intro h;rw[hn,Bool.false_and] at h;cases h)];exact wpAny_pure hQ))
def BP (K:W.Frag)(a:Addr):It:=
 ⟨fun i H=>∃xs x,gT K H a xs∧xs[i]?=some x,fun i H x H'=>H'=H∧∀xs,gT K H a xs→xs[i]?=some x,fun i H=>∃xs,gT K H a xs∧xs.length≤i⟩
def Cw (K:W.Frag)(a:Addr):It:=
 ⟨fun i H=>∃xs x,lK K H a xs∧xs[i]?=some x,fun i H x H'=>H'=H∧∀xs,lK K H a xs→xs[i]?=some x,fun i H=>∃xs,lK K H a xs∧xs.length≤i⟩
def BI (lo:Int)(n:Nat):It:=⟨fun i _=>i<n,fun i H x H'=>H'=H∧x=.int (lo+i),fun i _=>n≤i⟩
variable{K:W.Frag}
theorem pj (a it:Addr):sR P w K tg (BP K a) [it] it (fun i h=>h.IsListIter it a i) where
 mem:=by simp
 obj:=fun i h st b hb=>by
  have e:b=it:=by simpa using hb
  subst e;obtain⟨o,e,c,d⟩:=st;exact⟨o,e,fun v z=>by rw[d] at z;cases z⟩
 keep:=fun i h h' st k=>st.at fun o e=>k it (by simp) o e
 item:=by
  intro X hP hw hK hc i aa s σ H E I hf st hg;subst hP hw hK;obtain⟨xs,x,hq,hx⟩:=hg;obtain⟨its,rv,p,hz⟩:=I.list hq;obtain⟨u,hu,ru⟩:=rv.get hx;obtain⟨f0,f1,f2,f3,f4,f5⟩:=hf it (by simp);refine wpAny_pyNext_list_item st p.isList (x:=u) (by simpa using hu) fun h' st' sb=>?_
  have I1:Inv X aa σ H {s with heap:=h'}:=I.turned (t':=s.toks) (fun b o hb e=>(sb.2 b hb).trans e) f0 f1 f3 f4 f5;obtain⟨o,e,c,d⟩:=id st';exact⟨u,rfl,sr (s:={s with heap:=h'}) e c d (by decide) ⟨x,H,I1,ru,⟨rfl,fun ys hy=>by rw[I.list_inj hy hq];exact hx⟩,st',fun b hb=>(hf b hb).1⟩⟩
 done:=by
  intro X hP hw hK hc i aa s σ H E I hf st hg;subst hP hw hK;obtain⟨xs,hq,hx⟩:=hg;obtain⟨its,rv,p,hz⟩:=I.list hq;obtain⟨f0,f1,f2,f3,f4,f5⟩:=hf it (by simp);have hl:=rv.length;exact wpAny_pyNext_list_end (I.ok.hd hc) st p.isList (by simp;omega) fun h' eb=>⟨rfl,I.turned (t':=s.toks) (fun b o hb e=>eb b o hb e) f0 f1 f3 f4 f5⟩
 self:=fun _ _ _ _ _ st h=>wpAny_pyIter_listiter st h
theorem nu (a it:Addr):sR P w K tg (Cw K a) [it] it (fun i h=>h.IsTupleIter it a i) where
 mem:=by simp
 obj:=fun i h st b hb=>by
  have e:b=it:=by simpa using hb
  subst e;obtain⟨o,e,c,d⟩:=st;exact⟨o,e,fun v z=>by rw[d] at z;cases z⟩
 keep:=fun i h h' st k=>st.at fun o e=>k it (by simp) o e
 item:=by
  intro X hP hw hK hc i aa s σ H E I hf st hg;subst hP hw hK;obtain⟨xs,x,hq,hx⟩:=hg;obtain⟨its,rv,p,hz⟩:=I.tuple hq;obtain⟨u,hu,ru⟩:=rv.get hx;obtain⟨f0,f1,f2,f3,f4,f5⟩:=hf it (by simp);refine wpAny_pyNext_tuple_item st (show s.heap.IsTuple a its.toArray from p) (x:=u) (by simpa using hu) fun h' st' sb=>?_
  have I1:Inv X aa σ H {s with heap:=h'}:=I.turned (t':=s.toks) (fun b o hb e=>(sb.2 b hb).trans e) f0 f1 f3 f4 f5;obtain⟨o,e,c,d⟩:=id st';exact⟨u,rfl,sr (s:={s with heap:=h'}) e c d (by decide) ⟨x,H,I1,ru,⟨rfl,fun ys hy=>by rw[I.tuple_inj hy hq];exact hx⟩,st',fun b hb=>(hf b hb).1⟩⟩
 done:=by
  intro X hP hw hK hc i aa s σ H E I hf st hg;subst hP hw hK;obtain⟨xs,hq,hx⟩:=hg;obtain⟨its,rv,p,hz⟩:=I.tuple hq;obtain⟨f0,f1,f2,f3,f4,f5⟩:=hf it (by simp);have hl:=rv.length;exact wpAny_pyNext_tuple_end (I.ok.hd hc) st (show s.heap.IsTuple a its.toArray from p) (by simp;omega) fun h' eb=>⟨rfl,I.turned (t':=s.toks) (fun b o hb e=>eb b o hb e) f0 f1 f3 f4 f5⟩
 self:=fun _ _ _ _ _ st h=>wpAny_pyIter_tupleiter st h
theorem nR (it:Addr)(lo:Int)(n:Nat):sR P w K tg (BI lo n) [it] it (fun i h=>IsRangeIter h it (lo+(i:Nat)*1) ((n:Int)-(i:Nat)) 1) where
 mem:=by simp
 obj:=fun i h st b hb=>by
  have e:b=it:=by simpa using hb
  subst e;exact⟨_,st,fun v z=>by
   have z':Data.fields _=Data.cell v:=z;cases z'⟩
 keep:=fun i h h' st k=>k it (by simp) _ st
 item:=by
  intro X hP hw hK hc i aa s σ H E I hf st hg;subst hP hw hK;obtain⟨f0,f1,f2,f3,f4,f5⟩:=hf it (by simp);have W:=Walks.range (prog:=X.prog) (w:=X.w) (I.ok.hd hc) it lo 1 n;refine W.item i s _ _ hg st fun v h' tk hv st' kk=>?_
  obtain⟨t,rfl⟩:=hv;have I1:Inv X aa σ H {s with heap:=h',toks:=tk}:=I.turned (fun b o hb e=>kk b o (by simpa using hb) e) f0 f1 f3 f4 f5;refine⟨_,rfl,sr (s:={s with heap:=h',toks:=tk}) (n:="range_iterator") st' rfl rfl (by decide) ⟨.int (lo+i),H,I1,⟨t,?_⟩,⟨rfl,rfl⟩,st',fun b hb=>(hf b hb).1⟩⟩;rw[Int.mul_one]
 done:=by
  intro X hP hw hK hc i aa s σ H E I hf st hg;subst hP hw hK;obtain⟨f0,f1,f2,f3,f4,f5⟩:=hf it (by simp);exact wpAny_pyNext_range_end (I.ok.hd hc) st (by have:n≤i:=hg;omega) fun h' eb=>⟨rfl,I.turned (t':=s.toks) (fun b o hb e=>eb b o hb e) f0 f1 f3 f4 f5⟩
 self:=fun _ _ _ _ _ st h=>wpAny_pyIter_rangeiter st h
variable{fp:List Addr}{body:List Stmt}
section
variable {X:Cx}{tg:Expr}
theorem rj {R:It→Hp→Prop}{lo hi:Int}{t u v:Tok}{tk:Nat}(I:Inv X aa σ H s)(h1:-(2 ^ 62)≤lo)(h2:lo<2 ^ 62)(h3:-(2 ^ 62)≤hi)(h4:hi<2 ^ 62)
  (q:R (BI lo (hi-lo).toNat) H):wpAny (model X.prog X.w) X.A (pyIter (.ref s.heap.objs.size)) (C3 X aa σ tg R) E {s with heap:=s.heap.push {cls:=.type "range",data:=.fields #[.int lo t,.int hi u,.int 1 v]},toks:=tk}:=by
 refine wpAny_pyIter_range (IsRange.new ..) (small_one h1 h2 h3 h4) ?_;have I1:Inv X aa σ H {s with heap:=s.heap.push {cls:=.type "range",data:=.fields #[.int lo t,.int hi u,.int 1 v]},toks:=tk}:=I.kept fun b o e=>Heap.get?_push_of_some _ e
 refine⟨(s.heap.push {cls:=.type "range",data:=.fields #[.int lo t,.int hi u,.int 1 v]}).objs.size,[(s.heap.push {cls:=.type "range",data:=.fields #[.int lo t,.int hi u,.int 1 v]}).objs.size],_,_,H,rfl,
  I1.kept (t':=tk) fun b o e=>Heap.get?_push_of_some _ e,nR _ lo (hi-lo).toNat,?_,fun b hb=>?_,q⟩
 ·have e1:lo+((0:Nat):Int)*1=lo:=by simp
  have e2:(((hi-lo).toNat:Nat):Int)-((0:Nat):Int)=Builtin.Range.rangeSize lo hi 1:=by rw[rangeSize_one];split <;> omega
  show IsRangeIter _ _ (lo+((0:Nat):Int)*1) ((((hi-lo).toNat:Nat):Int)-((0:Nat):Int)) 1;rw[e1,e2];exact Heap.get?_push_size _ rfl
 ·have e:b=(s.heap.push {cls:=.type "range",data:=.fields #[.int lo t,.int hi u,.int 1 v]}).objs.size:=by simpa using hb
  subst e;exact I1.fpOk (Nat.le_refl _) (I1.hok.fresh (Nat.le_refl _))
def AH (ta:TA):TI:=fun σ H R=>ta σ H fun vs H1=>∃j:Int,vs=[.int j]∧-(2 ^ 62)≤j∧j<2 ^ 62∧R (BI 0 j.toNat) H1
theorem qi {a:Expr}{ta:TA}{p pos:Pos}(hg:Gl X "range")(hm:X.mg "range"=none)(ha:PA X [a] ta)(hs:starEach [a] X.env=[(false,eval a X.env)]:=by rfl):PI X tg (.Call (.Name "range" p) [a] [] pos) (AH ta):=by
 intro aa s σ H R I h;refine Call_ (kO I hg hm boot_range (PyProof.Rows.callWith_type1 (b8 (ha pos aa s σ H _ I h) fun us s1 hxx=>?_) hs rfl));obtain⟨vs,H1,I1,r1,q1⟩:=hxx;obtain⟨j,e,q1,q2,q⟩:=q1;subst e;cases r1 with
 | cons r rr=>
  cases rr;obtain⟨t,rfl⟩:=r;exact call_range_1 (rj I1 (by omega) (by omega) q1 q2 (by simpa using q))
def B0 (wi:TI)(g:TG)(tb:TS):TS:=fun D σ H=>wi σ H fun J H1=>∃W:Nat→Nat→St→Hp→Prop,(∃m,W 0 m σ H1)∧∀i m σ H,W i m σ H→
 (J.stop i H∧D.nx σ H)∨(J.go i H∧∃N:St→Hp→Prop,(∀σ' H',N σ' H'→∃m',m'<m∧W (i+1) m' σ' H')∧∀x H',J.yld i H x H'→g x σ H' fun σ2 H2=>tb {D with nx:=N,ct:=N,bk:=D.nx} σ2 H2)
def i3 (fp:List Addr)(h:Heap):List (Addr×Obj):=fp.filterMap fun b=>(h.get? b).map fun o=>(b,o)
theorem dY {o:Obj}(hb:b∈fp)(e:h.get? b=some o):(b,o)∈i3 fp h:=mem_filterMap.mpr ⟨b,hb,by rw[e];rfl⟩
theorem qu {p:Addr×Obj}(hp:p∈i3 fp h):p.1∈fp∧h.get? p.1=some p.2:=by
 obtain⟨b,hb,e⟩:=mem_filterMap.mp hp;cases q:h.get? b with
 | none=>rw[q] at e;cases e
 | some o=>
  rw[q] at e;have e':(b,o)=p:=Option.some.inj e;subst e';exact⟨hb,q⟩
theorem Inv.pinned (I:Inv X aa σ H s)(hf:∀b∈fp,eV X aa H b)(ho:∀b∈fp,∃o,s.heap.get? b=some o∧∀v,o.data≠.cell v):Inv X (aa++i3 fp s.heap) σ H s:=
 I.pins_of fun p hp=>(mem_append.mp hp).elim (fun z=>I.pin p (mem_append_right _ z)) fun z=>by
  obtain⟨hb,e⟩:=qu z;obtain⟨f0,f1,f2,_⟩:=hf p.1 hb;obtain⟨o,e',d⟩:=ho p.1 hb;rw[e] at e';cases e';exact⟨e,f0,f1,f2,d⟩
theorem Inv.unpinned {pl:List (Addr×Obj)}(I:Inv X (aa++pl) σ H s):Inv X aa σ H s:=I.pins_of fun p hp=>I.pin p (mem_append_right _ (mem_append_left _ hp))
theorem xg {iter:Expr}{wi:TI}{g:TG}{tb:TS}{pos:Pos}(hp:PassesOwn (model X.prog X.w) X.A X.env X.xe)(hc:X.calm=true)(hi:An X tg iter wi)(hg:PG X tg g)(hb:PSs X body tb)
  (hs:∀x,foldedSetIterable iter X.env x=pure x:=by intro _;rfl):PS X (.For tg iter body [] pos) (B0 wi g tb):=by
 intro aa s σ H D I h;refine wpAny_For (b8 (hi aa s σ H _ I h) fun v s1 h1=>b8 h1 fun itv s2 h2=>?_) hs;obtain⟨it,fp,tn,J,H2,e,I2,T,st2,f2,W,⟨m0,w0⟩,turn⟩:=h2;subst e;have stat:∀{H':Hp},(∀b∈fp,H' b=none)→∀b∈fp,eV X aa H' b:=fun hn b hb=>⟨hn b hb,(f2 b hb).2⟩
 refine codeAny_forLoop_any (fun n s'=>∃i σ' H',Inv X aa σ' H' s'∧tn i s'.heap∧(∀b∈fp,H' b=none)∧W i n σ' H') ?_ m0 ⟨0,σ,H2,I2,st2,fun b hb=>(f2 b hb).1,w0⟩;rintro n s3 ⟨i,σ3,H3,I3,st3,fr3,w3⟩;rcases turn i n σ3 H3 w3 with⟨stop,qn⟩|⟨go,N,hN,step⟩
 ·refine wpAny_passesOwn hp (b8 (T.done X rfl rfl rfl hc i aa s3 σ3 H3 X.xe I3 (stat fr3) st3 stop) fun r s4 hxx=>?_);obtain⟨hr,I4⟩:=hxx;subst hr;exact wpAny_execs_nil ⟨σ3,H3,I4,qn⟩
 ·refine wpAny_passesOwn hp (b8 (T.item X rfl rfl rfl hc i aa s3 σ3 H3 X.xe I3 (stat fr3) st3 go) fun r s4 hxx=>?_);obtain⟨u,hr,h4⟩:=hxx;subst hr;refine wpAny_passesOwn hp (b8 h4 fun _ s5 hxx=>?_);obtain⟨x,H5,I5,r5,y5,st5,fr5⟩:=hxx;have I5':=I5.pinned (stat fr5) (T.obj _ _ st5);refine wpAny_passesOwn hp (b8 (hg _ s5 σ3 H5 x u _ I5' r5 (step x H5 y5)) fun _ s6 hxx=>?_);obtain⟨σ6,H6,I6,q6⟩:=hxx;refine wpAny_passesOwn hp (b8 (hb _ s6 σ6 H6 _ I6 q6) fun f s7 q7=>?_);have again:∀{σ7:St} {H7:Hp},Inv X (aa++i3 fp s5.heap) σ7 H7 s7→N σ7 H7→∃m,m<n∧∃i σ' H',Inv X aa σ' H' s7∧tn i s7.heap∧(∀b∈fp,H' b=none)∧W i m σ' H':=fun {σ7 H7} I7 n7=>by
   obtain⟨m',hm,w7⟩:=hN σ7 H7 n7;refine⟨m',hm,i+1,σ7,H7,I7.unpinned,T.keep _ _ _ st5 fun b hb o e=>(I7.pin (b,o) (mem_append_right _ (mem_append_right _ (dY hb e)))).1,fun b hb=>?_,w7⟩;obtain⟨o,e,d⟩:=T.obj _ _ st5 b hb;exact(I7.pin (b,o) (mem_append_right _ (mem_append_right _ (dY hb e)))).2.1
  cases f with
  | next=>obtain⟨σ7,H7,I7,n7⟩:=q7;exact again I7 n7
  | cont=>obtain⟨σ7,H7,I7,n7⟩:=q7;exact again I7 n7
  | brk=>obtain⟨σ7,H7,I7,q7⟩:=q7;exact⟨σ7,H7,I7.unpinned,q7⟩
  | ret v=>obtain⟨x7,σ7,H7,I7,r7,q7⟩:=q7;exact⟨x7,σ7,H7,I7.unpinned,r7,q7⟩
end
abbrev R2:=V→V→Hp→VK→Prop
def eI (X:Cx)(f:Value→Value→Sem Value)(r:R2):Prop:=
 ∀(aa:List (Addr×Obj)) (s:Shared) (σ:St) (H:Hp) (x y:V) (v u:Value) (Q:VK),Inv X aa σ H s→RelV x v→RelV y u→r x y H Q→
  wpAny (model X.prog X.w) X.A (f v u) (EP X aa σ Q) X.xe s
def cb (X:Cx)(f:Value)(r:List V→Hp→VK→Prop):Prop:=
 ∀(aa:List (Addr×Obj)) (s:Shared) (σ:St) (H:Hp) (xs:List V) (us:List Value) (Q:VK),Inv X aa σ H s→aC xs us→r xs H Q→
  wpAny (model X.prog X.w) X.A (call f us) (EP X aa σ Q) X.xe s
def Cp (X:Cx)(r:V→Hp→(Bool→Hp→Prop)→Prop):Prop:=
 ∀(aa:List (Addr×Obj)) (s:Shared) (σ:St) (H:Hp) (x:V) (v:Value) (Q:Bool→Hp→Prop),Inv X aa σ H s→RelV x v→r x H Q→
  wpAny (model X.prog X.w) X.A (truthy v) (TP X aa σ Q) X.xe s
def Bh (r:R2)(ta tb:TE):TE:=fun σ H Q=>ta σ H fun x H1=>tb σ H1 fun y H2=>r x y H2 Q
def rI (C:Int→Int→Prop)(g:Int→Int→V):R2:=fun x y H Q=>∃i j,x=.int i∧y=.int j∧C i j∧Q (g i j) H
def yu (g:Int→Int→V):R2:=fun x y H Q=>∃i j,x=.int i∧y=.int j∧Q (g i j) H
variable{f:Value→Value→Sem Value}{r:R2}{g:Int→Int→Int}
section
variable {X:Cx}{a b c:Expr}{ta tb tc:TE}{pos:Pos}
theorem xV (ha:PE X a ta)(hb:PE X b tb){R:V→V→Hp→Prop}(I:Inv X aa σ H s)
  (h:ta σ H fun x H1=>tb σ H1 fun y H2=>R x y H2)  
  (hf:∀v u s2 x y H2,Inv X aa σ H2 s2→RelV x v→RelV y u→R x y H2→wpAny (model X.prog X.w) X.A (f v u) Q X.xe s2) :
  wpAny (model X.prog X.w) X.A (eval a X.env) (fun v s₁=>wpAny (model X.prog X.w) X.A (eval b X.env) (fun u s₂=>wpAny (model X.prog X.w) X.A (f v u) Q X.xe s₂) X.xe s₁) X.xe s:=by
 refine b8 (ha aa s σ H _ I h) fun v s1 hxx=>?_
 obtain⟨x,H1,I1,r1,q1⟩:=hxx;refine b8 (hb aa s1 σ H1 _ I1 q1) fun u s2 hxx=>?_
 obtain⟨y,H2,I2,r2,q2⟩:=hxx;exact hf v u s2 x y H2 I2 r1 r2 q2
theorem zQ {op:Operator}(ho:eI X (binaryOp op) r)(ha:PE X a ta)(hb:PE X b tb):PE X (.BinOp a op b pos) (Bh r ta tb):=by
 intro aa s σ H Q I h;exact wpAny_BinOp (xV ha hb I h fun v u s2 x y H2 I2 rx ry q=>ho aa s2 σ H2 x y v u Q I2 rx ry q)
theorem Cy {f:Value→Value→Sem Value}{C:Int→Int→Prop}
  (rule:∀(i j:Int) (t u:Tok) (s:Shared) (Q:Value→Shared→Prop) (E:Value→Shared→Prop),C i j→Q (.int (g i j) s.toks) {s with toks:=s.toks+1}→wpAny (model X.prog X.w) X.A (f (.int i t) (.int j u)) Q E s) :
  eI X f (rI C fun i j=>.int (g i j)):=by
 intro aa s σ H x y v u Q I rx ry h;obtain⟨i,j,rfl,rfl,hc,q⟩:=h;obtain⟨t,rfl⟩:=rx;obtain⟨t',rfl⟩:=ry;exact rule i j t t' s _ _ hc ⟨.int (g i j),H,I.tok _,⟨_,rfl⟩,q⟩
theorem Ab {f:Value→Value→Sem Value}
  (rule:∀(i j:Int) (t u:Tok) (s:Shared) (Q:Value→Shared→Prop) (E:Value→Shared→Prop),Q (.int (g i j) s.toks) {s with toks:=s.toks+1}→wpAny (model X.prog X.w) X.A (f (.int i t) (.int j u)) Q E s) :
  eI X f (yu fun i j=>.int (g i j)):=by
 intro aa s σ H x y v u Q I rx ry h;obtain⟨i,j,rfl,rfl,q⟩:=h;obtain⟨t,rfl⟩:=rx;obtain⟨t',rfl⟩:=ry;exact rule i j t t' s _ _ ⟨.int (g i j),H,I.tok _,⟨_,rfl⟩,q⟩
theorem zz {g:Int→Int→Bool}
  (rule:∀(i j:Int) (t u:Tok) (s:Shared) (Q:Value→Shared→Prop) (E:Value→Shared→Prop),Q (.bool (g i j)) s→wpAny (model X.prog X.w) X.A (f (.int i t) (.int j u)) Q E s) :
  eI X f (yu fun i j=>.bl (g i j)):=by
 intro aa s σ H x y v u Q I rx ry h;obtain⟨i,j,rfl,rfl,q⟩:=h;obtain⟨t,rfl⟩:=rx;obtain⟨t',rfl⟩:=ry;exact rule i j t t' s _ _ ⟨.bl (g i j),H,I,rfl,q⟩
def Cm (i j:Int):Prop:=0≤j∧j≤1000000∧i.natAbs<2 ^ 64
def yD (i j:Int):Prop:=(-(2 ^ 64)<i∧i<2 ^ 64)∨(-(2 ^ 64)<j∧j<2 ^ 64)
theorem yD.ok {i j:Int}(h:yD i j):IntMulOk i j:=by
 rcases h with⟨h1,h2⟩|⟨h1,h2⟩
 ·exact .of_left (intBits_le_64 h1 h2)
 ·exact .of_right (intBits_le_64 h1 h2)
theorem wV:eI X (binaryOp .Add) (yu fun i j=>.int (i+j)):=Ab fun _ _ _ _ _ _ _ q=>add_int q
theorem xQ:eI X (binaryOp .Sub) (yu fun i j=>.int (i-j)):=Ab fun _ _ _ _ _ _ _ q=>sub_int q
theorem xw:eI X (binaryOp .Mult) (rI yD fun i j=>.int (i*j)):=Cy fun _ _ _ _ _ _ _ hc q=>mul_int q hc.ok
theorem yP:eI X (binaryOp .Mod) (rI (fun _ j=>0<j) fun i j=>.int (i % j)):=Cy fun i j _ _ _ _ _ hc q=>by
 have h1:(0:Int)<j:=hc;exact mod_int' (by omega) (by rw[Int.fmod_eq_emod_of_nonneg i (by omega)];exact q)
theorem xk:eI X (binaryOp .Pow) (rI Cm fun i j=>.int (i ^ j.toNat)):=Cy fun _ _ _ _ _ _ _ hc q=>pow_int_small hc.1 hc.2.1 hc.2.2 q
end
variable{op:CmpOp}
section
variable {X:Cx}{a b c:Expr}{ta tb tc:TE}{pos:Pos}
theorem Ad:eI X (compareOp .Lt) (yu fun i j=>.bl (decide (i<j))):=zz fun _ _ _ _ _ _ _ q=>lt_int q
theorem Ba:eI X (compareOp .Gt) (yu fun i j=>.bl (decide (j<i))):=zz fun _ _ _ _ _ _ _ q=>gt_int q
theorem zZ:eI X (compareOp .GtE) (yu fun i j=>.bl (decide (j≤i))):=zz fun _ _ _ _ _ _ _ q=>ge_int q
def BB:HO→Bool
 | .lst _=>true
 | .ins _ _ _=>true
 | _=>false
theorem zI {a:Addr}(I:Inv X aa σ H s)(h:H a=some o)(p:BB o=true):∃ob,s.heap.get? a=some ob∧ob.cls≠.type "tuple":=by
 cases o with
 | lst xs=>
  obtain⟨_,its,n,_,e⟩:xs.length≤sizeLine∧∃(its:List Value) (n:Nat),aC xs its∧s.heap.get? a=some {cls:=.type "list",data:=.seq its.toArray n}:=I.hok a _ h;exact⟨_,e,(by show Value.type "list"≠.type "tuple";decide +kernel)⟩
 | ins C dx fs=>
  have x:=I.hok a _ h;obtain⟨_,_,_,e,_⟩:=x;exact⟨_,e,(by show Value.ref C≠.type "tuple";exact fun z=>by cases z)⟩
 | _=>exact absurd (show false=true from p) Bool.false_ne_true
theorem ye (b:Expr)(h:op≠.In:=by decide)(h2:op≠.NotIn:=by decide):behindInMarks op b=false:=by
 have e1:(op==CmpOp.In)=false:=by cases op <;> first|rfl|exact absurd rfl h
 have e2:(op==CmpOp.NotIn)=false:=by cases op <;> first|rfl|exact absurd rfl h2
 cases b <;> simp[behindInMarks,e1,e2]
theorem wj (ho:eI X (compareOp op) r)(ha:PE X a ta)(hb:PE X b tb)(hm:behindInMarks op b=false):PE X (.Compare a [op] [b] pos) (Bh r ta tb):=by
 intro aa s σ H Q I h;exact wpAny_Compare1 (xV ha hb I h fun v u s2 x y H2 I2 rx ry q=>ho aa s2 σ H2 x y v u Q I2 rx ry q) hm
def Bp (t:TE):TT:=fun σ H Q=>t σ H fun x H'=>∃k,x=.bl k∧Q k H'
theorem u9 (ho:eI X (compareOp op) r)(ha:PE X a ta)(hb:PE X b tb)(hm:behindInMarks op b=false):PT X (.Compare a [op] [b] pos) (Bp (Bh r ta tb)):=by
 intro aa s σ H Q I h;refine wpAny_isTrue_Compare1 (b8 (ha aa s σ H _ I h) fun v s1 ⟨x,H1,I1,r1,q1⟩=>b8 (hb aa s1 σ H1 _ I1 q1) fun u s2 ⟨y,H2,I2,r2,q2⟩=>
  b8 (ho aa s2 σ H2 x y v u _ I2 r1 r2 q2) fun c s3 hxx=>?_) hm
 obtain⟨z,H3,I3,r3,k,e,q3⟩:=hxx;subst e;cases r3;exact wpAny_truthy_bool ⟨H3,I3,q3⟩
def Ag (K:W.Frag)(x:V)(H:Hp)(k:Bool):Prop:=
 match x with
 | .non=>k=false
 | .bl b=>k=b
 | .int i=>k=(i != 0)
 | .str y=>y.length≤sizeLine∧k=((y.length:Int) != 0)
 | .byt y=>y.size≤sizeLine∧k=((y.size:Int) != 0)
 | .ref p=>(∃xs,gT K H p xs∧k=!xs.isEmpty)∨(∃xs,lK K H p xs∧k=!xs.isEmpty)∨∃kvs,H p=some (.dK kvs)∧k=!kvs.isEmpty
 | _=>False
theorem nk {κ:Type}{kvs:List (κ×V)}{vs:List (κ×Value)}(r:KV kvs vs):(!vs.isEmpty)=!kvs.isEmpty:=by
 cases r <;> rfl
theorem iZ {its:List Value}(r:aC xs its):(!its.toArray.isEmpty)=!xs.isEmpty:=by
 cases r <;> simp
theorem fP:(sizeLine:Nat)<2 ^ 63:=by rw[sizeLine_eq];decide
theorem yl:Cp X (fun x H Q=>∃k,Ag X.K x H k∧Q k H):=by
 intro aa s σ H x v Q I rx h;obtain⟨k,e,q⟩:=h;have hl:=fP;have hs:sizeLine=16777216:=sizeLine_eq;cases x with
 | non=>
  cases rx;have e':k=false:=e;subst e';exact truthy_none ⟨H,I,q⟩
 | bl b=>
  cases rx;have e':k=b:=e;subst e';exact wpAny_truthy_bool ⟨H,I,q⟩
 | int i=>
  obtain⟨t,rfl⟩:=rx;have e':k=(i != 0):=e;subst e';exact PySem.P.truthy_int ⟨H,I,q⟩
 | str y=>
  obtain⟨t,rfl⟩:=rx;obtain⟨hy,e'⟩:y.length≤sizeLine∧k=((y.length:Int) != 0):=e;subst e';exact PySem.P.truthy_str (by omega) ⟨H,I.tok _,q⟩
 | byt y=>
  obtain⟨t,rfl⟩:=rx;obtain⟨hy,e'⟩:y.size≤sizeLine∧k=((y.size:Int) != 0):=e;subst e';exact W.truthy_bytes (by omega) ⟨H,I.tok _,q⟩
 | ref p=>
  cases rx;have e':(∃xs,gT X.K H p xs∧k=!xs.isEmpty)∨(∃xs,lK X.K H p xs∧k=!xs.isEmpty)∨∃kvs,H p=some (.dK kvs)∧k=!kvs.isEmpty:=e;rcases e' with⟨xs,hx,e'⟩|⟨xs,hx,e'⟩|⟨kvs,hx,e'⟩
  ·subst e';obtain⟨its,r,pl,hz⟩:=I.list hx;have hlen:=r.length;exact wpAny_truthy_list pl.isList (by simp only[size_toArray];omega) ⟨H,I.tok _,by rw[iZ r];exact q⟩
  ·subst e';obtain⟨its,r,pl,hz⟩:=I.tuple hx;have hlen:=r.length;exact truthy_tuple pl (by simp only[size_toArray];omega) ⟨H,I.tok _,by rw[iZ r];exact q⟩
  ·subst e';obtain⟨hz,hS,vs,r,m⟩:kvs.length≤sizeLine∧(p==sysModules)=false∧∃vs,KV kvs vs∧s.heap.DictOf (aE X.prog X.w) p vs:=I.hok p _ hx;have hlen:kvs.length=vs.length:=Paired.length r;exact wpAny_truthy_dict hS m (by omega) ⟨H,I.tok _,by rw[nk r];exact q⟩
 | _=>exact(show False from e).elim
theorem sJ (ha:PE X a ta)(he:∀whole,isTrue a X.env whole=(do let v ←whole;standAt a.pos;holding [v] (truthy v))) :
  PT X a (fun σ H Q=>ta σ H fun x H'=>∃k,Ag X.K x H' k∧Q k H'):=by
 intro aa s σ H Q I h;exact isTrue_plain (b8 (ha aa s σ H _ I h) fun v s1 ⟨x,H1,I1,r1,q1⟩=>yl aa s1 σ H1 x v Q I1 r1 q1) (he _)
theorem nC:eI X (binaryOp .Add) (fun x y H Q=>∃i j,x=.str i∧y=.str j∧i.length+j.length≤sizeLine∧Q (.str (i++j)) H):=by
 intro aa s σ H x y v u Q I rx ry h;obtain⟨i,j,rfl,rfl,hz,q⟩:=h;obtain⟨t,rfl⟩:=rx;obtain⟨t',rfl⟩:=ry;exact add_str (fun t' tk=>⟨.str (i++j),H,I.tok _,⟨_,rfl⟩,q⟩) hz
theorem jE {x:V}(r:aC [x] us):∃u,us=[u]∧RelV x u:=by
 cases r with
 | cons r1 r2=>cases r2;exact⟨_,rfl,r1⟩
theorem wI {x y:V}(r:aC [x,y] us):∃u w',us=[u,w']∧RelV x u∧RelV y w':=by
 cases r with
 | cons r1 r2=>
  cases r2 with
  | cons r3 r4=>cases r4;exact⟨_,_,rfl,r1,r3⟩
theorem pQ (hc:X.calm=true):cb X (.builtin "min") (fun xs H Q=>∃i j,xs=[.int i,.int j]∧Q (.int (if j<i then j else i)) H):=by
 intro aa s σ H xs us Q I r h;obtain⟨i,j,rfl,q⟩:=h;obtain⟨u,w',rfl,⟨t,rfl⟩,⟨t',rfl⟩⟩:=wI r;refine min_two_ints (I.ok.hd hc) fun h' tk k=>⟨_,H,I.kept k,?_,q⟩
 by_cases hj:j<i
 ·rw[if_pos hj,if_pos hj];exact⟨_,rfl⟩
 ·rw[if_neg hj,if_neg hj];exact⟨_,rfl⟩
end
theorem fu.some_of {o:Option Value}(r:fu (some v) o):∃u,o=some u∧RelV v u:=by
 cases o with
 | none=>exact(show False from r).elim
 | some u=>exact⟨u,rfl,r⟩
theorem fu.none_of {o:Option Value}(r:fu none o):o=none:=by
 cases o with
 | none=>rfl
 | some u=>exact(show False from r).elim
structure C9 (K:W.Frag)(C:Addr):Prop where
 pg:W.plainGet K C Str.empty=true
 hd:W.hasDictIn K C=true
 po:W.plainOver K C=true
 sa:W.findIn K (.ref C) "__setattr__"=some (some (.builtin "object.__setattr__"))
def yM (K:W.Frag)(C:Addr)(f:Str):Prop:=W.findIn K (.ref C) f=some none
structure Ca (K:W.Frag)(C:Addr)(m:Str)(f:Addr):Prop where
 at_:W.findIn K (.ref C) m=some (some (.ref f))
 fn:W.isFn K (.ref f)=true
 kp:W.keepIn K (.ref f)=true
structure bA (k:Nat)(A:Around):Prop where
 hd:A.handled=none
 dp:A.depth+3*k+5<recursionLimit
 un:A.units+16*k+200<cLine
variable{k:Nat}
theorem bA.mono {j:Nat}(r:bA k A)(h:j≤k):bA j A:=⟨r.hd,by have:=r.dp;omega,by have:=r.un;omega⟩
theorem bA.deeper (r:bA (k+1) A)(env:Env):bA k (A.deeper env):=
 ⟨r.hd,by have:=r.dp;show A.depth+1+3*k+5<_;omega,by have:=r.un;show A.units+3+16*k+200<_;omega⟩
theorem bA.in1 (r:bA (k+1) A):bA k A.in1:=
 ⟨r.hd,by have:=r.dp;show A.depth+3*k+5<_;omega,by have:=r.un;show A.units+1+16*k+200<_;omega⟩
theorem bA.depth (r:bA k A):A.depth<recursionLimit:=by have:=r.dp;omega
theorem bA.units (r:bA k A):A.units+64<cLine:=by have:=r.un;omega
def yj:TA:=fun _ H Q=>Q [] H
def oy (ta:TE)(tr:TA):TA:=fun σ H Q=>ta σ H fun x H1=>tr σ H1 fun xs H2=>Q (x::xs) H2
section
variable {X:Cx}{e:Expr}{es:List Expr}{te:TE}{t:TA}{pos:Pos}
theorem fD:PA X [] yj:=fun _ _ _ _ H Q I h=>Calls.spliced_nil ⟨[],H,I,.nil,h⟩
theorem cE (ha:PE X e te)(hr:PA X es t)(hs:starEach (e::es) X.env=(false,eval e X.env)::starEach es X.env:=by rfl):PA X (e::es) (oy te t):=by
 intro pos aa s σ H Q I h;rw[hs];show wpAny _ _ (spliced ((false,eval e X.env)::backTo pos (starEach es X.env))) _ _ s;refine Calls.spliced_cons (b8 (ha aa s σ H _ I h) fun u s1 hxx=>?_);obtain⟨x,H1,I1,r1,q1⟩:=hxx;exact b8 (hr pos aa s1 σ H1 _ I1 q1) fun us s2 ⟨xs,H2,I2,r2,q2⟩=>⟨x::xs,H2,I2,.cons r1 r2,q2⟩
def B3 (t:TA):TE:=fun σ H Q=>t σ H fun xs H1=>xs.length≤sizeLine∧∀p,H1 p=none→Q (.ref p) (bi H1 p (.tup xs))
def Cf (t:TA):TE:=fun σ H Q=>t σ H fun xs H1=>xs.length≤sizeLine∧∀p,H1 p=none→Q (.ref p) (bi H1 p (.lst xs))
theorem zw {x1}(h:PA X es t):PE X (.Tuple es x1 pos) (B3 t):=by
 intro aa s σ H Q I hq;refine wpAny_Tuple_spliced (b8 (h pos aa s σ H _ I hq) fun us s1 ⟨xs,H1,I1,r,z,q⟩=>⟨by rw[←r.length];exact z,?_⟩);have hf:H1 s1.heap.objs.size=none:=I1.hok.fresh (Nat.le_refl _);refine⟨.ref s1.heap.objs.size,bi H1 s1.heap.objs.size (.tup xs),I1.laid (t':=s1.toks) (fun b u e=>Heap.get?_push_of_some _ e) (Nat.le_refl _) ?_,rfl,q _ hf⟩;exact⟨z,us,r,⟨_,Heap.get?_push_size _ rfl,rfl,_,rfl⟩⟩
theorem sy (h:PA X es t):PE X (.List es pos) (Cf t):=by
 intro aa s σ H Q I hq;refine wpAny_List_spliced (b8 (h pos aa s σ H _ I hq) fun us s1 ⟨xs,H1,I1,r,z,q⟩=>⟨by rw[←r.length];exact z,?_⟩);have hf:H1 s1.heap.objs.size=none:=I1.hok.fresh (Nat.le_refl _);refine⟨.ref s1.heap.objs.size,bi H1 s1.heap.objs.size (.lst xs),I1.laid (t':=s1.toks) (fun b u e=>Heap.get?_push_of_some _ e) (Nat.le_refl _) ?_,rfl,q _ hf⟩;exact⟨z,us,0,r,Heap.get?_push_size _ rfl⟩
end
abbrev Sp:=List V→Hp→VK→XK→Prop
abbrev qF:=List Env→Hp→Shared→XK→Value→Shared→Prop
structure uZ (P:Program)(w:World)(K:W.Frag)(mg:Str→Option Value)(base:Heap)(A:Around)(outer:List Env)(s:Shared)(H:Hp):Prop where
 frames:A.frames=some outer
 mod:Mod K mg base
 bs:∀b o,base.get? b=some o→s.heap.get? b=some o∧H b=none
 bsz:base.objs.size≤s.heap.objs.size
 funs:s.heap.FunFrames base outer
 frf:∀b∈iW outer,H b=none
 hok:fB P w H s.heap
 bare:AllBare s.gens
def CE (outer:List Env)(P:Program)(w:World)(H:Hp)(s:Shared)(Q:VK)(u:Value)(s':Shared):Prop:=
 ∃v H',s'.os=s.os∧AllBare s'.gens∧Un (iW outer) [] H H' s.heap s'.heap∧fB P w H' s'.heap∧RelV v u∧Q v H'
def CR (CX:qF)(outer:List Env)(P:Program)(w:World)(H:Hp)(s:Shared)(Q:VK)(E:XK)(r:Result)(s':Shared):Prop:=
 match r with
 | .ok (.ret u)=>CE outer P w H s Q u s'
 | .ok _=>False
 | .error e=>CX outer H s E e s'
structure dC (P:Program)(w:World)(K:W.Frag)(mg:Str→Option Value)(base:Heap)(CX:qF)(k:Nat)(f:Addr)(fd:FuncData)(ps:List Str)(sp:Sp):Prop where
 len:∀vs H Q E,sp vs H Q E→vs.length=ps.length
 run:∀(A:Around) (outer:List Env) (s:Shared) (H:Hp) (args:Args) (us:List Value) (vs:List V) (Q:VK) (E:XK),bA k A→uZ P w K mg base A outer s H→BindsTo s fd args (ps.zip us)→aC vs us→sp vs H Q E→
  codeAny (model P w) A (.call (.ref f) args) (CR CX outer P w H s Q E) s
variable{mg:Str→Option Value}{base:Heap}{CX:qF}{fd:FuncData}{ps:List Str}
theorem dC.imp {f:Addr}{sp sp':Sp}(F:dC P w K mg base CX k f fd ps sp)
  (h:∀vs H Q E,sp' vs H Q E→sp vs H Q E):dC P w K mg base CX k f fd ps sp':=
 ⟨fun vs H Q E q=>F.len vs H Q E (h _ _ _ _ q),fun A outer s H args us vs Q E hr he hb hv hs=>F.run A outer s H args us vs Q E hr he hb hv (h _ _ _ _ hs)⟩
section
variable {X:Cx}{aa:List (Addr×Obj)}{σ:St}{H:Hp}{s s':Shared}
theorem Inv.env0 (I:Inv X aa σ H s):uZ X.prog X.w X.K X.mg X.base X.A X.stack s H:=
 ⟨I.ok.frames,I.ok.mod,I.bs,Nat.le_trans I.ok.bsz I.sz,I.stack,I.stkFree,I.hok,I.bare⟩
theorem Inv.after {Q:VK}(I:Inv X aa σ H s)(h:CE X.stack X.prog X.w H s Q u s'):EP X aa σ Q u s':=by
 obtain⟨v,H',os,bare,un,hok,r,q⟩:=h;obtain⟨hh,g,d,t,os'⟩:=s';obtain rfl:os'=s.os:=os;exact⟨v,H',I.call (h':=hh) (g':=g) (d':=d) (t':=t) (ch:=[]) un hok bare (fun b z=>absurd z (by simp)),r,q⟩
end
def zU (sp:Sp)(dvs:List V)(E:XK)(t:TA):TE:=fun σ H Q=>t σ H fun vs H1=>sp (vs++dvs) H1 Q E
def eC (K:W.Frag)(fd:FuncData)(ps:List Str)(ds:List Value):Prop:=
 ∀(s:Shared) (us:List Value),K.In s.heap→(us++ds).length=ps.length→BindsTo s fd ⟨us,[]⟩ (ps.zip (us++ds))
theorem eC.all (h:∀us:List Value,us.length=ps.length→bindArgs fd ⟨us,[]⟩=pure (ps.zip us)):eC K fd ps []:=fun s us _ hl=>by
 rw[append_nil] at hl ⊢;exact .of_eq (h us hl)
def nE (CX:qF)(X:Cx)(E:XK):Prop:=∀(aa:List (Addr×Obj)) (σ:St) (H:Hp) (s:Shared) (e:Value) (s':Shared),Inv X aa σ H s→CX X.stack H s E e s'→X.xe e s'
variable{vs:List V}
section
variable {X:Cx}{CX:qF}{k:Nat}{f C:Addr}{fd:FuncData}{ps:List Str}{sp:Sp}{dvs:List V}{ds:List Value}{E:XK}{x m:Str}{p pos apos:Pos}{e o:Expr}{es:List Expr}{ta:TE}{t:TA}
theorem zy {Q:VK}(F:dC X.prog X.w X.K X.mg X.base CX k f fd ps sp)(hr:bA k X.A)(hb:eC X.K fd ps ds)(hd:aC dvs ds)(hx:nE CX X E)
  (I:Inv X aa σ H s) (r:aC vs us) (h:sp (vs++dvs) H Q E):wpAny (model X.prog X.w) X.A (call (.ref f) us) (EP X aa σ Q) X.xe s:=by
 have r2:aC (vs++dvs) (us++ds):=r.append hd;have hl:(us++ds).length=ps.length:=by rw[←r2.length];exact F.len _ _ _ _ h
 refine wpAny_call (codeAny_mono (F.run X.A X.stack s H ⟨us,[]⟩ (us++ds) (vs++dvs) Q E hr I.env0 (hb s us I.kIn hl) r2 h) fun r s' hq=>?_);cases r with
 | error e=>exact hx aa σ H s e s' I hq
 | ok fl=>
  cases fl with
  | ret u=>exact I.after hq
  | next=>exact False.elim hq
  | brk=>exact False.elim hq
  | cont=>exact False.elim hq
theorem uw (F:dC X.prog X.w X.K X.mg X.base CX k f fd ps sp)(hr:bA k X.A)(hg:Gl X x)(hm:X.mg x=some (.ref f))(hk:W.keepIn X.K (.ref f)=true)(hb:eC X.K fd ps ds)(hd:aC dvs ds)(hx:nE CX X E)
  (ha:PA X (e::es) t) (hdb:(x==("__debug__":Str))=false:=by decide) (he:starEach (e::es) X.env=(false,eval e X.env)::starEach es X.env:=by rfl) (hpl:(backTo pos (starEach es X.env)).any (·.1)=false:=by rfl) :
  PE X (.Call (.Name x p) (e::es) [] pos) (zU sp dvs E t):=by
 intro aa s σ H Q I h;refine wpAny_Call_Name_kw (iR I hg hm ?_ hdb);refine W.callWith_K (h₀:=X.base) I.ok.mod.kin hk (b8 (ha pos aa s σ H _ I h) fun us s1 ⟨vs,H1,I1,r,q⟩=>⟨I1.kIn,?_⟩) he hpl;exact zy F hr hb hd hx I1 r q
end
structure eZ (N P:List Str)(sc:Scope):Prop where
 kind:sc.kind=.function
 co:sc.isCoroutine=false
 gen:sc.isGenerator=false
 nd:N.Nodup
 pre:N.take P.length=P
 par:∀x∈P,sc.names.lookup x=some .local∨sc.names.lookup x=some .cell
 nofree:∀y∈sc.names,y.2≠.free
theorem kh {kindOf:Str→Option NameKind}{x:Str}:∀{binds:List (Str×Value)} {m:Str→Option Value},(∀v,(x,v)∉binds)→bindL kindOf binds m x=m x
 | [],_,_=>rfl
 | (n,v)::r,m,h=>by
  unfold bindL;rw[kh fun w hw=>h w (mem_cons_of_mem _ hw)];split
  ·have:x≠n:=by rintro rfl;exact h v mem_cons_self
   simp[this]
  ·rfl
theorem kE {kindOf:Str→Option NameKind}{x:Str}:∀{binds:List (Str×Value)} {m:Str→Option Value},(∀v,(x,v)∉binds)→bindC kindOf binds m x=m x
 | [],_,_=>rfl
 | (n,v)::r,m,h=>by
  unfold bindC;rw[kE fun w hw=>h w (mem_cons_of_mem _ hw)];split
  ·rfl
  ·have:x≠n:=by rintro rfl;exact h v mem_cons_self
   simp[this]
theorem kI {kindOf:Str→Option NameKind}{x:Str}{v:Value}:∀{P:List Str} {vs:List Value} {i:Nat} {m:Str→Option Value},P.Nodup→P[i]?=some x→vs[i]?=some v→kindOf x=some .local→
  bindL kindOf (P.zip vs) m x=some v
 | [],_,_,_,_,h,_,_=>by simp at h
 | _::_,[],_,_,_,_,h,_=>by simp at h
 | p::P,w::vs,0,m,nd,h1,h2,hk=>by
  simp at h1 h2;subst h1;subst h2;show bindL kindOf ((p,w)::P.zip vs) m p=_;unfold bindL;rw[kh fun v hv=>(nodup_cons.mp nd).1 (of_mem_zip hv).1,if_pos hk];simp
 | p::P,w::vs,i+1,m,nd,h1,h2,hk=>by
  show bindL kindOf ((p,w)::P.zip vs) m x=_;unfold bindL;exact kI (i:=i) (nodup_cons.mp nd).2 (by simpa using h1) (by simpa using h2) hk
theorem ky {kindOf:Str→Option NameKind}{x:Str}{v:Value}:∀{P:List Str} {vs:List Value} {i:Nat} {m:Str→Option Value},P.Nodup→P[i]?=some x→vs[i]?=some v→kindOf x≠some .local→
  bindC kindOf (P.zip vs) m x=some v
 | [],_,_,_,_,h,_,_=>by simp at h
 | _::_,[],_,_,_,_,h,_=>by simp at h
 | p::P,w::vs,0,m,nd,h1,h2,hk=>by
  simp at h1 h2;subst h1;subst h2;show bindC kindOf ((p,w)::P.zip vs) m p=_;unfold bindC;rw[kE fun v hv=>(nodup_cons.mp nd).1 (of_mem_zip hv).1,if_neg hk];simp
 | p::P,w::vs,i+1,m,nd,h1,h2,hk=>by
  show bindC kindOf ((p,w)::P.zip vs) m x=_;unfold bindC;exact ky (i:=i) (nodup_cons.mp nd).2 (by simpa using h1) (by simpa using h2) hk
def start (N:List Str)(vs:List V):St:=vs.map some++List.replicate (N.length-vs.length) none
def gL (CX:qF)(P:Program)(w:World)(K:W.Frag)(mg:Str→Option Value)(base:Heap)(N:List Str)(qual:Str)(scope:Scope)(f:Addr)(cd:Value)(A:Around)(outer:List Env)(s:Shared)(H:Hp)(E:XK):Cx where
 prog:=P
 w:=w
 K:=K
 mg:=mg
 base:=base
 A:=A.deeper (envOfC qual scope s.heap.objs.size f cd)
 N:=N
 s₀:=s
 H₀:=H
 env:=envOfC qual scope s.heap.objs.size f cd
 outer:=outer
 stack:=envOfC qual scope s.heap.objs.size f cd::outer
 ex:=[]
 calm:=true
 fn:=fun _=>true
 pn:=[]
 xe:=fun e s'=>wpAny (model P w) (A.deeper (envOfC qual scope s.heap.objs.size f cd)) (leaving (envOfC qual scope s.heap.objs.size f cd) e) (fun _ s''=>CX outer H s E e s'') (fun e' s''=>CX outer H s E e' s'') s'
theorem m4 {sc:Scope}{n:Nat}(h:sc.names.lookup x=some .cell):∃c,(cellsFrom n sc.names []).lookup x=some c:=by
 have q:=W.cellsFrom_some sc.names n [] (.inl h);exact Option.isSome_iff_exists.mp q
variable{scope:Scope}
theorem qy {N:List Str}{qual:Str}{f:Addr}{cd:Value}{outer:List Env}{s1:Shared}{E:XK}
  (S:eZ N ps scope) (hd:A.handled=none) (e0:uZ P w K mg base A outer s H) (hl:vs.length=ps.length) (r:aC vs us)
  (x:InCallC s s.heap.objs.size (bindL (envOfC qual scope s.heap.objs.size f cd).kindOf (ps.zip us) fun _=>none) (cellsFrom (s.heap.objs.size+1) scope.names []) (bindC (envOfC qual scope s.heap.objs.size f cd).kindOf (ps.zip us) fun _=>none) s1) :
  Inv (gL CX P w K mg base N qual scope f cd A outer s H E) [] (start N vs) H s1:=by
 have hpl:ps.length≤N.length:=by have:=congrArg List.length S.pre;rw[length_take] at this;omega
 obtain⟨h1,tk,rfl,hk⟩:=x.done;have noA:∀b:Addr,b∉(gL CX P w K mg base N qual scope f cd A outer s H E).ex:=fun b z=>absurd (show b∈([]:List Addr) from z) (by simp)
 refine⟨⟨e0.mod,S.kind,rfl,rfl,Nat.le_refl _,fun y z c h1 h2=>?_,fun y hy=>?_,fun y c _ h=>?_,fun _=>hd,Around.frames_deeper e0.frames,.inr ⟨rfl,rfl⟩,fun b z=>absurd z (noA b),e0.bs,e0.bsz,fun b _ _=>noA b,fun b z=>absurd z (noA b),e0.funs,e0.frf⟩,
  rfl,e0.bare,Un.kept hk,⟨_,x.toInCall.ns,fun i y v h1 h2 h3=>?_⟩,fun y c h=>⟨_,x.cell y c h⟩,e0.hok.fresh (Nat.le_refl _),fun y c h=>?_,fun p hp=>absurd (show p∈([]:List (Addr×Obj)) from hp) (by simp),e0.hok.kept hk,?_⟩
 ·exact name_of_addr x.apart (PySem.mem_of_lookup h1) (PySem.mem_of_lookup h2)
 ·have hy:scope.names.lookup y=some .cell∨scope.names.lookup y=some .free:=hy;rcases hy with hy|hy
  ·exact m4 hy
  ·exact absurd rfl (S.nofree _ (PySem.mem_of_lookup hy))
 ·exact Nat.le_of_lt (x.above y c (PySem.mem_of_lookup h))
 ·have hi:i<vs.length:=by
   unfold start at h2
   by_cases hi:i<vs.length
   ·exact hi
   ·rw[getElem?_append_right (by simpa using hi)] at h2;rw[getElem?_replicate] at h2;split at h2 <;> cases h2
  have ha:vs[i]?=some v:=by
   unfold start at h2;rw[getElem?_append_left (by simpa using hi),getElem?_map] at h2;cases e:vs[i]? with
   | none=>rw[e] at h2;cases h2
   | some a=>rw[e] at h2;cases h2;rfl
  obtain⟨u,hu,rv⟩:=r.get ha;have hp:ps[i]?=some y:=by
   rw[←S.pre,getElem?_take_of_lt (by omega)];exact h1
  have ndP:ps.Nodup:=by rw[←S.pre];exact S.nd.sublist (take_sublist _ _)
  refine⟨u,rv,?_⟩;rcases S.par y (mem_of_getElem? hp) with k|k
  ·exact .inl ⟨k,kI ndP hp hu k⟩
  ·obtain⟨c,e⟩:=m4 (n:=s.heap.objs.size+1) k;refine .inr ⟨.inl k,c,e,?_⟩;have q:=x.cell y c e;rw[ky ndP hp hu (by show scope.names.lookup y≠_;rw[k];decide)] at q;exact q
 ·exact e0.hok.fresh (Nat.le_of_lt (x.above y c (PySem.mem_of_lookup h)))
 ·unfold start;show _=N.length;rw[length_append,length_map,length_replicate];omega
theorem zY {f:Addr}{name qual:Str}{params:Arguments}{dV kV doc pm cdv ct oc:Value}{an od:Option Addr}
  {osl:Array (Option Value)} {N:List Str} {sp:Sp} (lk:K.lookup f=some ⟨oc,od,.func (W.fnOf name qual params body scope dV kV doc pm an cdv ct),osl⟩) (hcd:W.codeIn K cdv qual=true) (S:eZ N ps scope)
  (len:∀vs H Q E,sp vs H Q E→vs.length=ps.length)
  (hbody:∀(A:Around) (outer:List Env) (s:Shared) (H:Hp) (vs:List V) (Q:VK) (E:XK),bA k (A.deeper (envOfC qual scope s.heap.objs.size f cdv))→sp vs H Q E→
   ∃t,PSs (gL CX P w K mg base N qual scope f cdv A outer s H E) body t∧t {nx:=fun _ H'=>Q .non H',rt:=Q} (start N vs) H) :
  dC P w K mg base CX (k+1) f (W.fnOf name qual params body scope dV kV doc pm an cdv ct) ps sp:=by
 refine⟨len,fun A outer s H args us vs Q E hr e0 hb r hsp=>?_⟩;have hl:=len _ _ _ _ hsp;have KX:K.In s.heap:=e0.mod.kin.keeps fun b o e=>(e0.bs b o e).1
 have lim:s.heap.NoLimit:=e0.mod.nolimit.keeps fun b o e=>(e0.bs b o e).1
 have hkind:∀y∈ps.zip us,scope.names.lookup y.1=some .local∨(scope.names.lookup y.1=some .cell∧((cellsFrom (s.heap.objs.size+1) scope.names []).lookup y.1).isSome=true):=fun⟨n,v⟩ hy=>by
  rcases S.par n (of_mem_zip hy).1 with q|q
  ·exact .inl q
  ·exact .inr ⟨q,W.cellsFrom_some _ _ _ (.inl q)⟩
 refine codeAny_call_function hr.depth (KX _ _ lk) rfl S.co S.gen rfl (W.codeRec_of KX hcd) (hb _ _ _ _ ?_);refine wpAny_newFunctionEnv_cells S.kind hkind fun env he s1 x=>?_
 subst he;refine⟨lim.keeps x.toInCall.keep,codeAny_func ?_⟩;obtain⟨t,ht,hq⟩:=hbody A outer s H vs Q E (hr.deeper _) hsp;have I:Inv (gL CX P w K mg base N qual scope f cdv A outer s H E) [] (start N vs) H s1:=qy S hr.hd e0 hl r x;refine wpAny_mono (ht [] s1 (start N vs) H _ I hq) (fun fl s' hs=>?_) fun e s' hs=>hs
 have fin:∀{σ':St} {H':Hp} {v:V} {u:Value},Inv (gL CX P w K mg base N qual scope f cdv A outer s H E) [] σ' H' s'→RelV v u→Q v H'→CE outer P w H s Q u s':=
  fun {σ' H' v u} J rv q=>⟨v,H',J.os,J.bare,J.base,J.hok,rv,q⟩
 cases fl with
 | ret u=>
  obtain⟨v,σ',H',J,rv,q⟩:=hs;exact fin J rv q
 | next=>
  obtain⟨σ',H',J,q⟩:=hs;exact fin (v:=V.non) (u:=Value.none) J rfl q
 | brk=>
  obtain⟨_,_,_,q⟩:=hs;exact False.elim q
 | cont=>
  obtain⟨_,_,_,q⟩:=hs;exact False.elim q
section
variable {X:Cx}{x:Str}{p pos:Pos}{e:Expr}{es:List Expr}{t:TA}{id T:String}{r:List V→Hp→VK→Prop}
def BF (r:List V→Hp→VK→Prop)(t:TA):TE:=fun σ H Q=>t σ H fun vs H1=>r vs H1 Q
theorem ju (hc:cb X (.builtin id) r)(hg:Gl X x)(hm:X.mg x=none)(hv:bootBuiltins x=some (.builtin id))(ha:PA X (e::es) t)(hn:x≠"__name__":=by decide)(hdb:(x==("__debug__":Str))=false:=by decide)
  (he:starEach (e::es) X.env=(false,eval e X.env)::starEach es X.env:=by rfl) (hpl:(backTo pos (starEach es X.env)).any (·.1)=false:=by rfl):PE X (.Call (.Name x p) (e::es) [] pos) (BF r t):=by
 intro aa s σ H Q I h;refine wpAny_Call_Name_kw (kO I hg hm hv ?_ hn hdb);exact PyProof.Rows.callWith_builtin1 (b8 (ha pos aa s σ H _ I h) fun us s1 ⟨vs,H1,I1,r1,q1⟩=>hc aa s1 σ H1 vs us Q I1 r1 q1) he hpl
theorem o5 (hc:cb X (.type T) r)(hg:Gl X x)(hm:X.mg x=none)(hv:bootBuiltins x=some (.type T))(ha:PA X (e::es) t)(hn:x≠"__name__":=by decide)(hdb:(x==("__debug__":Str))=false:=by decide)
  (he:starEach (e::es) X.env=(false,eval e X.env)::starEach es X.env:=by rfl) (hpl:(backTo pos (starEach es X.env)).any (·.1)=false:=by rfl):PE X (.Call (.Name x p) (e::es) [] pos) (BF r t):=by
 intro aa s σ H Q I h;refine wpAny_Call_Name_kw (kO I hg hm hv ?_ hn hdb);exact PyProof.Rows.callWith_type1 (b8 (ha pos aa s σ H _ I h) fun us s1 ⟨vs,H1,I1,r1,q1⟩=>hc aa s1 σ H1 vs us Q I1 r1 q1) he hpl
end
end L2
namespace HT
open PySem PyProof.Rows
def lexLt:List Int→List Int→Bool
 | [],[]=>false
 | [],_::_=>true
 | _::_,[]=>false
 | x::xs,y::ys=>if x=y then lexLt xs ys else decide (x<y)
theorem lexLt_cons (x y:Int)(xs ys:List Int):lexLt (x::xs) (y::ys)=if x=y then lexLt xs ys else decide (x<y):=rfl
section
open PySem.SeqAt
open PySem.AutoSeq1 (wpAny_loadPart')
open PySem.MeetsSeq PySem.MeetsSeq2 PySem.MeetsSeq3
end
variable{Q:Value→Shared→Prop}
section
variable {prog:Program}{w:World}{A:Around}{E:Value→Shared→Prop}{s:Shared}
theorem cat_tup {t b:Addr}{vs ws:List Value}(ht:IsTup s.heap t vs.toArray)(hb:IsTup s.heap b ws.toArray)(hv:vs≠[])
  (h1:ws=[]→Q (.ref t) s) (h2:ws≠[]→Q (.ref s.heap.objs.size) {s with heap:=s.heap.push {cls:=.type "tuple",data:=.seq (vs++ws).toArray}})
  (hsz:vs.length+ws.length≤sizeLine):wpAny (model prog w) A (binaryOp .Add (.ref t) (.ref b)) Q E s:=by
 obtain⟨⟨cls,dd,data,sl⟩,ho,hc,n,hd⟩:=id ht;obtain⟨⟨cls2,dd2,data2,sl2⟩,ho2,hc2,n2,hd2⟩:=id hb;simp only at hc hd hc2 hd2;subst hc hd hc2 hd2;have e:vs.toArray++ws.toArray=(vs++ws).toArray:=by simp
 by_cases hw:ws=[]
 ·exact concat_meets ⟨_,ho,rfl⟩ ⟨_,ho2,rfl⟩ noFill_tuple_add seq_tuple_add PySem.F.slot_tuple_add PySem.F.entry_tuple_add (PySem.F.args_tuple_add_2 _ _)
   (tuple_addW1 t b vs.toArray ws.toArray n n2 dd dd2 sl sl2 (by simpa using hv) (by simp[hw])) ⟨ho,ho2,h1 hw⟩
 ·refine concat_meets ⟨_,ho,rfl⟩ ⟨_,ho2,rfl⟩ noFill_tuple_add seq_tuple_add PySem.F.slot_tuple_add PySem.F.entry_tuple_add (PySem.F.args_tuple_add_2 _ _)
   (tuple_addW2 t b vs.toArray ws.toArray n n2 dd dd2 sl sl2 (by simpa using hv) (by simpa using hw) (by rw[List.size_toArray,List.size_toArray];exact hsz)) ⟨ho,ho2,?_⟩
  rw[e];exact h2 hw
def sIx (n d:Nat):Option Int→Nat
 | none=>d
 | some v=>if v<0 then(v+(n:Int)).toNat else min v.toNat n
theorem yX (n d:Nat)(hd:d≤n)(o:Option Int):sIx n d o≤n:=by
 cases o with
 | none=>exact hd
 | some v=>
  show(if v<0 then(v+(n:Int)).toNat else min v.toNat n)≤n
  by_cases hv:v<0
  ·rw[if_pos hv];omega
  ·rw[if_neg hv];exact Nat.min_le_right _ _
theorem oO (v:Int)(n d:Nat):(if v<0 then max (v+(n:Int)) 0 else min v (n:Int))=((sIx n d (some v):Nat):Int):=by
 show(if v<0 then max (v+(n:Int)) 0 else min v (n:Int))=(((if v<0 then(v+(n:Int)).toNat else min v.toNat n):Nat):Int)
 by_cases hv:v<0
 ·simp only[if_pos hv];omega
 ·simp only[if_neg hv];omega
theorem nH (lo hi:Option Int)(n:Nat):Builtin.Slice.sliceAdjust lo hi 1 (n:Int)=(((sIx n 0 lo:Nat):Int),((sIx n n hi:Nat):Int)):=by
 have h1:¬((1:Int)<0):=by omega
 unfold Builtin.Slice.sliceAdjust;simp only[h1,if_false];refine Prod.ext ?_ ?_
 ·cases lo with
  | none=>rfl
  | some v=>exact oO v n 0
 ·cases hi with
  | none=>rfl
  | some v=>exact oO v n n
theorem nQ (i j:Nat):Builtin.Slice.slicePlaces (i:Int) (j:Int) 1=j-i:=by
 unfold Builtin.Slice.slicePlaces;have h1:(1:Int)>0:=by omega
 simp only[h1,if_true,Int.ediv_one];split <;> omega
theorem jf {v:Value}{o:Option Int}{Q:Option Int→Shared→Prop}(p:IsPart v o)(h:Q o s):wpAny (model prog w) A (Builtin.Slice.slicePartIndex v) Q E s:=by
 cases p with
 | none=>exact slicePart_none h
 | int i t=>exact slicePart_int h
theorem sliceApplied_gen {sl:Addr}{vl vu:Value}{lo hi:Option Int}{n:Nat}{Q:Int×Int×Nat→Shared→Prop}(hs:s.heap.IsSliceOf sl vl vu .none)(pl:IsPart vl lo)(pu:IsPart vu hi)
  (h:Q (((sIx n 0 lo:Nat):Int),1,sIx n n hi-sIx n 0 lo) s):wpAny (model prog w) A (Builtin.Slice.sliceApplied (.ref sl) (pure (n:Int))) Q E s:=by
 obtain⟨os,hos,hcs,hds⟩:=id hs;unfold Builtin.Slice.sliceApplied Builtin.Slice.sliceFields;refine wpAny_bind (wpAny_bind (wpAny_field hos hds (x:=vl) rfl (wpAny_bind (wpAny_field hos hds (x:=vu) rfl (wpAny_bind (wpAny_field hos hds (x:=.none) rfl (wpAny_pure ?_)))))));refine wpAny_bind (slicePart_none ?_);show wpAny _ _ (if((1:Int)==0)=true then _ else _) _ _ s;rw[if_neg (by decide)];refine wpAny_bind (jf pl (wpAny_bind (jf pu (wpAny_bind (wpAny_pure ?_)))));show wpAny _ _ (match Builtin.Slice.sliceAdjust lo hi 1 (n:Int) with|(lo,hi)=>pure (lo,(1:Int),Builtin.Slice.slicePlaces lo hi 1)) _ _ s;rw[nH lo hi n];show wpAny _ _ (pure (((sIx n 0 lo:Nat):Int),(1:Int),Builtin.Slice.slicePlaces ((sIx n 0 lo:Nat):Int) ((sIx n n hi:Nat):Int) 1)) _ _ s;rw[nQ];exact wpAny_pure h
theorem rV (xs:Array Value)(i k:Nat):((List.range k).filterMap fun(m:Nat)=>xs[((i:Int)+(m:Int)*1).toNat]?).toArray=((xs.toList.drop i).take k).toArray:=by
 have e:(fun(m:Nat)=>xs[((i:Int)+(m:Int)*1).toNat]?)=fun m=>xs[i+m]?:=by
  funext m;have:((i:Int)+(m:Int)*1).toNat=i+m:=by omega
  rw[this]
 rw[e];have:=pick_run xs i k;rw[List.filterMap_map] at this;have e2:((fun x=>xs[x]?) ∘ fun x=>i+x)=fun m=>xs[i+m]?:=rfl
 rw[e2] at this;rw[this]
theorem getItem_tuple_cut {t sl:Addr}{items:Array Value}{vl vu:Value}{lo hi:Option Int}(ht:IsTup s.heap t items)(hs:s.heap.IsSliceOf sl vl vu .none)(pl:IsPart vl lo)(pu:IsPart vu hi)
  (hw:¬(sIx items.size 0 lo=0∧sIx items.size items.size hi=items.size))
  (h:Q (.ref s.heap.objs.size) {s with heap:=s.heap.push {cls:=.type "tuple",data:=.seq ((items.toList.drop (sIx items.size 0 lo)).take (sIx items.size items.size hi-sIx items.size 0 lo)).toArray}})
  (hsz:items.size≤sizeLine):wpAny (model prog w) A (getItem (.ref t) (.ref sl)) Q E s:=by
 have htake:sizeOk (.seq ((items.toList.drop (sIx items.size 0 lo)).take (sIx items.size items.size hi-sIx items.size 0 lo)).toArray):=by
  show((items.toList.drop (sIx items.size 0 lo)).take (sIx items.size items.size hi-sIx items.size 0 lo)).toArray.size≤sizeLine;rw[List.size_toArray,List.length_take,List.length_drop,Array.length_toList];omega
 have hj:sIx items.size items.size hi≤items.size:=yX _ _ (Nat.le_refl _) hi;obtain⟨os,hos,hcs,hds⟩:=id hs;have hTs:s.TypeIs (.ref sl) "slice":=⟨os,hos,hcs⟩;unfold getItem
 try with_reducible refine wpAny_holding ?_
 first|refine wpAny_bind (wpAny_pure ?_)|skip
 refine wpAny_bind (wpAny_sequenceKey ht.typeIs (by decide) ?_);refine wpAny_bind (wpAny_callSpecial?_slot (name:=Str.ofString "__getitem__") ht.typeIs PyProof.Rows.slot_tuple_getitem
  (wpAny_call_entry PyProof.Rows.slot_tuple_getitem ht.typeIs entry_tuple_getitem ?_ (args_tuple_getitem _ _)))
 show wpAny _ _ (Builtin.Tuple.tupleItemsOf (.ref t) >>= _) _ _ s;refine wpAny_bind (tupleItemsOf_ ht ?_);refine wpAny_bind (wpAny_typeOf hTs ?_);rw[if_pos (by decide)];refine wpAny_bind (sliceApplied_gen hs pl pu ?_);have hno:¬((((sIx items.size 0 lo:Nat):Int)==0&&(1:Int)==1&&(sIx items.size items.size hi-sIx items.size 0 lo)==items.size)=true):=by
  intro q;rw[Bool.and_eq_true,Bool.and_eq_true] at q;have q1:((sIx items.size 0 lo:Nat):Int)=0:=eq_of_beq q.1.1;have q2:sIx items.size items.size hi-sIx items.size 0 lo=items.size:=eq_of_beq q.2;exact hw ⟨by omega,by omega⟩
 show wpAny _ _ (if(((sIx items.size 0 lo:Nat):Int)==0&&(1:Int)==1&&(sIx items.size items.size hi-sIx items.size 0 lo)==items.size)=true then _ else _) _ _ s;rw[if_neg hno,rV]
 first
  | exact wpAny_bind (m:=Builtin.Tuple.tupleExact _) (wpAny_newObj_type (wpAny_pure ⟨_,rfl,wpAny_pure h⟩) htake)
  | exact wpAny_bind (m:=Builtin.Tuple.tupleExact _) (wpAny_newObj_type (wpAny_bind (wpAny_pure (wpAny_pure ⟨_,rfl,wpAny_pure h⟩))) htake)
  | exact wpAny_bind (wpAny_bind (m:=Builtin.Tuple.tupleExact _) (wpAny_newObj_type (wpAny_pure (wpAny_pure ⟨_,rfl,wpAny_pure h⟩)) htake))
  | exact wpAny_bind (wpAny_bind (m:=Builtin.Tuple.tupleExact _) (wpAny_newObj_type (wpAny_pure ⟨_,rfl,wpAny_pure h⟩) htake))
end
end HT
namespace L2
open PySem PySem.Spec PyProof.Rows List
abbrev TO:=St→Hp→(Option Int→Hp→Prop)→Prop
def PO (X:Cx)(e:Option Expr)(t:TO):Prop:=
 ∀(aa:List (Addr×Obj)) (s:Shared) (σ:St) (H:Hp) (Q:Option Int→Hp→Prop),Inv X aa σ H s→t σ H Q→
  wpAny (model X.prog X.w) X.A (evalPart e X.env) (fun u s'=>∃o H',Inv X aa σ H' s'∧IsPart u o∧Q o H') X.xe s
def uA:TO:=fun _ H Q=>Q none H
def Ai (t:TE):TO:=fun σ H Q=>t σ H fun x H1=>∃i,x=.int i∧Q (some i) H1
theorem nI {ns:List Int}:∀{us:List Value},aC (ns.map V.int) us→IntsAre us ns:=by
 induction ns with
 | nil=>intro us r;rw[map_nil] at r;cases r;exact .nil
 | cons n ns ih=>
  intro us r;rw[map_cons] at r;cases r with
  | cons r1 r2=>
   obtain⟨t,e⟩:=r1;subst e;exact .cons n t (ih r2)
variable{xs:List V}
section
variable {X:Cx}{e:Expr}{te:TE}{lo hi:Option Expr}{tl th:TO}{pos p2:Pos}
theorem vD:PO X none uA:=by
 intro aa s σ H Q I h;rw[evalPart_none];exact wpAny_pure ⟨none,H,I,.none,h⟩
theorem uR (h:PE X e te):PO X (some e) (Ai te):=by
 intro aa s σ H Q I hw;rw[evalPart_some];refine b8 (h aa s σ H _ I hw) fun u s1 hxx=>?_
 obtain⟨x,H1,I1,r1,q1⟩:=hxx;obtain⟨i,rfl,q⟩:=q1;obtain⟨t,rfl⟩:=r1;exact⟨some i,H1,I1,.int i t,q⟩
def BO (X:Cx)(r:V→Option Int→Option Int→Hp→VK→Prop):Prop:=
 ∀(aa:List (Addr×Obj)) (s:Shared) (σ:St) (H:Hp) (x:V) (v vl vu:Value) (lo hi:Option Int) (sl:Addr) (Q:VK),Inv X aa σ H s→RelV x v→s.heap.IsSliceOf sl vl vu .none→IsPart vl lo→IsPart vu hi→r x lo hi H Q→
  ∃T id,typeLookup (.type T) "__getitem__"=pure (some (.builtin id))∧s.TypeIs v T∧wpAny (model X.prog X.w) X.A (getItem v (.ref sl)) (EP X aa σ Q) X.xe s
def Dg (r:V→Option Int→Option Int→Hp→VK→Prop)(te:TE)(tl th:TO):TE:=fun σ H Q=>te σ H fun x H1=>tl σ H1 fun l H2=>th σ H2 fun u H3=>r x l u H3 Q
theorem qQ {r:V→Option Int→Option Int→Hp→VK→Prop}(hr:BO X r)(he:PE X e te)(hl:PO X lo tl)(hu:PO X hi th):PE X (.Subscript e (.Slice lo hi none p2) pos) (Dg r te tl th):=by
 intro aa s σ H Q I h;refine Subscript_ (b8 (he aa s σ H _ I h) fun v s1 hxx=>?_);obtain⟨x,H1,I1,r1,q1⟩:=hxx;refine wpAny_Slice (b8 (hl aa s1 σ H1 _ I1 q1) fun vl s2 ⟨l,H2,I2,pl,q2⟩=>b8 (hu aa s2 σ H2 _ I2 q2) fun vu s3 hxx=>?_);obtain⟨u,H3,I3,pu,q3⟩:=hxx;rw[evalPart_none];refine wpAny_pure ?_;have I4:Inv X aa σ H3 {s3 with heap:=s3.heap.push {cls:=.type "slice",data:=.fields #[vl,vu,.none]}}:=I3.kept (t':=s3.toks) fun b ob q=>Heap.get?_push_of_some _ q
 obtain⟨T,id,hT,ht,hg⟩:=hr aa {s3 with heap:=s3.heap.push {cls:=.type "slice",data:=.fields #[vl,vu,.none]}} σ H3 x v vl vu l u s3.heap.objs.size Q I4 r1 (Heap.IsSliceOf.new ..) pl pu q3;show wpAny (model X.prog X.w) X.A (subscriptTail e (.Slice lo hi none p2) v (.ref s3.heap.objs.size)) (EP X aa σ Q) X.xe {s3 with heap:=s3.heap.push {cls:=.type "slice",data:=.fields #[vl,vu,.none]}};exact tail_any (ops:=[.ref s3.heap.objs.size,v]) ht hT hg (by with_unfolding_all rfl)
def m9 (xs:List V)(lo hi:Option Int):List V:=(xs.drop (HT.sIx xs.length 0 lo)).take (HT.sIx xs.length xs.length hi-HT.sIx xs.length 0 lo)
theorem il (xs:List V)(lo hi:Option Int):(m9 xs lo hi).length≤xs.length:=by
 unfold m9;rw[length_take,length_drop];omega
def CM (K:W.Frag):V→Option Int→Option Int→Hp→VK→Prop:=fun x lo hi H Q=>∃a xs,x=.ref a∧lK K H a xs∧
 ¬(HT.sIx xs.length 0 lo=0∧HT.sIx xs.length xs.length hi=xs.length)∧∀p,H p=none→Q (.ref p) (bi H p (.tup (m9 xs lo hi)))
theorem yq:BO X (CM X.K):=by
 intro aa s σ H x v vl vu lo hi sl Q I rx hs pl pu h;obtain⟨a,xs,rfl,hx,hw,q⟩:=h;cases rx;obtain⟨its,r,ht,hz⟩:=I.tuple hx;have hlen:its.toArray.size=xs.length:=by rw[size_toArray];exact r.length.symm
 refine⟨"tuple",_,PyProof.Rows.slot_tuple_getitem.lookup,ht.typeIs,?_⟩;refine HT.getItem_tuple_cut ht hs pl pu (by rw[hlen];exact hw) ?_ (by rw[hlen];exact hz);rw[hlen];refine⟨.ref s.heap.objs.size,_,I.laid (t':=s.toks) (o:=.tup (m9 xs lo hi)) (fun b ob q=>Heap.get?_push_of_some _ q) (Nat.le_refl _) ?_,rfl,q _ (I.hok.fresh (Nat.le_refl _))⟩;exact⟨Nat.le_trans (il xs lo hi) hz,_,(r.drop (HT.sIx xs.length 0 lo)).take (HT.sIx xs.length xs.length hi-HT.sIx xs.length 0 lo),IsTup.new _ _⟩
def Am (K:W.Frag):R2:=fun x y H Q=>∃a b xs ys,x=.ref a∧y=.ref b∧lK K H a xs∧lK K H b ys∧xs≠[]∧xs.length+ys.length≤sizeLine∧
 (ys=[]→Q (.ref a) H)∧(ys≠[]→∀p,H p=none→Q (.ref p) (bi H p (.tup (xs++ys))))
theorem aC.nil_iff {us:List Value}(r:aC xs us):us=[]↔xs=[]:=by
 cases r with
 | nil=>simp
 | cons _ _=>simp
theorem uW:eI X (binaryOp .Add) (Am X.K):=by
 intro aa s σ H x y v u Q I rx ry h;obtain⟨a,b,xs,ys,rfl,rfl,ha,hb,hx,hz,q1,q2⟩:=h;cases rx;cases ry;obtain⟨its,r1,p1,_⟩:=I.tuple ha;obtain⟨its2,r2,p2,_⟩:=I.tuple hb;refine HT.cat_tup p1 p2 (fun z=>hx (r1.nil_iff.mp z)) (fun z=>⟨.ref a,H,I,rfl,q1 (r2.nil_iff.mp z)⟩) (fun z=>?_) (by rw[←r1.length,←r2.length];exact hz);refine⟨.ref s.heap.objs.size,_,I.laid (t':=s.toks) (o:=.tup (xs++ys)) (fun b ob q=>Heap.get?_push_of_some _ q) (Nat.le_refl _) ?_,rfl,q2 (fun w=>z (r2.nil_iff.mpr w)) _ (I.hok.fresh (Nat.le_refl _))⟩;exact⟨by rw[length_append];exact hz,_,r1.append r2,IsTup.new _ _⟩
end
def vJ (n:Nat)(i:Int):Option Nat:=if 0≤i then(if i<n then some i.toNat else none) else if -(n:Int)≤i then some (i+n).toNat else none
def n8 {α:Type}(xs:List α)(i:Int):Option α:=(vJ xs.length i).bind fun j=>xs[j]?
theorem oq {n:Nat}{i:Int}{j:Nat}(h:vJ n i=some j):seqIndex? i n=some j∧j<n∧-(n:Int)≤i∧i<n:=by
 unfold vJ at h
 by_cases h0:0≤i
 ·rw[if_pos h0] at h
  by_cases h1:i<n
  ·rw[if_pos h1] at h;have e:i.toNat=j:=Option.some.inj h;exact⟨by rw[seqIndex_of h0 h1,e],by omega,by omega,h1⟩
  ·rw[if_neg h1] at h;cases h
 ·rw[if_neg h0] at h
  by_cases h1:-(n:Int)≤i
  ·rw[if_pos h1] at h;have e:(i+n).toNat=j:=Option.some.inj h;exact⟨by rw[seqIndex_neg (by omega) h1,e],by omega,h1,by omega⟩
  ·rw[if_neg h1] at h;cases h
theorem oU {α:Type}{xs:List α}{i:Int}{v:α}(h:n8 xs i=some v):∃j,seqIndex? i xs.length=some j∧xs[j]?=some v∧j<xs.length∧-(xs.length:Int)≤i∧i<xs.length:=by
 unfold n8 at h;cases e:vJ xs.length i with
 | none=>rw[e] at h;cases h
 | some j=>
  rw[e] at h;obtain⟨h1,h2,h3,h4⟩:=oq e;exact⟨j,h1,h,h2,h3,h4⟩
theorem lQ {α:Type}{xs:List α}{j:Nat}{v:α}(h:xs[j]?=some v):n8 xs (j:Int)=some v:=by
 have hj:j<xs.length:=(List.getElem?_eq_some_iff.mp h).1;have e:vJ xs.length (j:Int)=some j:=by
  unfold vJ;rw[if_pos (by omega),if_pos (by omega)];simp
 unfold n8;rw[e];exact h
def kQ (b:Expr):Prop:=∀o i,subscripted b false o i=operate [o,i] (getItem o i)
def BE (X:Cx)(r:R2):Prop:=
 ∀(value slice:Expr) (aa:List (Addr×Obj)) (s:Shared) (σ:St) (H:Hp) (x y:V) (v u:Value) (Q:VK),Inv X aa σ H s→RelV x v→RelV y u→r x y H Q→
  subscripted slice false v u=operate [v,u] (getItem v u)→wpAny (model X.prog X.w) X.A (subscriptTail value slice v u) (EP X aa σ Q) X.xe s
def CU (X:Cx)(id:String)(r:V→List V→Hp→VK→Prop):Prop:=
 ∀(aa:List (Addr×Obj)) (s:Shared) (σ:St) (H:Hp) (x:V) (xs:List V) (v:Value) (us:List Value) (Q:VK),Inv X aa σ H s→RelV x v→aC xs us→r x xs H Q→
  wpAny (model X.prog X.w) X.A (call (.builtin id) (v::us)) (EP X aa σ Q) X.xe s
variable{aa:List (Addr×Obj)}{σ:St}{H:Hp}{s:Shared}
section
variable {X:Cx}{a b:Expr}{ta tb:TE}{pos:Pos}
theorem Bf {r:R2}(hr:BE X r)(ha:PE X a ta)(hb:PE X b tb)(hs:kQ b):PE X (.Subscript a b pos) (Bh r ta tb):=by
 intro aa s σ H Q I h;exact Subscript_ (xV ha hb I h fun v u s2 x y H2 I2 rx ry q=>hr a b aa s2 σ H2 x y v u Q I2 rx ry q (hs _ _))
def Co (K:W.Frag):R2:=fun x y H Q=>∃p xs i v,x=.ref p∧y=.int i∧gT K H p xs∧n8 xs i=some v∧Q v H
def B5 (K:W.Frag):R2:=fun x y H Q=>∃p xs i v,x=.ref p∧y=.int i∧lK K H p xs∧n8 xs i=some v∧Q v H
theorem vK:BE X (Co X.K):=by
 intro value slice aa s σ H x y v u Q I rx ry h hs;obtain⟨p,xs,i,z,rfl,rfl,hq,he,q⟩:=h;cases rx;obtain⟨t,rfl⟩:=ry;obtain⟨its,r,pl,hz⟩:=I.list hq;obtain⟨j,h1,h2,h3,h4,h5⟩:=oU he;obtain⟨w,ew,rw'⟩:=r.get h2;have hl:=r.length;have hn:=fP;have fin:EP X aa σ Q w s:=⟨z,H,I,rw',q⟩
 by_cases h0:0≤i
 ·have hj:i.toNat=j:=by
   rw[seqIndex_of h0 h5] at h1;exact Option.some.inj h1
  exact item_listR pl.isList h0 (by omega) (by rw[hj];simpa using ew) fin hs
 ·have hj:(i+(its.toArray.size:Int)).toNat=j:=by
   rw[seqIndex_neg (by omega) h4] at h1;rw[size_toArray,←hl];exact Option.some.inj h1
  exact subscriptTail_builtinR (x:=w) pl.isList.typeIs slot_list_getitem.lookup
   (wpAny_getItem_list_neg (Q:=fun r s'=>r=w∧EP X aa σ Q r s') pl.isList (by omega) (by rw[size_toArray] <;> omega) (by omega) (by rw[hj];simpa using ew) ⟨rfl,fin⟩) hs
theorem xU:BE X (B5 X.K):=by
 intro value slice aa s σ H x y v u Q I rx ry h hs;obtain⟨p,xs,i,z,rfl,rfl,hq,he,q⟩:=h;cases rx;obtain⟨t,rfl⟩:=ry;obtain⟨its,r,pl,hz⟩:=I.tuple hq;obtain⟨j,h1,h2,h3,h4,h5⟩:=oU he;obtain⟨w,ew,rw'⟩:=r.get h2;have hl:=r.length;have hn:=fP;have fin:EP X aa σ Q w s:=⟨z,H,I,rw',q⟩;exact subscriptTail_builtinR (x:=w) pl.typeIs slot_tuple_getitem.lookup
  (getItem_tuple (j:=j) (Q:=fun r s'=>r=w∧EP X aa σ Q r s') pl (by omega) (by omega) (by rw[size_toArray,←hl];exact h1) (by simpa using ew) ⟨rfl,fin⟩) hs
theorem ni (its:List Value)(n j:Nat)(u:Value):Obj.mapSeq (·.setIfInBounds j u) {cls:=.type "list",data:=.seq its.toArray n}={cls:=.type "list",data:=.seq (its.set j u).toArray n}:=by
 simp[Obj.mapSeq]
theorem Inv.lst {p:Addr}(I:Inv X aa σ H s)(h:H p=some (.lst xs)) :
  ∃(its:List Value) (n:Nat),aC xs its∧s.heap.get? p=some {cls:=.type "list",data:=.seq its.toArray n}∧xs.length≤sizeLine:=by
 obtain⟨z,its,n,r,e⟩:=I.hok p _ h;exact⟨its,n,r,e,z⟩
theorem Inv.lstUpd {p:Addr}{ys:List V}{its its':List Value}{n n':Nat}{f:Obj→Obj}(I:Inv X aa σ H s)(h:H p=some (.lst xs))
  (ho:s.heap.get? p=some {cls:=.type "list",data:=.seq its.toArray n}) (hf:f {cls:=.type "list",data:=.seq its.toArray n}={cls:=.type "list",data:=.seq its'.toArray n'}) (r:aC ys its') (hz:ys.length≤sizeLine) (t:Nat) :
  Inv X aa σ (bi H p (.lst ys)) {s with heap:=s.heap.update p f,toks:=t}:=by
 have e:(s.heap.update p f).get? p=some {cls:=.type "list",data:=.seq its'.toArray n'}:=by
  rw[Heap.get?_update_self f ho (by rw[hf] <;> rfl),hf]
 refine I.write (x:=p) (e:=p) (by rw[h];trivial) (.inl rfl) (fun b u hb q=>(Heap.get?_update_other _ _ (Ne.symm hb)).trans q) ⟨_,e⟩ ?_;exact⟨hz,its',n',r,e⟩
def AY:V→V→V→Hp→(Hp→Prop)→Prop:=fun o i v H Q=>∃p xs k j,o=.ref p∧i=.int k∧H p=some (.lst xs)∧vJ xs.length k=some j∧Q (bi H p (.lst (xs.set j v)))
theorem sN:Bj X AY:=by
 intro aa s σ H o i v ov iv u Q I ro ri rv h;obtain⟨p,xs,k,j,rfl,rfl,hp,hj,q⟩:=h;cases ro;obtain⟨t,rfl⟩:=ri;obtain⟨its,n,r,ho,hz⟩:=I.lst hp;obtain⟨h1,h2,h3,h4⟩:=oq hj;have hl:=r.length;have hn:=fP;have I':Inv X aa σ (bi H p (.lst (xs.set j v))) {s with heap:=s.heap.update p (Obj.mapSeq (·.setIfInBounds j u))}:=
  I.lstUpd hp ho (ni its n j u) (r.set rv j) (by rw[length_set];exact hz) s.toks
 by_cases h0:0≤k
 ·have hk:k.toNat=j:=by
   rw[seqIndex_of h0 h4] at h1;exact Option.some.inj h1
  exact W.ki_setAt ho h0 (by omega) (by rw[size_toArray,←hl];exact h4) (by rw[hk];exact⟨_,I',q⟩)
 ·have hk:(k+(its.toArray.size:Int)).toNat=j:=by
   rw[seqIndex_neg (by omega) h3] at h1;rw[size_toArray,←hl];exact Option.some.inj h1
  exact W.ki_setBack ho (by omega) (by rw[size_toArray,←hl];exact h3) (by omega) (by rw[hk];exact⟨_,I',q⟩)
theorem kX (lo hi:Option Int)(n:Nat):(sliceBounds lo hi none n).1=((HT.sIx n 0 lo:Nat):Int)∧(sliceBounds lo hi none n).2.1=((HT.sIx n n hi:Nat):Int)∧(sliceBounds lo hi none n).2.2=1:=by
 refine⟨?_,?_,rfl⟩
 ·cases lo with
  | none=>simp[sliceBounds,HT.sIx]
  | some i=>
   simp only[sliceBounds,HT.sIx,Option.getD_none,show(1:Int)>0 by decide,if_true]
   by_cases h:i<0
   ·simp only[h,if_true] <;> omega
   ·simp only[h,if_false] <;> omega
 ·cases hi with
  | none=>simp[sliceBounds,HT.sIx]
  | some i=>
   simp only[sliceBounds,HT.sIx,Option.getD_none,show(1:Int)>0 by decide,if_true]
   by_cases h:i<0
   ·simp only[h,if_true] <;> omega
   ·simp only[h,if_false] <;> omega
theorem jU (its:List Value)(lo hi:Option Int):slicePick its.toArray lo hi none=((its.drop (HT.sIx its.length 0 lo)).take (HT.sIx its.length its.length hi-HT.sIx its.length 0 lo)).toArray:=by
 obtain⟨h1,h2,h3⟩:=kX lo hi its.toArray.size;unfold slicePick;rw[h1,h2,h3];simp only[sliceRange_one,pick_run,size_toArray] <;> rfl
def Cz (K:W.Frag):V→Option Int→Option Int→Hp→VK→Prop:=fun x lo hi H Q=>∃a xs,x=.ref a∧gT K H a xs∧∀p,H p=none→Q (.ref p) (bi H p (.lst (m9 xs lo hi)))
theorem lu:BO X (Cz X.K):=by
 intro aa s σ H x v vl vu lo hi sl Q I rx hs pl pu h;obtain⟨a,xs,rfl,hx,q⟩:=h;cases rx;obtain⟨its,r,ht,hz⟩:=I.list hx;have hlen:=r.length;refine⟨"list",_,slot_list_getitem.lookup,ht.isList.typeIs,?_⟩;refine wpAny_getItem_list_slice ht.isList hs pl pu .none (by simp) ?_ (by rw[size_toArray] <;> omega);rw[jU,←hlen];refine⟨.ref s.heap.objs.size,_,I.laid (t':=s.toks) (o:=.lst (m9 xs lo hi)) (fun b ob q=>Heap.get?_push_of_some _ q) (Nat.le_refl _) ?_,rfl,q _ (I.hok.fresh (Nat.le_refl _))⟩;exact⟨Nat.le_trans (il xs lo hi) hz,_,0,(r.drop (HT.sIx xs.length 0 lo)).take (HT.sIx xs.length xs.length hi-HT.sIx xs.length 0 lo),Heap.get?_push_size _ rfl⟩
def dH:V→Bool
 | .non=>true
 | .bl _=>true
 | .int _=>true
 | .str _=>true
 | _=>false
def oj:V→V→Bool
 | .non,.non=>true
 | .bl a,.bl b=>a==b
 | .bl a,.int b=>(if a then 1 else 0)==b
 | .int a,.bl b=>a==(if b then 1 else 0)
 | .int a,.int b=>a==b
 | .str a,.str b=>a==b
 | _,_=>false
theorem yS {A:Around}{y x:V}{u v:Value}(ry:RelV y u)(rx:RelV x v)(fy:dH y=true)(fx:dH x=true):SeqAt.EqAt A s u v (oj y x):=by
 cases y with
 | non=>
  cases ry;cases x with
  | non=>cases rx;exact SeqAt.EqAt.same _
  | bl b=>cases rx;exact SeqAt.EqAt.none_bool b
  | int b=>obtain⟨t,rfl⟩:=rx;exact SeqAt.EqAt.none_int b t
  | str b=>obtain⟨t,rfl⟩:=rx;exact SeqAt.EqAt.none_str b t
  | _=>exact absurd (show false=true from fx) Bool.false_ne_true
 | bl a=>
  cases ry;cases x with
  | non=>cases rx;exact SeqAt.EqAt.bool_none a
  | bl b=>cases rx;exact SeqAt.EqAt.bool_bool a b
  | int b=>obtain⟨t,rfl⟩:=rx;exact SeqAt.EqAt.bool_int a b t
  | str b=>obtain⟨t,rfl⟩:=rx;exact SeqAt.EqAt.bool_str a b t
  | _=>exact absurd (show false=true from fx) Bool.false_ne_true
 | int a=>
  obtain⟨t',rfl⟩:=ry;cases x with
  | non=>cases rx;exact SeqAt.EqAt.int_none a t'
  | bl b=>cases rx;exact SeqAt.EqAt.int_bool a t' b
  | int b=>obtain⟨t,rfl⟩:=rx;exact SeqAt.EqAt.int_int a t' b t
  | str b=>obtain⟨t,rfl⟩:=rx;exact SeqAt.EqAt.int_str a t' b t
  | _=>exact absurd (show false=true from fx) Bool.false_ne_true
 | str a=>
  obtain⟨t',rfl⟩:=ry;cases x with
  | non=>cases rx;exact SeqAt.EqAt.str_none a t'
  | bl b=>cases rx;exact SeqAt.EqAt.str_bool a t' b
  | int b=>obtain⟨t,rfl⟩:=rx;exact SeqAt.EqAt.str_int a t' b t
  | str b=>obtain⟨t,rfl⟩:=rx;exact SeqAt.EqAt.str_str a t' b t
  | _=>exact absurd (show false=true from fx) Bool.false_ne_true
 | _=>exact absurd (show false=true from fy) Bool.false_ne_true
def zM (x:V)(u:Value):Bool:=match u with
 | .none=>oj .non x
 | .bool b=>oj (.bl b) x
 | .int i _=>oj (.int i) x
 | .str z _=>oj (.str z) x
 | _=>false
theorem nq {x y:V}{u:Value}(r:RelV y u)(f:dH y=true):zM x u=oj y x:=by
 cases y with
 | non=>cases r;rfl
 | bl b=>cases r;rfl
 | int i=>obtain⟨t,rfl⟩:=r;rfl
 | str z=>obtain⟨t,rfl⟩:=r;rfl
 | _=>exact absurd (show false=true from f) Bool.false_ne_true
theorem jA {A:Around}{s:Shared}{x:V}{v:Value}(rx:RelV x v)(fx:dH x=true):∀{xs:List V} {us:List Value},aC xs us→xs.all dH=true→∀u∈us,SeqAt.EqAt A s u v (zM x u)
 | _,_,.nil,_=>fun u hu=>by cases hu
 | y::xs,u::us,.cons r t,f=>fun u' hu=>by
  rw[all_cons,Bool.and_eq_true] at f;rcases mem_cons.mp hu with rfl|hu
  ·rw[nq r f.1];exact yS r rx f.1 fx
  ·exact jA rx fx t f.2 u' hu
theorem kY:cb X (.builtin "len") (fun xs H Q=>∃p ys,xs=[.ref p]∧(gT X.K H p ys∨lK X.K H p ys)∧Q (.int ys.length) H):=by
 intro aa s σ H xs us Q I r h;obtain⟨p,ys,rfl,hq,q⟩:=h;obtain⟨u,rfl,rx⟩:=jE r;cases rx;have hn:=fP;rcases hq with hq|hq
 ·obtain⟨its,r',pl,hz⟩:=I.list hq;have hlen:=r'.length;exact Calls.call_len_list pl.isList (by simp only[size_toArray] <;> omega) ⟨.int ys.length,H,I.tok _,⟨s.toks+1,by rw[size_toArray,hlen]⟩,q⟩
 ·obtain⟨its,r',pl,hz⟩:=I.tuple hq;have hlen:=r'.length;exact len_tuple pl (by simp only[size_toArray] <;> omega) ⟨.int ys.length,H,I.tok _,⟨s.toks+1,by rw[size_toArray,hlen]⟩,q⟩
theorem lq:cb X (.builtin "len") (fun xs H Q=>∃z,xs=[.str z]∧z.length≤sizeLine∧Q (.int z.length) H):=by
 intro aa s σ H xs us Q I r h;obtain⟨z,rfl,hz,q⟩:=h;obtain⟨u,rfl,t,rfl⟩:=jE r;have hn:=fP;exact len_str (by omega) ⟨.int z.length,H,I.tok _,⟨_,rfl⟩,q⟩
theorem lG:cb X (.type "list") (fun xs H Q=>∃p ys,xs=[.ref p]∧(gT X.K H p ys∨lK X.K H p ys)∧∀l,H l=none→Q (.ref l) (bi H l (.lst ys))):=by
 intro aa s σ H xs us Q I r h;obtain⟨p,ys,rfl,hq,q⟩:=h;obtain⟨u,rfl,rx⟩:=jE r;cases rx;have fin:∀(its:List Value),aC ys its→ys.length≤sizeLine→∀(h':Heap) (c':Nat),(∀b o',s.heap.get? b=some o'→h'.get? b=some o')→
   h'.get? s.heap.objs.size=some {cls:=.type "list",dict:=none,data:=.seq its.toArray c',slots:=#[]}→EP X aa σ Q (.ref s.heap.objs.size) {s with heap:=h'}:=fun its r' hz h' c' kp e=>
  ⟨.ref s.heap.objs.size,_,I.laid (t':=s.toks) kp (Nat.le_refl _) (show aV X.prog X.w _ h' _ (.lst ys) from⟨hz,its,c',r',e⟩),rfl,q _ (I.hok.fresh (Nat.le_refl _))⟩
 rcases hq with hq|hq
 ·obtain⟨its,r',pl,hz⟩:=I.list hq;have hlen:=r'.length;obtain⟨o,ho,hc,n,hd⟩:=pl.isList;exact call_list_seq p (.inl rfl) ho hc hd (fun h' c' kp e=>fin its r' hz h' c' kp e) (by simp only[size_toArray] <;> omega)
 ·obtain⟨its,r',pl,hz⟩:=I.tuple hq;have hlen:=r'.length;obtain⟨o,ho,hc,n,hd⟩:=pl;exact call_list_seq p (.inr rfl) ho hc hd (fun h' c' kp e=>fin its r' hz h' c' kp e) (by simp only[size_toArray] <;> omega)
theorem ck:cb X (.type "tuple") (fun xs H Q=>∃p ys,xs=[.ref p]∧((gT X.K H p ys∧∀l,H l=none→Q (.ref l) (bi H l (.tup ys)))∨(lK X.K H p ys∧Q (.ref p) H))):=by
 intro aa s σ H xs us Q I r h;obtain⟨p,ys,rfl,h⟩:=h;obtain⟨u,rfl,rx⟩:=jE r;cases rx;rcases h with⟨hq,q⟩|⟨hq,q⟩
 ·obtain⟨its,r',pl,hz⟩:=I.list hq;have hlen:=r'.length;refine call_tuple_list pl.isList (fun h' kp=>?_) (by simp only[size_toArray] <;> omega);have I1:Inv X aa σ H {s with heap:=h'}:=I.kept (t':=s.toks) kp;have I2:Inv X aa σ (bi H h'.objs.size (.tup ys)) {s with heap:=h'.push {cls:=.type "tuple",data:=.seq its.toArray}}:=
   I1.laid (t':=s.toks) (fun b o e=>Heap.get?_push_of_some _ e) (Nat.le_refl _) (show aV X.prog X.w _ _ _ (.tup ys) from⟨hz,its,r',IsTup.new _ _⟩)
  exact⟨.ref h'.objs.size,_,I2,rfl,q _ (I1.hok.fresh (Nat.le_refl _))⟩
 ·obtain⟨its,r',pl,hz⟩:=I.tuple hq;exact call_tuple_same pl ⟨.ref p,H,I,rfl,q⟩
def C5 (K:W.Frag)(T:String)(x:V)(H:Hp):Prop:=match x with
 | .str _=>T="str"
 | .int _=>T="int"
 | .ref p=>(T="list"∧∃xs,gT K H p xs)∨(T="tuple"∧∃o,K.lookup p=some o∧o.cls=.type "tuple"∧o.dict=none)∨
   (T="dict"∧((∃kvs,H p=some (.dK kvs))∨∃kvs,H p=some (.dT kvs)))∨(T="set"∧∃S n,H p=some (.set S n))
 | _=>False
theorem xL {T:String}{x:V}{v:Value}(I:Inv X aa σ H s)(r:RelV x v)(ty:C5 X.K T x H) :
  s.TypeIs v T∧∀a,v=.ref a→∃ob,s.heap.get? a=some ob∧ob.dict=none:=by
 cases x with
 | str z=>
  obtain⟨t,rfl⟩:=r;cases (show T="str" from ty);exact⟨typeIs_str s z t,fun _ e=>nomatch e⟩
 | int i=>
  obtain⟨t,rfl⟩:=r;cases (show T="int" from ty);exact⟨typeIs_int s i t,fun _ e=>nomatch e⟩
 | ref p=>
  cases r;rcases ty with⟨rfl,xs,hq⟩|⟨rfl,o,hk,hc,hd⟩|⟨rfl,hk⟩|⟨rfl,S,n,hk⟩
  ·obtain⟨its,_,pl,_⟩:=I.list hq;refine⟨pl.isList.typeIs,fun a e=>?_⟩;cases e;obtain⟨o,n,e,c,hd,_⟩:=pl;exact⟨o,e,hd⟩
  ·refine⟨⟨o,I.kIn p o hk,hc⟩,fun a e=>?_⟩;cases e;exact⟨o,I.kIn _ o hk,hd⟩
  ·have z:∃o,s.heap.get? p=some o∧o.ExactDict:=by
    rcases hk with⟨kvs,hk⟩|⟨kvs,hk⟩
    ·obtain⟨_,_,_,_,o,_,_,e,ex,_⟩:=I.hok p _ hk;exact⟨o,e,ex⟩
    ·obtain⟨_,_,_,_,o,_,_,e,ex,_⟩:=I.hok p _ hk;exact⟨o,e,ex⟩
   obtain⟨o,e,ex⟩:=z;refine⟨⟨o,e,ex.1⟩,fun a e2=>?_⟩;cases e2;exact⟨o,e,ex.2.1⟩
  ·obtain⟨o,_,_,_,e,ex,_⟩:=I.hok p _ hk;refine⟨⟨o,e,ex.1⟩,fun a e2=>?_⟩;cases e2;exact⟨o,e,ex.2.1⟩
 | _=>exact False.elim ty
def C0 (K:W.Frag)(T:String)(r:V→List V→Hp→VK→Prop)(to:TE)(t:TA):TE:=fun σ H Q=>to σ H fun x H1=>C5 K T x H1∧t σ H1 fun xs H2=>r x xs H2 Q
variable {o e:Expr}{es:List Expr}{to:TE}{t:TA}{name:Str}{apos cpos:Pos}{T id:String}{r:V→List V→Hp→VK→Prop}
theorem rg (pa:PlainAttrs T)(slot:Slot T name id)(hty:typeOf (.builtin id)=pure (.type "method_descriptor"))(hm:CU X id r)(ho:PE X o to)(ha:PA X (e::es) t)
  (hbase:attributeBase o name X.env (eval o X.env)=eval o X.env:=by rfl)
  (hfew:((backTo cpos (starEach (e::es) X.env)).all (fun x=>!x.1)&&(backToKw cpos (keywordEach [] X.env)).all (fun x=>x.1.isSome)
   && decide ((e::es).length+([]:List Keyword).length+(if([]:List Keyword).isEmpty then 0 else 1)<30))=true:=by rfl)
  (hline:(apos.endLine==cpos.line)=true:=by rfl) (hs:starEach (e::es) X.env=(false,eval e X.env)::starEach es X.env:=by rfl) (hplain:(backTo cpos (starEach es X.env)).any (·.1)=false:=by rfl) :
  PE X (.Call (.Attribute o name apos) (e::es) [] cpos) (C0 X.K T r to t):=by
 intro aa s σ H Q I h;refine wpAny_Call_method_late hbase hfew hline rfl (b8 (ho aa s σ H _ I h) fun v s1 hxx=>?_);obtain⟨x,H1,I1,r1,ty,q1⟩:=hxx;obtain⟨h1,h2⟩:=xL I1 r1 ty;refine⟨T,id,pa,slot,hty,h1,h2,?_⟩;have hA:=ha cpos aa s1 σ H1 _ I1 q1;rw[hs] at hA ⊢;refine Calls.callWith_builtin (by show(false||(backTo cpos (starEach es X.env)).any (·.1))=false;rw[hplain] <;> rfl) (Calls.evalArgs_plain ?_);exact b8 hA fun us s2 ⟨vs,H2,I2,r2,q2⟩=>hm aa s2 σ H2 x vs v us Q I2 r1 r2 q2
end
def Dh (X:Cx)(id:String)(r:V→List V→Hp→VK→Prop):Prop:=
 ∀(aa:List (Addr×Obj)) (s:Shared) (σ:St) (H:Hp) (x:V) (xs:List V) (v:Value) (us:List Value) (Q:VK),Inv X aa σ H s→RelV x v→aC xs us→r x xs H Q→
  wpAny (model X.prog X.w) X.A (call (.builtin id) (v::us)) (EP X aa σ Q) X.xe s
theorem aC.one:∀{x:V} {us:List Value},aC [x] us→∃u,us=[u]∧RelV x u
 | _,_,.cons r .nil=>⟨_,rfl,r⟩
section
variable {X:Cx}{aa:List (Addr×Obj)}{σ:St}{H:Hp}{s:Shared}{l b:Addr}{xs ys zs:List V}
theorem Inv.lset {its its':List Value}{n:Nat}{f:Array Value→Array Value}{t':Nat}(I:Inv X aa σ H s)(hH:H l=some (.lst xs))
  (e:s.heap.get? l=some {cls:=.type "list",data:=.seq its.toArray n}) (hf:f its.toArray=its'.toArray) (hv:aC ys its') (hz:ys.length≤sizeLine) :
  Inv X aa σ (bi H l (.lst ys)) {s with heap:=s.heap.update l (Obj.mapSeq f),toks:=t'}:=by
 have q:=PySem.IsL.update e f;rw[hf] at q;refine I.write (x:=l) (e:=l) (by rw[hH];exact trivial) (.inl rfl) (fun b' u hb hu=>(Heap.get?_update_other s.heap (Obj.mapSeq f) (Ne.symm hb)).trans hu) ⟨_,q⟩ ?_;exact⟨hz,its',_,hv,q⟩
theorem Inv.lnew {its:List Value}{t':Nat}(I:Inv X aa σ H s)(hv:aC ys its)(hz:ys.length≤sizeLine) :
  Inv X aa σ (bi H s.heap.objs.size (.lst ys)) {s with heap:=s.heap.push {cls:=.type "list",data:=.seq its.toArray},toks:=t'}:=
 I.laid (fun _ _ q=>Heap.get?_push_of_some _ q) (Nat.le_refl _) ⟨hz,its,0,hv,Heap.get?_push_size _ rfl⟩
theorem Inv.fresh (I:Inv X aa σ H s):H s.heap.objs.size=none:=I.hok.fresh (Nat.le_refl _)
theorem Inv.lstM (I:Inv X aa σ H s)(hH:H l=some (.lst xs)):xs.length≤sizeLine∧∃(its:List Value) (n:Nat),aC xs its∧xs.length=its.length∧s.heap.get? l=some {cls:=.type "list",data:=.seq its.toArray n}:=by
 obtain⟨z,its,n,r,e⟩:=I.hok l _ hH;exact⟨z,its,n,r,r.length,e⟩
end
section
variable {X:Cx}
def uH:V→List V→Hp→VK→Prop:=fun x vs H Q=>∃l xs y,x=.ref l∧vs=[y]∧H l=some (.lst xs)∧xs.length<sizeLine∧Q .non (bi H l (.lst (xs++[y])))
theorem pE:Dh X "list.append" uH:=by
 intro aa s σ H x vs v us Q I rx rv h;obtain⟨l,xs,y,rfl,rfl,hH,hz,q⟩:=h;cases rx;obtain⟨u,rfl,ru⟩:=rv.one;obtain⟨z,its,n,r,hl,e⟩:=I.lstM hH;refine call_meets F.slot_list_append ⟨_,e,rfl⟩ F.entry_list_append (F.args_list_append_2 _ _) (PySem.list_append l its.toArray n u (by rw[size_toArray];omega)) ⟨e,?_⟩;refine⟨.non,_,I.lset (its':=its++[u]) hH e (by simp) (r.append (.cons ru .nil)) ?_,rfl,q⟩;rw[length_append,length_singleton];omega
def CN:R2:=fun x y H Q=>∃l b xs zs,x=.ref l∧y=.ref b∧H l=some (.lst xs)∧H b=some (.lst zs)∧xs.length+zs.length≤sizeLine∧∀p,H p=none→Q (.ref p) (bi H p (.lst (xs++zs)))
theorem tR:eI X (binaryOp .Add) CN:=by
 intro aa s σ H x y v u Q I rx ry h;obtain⟨l,b,xs,zs,rfl,rfl,hH,hB,hz,q⟩:=h;cases rx;cases ry;obtain⟨z,its,n,r,hl,e⟩:=I.lstM hH;obtain⟨z2,its2,n2,r2,hl2,e2⟩:=I.lstM hB;refine PySem.P.add_list e e2 ?_ (by rw[size_toArray,size_toArray];omega);have ea:its.toArray++its2.toArray=(its++its2).toArray:=by simp
 rw[ea];exact⟨.ref _,_,I.lnew (t':=s.toks) (r.append r2) (by rw[length_append];omega),rfl,q _ I.fresh⟩
end
end L2
namespace Att
open PySem PySem.W PySem.Calls PyProof.Rows
variable{P:Params}
theorem ix {h:Heap}:∀(ns:List Int) (vs:List Value),WellAll P h vs (ns.map WData.int)→IntsAre vs ns:=by
 intro ns
 induction ns with
 | nil=>
  intro vs w;rw[List.map_nil] at w;cases w;exact .nil
 | cons n ns ih=>
  intro vs w;rw[List.map_cons] at w;cases w with
  | cons a b=>
   cases a;exact .cons _ _ (ih _ b)
variable{l:OpenLaw}
theorem qh {n:Nat}(hn:l.most=some n){h:Heap}{args:List WData}{vals:List Value}
  (hpre:l.row.toRowW.claim.pre args=true) (hwl:WellAll P h vals args) :
  ∃a vs ns,vals=[Value.ref a]∧args=[WData.list (ns.map WData.int)]∧h.get? a=some {cls:=.type "list",data:=.seq vs.toArray}∧IntsAre vs ns∧ns.length≤n:=by
 have hsh:WShape.hasAll [] args [.list .int]=true:=(pre_splitW hpre).1;have hc:l.pre.holds [] {args:=args}=true:=(pre_splitW hpre).2;obtain⟨d,r,rfl,h1,h2⟩:=hasAllW_cons hsh;obtain rfl:=hasAllW_nil h2;obtain⟨xs,rfl,h3⟩:=hasW_list h1;obtain⟨ns,rfl⟩:=items_int h3;have hlen:ns.length≤n:=by
  unfold OpenLaw.pre at hc;have h4:(WTm.not (.lt (.lit (.int (n:Int))) (.len (.arg 0)))).holds [] {args:=[.list (ns.map .int)]}=true:=by
   have h4:=(holds_andW hc).1;rw[hn] at h4;exact h4
  have h5:=condW_of h4 (w_not (w_lt w_lit (w_len_list (w_arg rfl))));rw[List.length_map] at h5;refine Nat.le_of_not_lt fun q=>?_
  have q':(n:Int)<((ns.length:Nat):Int):=by omega
  first
   | (rw[decide_eq_true q'] at h5;exact absurd h5 (by decide))
   | (simp at h5;omega)
 cases hwl with
 | cons w1 w2=>
  cases w2;cases w1 with
  | list ho hall=>exact⟨_,_,ns,rfl,rfl,ho,ix ns _ hall,hlen⟩
theorem pI (l:OpenLaw)(args:List WData):l.row.toRowW.claim.post args (.bool true) args=true:=
 postW_of (r:=l.row.toRowW) (X:=(true==true))
  (show WShape.has [] (.bool true) .bool=true by first|rfl|decide|simp[WShape.has,WShape.arms,WShape.armsAll])
  (show(WTm.eq .res (.lit (.bool true))).value [] {args:=args,res:=some (.bool true),after:=args}=some (.bool (true==true)) from w_eq_bool (w_res rfl) w_lit) rfl
theorem attach_call {n:Nat}{q:Program}{loose:List Str}{XP:(Str→Option Value)→Heap→Prop}{YP:World→Heap→Prop}{d:DefRec}
  (hn:l.most=some n) (hdf:d.params.defaults=[])
  (call:∀(w:World) (s₀ s₁:Shared) (mg mb:Str→Option Value) (fa:Addr) (o:Obj) (pm cd doc:Value) (a:Addr) (vs:List Value) (ns:List Int),
   Ground q loose [] XP w s₀ mg mb s₁.heap→YP w s₁.heap→
   s₁.heap.get? fa=some o→o.data=.func (docDef d.name d.params d.body d.scope pm cd doc)→s₁.heap.CodeRec cd d.name→mg d.name=some (.ref fa)→
   s₁.heap.get? a=some {cls:=.type "list",data:=.seq vs.toArray}→IntsAre vs ns→ns.length≤n→s₁.gens=#[]→
   codeAny (model l.prog w) callerA (.call (.ref fa) ⟨[.ref a],[]⟩) (fun r s'=>r=.ok (.ret (.bool true))∧OldK s₁.heap s'.heap∧s'.os=s₁.os∧AllBare s'.gens) s₁) :
  WalkO q loose XP YP l.row.toRowW d [] (fun f vs=>PySem.call f vs):=by
 intro w s₀ s₁ mg mb G Y fa o pm cd doc dV kV ho hd hcd hD hmg hg args vals as hpre hlay hrd hwl hlo;obtain rfl:dV=.none:=Dflts.none hD hdf;obtain rfl:kV=.none:=Dflts.noKw hD;obtain⟨a,vs,ns,rfl,rfl,hobj,hints,hlen⟩:=qh hn hpre hwl;refine enter_call (codeAny_mono (call w s₀ s₁ mg mb fa o pm cd doc a vs ns G Y ho (fd_plain hd) hcd hmg hobj hints hlen hg) fun r s' hq=>?_);obtain⟨rfl,h2,h3,h4⟩:=hq;exact⟨.inl ⟨.bool true,.bool true,[],rfl,fun _=>rfl,.bool true,pI l _,fun _=>⟨List.Pairwise.nil,fun _ hm=>(nomatch hm)⟩⟩,h2,h3,h4⟩
end Att
namespace L2
open PySem PySem.Spec PyProof.Rows List
theorem ka:∀{vs:List Value} {ns:List Int},IntsAre vs ns→aC (ns.map V.int) vs
 | _,_,.nil=>.nil
 | _,_,.cons n t h=>.cons ⟨t,rfl⟩ (ka h)
def dU (s:Stmt):Arguments:=match s with
 | .FunctionDef _ a _ _ _ _ _ _ _ _=>a
 | _=>{posonlyargs:=[],args:=[],vararg:=none,kwonlyargs:=[],kw_defaults:=[],kwarg:=none,defaults:=[]}
def cm (s:Stmt):List Stmt:=match s with
 | .FunctionDef _ _ b _ _ _ _ _ _ _=>b
 | _=>[]
def aO (s:Stmt):Scope:=match s with
 | .FunctionDef _ _ _ _ _ _ sc _ _ _=>sc
 | _=>{kind:=.function,names:=[],isGenerator:=false,isCoroutine:=false}
structure ya (K:W.Frag)(x qual:Str)(st:Stmt)(f:Addr)(fd:FuncData):Prop where
 ex:∃(oc:Value) (od:Option Addr) (kV doc pm:Value) (an:Option Addr) (cdv ct:Value) (osl:Array (Option Value)),
  fd=W.fnOf x qual (dU st) (cm st) (aO st) .none kV doc pm an cdv ct∧K.lookup f=some ⟨oc,od,.func fd,osl⟩∧W.codeIn K cdv qual=true
 kp:W.keepIn K (.ref f)=true
section
variable {P:Program}{w:World}{K:W.Frag}{mg:Str→Option Value}{base:Heap}
theorem ya.binds {x qual:Str}{st:Stmt}{f:Addr}{fd:FuncData}{ps:List Str}(F:ya K x qual st f fd)
  (h:∀(kV doc pm:Value) (an:Option Addr) (cdv ct:Value) (us:List Value),us.length=ps.length→bindArgs (W.fnOf x qual (dU st) (cm st) (aO st) .none kV doc pm an cdv ct) ⟨us,[]⟩=pure (ps.zip us)):eC K fd ps []:=by
 obtain⟨oc,od,kV,doc,pm,an,cdv,ct,osl,rfl,lk,hcd⟩:=F.ex;exact .all (h kV doc pm an cdv ct)
theorem qG {x qual:Str}{st:Stmt}{f:Addr}{oc:Value}{od an:Option Addr}{osl:Array (Option Value)}{kV doc pm cdv ct:Value}(l:K.lookup f=some ⟨oc,od,.func (W.fnOf x qual (dU st) (cm st) (aO st) .none kV doc pm an cdv ct),osl⟩)
  (c:W.codeIn K cdv qual=true) (k:W.keepIn K (.ref f)=true):ya K x qual st f (W.fnOf x qual (dU st) (cm st) (aO st) .none kV doc pm an cdv ct):=⟨⟨oc,od,kV,doc,pm,an,cdv,ct,osl,rfl,l,c⟩,k⟩
end
variable{A:Around}
theorem wq {k:Nat}(hr:bA k A):A.units+1<cLine:=Nat.lt_of_le_of_lt (Nat.add_le_add_left (by decide:1≤64) _) hr.units
variable{o:Option V}{y:V}{u:Value}
section
variable {κ:Type}[DecidableEq κ]
def fo (kvs:List (κ×V))(k:κ):Option V:=(kvs.find? fun kv=>decide (kv.1=k)).map (·.2)
def iD (kvs:List (κ×V))(k:κ)(v:V):List (κ×V):=
 if(kvs.any fun kv=>decide (kv.1=k))=true then kvs.map (fun kv=>if kv.1=k then(kv.1,v) else kv) else kvs++[(k,v)]
theorem gH {p:κ×V}{r:List (κ×V)}{k:κ}(e:p.1=k):fo (p::r) k=some p.2:=by simp[fo,find?_cons,e]
theorem gJ {p:κ×V}{r:List (κ×V)}{k:κ}(e:¬p.1=k):fo (p::r) k=fo r k:=by simp[fo,find?_cons,e]
theorem i4 (k:κ):∀kvs:List (κ×V),(kvs.any fun kv=>decide (kv.1=k))=(fo kvs k).isSome
 | []=>rfl
 | p::r=>by
  rw[any_cons]
  by_cases e:p.1=k
  ·simp only[gH e,decide_eq_true e,Bool.true_or,Option.isSome_some]
  ·rw[gJ e,decide_eq_false e,Bool.false_or];exact i4 k r
theorem im (kvs:List (κ×V))(k:κ)(v:V):(iD kvs k v).length≤kvs.length+1:=by
 unfold iD;split
 ·rw[length_map];omega
 ·rw[length_append,length_cons,length_nil];omega
theorem l8 {kvs:List (κ×V)}{k:κ}(v:V)(h:fo kvs k=none):iD kvs k v=kvs++[(k,v)]:=by
 unfold iD;rw[i4,h];exact if_neg (by decide)
theorem fu.isSome_eq {u:Option Value}(r:fu o u):o.isSome=u.isSome:=by
 cases o with
 | none=>cases u with
  | none=>rfl
  | some _=>exact(show False from r).elim
 | some _=>cases u with
  | none=>exact(show False from r).elim
  | some _=>rfl
theorem KV.val {kvs:List (κ×V)}{vs:List (κ×Value)}(r:KV kvs vs)(k:κ):fu (fo kvs k) (valueAt vs k):=by
 unfold KV at r
 induction r with
 | nil=>exact True.intro
 | @cons p q ps qs h t ih=>
  obtain⟨h1,h2⟩:=h
  by_cases e:p.1=k
  ·have e':q.1=k:=h1.symm.trans e;have b:valueAt (q::qs) k=some q.2:=by simp[valueAt,find?_cons,e']
   rw[gH e,b];exact h2
  ·have e':¬q.1=k:=fun z=>e (h1.trans z)
   have b:valueAt (q::qs) k=valueAt qs k:=by simp[valueAt,find?_cons,e']
   rw[gJ e,b];exact ih
theorem KV.any {kvs:List (κ×V)}{vs:List (κ×Value)}(r:KV kvs vs)(k:κ):(kvs.any fun kv=>decide (kv.1=k))=vs.any fun kv=>decide (kv.1=k):=by
 unfold KV at r
 induction r with
 | nil=>rfl
 | cons h t ih=>rw[any_cons,any_cons,ih,h.1]
theorem KV.repl {kvs:List (κ×V)}{vs:List (κ×Value)}(r:KV kvs vs)(k:κ)(ry:RelV y u) :
  KV (kvs.map fun kv=>if kv.1=k then(kv.1,y) else kv) (vs.map fun kv=>if kv.1=k then(kv.1,u) else kv):=by
 unfold KV at r ⊢
 induction r with
 | nil=>exact .nil
 | @cons p q ps qs h t ih=>
  rw[map_cons,map_cons];refine .cons ?_ ih;obtain⟨h1,h2⟩:=h
  by_cases e:p.1=k
  ·rw[if_pos e,if_pos (h1.symm.trans e)];exact⟨h1,ry⟩
  ·rw[if_neg e,if_neg (fun z=>e (h1.trans z))];exact⟨h1,h2⟩
theorem KV.put {kvs:List (κ×V)}{vs:List (κ×Value)}(r:KV kvs vs)(k:κ)(ry:RelV y u):KV (iD kvs k y) (stored vs k u):=by
 unfold iD stored;rw[r.any k]
 by_cases e:(vs.any fun kv=>decide (kv.1=k))=true
 ·rw[if_pos e,if_pos e];exact r.repl k ry
 ·rw[if_neg e,if_neg e];exact Paired.snoc r ⟨rfl,ry⟩
theorem KV.keys {kvs:List (κ×V)}{vs:List (κ×Value)}(r:KV kvs vs):kvs.map (·.1)=vs.map (·.1):=by
 unfold KV at r
 induction r with
 | nil=>rfl
 | cons h t ih=>rw[map_cons,map_cons,ih,h.1]
theorem KV.length {kvs:List (κ×V)}{vs:List (κ×Value)}(r:KV kvs vs):kvs.length=vs.length:=Paired.length r
end
variable{P:Program}{w:World}
theorem oY {k:bH}(r:RelV (kV k) u):(aE P w).is k u=true:=by
 cases k with
 | inl i=>obtain⟨t,e⟩:=(show∃t,u=Value.int i t from r);subst e;exact mi P w i t
 | inr x=>obtain⟨t,e⟩:=(show∃t,u=Value.str x t from r);subst e;exact mq P w x t
theorem kH {P:Program}{w:World}:∀{ks:List bH} {us:List Value},aC (ks.map kV) us→ItemsAre (aE P w) ks us
 | [],_,r=>by rw[map_nil] at r;cases r;exact .nil
 | k::ks,_,r=>by
  rw[map_cons] at r;cases r with
  | cons h t=>exact .cons (oY h) (kH t)
abbrev KT (H:Hp):List (List bH×V)→List (List bH×Addr×Value)→Prop:=Paired fun p q=>p.1=q.1∧H q.2.1=some (.tup (p.1.map kV))∧RelV p.2 q.2.2
variable{H:Hp}{kvs:List (List bH×V)}{xs:List (List bH×Addr×Value)}
theorem KT.val (r:KT H kvs xs)(k:List bH):fu (fo kvs k) ((atKey xs k).map (·.2)):=by
 induction r with
 | nil=>exact True.intro
 | @cons p q ps qs h t ih=>
  obtain⟨h1,_,h2⟩:=h
  by_cases e:p.1=k
  ·have e':q.1=k:=h1.symm.trans e;have b:atKey (q::qs) k=some q.2:=by simp[atKey,find?_cons,e']
   rw[gH e,b];exact h2
  ·have e':¬q.1=k:=fun z=>e (h1.trans z)
   have b:atKey (q::qs) k=atKey qs k:=by simp[atKey,find?_cons,e']
   rw[gJ e,b];exact ih
theorem KT.repl (r:KT H kvs xs)(k:List bH)(ry:RelV y u) :
  KT H (kvs.map fun kv=>if kv.1=k then(kv.1,y) else kv) (xs.map (putAt k u)):=by
 induction r with
 | nil=>exact .nil
 | @cons p q ps qs h t ih=>
  rw[map_cons,map_cons];refine .cons ?_ ih;obtain⟨h1,h2,h3⟩:=h;unfold putAt
  by_cases e:p.1=k
  ·rw[if_pos e,if_pos (h1.symm.trans e)];exact⟨h1,h2,ry⟩
  ·rw[if_neg e,if_neg (fun z=>e (h1.trans z))];exact⟨h1,h2,h3⟩
theorem KT.put (r:KT H kvs xs)(k:List bH){b:Addr}(hb:H b=some (.tup (k.map kV)))(ry:RelV y u) :
  KT H (iD kvs k y) (storedH xs k b u):=by
 have e:(kvs.any fun kv=>decide (kv.1=k))=(atKey xs k).isSome:=by
  rw[i4,(r.val k).isSome_eq,Option.isSome_map]
 unfold iD storedH;rw[e]
 by_cases q:(atKey xs k).isSome=true
 ·rw[if_pos q,if_pos q];exact r.repl k ry
 ·rw[if_neg q,if_neg q];exact Paired.snoc r ⟨rfl,hb,ry⟩
theorem KT.keeps {H':Hp}(r:KT H kvs xs)(ht:∀b ys,H b=some (.tup ys)→H' b=some (.tup ys)):KT H' kvs xs:=
 Paired.mapP r fun _ _ z=>⟨z.1,ht _ _ z.2.1,z.2.2⟩
section
variable {P:Program}{w:World}{H:Hp}{h:Heap}{a:Addr}
theorem wL {u:HO}(ok:fB P w H h)(e:Rd H a u):aV P w H h a u:=e.ok ok
theorem m5 {kvs:List (bH×V)}(ok:fB P w H h)(e:Rd H a (.dK kvs)):kvs.length≤sizeLine∧(a==sysModules)=false∧∃vs,KV kvs vs∧h.DictOf (aE P w) a vs:=
 show aV P w H h a (.dK kvs) from wL ok e
theorem AX {kvs:List (bH×V)}(ok:fB P w H h)(e:H a=some (.dK kvs)):kvs.length≤sizeLine∧(a==sysModules)=false∧∃vs,KV kvs vs∧h.DictOf (aE P w) a vs:=m5 ok (.inl e)
theorem lH {ks:List bH}(ok:fB P w H h)(e:H a=some (.tup (ks.map kV))):(tupleKind (aE P w)).is h ks a:=by
 obtain⟨_,its,r,o,h1,h2,n,h3⟩:=(show aV P w H h a (.tup (ks.map kV)) from ok a _ e);exact⟨o,its.toArray,n,h1,h2,h3,by simpa using kH r⟩
theorem mv (ok:fB P w H h)(e:Rd H a (.dT kvs)):kvs.length≤sizeLine∧(a==sysModules)=false∧
  ∃xs,KT H kvs xs∧h.DictOfH (tupleKind (aE P w)) a xs:=by
 obtain⟨z,y,xs,r,o,es,ep,h1,h2,h3,h4,h5⟩:=(show aV P w H h a (.dT kvs) from wL ok e);refine⟨z,y,xs,r,o,es,ep,h1,h2,h3,h4,fun x hx=>?_,h5⟩;have all:∀{l:List (List bH×V)} {m:List (List bH×Addr×Value)},KT H l m→∀x∈m,(tupleKind (aE P w)).is h x.1 x.2.1:=by
  intro l m q
  induction q with
  | nil=>intro x hx;exact nomatch hx
  | @cons p q ps qs hq t ih=>
   intro x hx;rcases mem_cons.mp hx with e|hx
   ·subst e;exact lH ok (by rw[←hq.1];exact hq.2.1)
   ·exact ih x hx
 exact all r x hx
theorem AK (ok:fB P w H h)(e:H a=some (.dT kvs)):kvs.length≤sizeLine∧(a==sysModules)=false∧
  ∃xs,KT H kvs xs∧h.DictOfH (tupleKind (aE P w)) a xs:=mv ok (.inl e)
end
def nj (H:Hp)(a:Addr)(y:V)(r:Option V):Prop:=
 (∃kvs k,Rd H a (.dK kvs)∧y=kV k∧r=fo kvs k)∨∃kvs k b,Rd H a (.dT kvs)∧y=.ref b∧H b=some (.tup (k.map kV))∧r=fo kvs k
theorem nj.k {H:Hp}{a:Addr}{kvs:List (bH×V)}{k:bH}(e:H a=some (.dK kvs)):nj H a (kV k) (fo kvs k):=.inl ⟨kvs,k,.inl e,rfl,rfl⟩
variable{Q:Value→Shared→Prop}
section
variable {X:Cx}{aa:List (Addr×Obj)}{σ:St}{H:Hp}{s:Shared}{a:Addr}{y v:V}{u r:Value}{o:Option V}{A:Around}{E:Value→Shared→Prop}
theorem Inv.big (I:Inv X aa σ H s):sysModules<s.heap.objs.size:=by
 have h:mainGlobals<s.heap.objs.size:=(I.mod.glob.keeps I.bk).lt;exact Nat.lt_trans (by decide) h
theorem qE (hu:A.units+1<cLine)(I:Inv X aa σ H s)(g:nj H a y (some v))(ry:RelV y u)(h:∀w' s',Inv X aa σ H s'→RelV v w'→Q w' s') :
  wpAny (model X.prog X.w) A (getItem (.ref a) u) Q E s:=by
 rcases g with⟨kvs,k,e,ey,l⟩|⟨kvs,k,b,e,ey,eb,l⟩
 ·subst ey;obtain⟨z,hd,vs,rel,dd⟩:=m5 I.hok e;obtain⟨w',hw,rw'⟩:=fu.some_of (v:=v) (o:=valueAt vs k) (by rw[l];exact rel.val k);exact wpAny_getItem_of (oY ry) dd.mapOf hw (h w' _ (I.tok _) rw')
 ·subst ey;cases (show u=Value.ref b from ry);obtain⟨z,hd,xs,rel,dd⟩:=mv I.hok e;obtain⟨w',hw,rw'⟩:=fu.some_of (v:=v) (o:=(atKey xs k).map (·.2)) (by rw[l];exact rel.val k);obtain⟨p,hp,hp2⟩:=Option.map_eq_some_iff.mp hw;refine wpAny_getItem_heap (tupleKind_room_in1 hu) (lH I.hok eb) dd hp ?_;rw[hp2];exact h w' _ (I.tok _) rw'
theorem oG {h':Heap}{t':Nat}{ob:HO}(I:Inv X aa σ H s)(mu:A5 (H a))(hs:Heap.SameBut a s.heap h')(he:∃q,h'.get? a=some q)(new:aV X.prog X.w (bi H a ob) h' a ob) :
  Inv X aa σ (bi H a ob) {s with heap:=h',toks:=t'}:=
 I.write (x:=a) (e:=a) mu (.inl rfl) (fun b q hb z=>(hs.2 b hb).trans z) he new
theorem yk {H':Hp}{h':Heap}{kvs:List (bH×V)}{vs:List (bH×Value)}(z:kvs.length≤sizeLine)(hd:(a==sysModules)=false)(rel:KV kvs vs)(dd:h'.DictOf (aE P w) a vs) :
  aV P w H' h' a (.dK kvs):=⟨z,hd,vs,rel,dd⟩
end
def uy (i:Expr):Prop:=∀ov iv,subscripted i false ov iv=operate [ov,iv] (getItem ov iv)
variable{s:Shared}
theorem vh {prog:Program}{E:Value→Shared→Prop}{env:Env}{value slice:Expr}{pos:Pos}{T id:String}
  (hl:typeLookup (.type T) "__getitem__"=pure (some (.builtin id))) (hs:uy slice)
  (h:wpAny (model prog w) A (eval value env) (fun o s₁=>wpAny (model prog w) A (eval slice env) (fun i s₂=>s₂.TypeIs o T∧wpAny (model prog w) A (getItem o i) Q E s₂) E s₁) E s) :
  wpAny (model prog w) A (eval (.Subscript value slice pos) env) Q E s:=by
 refine Subscript_ (wpAny_mono h (fun o s₁ h₁=>wpAny_mono h₁ (fun i s₂ h₂=>?_) fun _ _ x=>x) fun _ _ x=>x);obtain⟨hT,h₂⟩:=h₂;unfold subscriptTail;refine wpAny_bind ?_;rw[getitemInPython_of_ne hT.not_modules];refine wpAny_bind (wpAny_specialOf hT hl ?_);have fin:wpAny (model prog w) A (subscripted slice false o i) (fun r s₃=>wpAny (model prog w) A (letTemporaryGo value o r >>= fun _=>pure r) Q E s₃) E s₂:=by
  rw[hs o i];exact wpAny_operating (wpAny_mono h₂ (fun r s₃ h₃=>wpAny_bind (wpAny_letTemporaryGo (wpAny_pure h₃))) fun _ _ x=>x)
 first
  | exact wpAny_pure (wpAny_bind fin)
  | exact wpAny_bind (wpAny_pure (wpAny_bind fin))
  | exact wpAny_bind fin
variable{aa:List (Addr×Obj)}
theorem m6 {X:Cx}{σ:St}{a:Addr}(I:Inv X aa σ H s)(g:nj H a y o):s.TypeIs (.ref a) "dict":=by
 rcases g with⟨kvs,k,e,_,_⟩|⟨kvs,k,b,e,_,_,_⟩
 ·obtain⟨_,_,vs,_,dd⟩:=m5 I.hok e;exact dd.typeIs
 ·obtain⟨_,_,xs,_,dd⟩:=mv I.hok e;exact dd.typeIs
def z9 (td ty:TE):TE:=fun σ H Q=>td σ H fun x H1=>ty σ H1 fun y H2=>∃a v,x=.ref a∧nj H2 a y (some v)∧Q v H2
section
variable {X:Cx}{o i e value:Expr}{pos pos' tpos:Pos}{td ty tv:TE}
theorem um (hu:X.A.units+1<cLine)(ho:PE X o td)(hi:PE X i ty)(hs:uy i):PE X (.Subscript o i pos) (z9 td ty):=by
 intro aa s σ H Q I h;refine vh PySem.F.slot_dict_getitem.lookup hs (b8 (ho aa s σ H _ I h) fun u s1 ⟨x,H1,I1,rx,q1⟩=>b8 (hi aa s1 σ H1 _ I1 q1) fun iv s2 hxx=>?_);obtain⟨y,H2,I2,ry,a,v,ex,g,q2⟩:=hxx;subst ex;obtain rfl:u=Value.ref a:=rx;exact⟨m6 I2 g,qE hu I2 g ry fun w' s3 I3 rw'=>⟨v,H2,I3,rw',q2⟩⟩
end
theorem sv (h:Heap)(hb:sysModules<h.objs.size):aV P w H (h.push {cls:=.type "dict",data:=.dict #[]}) h.objs.size (.dK []):=
 ⟨Nat.zero_le _,beq_eq_false_iff_ne.mpr (Ne.symm (Nat.ne_of_lt hb)),[],.nil,Heap.DictOf.new h⟩
def yF:TE:=fun _ H Q=>∀p,H p=none→Q (.ref p) (bi H p (.dK []))
section
variable {X:Cx}{pos:Pos}
theorem rJ:PE X (.Dict [] [] pos) yF:=fun aa s σ H Q I h=>
 wpAny_Dict_empty ⟨.ref s.heap.objs.size,_,I.laid (a:=s.heap.objs.size) (o:=.dK []) (t':=s.toks) (fun _ _ q=>Heap.get?_push_of_some _ q) (Nat.le_refl _) (sv s.heap I.big),rfl,h _ (I.hok.fresh (Nat.le_refl _))⟩
end
abbrev VV:List (V×V)→List (Value×Value)→Prop:=Paired fun p q=>RelV p.1 q.1∧RelV p.2 q.2
structure M1 (X:Cx)(o:Expr)(m:Str)(apos:Pos)(e:Expr)(cpos:Pos):Prop where
 base:attributeBase o m X.env (eval o X.env)=eval o X.env
 few:((backTo cpos (starEach [e] X.env)).all (fun x=>!x.1)&&(backToKw cpos (keywordEach [] X.env)).all (fun x=>x.1.isSome)
  && decide (([e]:List Expr).length+([]:List Keyword).length+(if([]:List Keyword).isEmpty then 0 else 1)<30))=true
 line:(apos.endLine==cpos.line)=true
 trees:backTo cpos (starEach [e] X.env)=[(false,eval e X.env)]
structure M2 (X:Cx)(o:Expr)(m:Str)(apos:Pos)(e f:Expr)(cpos:Pos):Prop where
 base:attributeBase o m X.env (eval o X.env)=eval o X.env
 few:((backTo cpos (starEach [e,f] X.env)).all (fun x=>!x.1)&&(backToKw cpos (keywordEach [] X.env)).all (fun x=>x.1.isSome)
  && decide (([e,f]:List Expr).length+([]:List Keyword).length+(if([]:List Keyword).isEmpty then 0 else 1)<30))=true
 line:(apos.endLine==cpos.line)=true
 trees:backTo cpos (starEach [e,f] X.env)=[(false,eval e X.env),(false,eval f X.env)]
def CQ (H:Hp)(a:Addr):Prop:=(∃kvs,Rd H a (.dK kvs))∨∃kvs,Rd H a (.dT kvs)
theorem yb {X:Cx}{σ:St}{a:Addr}(I:Inv X aa σ H s)(d:CQ H a) :
  s.TypeIs (.ref a) "dict"∧(∀b,Value.ref a=.ref b→∃ob,s.heap.get? b=some ob∧ob.dict=none)∧(a==sysModules)=false:=by
 rcases d with⟨kvs,e⟩|⟨kvs,e⟩
 ·obtain⟨_,hd,vs,_,dd⟩:=m5 I.hok e;refine⟨dd.typeIs,fun b q=>?_,hd⟩;cases q;obtain⟨ob,_,_,h1,h2,_⟩:=dd;exact⟨ob,h1,h2.2.1⟩
 ·obtain⟨_,hd,xs,_,dd⟩:=mv I.hok e;refine⟨dd.typeIs,fun b q=>?_,hd⟩;cases q;obtain⟨ob,_,_,h1,h2,_⟩:=dd;exact⟨ob,h1,h2.2.1⟩
end L2
namespace Att
open PySem PySem.W PySem.Calls PyProof.Rows
end Att
namespace L2
open PySem PySem.Spec PyProof.Rows List
end L2
namespace DL
open PySem PySem.Spec PyProof.Rows L2 List
structure xO (X:Cx)(aa:List (Addr×Obj))(H:Hp)(B:Heap):Prop where
 trk:∀b o,H b=some o→∃o',B.get? b=some o'
 pin:∀p∈X.pn++aa,∃o',B.get? p.1=some o'
 old:∀b o,X.s₀.heap.get? b=some o→b∉X.ex→b∉iW X.stack→∃o',B.get? b=some o'
def B2 (X:Cx)(H:Hp)(a C:Addr)(s:Shared):Prop:=∃aa σ,
 (∃h vs,L2.Inv X aa σ H {s with heap:=h}∧Heap.MadeExcOf h s.heap a (.ref C) vs)∨
 (L2.Inv X aa σ H s∧H a=none∧∃B a0,Heap.FlyingW B X.stack a (.ref C) a0 s.heap∧xO X aa H B)∨
 (L2.Inv X aa σ H s∧H a=none∧∃B a0 L,X.env.frame=some L∧Heap.HeldW B X.stack a (.ref C) a0 L s.heap∧xO X aa H B)
def bR (K:W.Frag)(c:Str)(C:Addr):Prop:=W.nsIn K mainGlobals c=some (some (.ref C))
variable{K:W.Frag}
theorem bR.inj {c:Str}{C C':Addr}(a:bR K c C)(b:bR K c C'):C=C':=by
 unfold bR at a b;rw[a] at b;cases b;rfl
variable{P:Program}{w:World}{H:Hp}{a:Addr}{o:HO}
theorem jt {h:Heap}(x:aV P w H h a o):∃u,h.get? a=some u:=by
 cases o with
 | lst xs=>obtain⟨_,_,_,_,e⟩:=x;exact⟨_,e⟩
 | tup xs=>obtain⟨_,_,_,o,e,_⟩:=x;exact⟨_,e⟩
 | dK kvs=>obtain⟨_,_,_,_,o,_,_,e,_⟩:=x;exact⟨_,e⟩
 | dT kvs=>obtain⟨_,_,_,_,o,_,_,e,_⟩:=x;exact⟨_,e⟩
 | set S n=>obtain⟨o,_,_,_,e,_⟩:=x;exact⟨_,e⟩
 | ins C dx fs=>obtain⟨_,_,_,e,_⟩:=x;exact⟨_,e⟩
 | own y=>obtain⟨_,e⟩:=x;exact⟨_,e⟩
 | xd fs=>obtain⟨_,⟨_,_,_,e,_⟩,_⟩:=x;exact⟨_,e⟩
 | rng lo hi=>obtain⟨_,_,_,e⟩:=x;exact⟨_,e⟩
 | frz ob u=>obtain⟨e,_⟩:=x;exact⟨_,e⟩
 | tbl ps=>exact⟨_,show h.get? a=some _ from x⟩
 | met f y=>exact⟨_,show h.get? a=some _ from x⟩
 | ext φ=>obtain⟨_,⟨_,e⟩,_⟩:=x;exact⟨_,e⟩
variable{c:Addr}
section
variable {X:Cx}{aa:List (Addr×Obj)}{σ:List (Option V)}{H:Hp}{s:Shared}{B h':Heap}{a C:Addr}
theorem iM (I:L2.Inv X aa σ H s){b:Addr}{o:Obj}(e:X.s₀.heap.get? b=some o)(n:b∉X.fs):b∉iW X.stack:=fun z=>by
 rcases mem_cons.mp (I.stkSub b z) with q|q
 ·have h1:=Heap.lt_size e;rw[q] at h1;exact absurd (Nat.lt_of_lt_of_le h1 I.ok.above) (Nat.lt_irrefl _)
 ·exact n q
theorem oF {h h':Heap}{v:Option Value}(u:h.UpToSlots h')(x:h.IsCell c v):h'.IsCell c v:=by
 obtain⟨o,e,d⟩:=x;obtain⟨sl,e'⟩:=u c o e fun vs q=>by rw[d] at q;cases q
 exact⟨_,e',d⟩
theorem eB (I:L2.Inv X aa σ H s)(cov:xO X aa H B)(hB:B.StaysIn s.heap)(hB':B.StaysIn h')(up:s.heap.UpToSlots h'):L2.Inv X aa σ H {s with heap:=h'}:=by
 have keepB:∀b o o',B.get? b=some o'→s.heap.get? b=some o→h'.get? b=some o:=fun b o o' e1 e2=>by
  have:=hB b o' e1;rw[e2] at this;cases this;exact hB' b _ e1
 refine⟨I.ok,I.os,I.bare,⟨fun b o e n nf nx=>?_,fun b o e n hf nx=>?_,fun b o e n nx=>I.base.free b o e n nx,fun b o e nx=>?_,I.base.tups,I.base.frzs,I.base.tbls⟩,?_,fun x c e=>?_,I.free,I.freeC,fun p hp=>?_,fun b o e=>?_,I.len⟩
 ·obtain⟨o',e'⟩:=cov.old b o e nx (iM I e nf);exact keepB b o o' e' (I.base.keep b o e n nf nx)
 ·obtain⟨sl,e1⟩:=I.base.slot b o e n hf nx;obtain⟨_,ob,e2,nf⟩:=I.funs.mem hf;rw[e1] at e2;cases e2;obtain⟨sl',e3⟩:=up b _ e1 nf;exact⟨sl',e3⟩
 ·by_cases hf:b∈X.fs
  ·obtain⟨_,ob,e2,nf⟩:=I.funs.mem hf;obtain⟨sl',e3⟩:=up b _ e2 nf;exact⟨_,e3⟩
  ·obtain⟨o',e'⟩:=cov.old b o e nx (iM I e hf);exact⟨o',hB' b o' e'⟩
 ·obtain⟨m,hn,hl⟩:=I.loc;refine⟨m,up.ns hn,fun i x v e1 e2 e3=>?_⟩;obtain⟨u,r,lk⟩:=hl i x v e1 e2 e3;refine⟨u,r,?_⟩;rcases lk with lk|⟨k,c,ec,ic⟩
  ·exact .inl lk
  ·exact .inr ⟨k,c,ec,oF up ic⟩
 ·obtain⟨v,ic⟩:=I.cell x c e;exact⟨v,oF up ic⟩
 ·obtain⟨e,n,ne,nf,d⟩:=I.pin p hp;obtain⟨o',e'⟩:=cov.pin p hp;exact⟨keepB p.1 p.2 o' e' e,n,ne,nf,d⟩
 ·refine(I.hok b o e).stay (fun c u hc q=>?_) (fun _ q=>q) fun _ _ q=>q
  have:∃o,H c=some o:=by
   rcases hc with z|z
   ·exact⟨o,by rw[z];exact e⟩
   ·exact⟨_,z⟩
  obtain⟨oc,ec⟩:=this;obtain⟨o',e'⟩:=cov.trk c oc ec;exact keepB c u o' e' q
theorem mT (I:L2.Inv X aa σ H s):xO X aa H (W.hideAll s.heap (iW X.stack)):=by
 refine⟨fun b o e=>?_,fun p hp=>?_,fun b o e nx nf=>?_⟩
 ·obtain⟨u,q⟩:=jt (I.hok b o e);exact⟨u,W.hideAll_get _ q fun z=>by rw[I.stkFree b z] at e;cases e⟩
 ·obtain⟨e,n,ne,nf,d⟩:=I.pin p hp;exact⟨p.2,W.hideAll_get _ e fun z=>by
   rcases mem_cons.mp (I.stkSub _ z) with q|q
   ·exact ne q
   ·exact nf q⟩
 ·obtain⟨o',e'⟩:=I.base.there b o e nx;exact⟨o',W.hideAll_get _ e' nf⟩
theorem ij (I:L2.Inv X aa σ H s):s.heap.FunFrames (W.hideAll s.heap (iW X.stack)) X.stack:=
 W.funFrames_hide I.stack fun env he b hb=>mem_filterMap.mpr ⟨env,he,hb⟩
theorem kr {vs:List Value}{h:Heap}(I:L2.Inv X aa σ H {s with heap:=h})(m:Heap.MadeExcOf h s.heap a (.ref C) vs):H a=none:=by
 cases q:H a with
 | none=>rfl
 | some o=>
  obtain⟨u,e⟩:=jt (I.hok a o q);have e:h.get? a=some u:=e;rw[m.new] at e;cases e
end
def io (P:Program)(w:World):qF:=fun outer H s E e s'=>∃a C H' B a0,e=.ref a∧s'.os=s.os∧AllBare s'.gens∧Un (iW outer) [] H H' s.heap s'.heap∧fB P w H' s'.heap∧H' a=none∧
 Heap.FlyingW B outer a (.ref C) a0 s'.heap∧(∀b o,H' b=some o→∃o',B.get? b=some o')∧(∀b o,s.heap.get? b=some o→b∉iW outer→∃o',B.get? b=some o')∧E (.ref C) (some a) H'
variable{mg:Str→Option Value}{base:Heap}{scope:Scope}{f:Addr}{s:Shared}{E:XK}
theorem nU {N:List Str}{qual:Str}{cdv:Value}{A:Around}{outer:List Env}{s':Shared}{H':Hp}{C:Addr}
  (fl:B2 (gL (io P w) P w K mg base N qual scope f cdv A outer s H E) H' a C s') (hE:E (.ref C) (some a) H'):(gL (io P w) P w K mg base N qual scope f cdv A outer s H E).xe (.ref a) s':=by
 show wpAny (model P w) (A.deeper (envOfC qual scope s.heap.objs.size f cdv)) (leaving (envOfC qual scope s.heap.objs.size f cdv) (.ref a)) (fun _ s''=>io P w outer H s E (.ref a) s'') (fun e' s''=>io P w outer H s E e' s'') s';obtain⟨aa,σ,fl⟩:=fl;have key:∀(B:Heap) (a0:Value) (h':Heap) (I:L2.Inv (gL (io P w) P w K mg base N qual scope f cdv A outer s H E) aa σ H' s'),B.StaysIn s'.heap→xO (gL (io P w) P w K mg base N qual scope f cdv A outer s H E) aa H' B→H' a=none→
   Heap.FlyingW B outer a (.ref C) a0 h'→s'.heap.UpToSlots h'→io P w outer H s E (.ref a) {s' with heap:=h'}:=fun B a0 h' I hB cov hn fl' up=>by
  have I':=eB I cov hB fl'.1 up;refine⟨a,C,H',B,a0,rfl,I'.os,I'.bare,I'.base,I'.hok,hn,fl',cov.trk,fun b o e nf=>?_,hE⟩;exact cov.old b o e (by show b∉([]:List Addr);simp) (iM I e nf)
 rcases fl with⟨h,vs,I,m⟩|⟨I,hn,B,a0,fl,cov⟩|⟨I,hn,B,a0,L,hL,held,cov⟩
 ·have cov:=mT I;have hid:∀b o,(W.hideAll h (iW (gL (io P w) P w K mg base N qual scope f cdv A outer s H E).stack)).get? b=some o→h.get? b=some o:=fun b o q=>W.of_hideAll _ q
  refine wpAny_leaves_madeW (env:=envOfC qual scope s.heap.objs.size f cdv) (outer:=outer) I.ok.frames rfl hid (ij I) m fun h' t x1 x2 x3 x4=>?_
  exact key _ _ h' (I.kept (t':=s'.toks) (h':=s'.heap) m.keeps) (fun b o q=>m.keeps b o (hid b o q)) cov (kr I m) x1 x4
 ·refine wpAny_leaves_onW (env:=envOfC qual scope s.heap.objs.size f cdv) (outer:=outer) I.ok.frames rfl fl fun h' x1 x2=>?_
  exact key B a0 h' I fl.1 cov hn x1 x2
 ·unfold leaving;refine wpAny_bind (wpAny_noteFrame_againW hL held.2.2.2 ?_);refine wpAny_landsW held fun h' x1 x2=>?_
  obtain⟨k1,k2,⟨_,_,k3⟩,k4⟩:=x1;exact key B a0 h' I held.1 cov hn ⟨k1,k2,k3,k4⟩ x2
variable{aa:List (Addr×Obj)}{σ:L2.St}
theorem pX {X:Cx}{e:Value}{s':Shared}(I:L2.Inv X aa σ H s)(h:io X.prog X.w X.stack H s E e s'):∃a C H',e=.ref a∧B2 X H' a C s'∧E (.ref C) (some a) H':=by
 obtain⟨a,C,H',B,a0,rfl,os,bare,un,hok,hn,fl,trk,old,hE⟩:=h;refine⟨a,C,H',rfl,⟨aa,σ,.inr (.inl ⟨I.call' os un hok bare (fun b z=>absurd z (by simp)),hn,B,a0,fl,trk,fun p hp=>?_,fun b o eb nx nf=>?_⟩)⟩,hE⟩
 ·obtain⟨eb,n,ne,nf,d⟩:=I.pin p hp;exact old p.1 p.2 eb fun z=>by
   rcases mem_cons.mp (I.stkSub _ z) with q|q
   ·exact ne q
   ·exact nf q
 ·obtain⟨o',e'⟩:=I.base.there b o eb nx;exact old b o' e' nf
inductive D where
 | non|bl (b:Bool)|int (i:Int)|str (x:Str)|tup (xs:List D)|lst (xs:List D)|ro (xs:List D)|mr (i:Nat)|exc (c:Str)|any
instance:Inhabited D:=⟨.non⟩
inductive MO where
 | lst (xs:List D)|obj (c:Str) (fs:List (Str×D))|dK (kvs:List (bH×D))|dT (kvs:List (List bH×D))
instance:Inhabited MO:=⟨.lst []⟩
abbrev aq:=List MO
abbrev bF:=List (Option D)
inductive aN (α:Type) where
 | ok (a:α) (M:aq)
 | err (c:Str) (M:aq)
 | bad
def aN.bind {α β:Type}(o:aN α)(f:α→aq→aN β):aN β:=
 match o with
 | .ok a M=>f a M
 | .err c M=>.err c M
 | .bad=>.bad
@[simp] theorem ai {α β:Type} (a:α) (M:aq) (f:α→aq→aN β):(aN.ok a M).bind f=f a M:=by rw[aN.bind]
@[simp] theorem A7 {α β:Type} (c:Str) (M:aq) (f:α→aq→aN β):(aN.err c M:aN α).bind f=.err c M:=by rw[aN.bind]
@[simp] theorem Bv {α β:Type} (f:α→aq→aN β):(aN.bad:aN α).bind f=.bad:=by rw[aN.bind]
def Di (K:W.Frag)(a:Addr)(xs:List V):Prop:=∃(o:Obj) (its:Array Value) (n:Nat),K.lookup a=some o∧o.cls=.type "tuple"∧o.data=.seq its n∧its.size≤sizeLine∧aC xs its.toList
def KL (K:W.Frag)(a:Addr)(xs:List V):Prop:=∃(o:Obj) (its:Array Value) (n:Nat),K.lookup a=some o∧o.cls=.type "list"∧o.dict=none∧o.data=.seq its n∧its.size≤sizeLine∧aC xs its.toList
def ie (K:W.Frag)(θ:List Addr)(H:Hp)(a:Addr)(xs:List V):Prop:=H a=some (.tup xs)∧a∉θ
def kd (θ:List Addr)(H:Hp)(a:Addr)(xs:List V):Prop:=H a=some (.lst xs)∧a∉θ
def jz (K:W.Frag)(θ:List Addr)(H:Hp)(a:Addr)(xs:List V):Prop:=(Rd H a (.lst xs)∧a∉θ)∨KL K a xs
variable{θ:List Addr}{xs:List V}
theorem ie.sq (h:ie K θ H a xs):lK K H a xs:=.inl (.inl h.1)
theorem kd.sq (h:kd θ H a xs):gT K H a xs:=.inl (.inl h.1)
theorem jz.sq (h:jz K θ H a xs):gT K H a xs:=by
 rcases h with⟨h,_⟩|h
 ·exact .inl h
 ·exact .inr h
def vm (a C:Addr):HO:=.ext fun h=>∃o,h.get? a=some o∧o.cls=.ref C
mutual
def isD (K:W.Frag)(θ:List Addr)(H:Hp):D→V→Prop
 | .non,v=>v=.non
 | .bl b,v=>v=.bl b
 | .int i,v=>v=.int i
 | .str x,v=>v=.str x
 | .tup ds,v=>∃a vs,v=.ref a∧ie K θ H a vs∧isDs K θ H ds vs
 | .lst ds,v=>∃a vs,v=.ref a∧kd θ H a vs∧isDs K θ H ds vs
 | .ro ds,v=>∃a vs,v=.ref a∧jz K θ H a vs∧isDs K θ H ds vs
 | .mr i,v=>∃a,v=.ref a∧θ[i]?=some a
 | .exc c,v=>∃a C,v=.ref a∧bR K c C∧H a=some (vm a C)∧a∉θ
 | .any,_=>True
def isDs (K:W.Frag)(θ:List Addr)(H:Hp):List D→List V→Prop
 | [],vs=>vs=[]
 | d::ds,vs=>∃v r,vs=v::r∧isD K θ H d v∧isDs K θ H ds r
end
def isFs (K:W.Frag)(θ:List Addr)(H:Hp):List (Str×D)→List (Str×V)→Prop
 | [],vs=>vs=[]
 | (f,d)::fs,vs=>∃v r,vs=(f,v)::r∧isD K θ H d v∧isFs K θ H fs r
def isKs {κ:Type}(K:W.Frag)(θ:List Addr)(H:Hp):List (κ×D)→List (κ×V)→Prop
 | [],vs=>vs=[]
 | (k,d)::fs,vs=>∃v r,vs=(k,v)::r∧isD K θ H d v∧isKs K θ H fs r
def iJ (K:W.Frag)(θ:List Addr)(H:Hp):MO→Addr→Prop
 | .lst ds,a=>∃vs,H a=some (.lst vs)∧isDs K θ H ds vs
 | .obj c fs,a=>∃C dx vs,bR K c C∧H a=some (.ins C dx vs)∧isFs K θ H fs vs
 | .dK kvs,a=>∃vs,H a=some (.dK vs)∧isKs K θ H kvs vs
 | .dT kvs,a=>∃vs,H a=some (.dT vs)∧isKs K θ H kvs vs
def bI:List Str:=["ink_shown","table_within","slots_given","cast_on_slots"]
def uU (x:Str):Str:=x++(".<locals>.<lambda>":Str)
def Bg (c:Addr)(q:Str):HO:=.ext fun h=>h.CodeRec (.ref c) q
def BW (ob:Obj):HO:=.frz ob (.ext fun _=>True)
structure fF (K:W.Frag)(H:Hp):Prop where
 tab:∀x,x∈bI→∀c P,W.tabIn K x=some (c,P)→∃ps,H P=some (.tbl ps)∧TriplesOk ps.toList∧∀pos cv,codeAmong pos ps.toList=some cv→∃c',cv=.ref c'∧H c'=some (Bg c' (uU x))
 bm:∀x,x∈bI→∀c P,W.tabIn K x=some (c,P)→∃bm ob,W.nsIn K mainGlobals "__builtins__"=some (some (.ref bm))∧H bm=some (BW ob)∧ob.cls=.type "module"∧ob.dict=some builtinsNs∧ob.data=.plain∧bm≠builtinsNs∧bm≠mainGlobals
theorem fF.of {H':Hp}(t:fF K H)(k1:∀b ps,H b=some (.tbl ps)→H' b=some (.tbl ps))(k2:∀b φ,H b=some (.ext φ)→H' b=some (.ext φ))(k3:∀b o u,H b=some (.frz o u)→H' b=some (.frz o u)):fF K H':=
 ⟨fun x hx c P e=>by
  obtain⟨ps,h1,h2,h3⟩:=t.tab x hx c P e;refine⟨ps,k1 _ _ h1,h2,fun pos cv q=>?_⟩;obtain⟨c',e1,e2⟩:=h3 pos cv q;exact⟨c',e1,k2 _ _ e2⟩,fun x hx c P e=>by
  obtain⟨bm,ob,e1,e2,r⟩:=t.bm x hx c P e;exact⟨bm,ob,e1,k3 _ _ _ e2,r⟩⟩
theorem fF.new {p:Addr}(t:fF K H)(hp:H p=none):fF K (bi H p o):=
 t.of (fun b ps e=>by rw[aj (aQ e hp)];exact e) (fun b φ e=>by rw[aj (aQ e hp)];exact e) fun b o u e=>by rw[aj (aQ e hp)];exact e
def nW:HO→Bool
 | .tbl _=>false
 | .ext _=>false
 | .frz _ _=>false
 | _=>true
theorem fF.at_ {u:HO}(t:fF K H)(ha:H a=some u)(hu:nW u=true):fF K (bi H a o):=
 t.of (fun b ps e=>by rw[aj (mD e ha (by intro z;subst z;cases hu))];exact e) (fun b φ e=>by rw[aj (mD e ha (by intro z;subst z;cases hu))];exact e) fun b o u e=>by rw[aj (mD e ha (by intro z;subst z;cases hu))];exact e
structure Wr (K:W.Frag)(θ:List Addr)(H:Hp)(M:aq):Prop where
 len:θ.length=M.length
 nd:θ.Nodup
 at_:∀(i:Nat) a m,θ[i]?=some a→M[i]?=some m→iJ K θ H m a
 tb:fF K H
structure ed (K:W.Frag)(θ:List Addr)(H:Hp)(σ:L2.St)(ρ:bF):Prop where
 len:ρ.length=σ.length
 at_:∀(i:Nat) d,ρ[i]?=some (some d)→∃v,σ[i]?=some (some v)∧isD K θ H d v
structure Grow (θ:List Addr)(H:Hp)(θ':List Addr)(H':Hp):Prop where
 ext:∃more,θ'=θ++more∧∀a∈more,H a=none
 keep:∀b o,H b=some o→b∉θ→(∀ps,o≠.tbl ps)→H' b=some o
 tkeep:∀b ps,H b=some (.tbl ps)→∃ps',H' b=some (.tbl ps')
structure Go (K:W.Frag)(θ:List Addr)(H:Hp)(θ':List Addr)(H':Hp)(M':aq):Prop extends Grow θ H θ' H' where
 wr:Wr K θ' H' M'
variable{m:MO}{i:Nat}{d:D}{v:V}{ds:List D}{vs:List V}
section
variable {K:W.Frag}{θ θ' θ1 θ2:List Addr}{H H' H1 H2:Hp}{M M' M1 M2:aq}{a p:Addr}{σ:L2.St}{ρ:bF}
theorem Wr.tracked (w:Wr K θ H M)(h:a∈θ):H a≠none:=by
 obtain⟨i,hi,e⟩:=mem_iff_getElem.mp h;have h1:θ[i]?=some a:=by rw[getElem?_eq_getElem hi,e]
 have h2:i<M.length:=by rw[←w.len];exact hi
 have h3:=w.at_ i a _ h1 (getElem?_eq_getElem h2);cases q:M[i] with
 | lst ds=>
  rw[q] at h3;obtain⟨vs,e,_⟩:=h3;rw[e];simp
 | obj c fs=>
  rw[q] at h3;obtain⟨C,dx,vs,_,e,_⟩:=h3;rw[e];simp
 | dK kvs=>
  rw[q] at h3;obtain⟨vs,e,_⟩:=h3;rw[e];simp
 | dT kvs=>
  rw[q] at h3;obtain⟨vs,e,_⟩:=h3;rw[e];simp
theorem iJ.plain (h:iJ K θ H m a):∃o,H a=some o∧nW o=true:=by
 cases m with
 | lst ds=>obtain⟨vs,e,_⟩:=h;exact⟨_,e,rfl⟩
 | obj c fs=>obtain⟨C,dx,vs,_,e,_⟩:=h;exact⟨_,e,rfl⟩
 | dK kvs=>obtain⟨vs,e,_⟩:=h;exact⟨_,e,rfl⟩
 | dT kvs=>obtain⟨vs,e,_⟩:=h;exact⟨_,e,rfl⟩
theorem Wr.plain (w:Wr K θ H M)(h:θ[i]?=some a):∃o,H a=some o∧nW o=true:=by
 have h2:i<M.length:=by rw[←w.len];exact(List.getElem?_eq_some_iff.mp h).1
 exact(w.at_ i a _ h (getElem?_eq_getElem h2)).plain
theorem Wr.fresh (w:Wr K θ H M)(h:H p=none):p∉θ:=fun z=>w.tracked z h
theorem Grow.refl (θ:List Addr)(H:Hp):Grow θ H θ H:=⟨⟨[],by simp,fun _ z=>by cases z⟩,fun _ _ h _ _=>h,fun b ps e=>⟨ps,e⟩⟩
theorem Go.refl (w:Wr K θ H M):Go K θ H θ H M:=⟨.refl θ H,w⟩
theorem Go.trans (a:Go K θ H θ1 H1 M1)(b:Go K θ1 H1 θ2 H2 M2):Go K θ H θ2 H2 M2:=by
 obtain⟨m1,e1,f1⟩:=a.ext;obtain⟨m2,e2,f2⟩:=b.ext;refine⟨⟨⟨m1++m2,by rw[e2,e1,append_assoc],fun x hx=>?_⟩,fun x o hx nx nt=>?_,fun x ps e=>?_⟩,b.wr⟩
 ·rcases mem_append.mp hx with z|z
  ·exact f1 x z
  ·cases q:H x with
   | none=>rfl
   | some o=>
    have nx:x∉θ:=by
     intro y;have nd:=b.wr.nd;rw[e2] at nd;have y1:x∈θ1:=by rw[e1];exact mem_append_left _ y
     exact(nodup_append.mp nd).2.2 x y1 x z rfl
    exfalso
    by_cases nt:∃ps,o=.tbl ps
    ·obtain⟨ps,rfl⟩:=nt;obtain⟨ps',e'⟩:=a.tkeep x ps q;rw[f2 x z] at e';cases e'
    ·have:=a.keep x o q nx fun ps e'=>nt ⟨ps,e'⟩
     rw[f2 x z] at this;cases this
 ·have h1:=a.keep x o hx nx nt;refine b.keep x o h1 ?_ nt;rw[e1];intro z;rcases mem_append.mp z with z|z
  ·exact nx z
  ·rw[f1 x z] at hx;cases hx
 ·obtain⟨ps',e'⟩:=a.tkeep x ps e;exact b.tkeep x ps' e'
theorem Grow.notin (g:Grow θ H θ' H')(h:H a=some o)(n:a∉θ):a∉θ':=by
 obtain⟨m,e,f⟩:=g.ext;rw[e];intro z;rcases mem_append.mp z with z|z
 ·exact n z
 ·rw[f a z] at h;cases h
theorem ie.grow (g:Grow θ H θ' H')(h:ie K θ H a xs):ie K θ' H' a xs:=⟨g.keep _ _ h.1 h.2 (by intro _ z;cases z),g.notin h.1 h.2⟩
theorem kd.grow (g:Grow θ H θ' H')(h:kd θ H a xs):kd θ' H' a xs:=⟨g.keep _ _ h.1 h.2 (by intro _ z;cases z),g.notin h.1 h.2⟩
theorem jz.grow (g:Grow θ H θ' H')(h:jz K θ H a xs):jz K θ' H' a xs:=by
 rcases h with⟨h|⟨o,h⟩,n⟩|h
 ·exact .inl ⟨.inl (g.keep _ _ h n (by intro _ z;cases z)),g.notin h n⟩
 ·exact .inl ⟨.inr ⟨o,g.keep _ _ h n (by intro _ z;cases z)⟩,g.notin h n⟩
 ·exact .inr h
mutual
theorem gf (g:Grow θ H θ' H'):∀(d:D) (v:V),isD K θ H d v→isD K θ' H' d v
 | .non,v,h=>h
 | .bl b,v,h=>h
 | .int i,v,h=>h
 | .str x,v,h=>h
 | .tup ds,v,h=>by
  obtain⟨a,vs,e,t,r⟩:=h;exact⟨a,vs,e,t.grow g,bE g ds vs r⟩
 | .lst ds,v,h=>by
  obtain⟨a,vs,e,t,r⟩:=h;exact⟨a,vs,e,t.grow g,bE g ds vs r⟩
 | .ro ds,v,h=>by
  obtain⟨a,vs,e,t,r⟩:=h;exact⟨a,vs,e,t.grow g,bE g ds vs r⟩
 | .mr i,v,h=>by
  obtain⟨a,e,t⟩:=h;obtain⟨m,em,_⟩:=g.ext;refine⟨a,e,?_⟩;rw[em,getElem?_append_left (List.getElem?_eq_some_iff.mp t).1];exact t
 | .exc c,v,h=>by
  obtain⟨a,C,e,k,t,n⟩:=h;exact⟨a,C,e,k,g.keep _ _ t n (by intro _ z;cases z),g.notin t n⟩
 | .any,v,h=>h
theorem bE (g:Grow θ H θ' H'):∀(ds:List D) (vs:List V),isDs K θ H ds vs→isDs K θ' H' ds vs
 | [],vs,h=>h
 | d::ds,vs,h=>by
  obtain⟨v,r,e,h1,h2⟩:=h;exact⟨v,r,e,gf g d v h1,bE g ds r h2⟩
end
theorem isD.go (h:isD K θ H d v)(g:Go K θ H θ' H' M'):isD K θ' H' d v:=gf g.toGrow d v h
theorem isDs.go (h:isDs K θ H ds vs)(g:Go K θ H θ' H' M'):isDs K θ' H' ds vs:=bE g.toGrow ds vs h
theorem ed.go (h:ed K θ H σ ρ)(g:Go K θ H θ' H' M'):ed K θ' H' σ ρ:=⟨h.len,fun i d e=>let ⟨v,e1,e2⟩:=h.at_ i d e;⟨v,e1,e2.go g⟩⟩
theorem ak:∀{ds:List D} {vs:List V},isDs K θ H ds vs→ds.length=vs.length
 | [],vs,h=>by cases (show vs=[] from h);rfl
 | d::ds,vs,h=>by
  obtain⟨v,r,e,_,h2⟩:=h;subst e;rw[length_cons,length_cons,ak h2]
theorem bZ:∀{ds es:List D} {vs us:List V},isDs K θ H ds vs→isDs K θ H es us→isDs K θ H (ds++es) (vs++us)
 | [],es,vs,us,h,k=>by cases (show vs=[] from h);exact k
 | d::ds,es,vs,us,h,k=>by
  obtain⟨v,r,e,h1,h2⟩:=h;subst e;exact⟨v,r++us,rfl,h1,bZ h2 k⟩
theorem cy:∀{ds:List D} {vs:List V} {i:Nat} {d:D},isDs K θ H ds vs→ds[i]?=some d→∃v,vs[i]?=some v∧isD K θ H d v
 | [],vs,i,d,h,e=>by simp at e
 | x::ds,vs,0,d,h,e=>by
  obtain⟨v,r,e1,h1,h2⟩:=h;subst e1;simp at e;subst e;exact⟨v,rfl,h1⟩
 | x::ds,vs,i+1,d,h,e=>by
  obtain⟨v,r,e1,h1,h2⟩:=h;subst e1;obtain⟨u,e2,h3⟩:=cy (i:=i) h2 (by simpa using e);exact⟨u,by simpa using e2,h3⟩
theorem kn:∀{ds:List D} {vs:List V} (n:Nat),isDs K θ H ds vs→isDs K θ H (ds.take n) (vs.take n)
 | ds,vs,0,h=>by rw[take_zero,take_zero];exact rfl
 | [],vs,n+1,h=>by cases (show vs=[] from h);exact rfl
 | d::ds,vs,n+1,h=>by
  obtain⟨v,r,e,h1,h2⟩:=h;subst e;exact⟨v,r.take n,rfl,h1,kn n h2⟩
theorem kF:∀{ds:List D} {vs:List V} (n:Nat),isDs K θ H ds vs→isDs K θ H (ds.drop n) (vs.drop n)
 | ds,vs,0,h=>h
 | [],vs,n+1,h=>by cases (show vs=[] from h);exact rfl
 | d::ds,vs,n+1,h=>by
  obtain⟨v,r,e,h1,h2⟩:=h;subst e;exact kF n h2
theorem mf {d:D}{v:V}(hd:isD K θ H d v):∀{ds:List D} {vs:List V} (i:Nat),isDs K θ H ds vs→isDs K θ H (ds.set i d) (vs.set i v)
 | [],vs,i,h=>by cases (show vs=[] from h);exact rfl
 | x::ds,vs,0,h=>by
  obtain⟨u,r,e,h1,h2⟩:=h;subst e;exact⟨v,r,rfl,hd,h2⟩
 | x::ds,vs,i+1,h=>by
  obtain⟨u,r,e,h1,h2⟩:=h;subst e;exact⟨u,r.set i v,rfl,h1,mf hd i h2⟩
theorem gE (w:Wr K θ H M)(hp:H p=none):Grow θ H θ (bi H p o):=
 ⟨⟨[],by simp,fun _ z=>by cases z⟩,fun b u h _ _=>by rw[aj (aQ h hp)];exact h,fun b ps h=>⟨ps,by rw[aj (aQ h hp)];exact h⟩⟩
theorem kg (g:Grow θ H θ' H'):∀{fs:List (Str×D)} {vs:List (Str×V)},isFs K θ H fs vs→isFs K θ' H' fs vs
 | [],vs,h=>h
 | (f,d)::fs,vs,h=>by
  obtain⟨v,r,e,h1,h2⟩:=h;exact⟨v,r,e,gf g d v h1,kg g h2⟩
theorem dE {κ:Type}(g:Grow θ H θ' H'):∀{fs:List (κ×D)} {vs:List (κ×V)},isKs K θ H fs vs→isKs K θ' H' fs vs
 | [],vs,h=>h
 | (f,d)::fs,vs,h=>by
  obtain⟨v,r,e,h1,h2⟩:=h;exact⟨v,r,e,gf g d v h1,dE g h2⟩
theorem iJ.grow (g:Grow θ H θ' H')(hs:H' a=H a)(h:iJ K θ H m a):iJ K θ' H' m a:=by
 cases m with
 | lst ds=>
  obtain⟨vs,e,r⟩:=h;exact⟨vs,by rw[hs];exact e,bE g ds vs r⟩
 | obj c fs=>
  obtain⟨C,dx,vs,k,e,r⟩:=h;exact⟨C,dx,vs,k,by rw[hs];exact e,kg g r⟩
 | dK kvs=>
  obtain⟨vs,e,r⟩:=h;exact⟨vs,by rw[hs];exact e,dE g r⟩
 | dT kvs=>
  obtain⟨vs,e,r⟩:=h;exact⟨vs,by rw[hs];exact e,dE g r⟩
theorem bX (w:Wr K θ H M)(hp:H p=none):Go K θ H θ (bi H p o) M:=
 ⟨gE w hp,w.len,w.nd,fun i a m h1 h2=>by
  have ha:a≠p:=fun e=>w.fresh hp (by rw[←e];exact mem_of_getElem? h1)
  exact(w.at_ i a m h1 h2).grow (gE w hp) (aj ha),w.tb.new hp⟩
theorem dZ (w:Wr K θ H M)(hp:H p=none)(r:isDs K θ H ds vs):isD K θ (bi H p (.tup vs)) (.tup ds) (.ref p):=
 ⟨p,vs,rfl,⟨aT,w.fresh hp⟩,bE (gE w hp) ds vs r⟩
theorem dP (w:Wr K θ H M)(hp:H p=none)(r:isDs K θ H ds vs):isD K θ (bi H p (.lst vs)) (.lst ds) (.ref p):=
 ⟨p,vs,rfl,⟨aT,w.fresh hp⟩,bE (gE w hp) ds vs r⟩
theorem kD (hp:H p=none):Grow θ H (θ++[p]) (bi H p o):=
 ⟨⟨[p],rfl,fun a ha=>by rw[mem_singleton.mp ha];exact hp⟩,fun b u h _ _=>by rw[aj (aQ h hp)];exact h,fun b ps h=>⟨ps,by rw[aj (aQ h hp)];exact h⟩⟩
theorem ot (w:Wr K θ H M)(hp:H p=none)(hm:iJ K (θ++[p]) (bi H p o) m p):Go K θ H (θ++[p]) (bi H p o) (M++[m]):=by
 have np:=w.fresh hp;have g:Grow θ H (θ++[p]) (bi H p o):=kD hp;refine⟨g,by rw[length_append,length_append,w.len];rfl,?_,fun i a m' h1 h2=>?_,w.tb.new hp⟩
 ·rw[nodup_append];exact⟨w.nd,by simp,fun x hx y hy e=>np (by rw[mem_singleton.mp hy] at e;rw[←e];exact hx)⟩
 ·by_cases hi:i<θ.length
  ·rw[getElem?_append_left hi] at h1;rw[getElem?_append_left (by rw[←w.len];exact hi)] at h2;have ha:a≠p:=fun e=>np (by rw[←e];exact mem_of_getElem? h1)
   exact(w.at_ i a m' h1 h2).grow g (aj ha)
  ·have hi':i=θ.length:=by
    have:=(List.getElem?_eq_some_iff.mp h1).1;rw[length_append,length_singleton] at this;omega
   subst hi';rw[getElem?_append_right (Nat.le_refl _)] at h1;rw[getElem?_append_right (by rw[w.len];exact Nat.le_refl _)] at h2;simp only[Nat.sub_self,w.len,getElem?_cons_zero,Option.some.injEq] at h1 h2;subst h1;subst h2;exact hm
theorem tu (w:Wr K θ H M)(hp:H p=none)(r:isDs K θ H ds vs):Go K θ H (θ++[p]) (bi H p (.lst vs)) (M++[.lst ds]):=
 ot w hp ⟨vs,aT,bE (kD hp) ds vs r⟩
theorem iP (w:Wr K θ H M)(hi:θ[i]?=some a):Grow θ H θ (bi H a o):=by
 have ha:a∈θ:=mem_of_getElem? hi;obtain⟨u,hu,pu⟩:=w.plain hi;exact⟨⟨[],by simp,fun _ z=>by cases z⟩,fun b u h n _=>by rw[aj (fun e=>n (by rw[e];exact ha))];exact h,fun b ps h=>⟨ps,by rw[aj (mD h hu (by intro z;subst z;cases pu))];exact h⟩⟩
theorem lB (w:Wr K θ H M)(hi:θ[i]?=some a)(hm:iJ K θ (bi H a o) m a):Go K θ H θ (bi H a o) (M.set i m):=by
 have g:Grow θ H θ (bi H a o):=iP w hi;obtain⟨u,hu,pu⟩:=w.plain hi;refine⟨g,by rw[length_set];exact w.len,w.nd,fun j b m' h1 h2=>?_,w.tb.at_ hu pu⟩
 by_cases hj:j=i
 ·subst hj;rw[hi] at h1;cases h1;have hl:j<M.length:=by rw[←w.len];exact(List.getElem?_eq_some_iff.mp hi).1
  rw[getElem?_set_self hl] at h2;cases h2;exact hm
 ·rw[getElem?_set_ne (Ne.symm hj)] at h2;have hb:b≠a:=fun e=>by
   subst e;obtain⟨h3,e3⟩:=List.getElem?_eq_some_iff.mp h1;obtain⟨h4,e4⟩:=List.getElem?_eq_some_iff.mp hi;exact hj ((getElem_inj w.nd).mp (e3.trans e4.symm))
  exact(w.at_ j b m' h1 h2).grow g (aj hb)
theorem rR {ds ds':List D}{vs':List V}(w:Wr K θ H M)(hi:θ[i]?=some a)(r:isDs K θ H ds' vs'):Go K θ H θ (bi H a (.lst vs')) (M.set i (.lst ds')):=
 lB w hi ⟨vs',aT,bE (iP w hi) ds' vs' r⟩
end
abbrev GE:=bF→aq→aN D
abbrev GT:=bF→aq→aN Bool
abbrev GA:=bF→aq→aN (List D)
inductive Fl where
 | nx (ρ:bF)|rt (d:D)|bk (ρ:bF)|ct (ρ:bF)
abbrev GS:=bF→aq→aN Fl
def bV (X:Cx)(θ:List Addr)(H:Hp)(c:Str)(M:aq):Prop:=∀C θ' H' a s',bR X.K c C→Go X.K θ H θ' H' M→B2 X H' a C s'→X.xe (.ref a) s'
def aA (X:Cx)(θ:List Addr)(H:Hp)(Q:VK):aN D→Prop
 | .ok d M'=>∀v θ' H',Go X.K θ H θ' H' M'→isD X.K θ' H' d v→Q v H'
 | .err c M'=>bV X θ H c M'
 | .bad=>False
def g9 (X:Cx)(θ:List Addr)(H:Hp)(Q:Bool→Hp→Prop):aN Bool→Prop
 | .ok b M'=>∀θ' H',Go X.K θ H θ' H' M'→Q b H'
 | .err c M'=>bV X θ H c M'
 | .bad=>False
def o6 (X:Cx)(θ:List Addr)(H:Hp)(Q:List V→Hp→Prop):aN (List D)→Prop
 | .ok ds M'=>∀vs θ' H',Go X.K θ H θ' H' M'→isDs X.K θ' H' ds vs→Q vs H'
 | .err c M'=>bV X θ H c M'
 | .bad=>False
def cz (X:Cx)(θ:List Addr)(H:Hp)(D:pd):aN Fl→Prop
 | .ok (.nx ρ) M'=>∀σ θ' H',Go X.K θ H θ' H' M'→ed X.K θ' H' σ ρ→D.nx σ H'
 | .ok (.bk ρ) M'=>∀σ θ' H',Go X.K θ H θ' H' M'→ed X.K θ' H' σ ρ→D.bk σ H'
 | .ok (.ct ρ) M'=>∀σ θ' H',Go X.K θ H θ' H' M'→ed X.K θ' H' σ ρ→D.ct σ H'
 | .ok (.rt d) M'=>∀v θ' H',Go X.K θ H θ' H' M'→isD X.K θ' H' d v→D.rt v H'
 | .err c M'=>bV X θ H c M'
 | .bad=>False
def tE (X:Cx)(g:GE):TE:=fun σ H Q=>∃ρ θ M,ed X.K θ H σ ρ∧Wr X.K θ H M∧aA X θ H Q (g ρ M)
def tT (X:Cx)(g:GT):TT:=fun σ H Q=>∃ρ θ M,ed X.K θ H σ ρ∧Wr X.K θ H M∧g9 X θ H Q (g ρ M)
def tA (X:Cx)(g:GA):TA:=fun σ H Q=>∃ρ θ M,ed X.K θ H σ ρ∧Wr X.K θ H M∧o6 X θ H Q (g ρ M)
def tS (X:Cx)(g:GS):TS:=fun D σ H=>∃ρ θ M,ed X.K θ H σ ρ∧Wr X.K θ H M∧cz X θ H D (g ρ M)
variable{M:aq}{Q:Bool→Hp→Prop}
section
variable {X:Cx}{θ θ':List Addr}{H H':Hp}{M':aq}
theorem bV.go {c:Str}(g:Go X.K θ H θ' H' M')(h:bV X θ H c M):bV X θ' H' c M:=fun C θ2 H2 a s' k g2 fl=>h C θ2 H2 a s' k (g.trans g2) fl
theorem aA.go {Q:VK}{o:aN D}(g:Go X.K θ H θ' H' M')(h:aA X θ H Q o):aA X θ' H' Q o:=by
 cases o with
 | ok d M=>exact fun v θ2 H2 g2=>h v θ2 H2 (g.trans g2)
 | err c M=>exact bV.go (c:=c) (M:=M) g h
 | bad=>exact h
theorem g9.go {o:aN Bool}(g:Go X.K θ H θ' H' M')(h:g9 X θ H Q o):g9 X θ' H' Q o:=by
 cases o with
 | ok d M=>exact fun θ2 H2 g2=>h θ2 H2 (g.trans g2)
 | err c M=>exact bV.go (c:=c) (M:=M) g h
 | bad=>exact h
theorem o6.go {Q:List V→Hp→Prop}{o:aN (List D)}(g:Go X.K θ H θ' H' M')(h:o6 X θ H Q o):o6 X θ' H' Q o:=by
 cases o with
 | ok d M=>exact fun v θ2 H2 g2=>h v θ2 H2 (g.trans g2)
 | err c M=>exact bV.go (c:=c) (M:=M) g h
 | bad=>exact h
theorem cz.go {D:pd}{o:aN Fl}(g:Go X.K θ H θ' H' M')(h:cz X θ H D o):cz X θ' H' D o:=by
 cases o with
 | ok f M=>cases f <;> exact fun v θ2 H2 g2=>h v θ2 H2 (g.trans g2)
 | err c M=>exact bV.go (c:=c) (M:=M) g h
 | bad=>exact h
end
variable{es:List Expr}{g:GE}{ρ:bF}{pos:Pos}{op:CmpOp}
section
variable {X:Cx}{e:Expr}
theorem _root_.L2.PE.of {t t':TE}(h:PE X e t)(w:∀σ H Q,t' σ H Q→t σ H Q):PE X e t':=fun aa s σ H Q I q=>h aa s σ H Q I (w σ H Q q)
theorem _root_.L2.PT.of {t t':TT}(h:PT X e t)(w:∀σ H Q,t' σ H Q→t σ H Q):PT X e t':=fun aa s σ H Q I q=>h aa s σ H Q I (w σ H Q q)
theorem _root_.L2.PW.of {t t':TT}(h:PW X e t)(w:∀σ H Q,t' σ H Q→t σ H Q):PW X e t':=fun wh aa s σ H Q I q=>h wh aa s σ H Q I (w σ H Q q)
theorem _root_.L2.PA.of {t t':TA}(h:PA X es t)(w:∀σ H Q,t' σ H Q→t σ H Q):PA X es t':=fun pos aa s σ H Q I q=>h pos aa s σ H Q I (w σ H Q q)
theorem _root_.L2.PS.of {st:Stmt}{t t':TS}(h:PS X st t)(w:∀D σ H,t' D σ H→t D σ H):PS X st t':=fun aa s σ H D I q=>h aa s σ H D I (w D σ H q)
theorem _root_.L2.PSs.of {st:List Stmt}{t t':TS}(h:PSs X st t)(w:∀D σ H,t' D σ H→t D σ H):PSs X st t':=fun aa s σ H D I q=>h aa s σ H D I (w D σ H q)
theorem bp {Q:VK}{α:Type}(hd:ed X.K θ H σ ρ)(hw:Wr X.K θ H M)(F:aN α→Prop)(Fe:∀c M',F (.err c M')→bV X θ H c M')(Fb:F .bad→False)
  {f:D→aq→aN α} (h:F ((g ρ M).bind f))
  (k:∀d M1 v θ1 H1,Go X.K θ H θ1 H1 M1→isD X.K θ1 H1 d v→F (f d M1)→Q v H1):tE X g σ H Q:=by
 refine⟨ρ,θ,M,hd,hw,?_⟩;cases q:g ρ M with
 | ok d M1=>
  rw[q] at h;exact fun v θ1 H1 g1 r1=>k d M1 v θ1 H1 g1 r1 h
 | err c M1=>rw[q] at h;exact Fe c M1 h
 | bad=>rw[q] at h;exact(Fb h).elim
def af (i:Nat):GE:=fun ρ M=>match ρ[i]? with
 | some (some d)=>.ok d M
 | _=>.bad
def gC (d:D):GE:=fun _ M=>.ok d M
theorem zx (h:PE X e (Az i)):PE X e (tE X (af i)):=h.of fun σ H Q hxx=>by
 obtain⟨ρ,θ,M,hd,hw,f⟩:=hxx;unfold af at f;split at f
 ·rename_i d q;obtain⟨v,e1,r⟩:=hd.at_ i d q;exact⟨v,e1,f v θ H (.refl hw) r⟩
 ·exact f.elim
theorem zm {i j pos}:PE X (.Constant (.int i) j pos) (tE X (gC (.int i))):=yy.of fun σ H Q ⟨ρ,θ,M,hd,hw,f⟩=>f _ θ H (.refl hw) rfl
theorem zX {b j pos}:PE X (.Constant (.bool b) j pos) (tE X (gC (.bl b))):=AG.of fun σ H Q ⟨ρ,θ,M,hd,hw,f⟩=>f _ θ H (.refl hw) rfl
theorem xA {j pos}:PE X (.Constant .none j pos) (tE X (gC .non)):=yv.of fun σ H Q ⟨ρ,θ,M,hd,hw,f⟩=>f _ θ H (.refl hw) rfl
theorem xv {x j pos}:PE X (.Constant (.str x) j pos) (tE X (gC (.str x))):=wQ.of fun σ H Q ⟨ρ,θ,M,hd,hw,f⟩=>f _ θ H (.refl hw) rfl
abbrev F2:=D→D→aq→aN D
def g2 (f:F2)(ga gb:GE):GE:=fun ρ M=>(ga ρ M).bind fun x M1=>(gb ρ M1).bind fun y M2=>f x y M2
def rD (X:Cx)(f:F2):R2:=fun x y H Q=>∃θ M dx dy,Wr X.K θ H M∧isD X.K θ H dx x∧isD X.K θ H dy y∧aA X θ H Q (f dx dy M)
theorem oT {f:F2}{ga gb:GE}{Q:VK}(h:tE X (g2 f ga gb) σ H Q):Bh (rD X f) (tE X ga) (tE X gb) σ H Q:=by
 obtain⟨ρ,θ,M,hd,hw,h⟩:=h;refine bp hd hw (aA X θ H Q) (fun c M' h=>h) (fun h=>h) h fun dx M1 x θ1 H1 g1 r1 h1=>?_
 refine bp (hd.go g1) g1.wr (aA X θ1 H1 Q) (fun c M' h=>h) (fun h=>h) (h1.go g1) fun dy M2 y θ2 H2 g2 r2 h2=>?_
 exact⟨θ2,M2,dx,dy,g2.wr,r1.go g2,r2,h2.go g2⟩
theorem zS {a b:Expr}{op:Operator}{f:F2}{ga gb:GE}(ho:eI X (binaryOp op) (rD X f))(ha:PE X a (tE X ga))(hb:PE X b (tE X gb)):PE X (.BinOp a op b pos) (tE X (g2 f ga gb)):=
 (zQ ho ha hb).of fun _ _ _ h=>oT h
theorem xG {a b:Expr}{f:F2}{ga gb:GE}(ho:eI X (compareOp op) (rD X f))(ha:PE X a (tE X ga))(hb:PE X b (tE X gb))(hm:behindInMarks op b=false):PE X (.Compare a [op] [b] pos) (tE X (g2 f ga gb)):=
 (wj ho ha hb hm).of fun _ _ _ h=>oT h
def Aj:D→aq→aN Bool
 | .bl b,M=>.ok b M
 | _,_=>.bad
def aK (g:GE):GT:=fun ρ M=>(g ρ M).bind Aj
theorem sU {o:aN D}(h:g9 X θ H Q (o.bind Aj)):aA X θ H (fun x H'=>∃k,x=.bl k∧Q k H') o:=by
 cases o with
 | ok d M=>
  cases d with
  | bl b=>exact fun v θ1 H1 g1 r1=>⟨b,r1,h θ1 H1 g1⟩
  | _=>exact h.elim
 | err c M=>exact h
 | bad=>exact h
theorem zt (h:tT X (aK g) σ H Q):tE X g σ H fun x H'=>∃k,x=.bl k∧Q k H':=by
 obtain⟨ρ,θ,M,hd,hw,h⟩:=h;exact⟨ρ,θ,M,hd,hw,sU h⟩
theorem tK {a b:Expr}{f:F2}{ga gb:GE}(ho:eI X (compareOp op) (rD X f))(ha:PE X a (tE X ga))(hb:PE X b (tE X gb))(hm:behindInMarks op b=false):PT X (.Compare a [op] [b] pos) (tT X (aK (g2 f ga gb))):=
 (u9 ho ha hb hm).of fun σ H Q h=>oT (zt h)
def dm (a b:GT):GT:=fun ρ M=>(a ρ M).bind fun c M1=>if c then b ρ M1 else .ok false M1
def iI (a b:GT):GT:=fun ρ M=>(a ρ M).bind fun c M1=>if c then .ok true M1 else b ρ M1
def ik (a:GT):GT:=fun ρ M=>(a ρ M).bind fun c M1=>.ok (!c) M1
theorem og {g:GT}{α:Type}(hd:ed X.K θ H σ ρ)(hw:Wr X.K θ H M)(F:aN α→Prop)(Fe:∀c M',F (.err c M')→bV X θ H c M')(Fb:F .bad→False)
  {f:Bool→aq→aN α} (h:F ((g ρ M).bind f)) (k:∀d M1 θ1 H1,Go X.K θ H θ1 H1 M1→F (f d M1)→Q d H1):tT X g σ H Q:=by
 refine⟨ρ,θ,M,hd,hw,?_⟩;cases q:g ρ M with
 | ok d M1=>
  rw[q] at h;exact fun θ1 H1 g1=>k d M1 θ1 H1 g1 h
 | err c M1=>rw[q] at h;exact Fe c M1 h
 | bad=>rw[q] at h;exact(Fb h).elim
variable {a b:Expr}{pos:Pos}{rest:List Expr}{ta tb:GT}{ga gb:GE}
theorem uB (ha:PT X a (tT X ta)):PW X (.BoolOp .And [a] pos) (tT X ta):=uS ha
theorem yK (ha:PT X a (tT X ta)):PW X (.BoolOp .Or [a] pos) (tT X ta):=zg ha
theorem yI (ha:PT X a (tT X ta))(hb:PW X (.BoolOp .And (b::rest) pos) (tT X tb)):PW X (.BoolOp .And (a::b::rest) pos) (tT X (dm ta tb)):=(yY ha hb).of fun σ H Q hxx=>by
 obtain⟨ρ,θ,M,hd,hw,h⟩:=hxx;refine og hd hw (g9 X θ H Q) (fun c M' h=>h) (fun h=>h) h fun c M1 θ1 H1 g1 h1=>?_
 cases c with
 | true=>exact⟨ρ,θ1,M1,hd.go g1,g1.wr,g9.go g1 h1⟩
 | false=>exact h1 θ1 H1 g1
theorem Bl (ha:PT X a (tT X ta))(hb:PW X (.BoolOp .Or (b::rest) pos) (tT X tb)):PW X (.BoolOp .Or (a::b::rest) pos) (tT X (iI ta tb)):=(AN ha hb).of fun σ H Q hxx=>by
 obtain⟨ρ,θ,M,hd,hw,h⟩:=hxx;refine og hd hw (g9 X θ H Q) (fun c M' h=>h) (fun h=>h) h fun c M1 θ1 H1 g1 h1=>?_
 cases c with
 | true=>exact h1 θ1 H1 g1
 | false=>exact⟨ρ,θ1,M1,hd.go g1,g1.wr,g9.go g1 h1⟩
theorem zp (ha:PT X a (tT X ta)):PT X (.UnaryOp .Not a pos) (tT X (ik ta)):=(zB ha).of fun σ H Q hxx=>by
 obtain⟨ρ,θ,M,hd,hw,h⟩:=hxx;exact og hd hw (g9 X θ H Q) (fun c M' h=>h) (fun h=>h) h fun c M1 θ1 H1 g1 h1=>h1 θ1 H1 g1
def ah:GA:=fun _ M=>.ok [] M
def ae (g:GE)(r:GA):GA:=fun ρ M=>(g ρ M).bind fun d M1=>(r ρ M1).bind fun ds M2=>.ok (d::ds) M2
theorem jn {g:GA}{Q:List V→Hp→Prop}{α:Type}(hd:ed X.K θ H σ ρ)(hw:Wr X.K θ H M)(F:aN α→Prop)(Fe:∀c M',F (.err c M')→bV X θ H c M')(Fb:F .bad→False)
  {f:List D→aq→aN α} (h:F ((g ρ M).bind f)) (k:∀ds M1 vs θ1 H1,Go X.K θ H θ1 H1 M1→isDs X.K θ1 H1 ds vs→F (f ds M1)→Q vs H1):tA X g σ H Q:=by
 refine⟨ρ,θ,M,hd,hw,?_⟩;cases q:g ρ M with
 | ok d M1=>
  rw[q] at h;exact fun v θ1 H1 g1 r1=>k d M1 v θ1 H1 g1 r1 h
 | err c M1=>rw[q] at h;exact Fe c M1 h
 | bad=>rw[q] at h;exact(Fb h).elim
theorem xo:PA X [] (tA X ah):=fD.of fun σ H Q ⟨ρ,θ,M,hd,hw,f⟩=>f [] θ H (.refl hw) rfl
theorem wm {gr:GA}(ha:PE X e (tE X ga))(hr:PA X es (tA X gr))(hs:starEach (e::es) X.env=(false,eval e X.env)::starEach es X.env:=by rfl):PA X (e::es) (tA X (ae ga gr)):=
 (cE ha hr hs).of fun σ H Q hxx=>by
  obtain⟨ρ,θ,M,hd,hw,h⟩:=hxx;refine bp hd hw (o6 X θ H Q) (fun c M' h=>h) (fun h=>h) h fun d M1 v θ1 H1 g1 r1 h1=>?_
  refine jn (hd.go g1) g1.wr (o6 X θ1 H1 Q) (fun c M' h=>h) (fun h=>h) (h1.go g1) fun ds M2 vs θ2 H2 g2 r2 h2=>?_
  exact h2 (v::vs) θ2 H2 g2 ⟨v,vs,rfl,r1.go g2,r2⟩
def jL (ds:List D)(M:aq):aN D:=if ds.length≤sizeLine then .ok (.tup ds) M else .bad
def aW (ds:List D)(M:aq):aN D:=if ds.length≤sizeLine then .ok (.lst ds) M else .bad
def dk (ds:List D)(M:aq):aN D:=if ds.length≤sizeLine then .ok (.mr M.length) (M++[.lst ds]) else .bad
def bx (g:GA):GE:=fun ρ M=>(g ρ M).bind jL
def cC (g:GA):GE:=fun ρ M=>(g ρ M).bind aW
def gq (g:GA):GE:=fun ρ M=>(g ρ M).bind dk
theorem aA.tup {Q:VK}(h:aA X θ H Q (jL ds M))(hw:Wr X.K θ H M)(r:isDs X.K θ H ds vs):vs.length≤sizeLine∧∀p,H p=none→Q (.ref p) (bi H p (.tup vs)):=by
 unfold jL at h
 by_cases hl:ds.length≤sizeLine
 ·rw[if_pos hl] at h;exact⟨by rw[←ak r];exact hl,fun p hp=>h _ θ _ (bX hw hp) (dZ hw hp r)⟩
 ·rw[if_neg hl] at h;exact h.elim
theorem aA.lst {Q:VK}(h:aA X θ H Q (aW ds M))(hw:Wr X.K θ H M)(r:isDs X.K θ H ds vs):vs.length≤sizeLine∧∀p,H p=none→Q (.ref p) (bi H p (.lst vs)):=by
 unfold aW at h
 by_cases hl:ds.length≤sizeLine
 ·rw[if_pos hl] at h;exact⟨by rw[←ak r];exact hl,fun p hp=>h _ θ _ (bX hw hp) (dP hw hp r)⟩
 ·rw[if_neg hl] at h;exact h.elim
theorem aA.mut {Q:VK}(h:aA X θ H Q (dk ds M))(hw:Wr X.K θ H M)(r:isDs X.K θ H ds vs):vs.length≤sizeLine∧∀p,H p=none→Q (.ref p) (bi H p (.lst vs)):=by
 unfold dk at h
 by_cases hl:ds.length≤sizeLine
 ·rw[if_pos hl] at h;refine⟨by rw[←ak r];exact hl,fun p hp=>h _ (θ++[p]) _ (tu hw hp r) ⟨p,rfl,?_⟩⟩;rw[←hw.len,getElem?_append_right (Nat.le_refl _)];simp
 ·rw[if_neg hl] at h;exact h.elim
theorem xf {x1}{g:GA}(h:PA X es (tA X g)):PE X (.Tuple es x1 pos) (tE X (bx g)):=(zw h).of fun σ H Q ⟨ρ,θ,M,hd,hw,h⟩=>
 jn hd hw (aA X θ H Q) (fun c M' h=>h) (fun h=>h) h fun ds M1 vs θ1 H1 g1 r1 h1=>aA.tup (aA.go g1 h1) g1.wr r1
theorem yZ {g:GA}(h:PA X es (tA X g)):PE X (.List es pos) (tE X (cC g)):=(sy h).of fun σ H Q ⟨ρ,θ,M,hd,hw,h⟩=>
 jn hd hw (aA X θ H Q) (fun c M' h=>h) (fun h=>h) h fun ds M1 vs θ1 H1 g1 r1 h1=>aA.lst (aA.go g1 h1) g1.wr r1
theorem zf {g:GA}(h:PA X es (tA X g)):PE X (.List es pos) (tE X (gq g)):=(sy h).of fun σ H Q ⟨ρ,θ,M,hd,hw,h⟩=>
 jn hd hw (aA X θ H Q) (fun c M' h=>h) (fun h=>h) h fun ds M1 vs θ1 H1 g1 r1 h1=>aA.mut (aA.go g1 h1) g1.wr r1
end
section
variable {K:W.Frag}{θ:List Addr}{H:Hp}{σ:L2.St}{ρ:bF}
theorem ed.set (h:ed K θ H σ ρ)(r:isD K θ H d v)(i:Nat):ed K θ H (σ.set i (some v)) (ρ.set i (some d)):=by
 refine⟨by rw[length_set,length_set];exact h.len,fun j d' e=>?_⟩
 by_cases hj:j=i
 ·subst hj;have hl:j<ρ.length:=by
   have:=(List.getElem?_eq_some_iff.mp e).1;rw[length_set] at this;exact this
  rw[getElem?_set_self hl] at e;have e':d=d':=by simpa using e
  subst e';exact⟨v,getElem?_set_self (by rw[←h.len];exact hl),r⟩
 ·rw[getElem?_set_ne (Ne.symm hj)] at e;obtain⟨u,e1,r1⟩:=h.at_ j d' e;exact⟨u,by rw[getElem?_set_ne (Ne.symm hj)];exact e1,r1⟩
end
def aU:GS:=fun ρ M=>.ok (.nx ρ) M
def ao (a b:GS):GS:=fun ρ M=>(a ρ M).bind fun f M1=>match f with
 | .nx ρ1=>b ρ1 M1
 | .rt d=>.ok (.rt d) M1
 | .bk ρ1=>.ok (.bk ρ1) M1
 | .ct ρ1=>.ok (.ct ρ1) M1
def av (i:Nat)(g:GE):GS:=fun ρ M=>(g ρ M).bind fun d M1=>.ok (.nx (ρ.set i (some d))) M1
def bY (g:GE):GS:=fun ρ M=>(g ρ M).bind fun d M1=>.ok (.rt d) M1
def cS (g:GE):GS:=fun ρ M=>(g ρ M).bind fun _ M1=>.ok (.nx ρ) M1
def dQ (t:GT)(a b:GS):GS:=fun ρ M=>(t ρ M).bind fun c M1=>if c then a ρ M1 else b ρ M1
variable{x:Str}{is:List Nat}{n:Nat}
section
variable {X:Cx}{st:Stmt}{rest:List Stmt}{e:Expr}{g:GE}{t u:GS}{pos:Pos}
theorem yU:PSs X [] (tS X aU):=vW.of fun D σ H ⟨ρ,θ,M,hd,hw,f⟩=>f σ θ H (.refl hw) hd
theorem we (h1:PS X st (tS X t))(h2:PSs X rest (tS X u)):PSs X (st::rest) (tS X (ao t u)):=(re h1 h2).of fun D σ H hxx=>by
 obtain⟨ρ,θ,M,hd,hw,h⟩:=hxx;refine⟨ρ,θ,M,hd,hw,?_⟩;unfold ao at h;cases q:t ρ M with
 | ok f M1=>
  rw[q] at h;cases f with
  | nx ρ1=>exact fun σ1 θ1 H1 g1 d1=>⟨ρ1,θ1,M1,d1,g1.wr,cz.go g1 h⟩
  | rt d=>exact h
  | bk ρ1=>exact h
  | ct ρ1=>exact h
 | err c M1=>rw[q] at h;exact h
 | bad=>rw[q] at h;exact h
theorem zi (h1:PS X st (tS X t)):PSs X [st] (tS X t):=vR h1
theorem zv {pos':Pos}(hN:X.N.Nodup)(hi:X.N[i]?=some x)(hx:rk X.env.scope x)(he:PE X e (tE X g))(hs:swapsWith e (some (.Name x pos')) pos.line X.env=pure false:=by rfl)(hf:X.fn x=true∨X.env.scope.names.lookup x=some .local:=by first|exact .inl rfl|exact .inr rfl|assumption) :
  PS X (.Assign [.Name x pos'] e pos) (tS X (av i g)):=(yp hN hi hx he hs hf).of fun D σ H ⟨ρ,θ,M,hd,hw,h⟩=>
 bp hd hw (cz X θ H D) (fun c M' h=>h) (fun h=>h) h fun d M1 v θ1 H1 g1 r1 h1=>h1 _ θ1 H1 g1 ((hd.go g1).set r1 i)
theorem wZ (he:PE X e (tE X g)):PS X (.Return (some e) pos) (tS X (bY g)):=(xc he).of fun D σ H ⟨ρ,θ,M,hd,hw,h⟩=>
 bp hd hw (cz X θ H D) (fun c M' h=>h) (fun h=>h) h fun d M1 v θ1 H1 g1 r1 h1=>h1 v θ1 H1 g1 r1
theorem uQ (he:PE X e (tE X g))(hs:swapsWith e none pos.line X.env=pure false:=by rfl):PS X (.Expr e pos) (tS X (cS g)):=(uM he hs).of fun D σ H ⟨ρ,θ,M,hd,hw,h⟩=>
 bp hd hw (cz X θ H D) (fun c M' h=>h) (fun h=>h) h fun d M1 v θ1 H1 g1 r1 h1=>h1 σ θ1 H1 g1 (hd.go g1)
theorem AC {c:Expr}{a b:List Stmt}{tc:GT}(hc:PT X c (tT X tc))(ha:PSs X a (tS X t))(hb:PSs X b (tS X u)):PS X (.If c a b pos) (tS X (dQ tc t u)):=(AT hc ha hb).of fun D σ H hxx=>by
 obtain⟨ρ,θ,M,hd,hw,h⟩:=hxx;refine og hd hw (cz X θ H D) (fun c M' h=>h) (fun h=>h) h fun c M1 θ1 H1 g1 h1=>?_
 cases c with
 | true=>rw[if_pos rfl];exact⟨ρ,θ1,M1,hd.go g1,g1.wr,cz.go g1 h1⟩
 | false=>rw[if_neg Bool.false_ne_true];exact⟨ρ,θ1,M1,hd.go g1,g1.wr,cz.go g1 h1⟩
abbrev GG:=D→bF→Option bF
def tG (X:Cx)(s:GG):TG:=fun v σ H Q=>∃ρ θ M d,ed X.K θ H σ ρ∧Wr X.K θ H M∧isD X.K θ H d v∧∃ρ',s d ρ=some ρ'∧∀σ',ed X.K θ H σ' ρ'→Q σ' H
def dA (i:Nat):GG:=fun d ρ=>some (ρ.set i (some d))
def ji:List Nat→List D→bF→Option bF
 | [],[],ρ=>some ρ
 | i::is,d::ds,ρ=>ji is ds (ρ.set i (some d))
 | _,_,_=>none
def df (is:List Nat):GG:=fun d ρ=>match d with
 | .tup ds=>ji is ds ρ
 | _=>none
theorem oJ (hN:X.N.Nodup)(hi:X.N[i]?=some x)(hx:rk X.env.scope x)(hf:X.fn x=true∨X.env.scope.names.lookup x=some .local:=by first|exact .inl rfl|exact .inr rfl|assumption):PG X (.Name x pos) (tG X (dA i)):=by
 intro aa s σ H v u Q I r h;obtain⟨ρ,θ,M,d,hd,hw,rd,ρ',e,h⟩:=h;cases e;exact wd hN hi hx hf aa s σ H v u Q I r (h _ (hd.set rd i))
def Ap (X:Cx)(is:List Nat):wH:=fun vs σ H Q=>∃ρ θ M ds,ed X.K θ H σ ρ∧Wr X.K θ H M∧isDs X.K θ H ds vs∧∃ρ',ji is ds ρ=some ρ'∧∀σ',ed X.K θ H σ' ρ'→Q σ' H
theorem uF:v4 X [] (Ap X []):=by
 intro aa s σ H vs us Q I r h;obtain⟨ρ,θ,M,ds,hd,hw,rd,ρ',e,h⟩:=h;cases ds with
 | cons d ds=>cases e
 | nil=>
  have e2:vs=[]:=rd;subst e2;cases e;exact v3 aa s σ H [] us Q I r ⟨rfl,h σ hd⟩
theorem qX (h1:PG X e (tG X (dA i)))(h2:v4 X es (Ap X is))
  (hs:(assignEach (e::es) X.env).map (·.2)=assign e X.env::(assignEach es X.env).map (·.2):=by rfl):v4 X (e::es) (Ap X (i::is)):=by
 intro aa s σ H vs us Q I r h;obtain⟨ρ,θ,M,ds,hd,hw,rd,ρ',e1,h⟩:=h;cases ds with
 | nil=>cases e1
 | cons d ds=>
  obtain⟨v,vr,e2,rv,rr⟩:=rd;subst e2;refine tz h1 h2 hs aa s σ H _ us Q I r ⟨v,vr,rfl,ρ,θ,M,d,hd,hw,rv,_,rfl,fun σ1 d1=>?_⟩;exact⟨_,θ,M,ds,d1,hw,rr,ρ',e1,h⟩
theorem xP {k:Nat}(hc:X.calm=true)(h:v4 X es (Ap X is))(hl:is.length=n:=by rfl)
  (hn:(assignEach es X.env).length=n:=by rfl) (hst:(assignEach es X.env).findIdx? (·.1)=none:=by rfl):PG X (.Tuple es k pos) (tG X (df is)):=by
 intro aa s σ H v u Q I r hw;obtain⟨ρ,θ,M,d,hd,hwr,rd,ρ',e1,hw⟩:=hw;cases d with
 | tup ds=>
  obtain⟨a,vs,e2,ta,rs⟩:=rd;have hlen:ds.length=is.length:=by
   have e1:ji is ds ρ=some ρ':=e1;clear hw hd hwr rs hn hst h hl
   induction is generalizing ds ρ with
   | nil=>
    cases ds with
    | nil=>rfl
    | cons _ _=>cases e1
   | cons i is ih=>
    cases ds with
    | nil=>cases e1
    | cons d ds=>rw[length_cons,length_cons,ih _ ds e1 e1]
  refine zu (n:=n) hc h hn hst aa s σ H v u Q I r ⟨a,vs,e2,ta.sq,by rw[←ak rs,hlen,hl],?_⟩;exact⟨ρ,θ,M,ds,hd,hwr,rs,ρ',e1,hw⟩
 | _=>cases e1
def qt (o i x:D)(M:aq):aN Unit:=match o,i with
 | .mr k,.int j=>match M[k]? with
  | some (.lst xs)=>match vJ xs.length j with
   | some n=>.ok () (M.set k (.lst (xs.set n x)))
   | none=>.bad
  | _=>.bad
 | _,_=>.bad
def fm (go gi g:GE):GS:=fun ρ M=>(g ρ M).bind fun x M1=>(go ρ M1).bind fun o M2=>(gi ρ M2).bind fun i M3=>(qt o i x M3).bind fun _ M4=>.ok (.nx ρ) M4
theorem yc {o i:Expr}{ip:Pos}{go gi:GE}(he:PE X e (tE X g))(ho:PE X o (tE X go))(hi:PE X i (tE X gi))
  (ha:∀v,assign (.Subscript o i ip) X.env v=(do
   let ov ←holding [v] (eval o X.env)
   let iv ←holding [v,ov] (eval i X.env)
   standAt ip
   holding [v,ov,iv] (setItem ov iv v)
   release [v,ov,iv] []):=by intro _;rfl)
  (hs:swapsWithSole [.Subscript o i ip] e pos.line X.env=pure false:=by rfl) (hw:swappedStores [.Subscript o i ip] e X.env=pure none:=by rfl)
  (h1:(assignEach [.Subscript o i ip] X.env).map (·.2)=[assign (.Subscript o i ip) X.env]:=by rfl):PS X (.Assign [.Subscript o i ip] e pos) (tS X (fm go gi g)):=
 (za he (wO ho hi sN ha) hs hw h1).of fun D σ H hxx=>by
  obtain⟨ρ,θ,M,hd,hwr,h⟩:=hxx;refine bp hd hwr (cz X θ H D) (fun c M' h=>h) (fun h=>h) h fun dx M1 vx θ1 H1 g1 r1 h1=>?_
  refine bp (hd.go g1) g1.wr (cz X θ1 H1 D) (fun c M' h=>h) (fun h=>h) (h1.go g1) fun dob M2 vo θ2 H2 g2 r2 h2=>?_
  refine bp ((hd.go g1).go g2) g2.wr (cz X θ2 H2 D) (fun c M' h=>h) (fun h=>h) (h2.go g2) fun di M3 vi θ3 H3 g3 r3 h3=>?_
  have h4:=h3.go g3;unfold qt at h4;split at h4
  ·rename_i k j;split at h4
   ·rename_i xs q;split at h4
    ·rename_i n hn;obtain⟨a,ea,ta⟩:=r2.go g3;obtain⟨vs,ev,rv⟩:=g3.wr.at_ k a _ ta q;have ei:vi=.int j:=r3;refine⟨a,vs,j,n,ea,ei,ev,by rw[←ak rv];exact hn,?_⟩;have gs:=rR (ds:=xs) g3.wr ta (mf (r1.go (g2.trans g3)) n rv);exact h4 σ θ3 _ gs ((((hd.go g1).go g2).go g3).go gs)
    ·exact h4.elim
   ·exact h4.elim
  ·exact h4.elim
end
mutual
def u6:D→D→Bool
 | .non,.non=>true
 | .bl a,.bl b=>a==b
 | .int a,.int b=>a==b
 | .str a,.str b=>a==b
 | .tup a,.tup b=>fw a b
 | .lst a,.lst b=>fw a b
 | .ro a,.ro b=>fw a b
 | .mr a,.mr b=>a==b
 | .exc a,.exc b=>a==b
 | .any,.any=>true
 | _,_=>false
def fw:List D→List D→Bool
 | [],[]=>true
 | a::as,b::bs=>u6 a b&&fw as bs
 | _,_=>false
end
theorem ff {P:Prop}(h:false=true):P:=absurd h Bool.false_ne_true
mutual
theorem uJ:∀(a b:D),u6 a b=true→a=b
 | .non,b,h=>by
  cases b with
  | non=>rfl
  | _=>exact ff h
 | .bl x,b,h=>by
  cases b with
  | bl y=>rw[eq_of_beq (show(x==y)=true from h)]
  | _=>exact ff h
 | .int x,b,h=>by
  cases b with
  | int y=>rw[eq_of_beq (show(x==y)=true from h)]
  | _=>exact ff h
 | .str x,b,h=>by
  cases b with
  | str y=>rw[eq_of_beq (show(x==y)=true from h)]
  | _=>exact ff h
 | .tup x,b,h=>by
  cases b with
  | tup y=>rw[eR x y h]
  | _=>exact ff h
 | .lst x,b,h=>by
  cases b with
  | lst y=>rw[eR x y h]
  | _=>exact ff h
 | .ro x,b,h=>by
  cases b with
  | ro y=>rw[eR x y h]
  | _=>exact ff h
 | .mr x,b,h=>by
  cases b with
  | mr y=>rw[eq_of_beq (show(x==y)=true from h)]
  | _=>exact ff h
 | .exc x,b,h=>by
  cases b with
  | exc y=>rw[eq_of_beq (show(x==y)=true from h)]
  | _=>exact ff h
 | .any,b,h=>by
  cases b with
  | any=>rfl
  | _=>exact ff h
theorem eR:∀(a b:List D),fw a b=true→a=b
 | [],b,h=>by
  cases b with
  | nil=>rfl
  | cons _ _=>exact ff h
 | x::xs,b,h=>by
  cases b with
  | nil=>exact ff h
  | cons y ys=>
   have h:=Bool.and_eq_true_iff.mp (show(u6 x y&&fw xs ys)=true from h);rw[uJ x y h.1,eR xs ys h.2]
end
mutual
theorem pc:∀(a:D),u6 a a=true
 | .non=>rfl
 | .bl x=>beq_self_eq_true x
 | .int x=>beq_self_eq_true x
 | .str x=>beq_self_eq_true x
 | .tup x=>cW x
 | .lst x=>cW x
 | .ro x=>cW x
 | .mr x=>beq_self_eq_true x
 | .exc x=>beq_self_eq_true x
 | .any=>rfl
theorem cW:∀(a:List D),fw a a=true
 | []=>rfl
 | x::xs=>Bool.and_eq_true_iff.mpr ⟨pc x,cW xs⟩
end
structure jP where
 ds:List D
 m:Option Nat
def jP.ok (t:jP)(M:aq):Bool:=match t.m with
 | none=>true
 | some i=>match M[i]? with
  | some (.lst xs)=>fw xs t.ds
  | _=>false
abbrev GI:=bF→aq→aN jP
def wN (K:W.Frag)(J:It)(θ:List Addr)(H:Hp)(t:jP):Prop:=∀θ1 H1 M1,Go K θ H θ1 H1 M1→t.ok M1=true→∀i:Nat,
 (∀d,t.ds[i]?=some d→J.go i H1∧∀x H2,J.yld i H1 x H2→Go K θ1 H1 θ1 H2 M1∧isD K θ1 H2 d x)∧(t.ds.length≤i→J.stop i H1)
def tB (X:Cx)(θ:List Addr)(H:Hp)(R:It→Hp→Prop):aN jP→Prop
 | .ok t M'=>∀J θ' H',Go X.K θ H θ' H' M'→wN X.K J θ' H' t→R J H'
 | .err c M'=>bV X θ H c M'
 | .bad=>False
def tI (X:Cx)(g:GI):TI:=fun σ H R=>∃ρ θ M,ed X.K θ H σ ρ∧Wr X.K θ H M∧tB X θ H R (g ρ M)
def oZ (d:D)(M:aq):aN jP:=match d with
 | .lst ds=>.ok ⟨ds,none⟩ M
 | .ro ds=>.ok ⟨ds,none⟩ M
 | .tup ds=>.ok ⟨ds,none⟩ M
 | .mr k=>match M[k]? with
  | some (.lst ds)=>.ok ⟨ds,some k⟩ M
  | _=>.bad
 | _=>.bad
def cF (g:GE):GI:=fun ρ M=>(g ρ M).bind oZ
variable{iter:Expr}{body:List Stmt}{sg:GG}
section
variable {X:Cx}{tg:Expr}
theorem Br {l:Expr}{tl:TE}(hl:PE X l tl):PI X tg l (fun σ H R=>tl σ H fun x H1=>∃a,x=.ref a∧(((∃xs,gT X.K H1 a xs)∧R (BP X.K a) H1)∨((∃xs,lK X.K H1 a xs)∧R (Cw X.K a) H1))):=by
 intro aa s σ H R I h;refine b8 (hl aa s σ H _ I h) fun v s1 hxx=>?_
 obtain⟨x,H1,I1,r1,q1⟩:=hxx;obtain⟨a,e,q1⟩:=q1;subst e;cases r1;rcases q1 with⟨⟨xs,hq⟩,q⟩|⟨⟨xs,hq⟩,q⟩
 ·obtain⟨its,rv,p,hz⟩:=I1.list hq;refine wpAny_pyIter_list p.isList ?_;refine⟨s1.heap.objs.size,[s1.heap.objs.size],_,_,H1,rfl,I1.kept (t':=s1.toks) fun b o e=>Heap.get?_push_of_some _ e,pj a _,⟨_,Heap.get?_push_size _ rfl,rfl,rfl⟩,fun b hb=>?_,q⟩;have e:b=s1.heap.objs.size:=by simpa using hb
  subst e;exact I1.fpOk (Nat.le_refl _) (I1.hok.fresh (Nat.le_refl _))
 ·obtain⟨its,rv,p,hz⟩:=I1.tuple hq;refine wpAny_pyIter_tuple (show s1.heap.IsTuple a its.toArray from p) ?_;refine⟨s1.heap.objs.size,[s1.heap.objs.size],_,_,H1,rfl,I1.kept (t':=s1.toks) fun b o e=>Heap.get?_push_of_some _ e,nu a _,⟨_,Heap.get?_push_size _ rfl,rfl,rfl⟩,fun b hb=>?_,q⟩;have e:b=s1.heap.objs.size:=by simpa using hb
  subst e;exact I1.fpOk (Nat.le_refl _) (I1.hok.fresh (Nat.le_refl _))
theorem oH (ta:jz K θ H a vs)(r:isDs K θ H ds vs):wN K (BP K a) θ H ⟨ds,none⟩:=by
 intro θ1 H1 M1 g _ i;have t1:=(ta.grow g.toGrow).sq;have r1:=r.go g;refine⟨fun d e=>?_,fun hl=>⟨vs,t1,by rw[←ak r1];exact hl⟩⟩;obtain⟨v,e1,rv⟩:=cy r1 e;refine⟨⟨vs,v,t1,e1⟩,fun x H2 y=>?_⟩;obtain⟨eH,y⟩:=y;subst eH;have e2:=y vs t1;rw[e1] at e2;cases e2;exact⟨.refl g.wr,rv⟩
theorem uL (ta:ie K θ H a vs)(r:isDs K θ H ds vs):wN K (Cw K a) θ H ⟨ds,none⟩:=by
 intro θ1 H1 M1 g _ i;have t1:=(ta.grow g.toGrow).sq;have r1:=r.go g;refine⟨fun d e=>?_,fun hl=>⟨vs,t1,by rw[←ak r1];exact hl⟩⟩;obtain⟨v,e1,rv⟩:=cy r1 e;refine⟨⟨vs,v,t1,e1⟩,fun x H2 y=>?_⟩;obtain⟨eH,y⟩:=y;subst eH;have e2:=y vs t1;rw[e1] at e2;cases e2;exact⟨.refl g.wr,rv⟩
theorem vq {k:Nat}(ta:θ[k]?=some a):wN K (BP K a) θ H ⟨ds,some k⟩:=by
 intro θ1 H1 M1 g hok i;have t1:θ1[k]?=some a:=by
  obtain⟨m,em,_⟩:=g.ext;rw[em,getElem?_append_left (List.getElem?_eq_some_iff.mp ta).1];exact ta
 have hok':(match M1[k]? with|some (.lst xs)=>fw xs ds|_=>false)=true:=hok;cases q:M1[k]? with
 | none=>rw[q] at hok';cases hok'
 | some m=>
  cases m with
  | lst xs=>
   rw[q] at hok';have e:xs=ds:=eR xs ds hok';subst e;obtain⟨vs,hv,r1⟩:=g.wr.at_ k a _ t1 q;have s1:gT K H1 a vs:=.inl (.inl hv);refine⟨fun d e=>?_,fun hl=>⟨vs,s1,by rw[←ak r1];exact hl⟩⟩;obtain⟨v,e1,rv⟩:=cy r1 e;refine⟨⟨vs,v,s1,e1⟩,fun x H2 y=>?_⟩;obtain⟨eH,y⟩:=y;subst eH;have e2:=y vs s1;rw[e1] at e2;cases e2;exact⟨.refl g.wr,rv⟩
  | _=>rw[q] at hok';cases hok'
theorem yR {l:Expr}(hl:PE X l (tE X g)):PI X tg l (tI X (cF g)):=by
 intro aa s σ H R I h;refine Br hl aa s σ H R I ?_;obtain⟨ρ,θ,M,hd,hw,h⟩:=h;refine bp hd hw (tB X θ H R) (fun c M' h=>h) (fun h=>h) h fun d M1 v θ1 H1 g1 r1 h1=>?_
 cases d with
 | lst ds=>
  obtain⟨a,vs,e,ta,r⟩:=r1;exact⟨a,e,.inl ⟨⟨vs,ta.sq⟩,h1 _ θ1 H1 g1 (oH (.inl ⟨.inl ta.1,ta.2⟩) r)⟩⟩
 | ro ds=>
  obtain⟨a,vs,e,ta,r⟩:=r1;exact⟨a,e,.inl ⟨⟨vs,ta.sq⟩,h1 _ θ1 H1 g1 (oH ta r)⟩⟩
 | tup ds=>
  obtain⟨a,vs,e,ta,r⟩:=r1;exact⟨a,e,.inr ⟨⟨vs,ta.sq⟩,h1 _ θ1 H1 g1 (uL ta r)⟩⟩
 | mr k=>
  obtain⟨a,e,ta⟩:=r1;have h2:tB X θ H R (match M1[k]? with|some (.lst ds)=>.ok ⟨ds,some k⟩ M1|_=>.bad):=h1;cases q:M1[k]? with
  | none=>rw[q] at h2;exact h2.elim
  | some m=>
   cases m with
   | lst ds=>
    rw[q] at h2;obtain⟨vs,hv,r⟩:=g1.wr.at_ k a _ ta q;exact⟨a,e,.inl ⟨⟨vs,.inl (.inl hv)⟩,h2 _ θ1 H1 g1 (vq ta)⟩⟩
   | _=>rw[q] at h2;exact h2.elim
 | _=>exact h1.elim
def ba (lo:Int)(n:Nat):List D:=(List.range n).map fun(k:Nat)=>D.int (lo+(k:Int))
theorem uo (lo:Int)(n:Nat):wN K (BI lo n) θ H ⟨ba lo n,none⟩:=by
 intro θ1 H1 M1 g _ i;refine⟨fun d e=>?_,fun hl=>?_⟩
 ·have hi:i<n:=by
   have:=(List.getElem?_eq_some_iff.mp e).1;simpa[ba] using this
  refine⟨hi,fun x H2 y=>?_⟩;obtain⟨eH,y⟩:=y;subst eH;refine⟨.refl g.wr,?_⟩;have e':D.int (lo+(i:Int))=d:=by
   have:(ba lo n)[i]?=some (D.int (lo+(i:Int))):=by simp[ba,hi]
   rw[this] at e;exact Option.some.inj e
  subst e';exact y
 ·have h2:(ba lo n).length≤i:=hl;have h3:n≤i:=by simpa[ba] using h2
  exact h3
def qV (ds:List D)(M:aq):aN jP:=match ds with
 | [.int j]=>if -(2 ^ 62)≤j∧j<2 ^ 62 then .ok ⟨ba 0 j.toNat,none⟩ M else .bad
 | _=>.bad
def dh (g:GA):GI:=fun ρ M=>(g ρ M).bind qV
theorem qf {a:Expr}{g:GA}{p pos:Pos}(hg:Gl X "range")(hm:X.mg "range"=none)(ha:PA X [a] (tA X g))(hs:starEach [a] X.env=[(false,eval a X.env)]:=by rfl):PI X tg (.Call (.Name "range" p) [a] [] pos) (tI X (dh g)):=by
 intro aa s σ H R I h;refine qi hg hm ha hs aa s σ H R I ?_;obtain⟨ρ,θ,M,hd,hw,h⟩:=h;refine jn hd hw (tB X θ H R) (fun c M' h=>h) (fun h=>h) h fun ds M1 vs θ1 H1 g1 r1 h1=>?_
 unfold qV at h1;split at h1
 ·rename_i j;obtain⟨v,r,e,rv,rr⟩:=r1;have e2:r=[]:=rr;have e3:v=.int j:=rv;subst e2;subst e3;split at h1
  ·rename_i hj;exact⟨j,e,hj.1,hj.2,h1 _ θ1 H1 g1 (uo 0 j.toNat)⟩
  ·exact h1.elim
 ·exact h1.elim
def a8 (t:jP)(s:GG)(body:GS):List D→bF→aq→aN Fl
 | [],ρ,M=>if t.ok M then .ok (.nx ρ) M else .bad
 | d::r,ρ,M=>if t.ok M then
   match s d ρ with
   | none=>.bad
   | some ρ1=>(body ρ1 M).bind fun f M1=>match f with
    | .nx ρ2=>a8 t s body r ρ2 M1
    | .ct ρ2=>a8 t s body r ρ2 M1
    | .bk ρ2=>.ok (.nx ρ2) M1
    | .rt d=>.ok (.rt d) M1
  else .bad
def fE (gi:GI)(s:GG)(body:GS):GS:=fun ρ M=>(gi ρ M).bind fun t M1=>a8 t s body t.ds ρ M1
theorem o3 {gi:GI}{gb:GS}{pos:Pos}(hp:PassesOwn (model X.prog X.w) X.A X.env X.xe)(hc:X.calm=true)(hi:An X tg iter (tI X gi))(hg:PG X tg (tG X sg))(hb:PSs X body (tS X gb))
  (hs:∀x,foldedSetIterable iter X.env x=pure x:=by intro _;rfl):PS X (.For tg iter body [] pos) (tS X (fE gi sg gb)):=(xg hp hc hi hg hb hs).of fun D σ H hxx=>by
 obtain⟨ρ,θ,M,hd,hw,h⟩:=hxx;refine⟨ρ,θ,M,hd,hw,?_⟩;unfold fE at h;cases q:gi ρ M with
 | err c M1=>rw[q] at h;exact h
 | bad=>rw[q] at h;exact h
 | ok t M1=>
  rw[q] at h;intro J θ1 H1 g1 hJ;have h:cz X θ H D (a8 t sg gb t.ds ρ M1):=h;refine⟨fun i m σ' H'=>m=t.ds.length-i∧i≤t.ds.length∧∃ρ' θ' M',Go X.K θ1 H1 θ' H' M'∧ed X.K θ' H' σ' ρ'∧cz X θ' H' D (a8 t sg gb (t.ds.drop i) ρ' M'),
   ⟨t.ds.length,by simp,Nat.zero_le _,ρ,θ1,M1,.refl g1.wr,hd.go g1,cz.go g1 h⟩,?_⟩
  rintro i m σ' H' ⟨rfl,hil,ρ',θ',M',g',hd',h'⟩
  by_cases hok:t.ok M'=true
  ·obtain⟨hy,hst⟩:=hJ θ' H' M' g' hok i
   by_cases hlt:i<t.ds.length
   ·refine .inr ?_;have e1:t.ds[i]?=some t.ds[i]:=getElem?_eq_getElem hlt;obtain⟨hgo,hyl⟩:=hy _ e1;rw[drop_eq_getElem_cons hlt,a8,if_pos hok] at h';refine⟨hgo,fun σ2 H2=>∃ρ2 θ2 M2,Go X.K θ' H' θ2 H2 M2∧ed X.K θ2 H2 σ2 ρ2∧cz X θ2 H2 D (a8 t sg gb (t.ds.drop (i+1)) ρ2 M2),fun σ2 H2 ⟨ρ2,θ2,M2,g2,d2,h2⟩=>?_,fun x H2 y=>?_⟩
    ·exact⟨t.ds.length-(i+1),by omega,rfl,hlt,ρ2,θ2,M2,g'.trans g2,d2,h2⟩
    ·obtain⟨gy,rx⟩:=hyl x H2 y;cases qs:sg t.ds[i] ρ' with
     | none=>rw[qs] at h';exact h'.elim
     | some ρ1=>
      rw[qs] at h';refine⟨ρ',θ',M',_,hd'.go gy,gy.wr,rx,ρ1,qs,fun σ1 d1=>⟨ρ1,θ',M',d1,gy.wr,?_⟩⟩;have h':cz X θ' H2 D ((gb ρ1 M').bind _):=cz.go gy h';cases qb:gb ρ1 M' with
      | err c M2=>rw[qb] at h';exact h'
      | bad=>rw[qb] at h';exact h'
      | ok f M2=>
       rw[qb] at h';cases f with
       | nx ρ2=>exact fun σ2 θ2 H3 g2 d2=>⟨ρ2,θ2,M2,gy.trans g2,d2,cz.go g2 h'⟩
       | ct ρ2=>exact fun σ2 θ2 H3 g2 d2=>⟨ρ2,θ2,M2,gy.trans g2,d2,cz.go g2 h'⟩
       | bk ρ2=>exact h'
       | rt d=>exact h'
   ·have e:i=t.ds.length:=by omega
    subst e;rw[drop_length,a8,if_pos hok] at h';exact .inl ⟨hst (Nat.le_refl _),h' σ' θ' H' (.refl g'.wr) hd'⟩
  ·have hz:cz X θ' H' D .bad:=by
    cases hdr:t.ds.drop i with
    | nil=>rw[hdr,a8,if_neg hok] at h';exact h'
    | cons d r=>rw[hdr,a8,if_neg hok] at h';exact h'
   exact hz.elim
theorem yH {gi:GI}{gb:GS}{pos:Pos}(hp:PassesOwn (model X.prog X.w) X.A X.env X.xe)(hc:X.calm=true)(hi:PI X tg iter (tI X gi))(hg:PG X tg (tG X sg))(hb:PSs X body (tS X gb))
  (hs:∀x,foldedSetIterable iter X.env x=pure x:=by intro _;rfl):PS X (.For tg iter body [] pos) (tS X (fE gi sg gb)):=o3 hp hc hi.toF hg hb hs
end
def xi (K:W.Frag)(θ:List Addr)(H:Hp)(E:XK)(c:Str)(M:aq):Prop:=∀C θ' H' a,bR K c C→Go K θ H θ' H' M→E (.ref C) (some a) H'
def sQ (K:W.Frag)(θ:List Addr)(H:Hp)(Q:VK)(E:XK):aN D→Prop
 | .ok d M'=>∀v θ' H',Go K θ H θ' H' M'→isD K θ' H' d v→Q v H'
 | .err c M'=>xi K θ H E c M'
 | .bad=>False
abbrev FD:=List D→aq→aN D
def nV (K:W.Frag)(n:Nat)(F:FD):Sp:=fun vs H Q E=>∃θ M ds,ds.length=n∧isDs K θ H ds vs∧Wr K θ H M∧sQ K θ H Q E (F ds M)
variable{F:FD}{ps:List Str}
theorem uf (hn:ps.length=n):∀vs H Q E,nV K n F vs H Q E→vs.length=ps.length:=fun vs H Q E ⟨θ,M,ds,hl,r,_⟩=>by rw[hn,←hl,ak r]
def jQ (k:Nat)(ds:List D):bF:=ds.map some++List.replicate k none
def bL (o:aN Fl):aN D:=o.bind fun f M=>match f with
 | .rt d=>.ok d M
 | .nx _=>.ok .non M
 | _=>.bad
def cO (k:Nat)(g:GS):FD:=fun ds M=>bL (g (jQ k ds) M)
theorem BX (r:isDs K θ H ds vs)(N:List Str):ed K θ H (L2.start N vs) (jQ (N.length-vs.length) ds):=by
 have hl:=ak r;refine⟨by simp[L2.start,jQ,hl],fun i d e=>?_⟩;unfold jQ at e
 by_cases hi:i<ds.length
 ·rw[getElem?_append_left (by simpa using hi),getElem?_map] at e;cases q:ds[i]? with
  | none=>rw[q] at e;cases e
  | some d'=>
   rw[q] at e;have e':d'=d:=by simpa using e
   subst e';obtain⟨v,e1,rv⟩:=cy r q;refine⟨v,?_,rv⟩;unfold L2.start;rw[getElem?_append_left (by rw[length_map,←hl];exact hi),getElem?_map,e1];rfl
 ·rw[getElem?_append_right (by simpa using hi),getElem?_replicate] at e;split at e <;> cases e
variable{fd:FuncData}
section
variable {P:Program}{w:World}{K:W.Frag}{mg:Str→Option Value}{base:Heap}
theorem CP {qual:Str}{st:Stmt}{N:List Str}{k:Nat}{g:GS}(F:ya K x qual st f fd)(S:eZ N ps (aO st))(hn:ps.length=n)
  (hbody:∀(cdv:Value) (A:Around) (outer:List Env) (s:Shared) (H:Hp) (E:XK),bA k (A.deeper (envOfC qual (aO st) s.heap.objs.size f cdv))→
   PSs (gL (io P w) P w K mg base N qual (aO st) f cdv A outer s H E) (cm st) (tS (gL (io P w) P w K mg base N qual (aO st) f cdv A outer s H E) g)) :
  dC P w K mg base (io P w) (k+1) f fd ps (nV K n (cO (N.length-n) g)):=by
 obtain⟨oc,od,kV,doc,pm,an,cdv,ct,osl,rfl,lk,hcd⟩:=F.ex;refine zY lk hcd S (uf hn) fun A outer s H vs Q E hr h=>⟨_,hbody cdv A outer s H E hr,?_⟩
 obtain⟨θ,M,ds,hl,r,hw,h⟩:=h;have hv:vs.length=n:=by rw[←ak r];exact hl
 refine⟨jQ (N.length-n) ds,θ,M,by rw[←hv];exact BX r N,hw,?_⟩;have h:sQ K θ H Q E (bL (g (jQ (N.length-n) ds) M)):=h;unfold bL at h;cases q:g (jQ (N.length-n) ds) M with
 | bad=>rw[q] at h;exact h
 | err c M1=>
  rw[q] at h;have h:xi K θ H E c M1:=h;exact fun C θ' H' a s' kC g1 fl=>nU fl (h C θ' H' a kC g1)
 | ok fl M1=>
  rw[q] at h;cases fl with
  | rt d=>exact h
  | nx ρ1=>exact fun σ1 θ1 H1 g1 _=>h .non θ1 H1 g1 rfl
  | bk ρ1=>exact h.elim
  | ct ρ1=>exact h.elim
end
variable{T:String}
section
variable {X:Cx}{e:Expr}{es:List Expr}{x:Str}{p pos:Pos}{k n:Nat}{f:Addr}{fd:FuncData}{ps:List Str}{F:FD}{ga:GA}
def au (n:Nat)(F:FD)(ga:GA):GE:=fun ρ M=>(ga ρ M).bind fun ds M1=>if ds.length=n then F ds M1 else .bad
def Aq (X:Cx):XK:=fun cls oa H'=>∃a C c θ M,oa=some a∧cls=.ref C∧bR X.K c C∧Wr X.K θ H' M∧bV X θ H' c M
theorem mP:nE (io X.prog X.w) X (Aq X):=fun aa σ H s e s' I h=>by
 obtain⟨a,C,H',rfl,fl,a',C',c,θ,M,e1,e2,kC,hw,ok⟩:=pX I h;cases e1;cases e2;exact ok C θ H' a s' kC (.refl hw) fl
theorem vE {c:Str}(h:bV X θ H c M):xi X.K θ H (Aq X) c M:=fun C θ' H' a kC g=>⟨a,C,c,θ',M,rfl,rfl,kC,g.wr,h.go g⟩
theorem uz (Fn:dC X.prog X.w X.K X.mg X.base (io X.prog X.w) k f fd ps (nV X.K n F))(hr:bA k X.A)(hg:Gl X x)(hm:X.mg x=some (.ref f))(hk:W.keepIn X.K (.ref f)=true)(hb:eC X.K fd ps [])
  (ha:PA X (e::es) (tA X ga)) (hdb:(x==("__debug__":Str))=false:=by decide) (he:starEach (e::es) X.env=(false,eval e X.env)::starEach es X.env:=by rfl) (hpl:(backTo pos (starEach es X.env)).any (·.1)=false:=by rfl) :
  PE X (.Call (.Name x p) (e::es) [] pos) (tE X (au n F ga)):=(uw Fn hr hg hm hk hb .nil mP ha hdb he hpl).of fun σ H Q hxx=>by
 obtain⟨ρ,θ,M,hd,hw,h⟩:=hxx;refine jn hd hw (aA X θ H Q) (fun c M' h=>h) (fun h=>h) h fun ds M1 vs θ1 H1 g1 r1 h1=>?_
 by_cases hl:ds.length=n
 ·rw[if_pos hl] at h1;refine⟨θ1,M1,ds,hl,by rw[append_nil];exact r1,g1.wr,?_⟩;have h2:=aA.go g1 h1;cases q:F ds M1 with
  | ok d M2=>rw[q] at h2;exact h2
  | err c M2=>rw[q] at h2;exact vE h2
  | bad=>rw[q] at h2;exact h2
 ·rw[if_neg hl] at h1;exact h1.elim
def rC (X:Cx)(F:FD):List V→Hp→VK→Prop:=fun xs H Q=>∃θ M ds,Wr X.K θ H M∧isDs X.K θ H ds xs∧aA X θ H Q (F ds M)
def bt (F:FD)(ga:GA):GE:=fun ρ M=>(ga ρ M).bind F
theorem tY {Q:VK}(h:tE X (bt F ga) σ H Q):BF (rC X F) (tA X ga) σ H Q:=by
 obtain⟨ρ,θ,M,hd,hw,h⟩:=h;exact jn hd hw (aA X θ H Q) (fun c M' h=>h) (fun h=>h) h fun ds M1 vs θ1 H1 g1 r1 h1=>⟨θ1,M1,ds,g1.wr,r1,aA.go g1 h1⟩
theorem qL {id:String}(hc:cb X (.builtin id) (rC X F))(hg:Gl X x)(hm:X.mg x=none)(hv:bootBuiltins x=some (.builtin id))(ha:PA X (e::es) (tA X ga))(hn:x≠"__name__":=by decide)(hdb:(x==("__debug__":Str))=false:=by decide)
  (he:starEach (e::es) X.env=(false,eval e X.env)::starEach es X.env:=by rfl) (hpl:(backTo pos (starEach es X.env)).any (·.1)=false:=by rfl):PE X (.Call (.Name x p) (e::es) [] pos) (tE X (bt F ga)):=
 (ju hc hg hm hv ha hn hdb he hpl).of fun σ H Q h=>tY h
theorem pk (hc:cb X (.type T) (rC X F))(hg:Gl X x)(hm:X.mg x=none)(hv:bootBuiltins x=some (.type T))(ha:PA X (e::es) (tA X ga))(hn:x≠"__name__":=by decide)(hdb:(x==("__debug__":Str))=false:=by decide)
  (he:starEach (e::es) X.env=(false,eval e X.env)::starEach es X.env:=by rfl) (hpl:(backTo pos (starEach es X.env)).any (·.1)=false:=by rfl):PE X (.Call (.Name x p) (e::es) [] pos) (tE X (bt F ga)):=
 (o5 hc hg hm hv ha hn hdb he hpl).of fun σ H Q h=>tY h
end
section
variable {prog:Program}{w:World}{A:Around}{E:Value→Shared→Prop}{s:Shared}
theorem tw {t b:Addr}{ws:List Value}{Q:Value→Shared→Prop}(ht:IsTup s.heap t #[])(hb:IsTup s.heap b ws.toArray)
  (h:Q (.ref b) s):wpAny (model prog w) A (binaryOp .Add (.ref t) (.ref b)) Q E s:=by
 obtain⟨⟨cls,dd,data,sl⟩,ho,hc,n,hd⟩:=id ht;obtain⟨⟨cls2,dd2,data2,sl2⟩,ho2,hc2,n2,hd2⟩:=id hb;simp only at hc hd hc2 hd2;subst hc hd hc2 hd2;exact concat_meets ⟨_,ho,rfl⟩ ⟨_,ho2,rfl⟩ noFill_tuple_add seq_tuple_add PySem.F.slot_tuple_add PySem.F.entry_tuple_add (PySem.F.args_tuple_add_2 _ _)
   (tuple_addW0 t b #[] ws.toArray n n2 dd dd2 sl sl2 (by simp)) ⟨ho,ho2,h⟩
theorem ft {t sl:Addr}{items:Array Value}{vl vu:Value}{lo hi:Option Int}{Q:Value→Shared→Prop}(ht:IsTup s.heap t items)(hs:s.heap.IsSliceOf sl vl vu .none)(pl:IsPart vl lo)(pu:IsPart vu hi)
  (hw:HT.sIx items.size 0 lo=0∧HT.sIx items.size items.size hi=items.size) (h:Q (.ref t) s):wpAny (model prog w) A (getItem (.ref t) (.ref sl)) Q E s:=by
 obtain⟨os,hos,hcs,hds⟩:=id hs;have hTs:s.TypeIs (.ref sl) "slice":=⟨os,hos,hcs⟩;unfold getItem
 try with_reducible refine wpAny_holding ?_
 first|refine wpAny_bind (wpAny_pure ?_)|skip
 refine wpAny_bind (wpAny_sequenceKey ht.typeIs (by decide) ?_);refine wpAny_bind (wpAny_callSpecial?_slot (name:=Str.ofString "__getitem__") ht.typeIs PyProof.Rows.slot_tuple_getitem
  (wpAny_call_entry PyProof.Rows.slot_tuple_getitem ht.typeIs entry_tuple_getitem ?_ (args_tuple_getitem _ _)))
 show wpAny _ _ (Builtin.Tuple.tupleItemsOf (.ref t) >>= _) _ _ s;refine wpAny_bind (tupleItemsOf_ ht ?_);refine wpAny_bind (wpAny_typeOf hTs ?_);rw[if_pos (by decide)];refine wpAny_bind (HT.sliceApplied_gen hs pl pu ?_);have hyes:(((HT.sIx items.size 0 lo:Nat):Int)==0&&(1:Int)==1&&(HT.sIx items.size items.size hi-HT.sIx items.size 0 lo)==items.size)=true:=by
  rw[hw.1,hw.2];simp
 show wpAny _ _ (if(((HT.sIx items.size 0 lo:Nat):Int)==0&&(1:Int)==1&&(HT.sIx items.size items.size hi-HT.sIx items.size 0 lo)==items.size)=true then _ else _) _ _ s;rw[if_pos hyes];unfold Builtin.Tuple.tupleIsExact;refine wpAny_bind (wpAny_bind (wpAny_typeOf ht.typeIs (wpAny_pure ?_)));rw[if_pos (by decide)]
 first
  | exact wpAny_bind (wpAny_rule (wpAny_bind (wpAny_pure ⟨_,rfl,wpAny_pure h⟩)))
  | exact wpAny_bind (wpAny_rule (wpAny_pure ⟨_,rfl,wpAny_pure h⟩))
  | exact wpAny_bind (wpAny_rule (wpAny_bind (wpAny_pure (wpAny_pure ⟨_,rfl,wpAny_pure h⟩))))
end
def lR (d:D)(M:aq):Option (List D):=match d with
 | .lst xs=>some xs
 | .mr k=>match M[k]? with
  | some (.lst xs)=>some xs
  | _=>none
 | _=>none
def bP:F2:=fun x y M=>match x,y with
 | .int i,.int j=>.ok (.int (i+j)) M
 | .str a,.str b=>if a.length+b.length≤sizeLine then .ok (.str (a++b)) M else .bad
 | .tup a,.tup b=>if a.length+b.length≤sizeLine then .ok (.tup (a++b)) M else .bad
 | .bl a,.int j=>.ok (.int ((if a=true then 1 else 0)+j)) M
 | x,y=>match lR x M,lR y M with
  | some a,some b=>if a.length+b.length≤sizeLine then .ok (.lst (a++b)) M else .bad
  | _,_=>.bad
def mL:F2:=fun x y M=>match lR x M,lR y M with
 | some a,some b=>if a.length+b.length≤sizeLine then .ok (.mr M.length) (M++[.lst (a++b)]) else .bad
 | _,_=>.bad
theorem oQ {xs:List D}(hw:Wr K θ H M)(r:isD K θ H d v)(e:lR d M=some xs):∃a vs,v=.ref a∧H a=some (.lst vs)∧isDs K θ H xs vs:=by
 cases d with
 | lst ys=>cases e;obtain⟨a,vs,ea,ta,ra⟩:=r;exact⟨a,vs,ea,ta.1,ra⟩
 | mr k=>
  obtain⟨a,ea,ta⟩:=r;have e:(match M[k]? with|some (.lst xs)=>some xs|_=>none)=some xs:=e;cases q:M[k]? with
  | none=>rw[q] at e;cases e
  | some m=>
   cases m with
   | lst ys=>
    rw[q] at e;cases e;obtain⟨vs,hv,ra⟩:=hw.at_ k a _ ta q;exact⟨a,vs,ea,hv,ra⟩
   | _=>rw[q] at e;cases e
 | _=>cases e
def jd:F2:=fun x y M=>match x,y with
 | .int i,.int j=>.ok (.int (i-j)) M
 | _,_=>.bad
def cP:F2:=fun x y M=>match x,y with
 | .int i,.int j=>if(-(2 ^ 64)<i∧i<2 ^ 64)∨(-(2 ^ 64)<j∧j<2 ^ 64) then .ok (.int (i*j)) M else .bad
 | _,_=>.bad
def ce:F2:=fun x y M=>match x,y with
 | .int i,.int j=>if 0<j∧j.natAbs.log2<9000 then .ok (.int (i / j)) M else .bad
 | _,_=>.bad
def dG:F2:=fun x y M=>match x,y with
 | .int i,.int j=>if 0<j then .ok (.int (i % j)) M else .bad
 | _,_=>.bad
def jS:F2:=fun x y M=>match x,y with
 | .int i,.int j=>if 0≤j∧j≤1000000∧i.natAbs<2 ^ 64 then .ok (.int (i ^ j.toNat)) M else .bad
 | _,_=>.bad
variable{b:Bool}{e:Expr}
section
variable {X:Cx}
theorem xW:eI X (binaryOp .Add) (rD X bP):=by
 intro aa s σ H x y v u Q I rx ry h;obtain⟨θ,M,dx,dy,hw,r1,r2,h⟩:=h;unfold bP at h;split at h
 ·rename_i i j;exact wV aa s σ H x y v u Q I rx ry ⟨i,j,r1,r2,h _ θ H (.refl hw) rfl⟩
 ·rename_i a b;split at h
  ·rename_i hl;exact nC aa s σ H x y v u Q I rx ry ⟨a,b,r1,r2,hl,h _ θ H (.refl hw) rfl⟩
  ·exact h.elim
 ·rename_i as bs;split at h
  ·rename_i hl;obtain⟨a,vs,ea,ta,ra⟩:=r1;obtain⟨b,us,eb,tb,rb⟩:=r2
   by_cases hv:vs=[]
   ·subst hv;have e0:as=[]:=length_eq_zero_iff.mp (ak ra);subst e0;subst ea;subst eb;cases rx;cases ry;obtain⟨its,q1,p1,_⟩:=I.tuple ta.sq;obtain⟨its2,q2,p2,_⟩:=I.tuple tb.sq;cases q1;exact tw p1 p2 ⟨.ref b,H,I,rfl,h _ θ H (.refl hw) ⟨b,us,rfl,tb,rb⟩⟩
   ·refine uW aa s σ H x y v u Q I rx ry ⟨a,b,vs,us,ea,eb,ta.sq,tb.sq,hv,by rw[←ak ra,←ak rb];exact hl,fun hu=>?_,fun _ p hp=>h _ θ _ (bX hw hp) (dZ hw hp (bZ ra rb))⟩;subst hu;have e0:bs=[]:=length_eq_zero_iff.mp (ak rb);subst e0;exact h _ θ H (.refl hw) ⟨a,vs,rfl,ta,by rw[append_nil];exact ra⟩
  ·exact h.elim
 ·rename_i a j;have e1:x=.bl a:=r1;have e2:y=.int j:=r2;subst e1;subst e2;cases rx;obtain⟨t',rfl⟩:=ry;exact IntBool.add_bool_int ⟨.int _,H,I.tok _,⟨_,rfl⟩,h _ θ H (.refl hw) rfl⟩
 ·split at h
  ·rename_i as bs q1 q2;split at h
   ·rename_i hl;obtain⟨a,vs,ea,ta,ra⟩:=oQ hw r1 q1;obtain⟨b,us,eb,tb,rb⟩:=oQ hw r2 q2;exact tR aa s σ H x y v u Q I rx ry ⟨a,b,vs,us,ea,eb,ta,tb,by rw[←ak ra,←ak rb];exact hl,fun p hp=>h _ θ _ (bX hw hp) (dP hw hp (bZ ra rb))⟩
   ·exact h.elim
  ·exact h.elim
theorem mR {H':Hp}{p:Addr}(hw:Wr K θ H M):isD K (θ++[p]) H' (.mr M.length) (.ref p):=by
 refine⟨p,rfl,?_⟩;rw[←hw.len,getElem?_append_right (Nat.le_refl _)];simp
theorem vQ:eI X (binaryOp .Add) (rD X mL):=by
 intro aa s σ H x y v u Q I rx ry h;obtain⟨θ,M,dx,dy,hw,r1,r2,h⟩:=h;unfold mL at h;split at h
 ·rename_i as bs q1 q2;split at h
  ·rename_i hl;obtain⟨a,vs,ea,ta,ra⟩:=oQ hw r1 q1;obtain⟨b,us,eb,tb,rb⟩:=oQ hw r2 q2;exact tR aa s σ H x y v u Q I rx ry ⟨a,b,vs,us,ea,eb,ta,tb,by rw[←ak ra,←ak rb];exact hl,fun p hp=>h _ _ _ (tu hw hp (bZ ra rb)) (mR hw)⟩
  ·exact h.elim
 ·exact h.elim
theorem wR:eI X (binaryOp .Sub) (rD X jd):=by
 intro aa s σ H x y v u Q I rx ry h;obtain⟨θ,M,dx,dy,hw,r1,r2,h⟩:=h;unfold jd at h;split at h
 ·rename_i i j;exact xQ aa s σ H x y v u Q I rx ry ⟨i,j,r1,r2,h _ θ H (.refl hw) rfl⟩
 ·exact h.elim
theorem yd:eI X (binaryOp .Mult) (rD X cP):=by
 intro aa s σ H x y v u Q I rx ry h;obtain⟨θ,M,dx,dy,hw,r1,r2,h⟩:=h;unfold cP at h;split at h
 ·rename_i i j;split at h
  ·rename_i hc;exact xw aa s σ H x y v u Q I rx ry ⟨i,j,r1,r2,hc,h _ θ H (.refl hw) rfl⟩
  ·exact h.elim
 ·exact h.elim
theorem ut:eI X (binaryOp .FloorDiv) (rD X ce):=by
 intro aa s σ H x y v u Q I rx ry h;obtain⟨θ,M,dx,dy,hw,r1,r2,h⟩:=h;unfold ce at h;split at h
 ·rename_i i j;split at h
  ·rename_i hc;have e1:x=.int i:=r1;have e2:y=.int j:=r2;subst e1;subst e2;obtain⟨t,rfl⟩:=rx;obtain⟨t',rfl⟩:=ry;have h1:(0:Int)<j:=hc.1;exact floordiv_int (by omega) (by rw[Int.fdiv_eq_ediv_of_nonneg i (by omega)];exact⟨.int (i / j),H,I.tok _,⟨_,rfl⟩,h _ θ H (.refl hw) rfl⟩) (.inl (PyProof.noPylong_of_log2 hc.2))
  ·exact h.elim
 ·exact h.elim
theorem zj:eI X (binaryOp .Mod) (rD X dG):=by
 intro aa s σ H x y v u Q I rx ry h;obtain⟨θ,M,dx,dy,hw,r1,r2,h⟩:=h;unfold dG at h;split at h
 ·rename_i i j;split at h
  ·rename_i hc;exact yP aa s σ H x y v u Q I rx ry ⟨i,j,r1,r2,hc,h _ θ H (.refl hw) rfl⟩
  ·exact h.elim
 ·exact h.elim
theorem xD:eI X (binaryOp .Pow) (rD X jS):=by
 intro aa s σ H x y v u Q I rx ry h;obtain⟨θ,M,dx,dy,hw,r1,r2,h⟩:=h;unfold jS at h;split at h
 ·rename_i i j;split at h
  ·rename_i hc;exact xk aa s σ H x y v u Q I rx ry ⟨i,j,r1,r2,hc,h _ θ H (.refl hw) rfl⟩
  ·exact h.elim
 ·exact h.elim
def xy (g:GE):GE:=fun ρ M=>(g ρ M).bind fun x M1=>match x with
 | .int i=>.ok (.int (-i)) M1
 | _=>.bad
def pT:F2:=fun x y M=>match x,y with
 | .int i,.int j=>.ok (.bl (decide (i<j))) M
 | _,_=>.bad
def vF:F2:=fun x y M=>match x,y with
 | .int i,.int j=>.ok (.bl (decide (j<i))) M
 | _,_=>.bad
def wk:F2:=fun x y M=>match x,y with
 | .int i,.int j=>.ok (.bl (decide (j≤i))) M
 | _,_=>.bad
theorem As:eI X (compareOp .Lt) (rD X pT):=by
 intro aa s σ H x y v u Q I rx ry h;obtain⟨θ,M,dx,dy,hw,r1,r2,h⟩:=h;unfold pT at h;split at h
 ·rename_i i j;exact Ad aa s σ H x y v u Q I rx ry ⟨i,j,r1,r2,h _ θ H (.refl hw) rfl⟩
 ·exact h.elim
theorem Ay:eI X (compareOp .Gt) (rD X vF):=by
 intro aa s σ H x y v u Q I rx ry h;obtain⟨θ,M,dx,dy,hw,r1,r2,h⟩:=h;unfold vF at h;split at h
 ·rename_i i j;exact Ba aa s σ H x y v u Q I rx ry ⟨i,j,r1,r2,h _ θ H (.refl hw) rfl⟩
 ·exact h.elim
theorem AS:eI X (compareOp .GtE) (rD X wk):=by
 intro aa s σ H x y v u Q I rx ry h;obtain⟨θ,M,dx,dy,hw,r1,r2,h⟩:=h;unfold wk at h;split at h
 ·rename_i i j;exact zZ aa s σ H x y v u Q I rx ry ⟨i,j,r1,r2,h _ θ H (.refl hw) rfl⟩
 ·exact h.elim
def zL (d c:D):Option Bool:=match c,d with
 | .non,.non=>some true
 | .non,.any=>none
 | .non,_=>some false
 | .bl b,.bl b'=>some (b'==b)
 | .bl _,.non=>some false
 | .bl _,.int _=>some false
 | .bl _,.str _=>some false
 | .bl _,.tup _=>some false
 | .bl _,.lst _=>some false
 | .bl _,.ro _=>some false
 | .bl _,.mr _=>some false
 | _,_=>none
def lL (neg:Bool):F2:=fun x y M=>match zL x y with
 | some b=>.ok (.bl (b != neg)) M
 | none=>.bad
def VS:D→Value→Prop
 | .non,v=>v=.none
 | .bl b,v=>v=.bool b
 | .int i,v=>∃t,v=.int i t
 | .str i,v=>∃t,v=.str i t
 | .any,_=>True
 | _,v=>∃a,v=.ref a
theorem wn {x:V}{v:Value}(r:isD K θ H d x)(q:RelV x v):VS d v:=by
 cases d with
 | non=>have e:x=.non:=r;rw[e] at q;exact q
 | bl b=>have e:x=.bl b:=r;rw[e] at q;exact q
 | int i=>have e:x=.int i:=r;rw[e] at q;exact q
 | str i=>have e:x=.str i:=r;rw[e] at q;exact q
 | any=>trivial
 | tup ds=>obtain⟨a,_,e,_⟩:=r;rw[e] at q;exact⟨a,q⟩
 | lst ds=>obtain⟨a,_,e,_⟩:=r;rw[e] at q;exact⟨a,q⟩
 | ro ds=>obtain⟨a,_,e,_⟩:=r;rw[e] at q;exact⟨a,q⟩
 | mr k=>obtain⟨a,e,_⟩:=r;rw[e] at q;exact⟨a,q⟩
 | exc c=>obtain⟨a,_,e,_⟩:=r;rw[e] at q;exact⟨a,q⟩
theorem fn {α:Type}{b:α}{P:Prop}(h:none=some b):P:=nomatch h
theorem om {v u:Value}(h:some false=some b)(k:plainIs v u=true∧(v==u)=false):plainIs v u=true∧(v==u)=b:=Option.some.inj h▸k
theorem Bt {dx dy:D}{v u:Value}(p:VS dx v)(q:VS dy u)(h:zL dx dy=some b):plainIs v u=true∧(v==u)=b:=by
 cases dy with
 | non=>
  rw[show u=.none from q];cases dx with
  | non=>rw[show v=.none from p];exact Option.some.inj (show some true=some b from h)▸⟨rfl,rfl⟩
  | bl b=>rw[show v=.bool b from p];exact om h ⟨rfl,rfl⟩
  | any=>exact fn h
  | _=>obtain⟨t,e⟩:=p;rw[e];exact om h ⟨rfl,rfl⟩
 | bl c=>
  rw[show u=.bool c from q];cases dx with
  | non=>rw[show v=.none from p];exact om h ⟨rfl,rfl⟩
  | bl b=>
   rw[show v=.bool b from p,←Option.some.inj h];refine⟨rfl,?_⟩;cases b <;> cases c <;> rfl
  | any=>exact fn h
  | exc _=>exact fn h
  | _=>obtain⟨t,e⟩:=p;rw[e];exact om h ⟨rfl,rfl⟩
 | _=>exact fn h
theorem zA {dx dy:D}{x y:V}{v u:Value}(r1:isD K θ H dx x)(r2:isD K θ H dy y)(rx:RelV x v)(ry:RelV y u)(h:zL dx dy=some b) :
  plainIs v u=true∧(v==u)=b:=Bt (wn r1 rx) (wn r2 ry) h
theorem Bi:eI X (compareOp .Is) (rD X (lL false)):=by
 intro aa s σ H x y v u Q I rx ry h;obtain⟨θ,M,dx,dy,hw,r1,r2,h⟩:=h;unfold lL at h;split at h
 ·rename_i b q;obtain⟨hp,e⟩:=zA r1 r2 rx ry q;refine wpAny_is_plain hp ?_;rw[e];refine⟨.bl b,H,I,rfl,?_⟩;have:=h (.bl (b != false)) θ H (.refl hw) rfl;rw[Bool.bne_false] at this;exact this
 ·exact h.elim
mutual
def fq:D→PyData
 | .non=>.none
 | .bl b=>.bool b
 | .int i=>.int i
 | .str x=>.str x
 | .tup ds=>.tuple (gO ds)
 | .lst ds=>.list (gO ds)
 | .ro ds=>.list (gO ds)
 | .mr _=>.dict []
 | .exc _=>.dict []
 | .any=>.dict []
def gO:List D→List PyData
 | []=>[]
 | d::ds=>fq d::gO ds
end
mutual
def aP:Nat→D→Bool
 | _,.non=>true
 | _,.bl _=>true
 | _,.int _=>true
 | _,.str x=>PyData.strOk x
 | n+1,.tup ds=>aH n ds
 | n+1,.lst ds=>aH n ds
 | n+1,.ro ds=>aH n ds
 | _,_=>false
def aH:Nat→List D→Bool
 | _,[]=>true
 | n,d::ds=>aP n d&&aH n ds
end
mutual
def iu:D→D→Bool
 | .non,.non=>true
 | .bl a,.bl b=>a==b
 | .bl a,.int j=>(if a then 1 else 0)==j
 | .int i,.bl b=>i==(if b then 1 else 0)
 | .int i,.int j=>i==j
 | .str x,.str y=>x==y
 | .lst xs,.lst ys=>cG xs ys
 | .lst xs,.ro ys=>cG xs ys
 | .ro xs,.lst ys=>cG xs ys
 | .ro xs,.ro ys=>cG xs ys
 | .tup xs,.tup ys=>cG xs ys
 | _,_=>false
def cG:List D→List D→Bool
 | [],[]=>true
 | x::xs,y::ys=>iu x y&&cG xs ys
 | _,_=>false
end
mutual
theorem iQ:∀(x y:D) (n m:Nat),aP n x=true→aP m y=true→PyData.eqv (fq x) (fq y)=iu x y
 | .non,y,n,m,hx,hy=>by cases y <;> rfl
 | .bl a,y,n,m,hx,hy=>by cases y <;> rfl
 | .int a,y,n,m,hx,hy=>by cases y <;> rfl
 | .str a,y,n,m,hx,hy=>by cases y <;> rfl
 | .tup xs,y,n,m,hx,hy=>by
  cases n with
  | zero=>exact ff hx
  | succ n=>
   cases y with
   | tup ys=>
    cases m with
    | zero=>exact ff hy
    | succ m=>
     exact dD xs ys n m hx hy
   | _=>rfl
 | .lst xs,y,n,m,hx,hy=>by
  cases n with
  | zero=>exact ff hx
  | succ n=>
   cases y with
   | lst ys=>
    cases m with
    | zero=>exact ff hy
    | succ m=>
     exact dD xs ys n m hx hy
   | ro ys=>
    cases m with
    | zero=>exact ff hy
    | succ m=>
     exact dD xs ys n m hx hy
   | _=>rfl
 | .ro xs,y,n,m,hx,hy=>by
  cases n with
  | zero=>exact ff hx
  | succ n=>
   cases y with
   | lst ys=>
    cases m with
    | zero=>exact ff hy
    | succ m=>
     exact dD xs ys n m hx hy
   | ro ys=>
    cases m with
    | zero=>exact ff hy
    | succ m=>
     exact dD xs ys n m hx hy
   | _=>rfl
 | .mr a,y,n,m,hx,hy=>by cases n <;> exact ff hx
 | .exc a,y,n,m,hx,hy=>by cases n <;> exact ff hx
 | .any,y,n,m,hx,hy=>by cases n <;> exact ff hx
theorem dD:∀(x y:List D) (n m:Nat),aH n x=true→aH m y=true→PyData.eqvAll (gO x) (gO y)=cG x y
 | [],y,n,m,hx,hy=>by cases y <;> rfl
 | x::xs,y,n,m,hx,hy=>by
  cases y with
  | nil=>rfl
  | cons y ys=>
   have hx:=Bool.and_eq_true_iff.mp (show(aP n x&&aH n xs)=true from hx);have hy:=Bool.and_eq_true_iff.mp (show(aP m y&&aH m ys)=true from hy);show(PyData.eqv (fq x) (fq y)&&PyData.eqvAll (gO xs) (gO ys))=(iu x y&&cG xs ys);rw[iQ x y n m hx.1 hy.1,dD xs ys n m hx.2 hy.2]
end
mutual
theorem dW:∀(d:D) (n:Nat),aP n d=true→(fq d).canLay0=true∧(fq d).depth≤n
 | .non,n,h=>by simp[fq,PyData.canLay0,PyData.depth]
 | .bl a,n,h=>by simp[fq,PyData.canLay0,PyData.depth]
 | .int a,n,h=>by simp[fq,PyData.canLay0,PyData.depth]
 | .str a,n,h=>by
  have:PyData.strOk a=true:=by cases n <;> exact h
  simp[fq,PyData.canLay0,PyData.depth,this]
 | .tup xs,n,h=>by
  cases n with
  | zero=>exact ff h
  | succ n=>
   have:=fY xs n h;simp only[fq,PyData.canLay0,PyData.depth];exact⟨this.1,by omega⟩
 | .lst xs,n,h=>by
  cases n with
  | zero=>exact ff h
  | succ n=>
   have:=fY xs n h;simp only[fq,PyData.canLay0,PyData.depth];exact⟨this.1,by omega⟩
 | .ro xs,n,h=>by
  cases n with
  | zero=>exact ff h
  | succ n=>
   have:=fY xs n h;simp only[fq,PyData.canLay0,PyData.depth];exact⟨this.1,by omega⟩
 | .mr a,n,h=>by cases n <;> exact ff h
 | .exc a,n,h=>by cases n <;> exact ff h
 | .any,n,h=>by cases n <;> exact ff h
theorem fY:∀(ds:List D) (n:Nat),aH n ds=true→PyData.canLayAll0 (gO ds)=true∧PyData.depthAll (gO ds)≤n
 | [],n,h=>by simp[gO,PyData.canLayAll0,PyData.depthAll]
 | d::ds,n,h=>by
  have h:=Bool.and_eq_true_iff.mp (show(aP n d&&aH n ds)=true from h);have h1:=dW d n h.1;have h2:=fY ds n h.2;simp only[gO,PyData.canLayAll0,PyData.depthAll,Bool.and_eq_true];exact⟨⟨h1.1,h2.1⟩,by omega⟩
end
mutual
theorem gk {aa:List (Addr×Obj)}{s:Shared}{σ:L2.St}{H:Hp}{θ:List Addr}(I:Inv X aa σ H s):∀(d:D) (n:Nat) (v:V) (u:Value),aP n d=true→isD X.K θ H d v→RelV v u→∃as,Reads s.heap u (fq d) as
 | .non,n,v,u,h,r,q=>by have e:v=.non:=r;subst e;cases q;exact⟨_,.none⟩
 | .bl a,n,v,u,h,r,q=>by have e:v=.bl a:=r;subst e;cases q;exact⟨_,.bool a⟩
 | .int a,n,v,u,h,r,q=>by have e:v=.int a:=r;subst e;obtain⟨t,rfl⟩:=q;exact⟨_,.int a t⟩
 | .str a,n,v,u,h,r,q=>by have e:v=.str a:=r;subst e;obtain⟨t,rfl⟩:=q;exact⟨_,.str a t⟩
 | .tup xs,n,v,u,h,r,q=>by
  cases n with
  | zero=>exact ff h
  | succ n=>
   obtain⟨a,vs,e,ta,ra⟩:=r;subst e;cases q;obtain⟨its,rv,⟨o,h1,h2,m,h3⟩,_⟩:=I.tuple ta.sq;obtain⟨as,R⟩:=dB I xs n vs its h ra rv;exact⟨_,.tuple h1 h2 h3 (by simpa using R)⟩
 | .lst xs,n,v,u,h,r,q=>by
  cases n with
  | zero=>exact ff h
  | succ n=>
   obtain⟨a,vs,e,ta,ra⟩:=r;subst e;cases q;obtain⟨its,rv,⟨o,m,h1,h2,_,h3⟩,_⟩:=I.list (ta.sq (K:=X.K));obtain⟨as,R⟩:=dB I xs n vs its h ra rv;exact⟨_,.list h1 h2 h3 (by simpa using R)⟩
 | .ro xs,n,v,u,h,r,q=>by
  cases n with
  | zero=>exact ff h
  | succ n=>
   obtain⟨a,vs,e,ta,ra⟩:=r;subst e;cases q;obtain⟨its,rv,⟨o,m,h1,h2,_,h3⟩,_⟩:=I.list ta.sq;obtain⟨as,R⟩:=dB I xs n vs its h ra rv;exact⟨_,.list h1 h2 h3 (by simpa using R)⟩
 | .mr a,n,v,u,h,r,q=>by cases n <;> exact ff h
 | .exc a,n,v,u,h,r,q=>by cases n <;> exact ff h
 | .any,n,v,u,h,r,q=>by cases n <;> exact ff h
theorem dB {aa:List (Addr×Obj)}{s:Shared}{σ:L2.St}{H:Hp}{θ:List Addr}(I:Inv X aa σ H s):∀(ds:List D) (n:Nat) (vs:List V) (us:List Value),aH n ds=true→isDs X.K θ H ds vs→aC vs us→∃as,ReadsAll s.heap us (gO ds) as
 | [],n,vs,us,h,r,q=>by have e:vs=[]:=r;subst e;cases q;exact⟨_,.nil⟩
 | d::ds,n,vs,us,h,r,q=>by
  have h:=Bool.and_eq_true_iff.mp (show(aP n d&&aH n ds)=true from h);obtain⟨v,rr,e,r1,r2⟩:=r;subst e;cases q with
  | cons q1 q2=>
   obtain⟨as,R1⟩:=gk I d n v _ h.1 r1 q1;obtain⟨bs,R2⟩:=dB I ds n rr _ h.2 r2 q2;exact⟨_,.cons R1 R2⟩
end
def now (d:D)(M:aq):D:=match d with
 | .mr k=>match M[k]? with
  | some (.lst xs)=>.lst xs
  | _=>.mr k
 | d=>d
def aS (neg:Bool):F2:=fun x y M=>if aP 40 (now x M)&&aP 40 (now y M) then .ok (.bl (iu (now x M) (now y M) != neg)) M else .bad
theorem fb (I:Inv X aa σ H s)(hw:Wr X.K θ H M){u:Value}(h:aP n (now d M)=true)(r:isD X.K θ H d v)(q:RelV v u):∃as,Reads s.heap u (fq (now d M)) as:=by
 cases d with
 | mr k=>
  obtain⟨a,e,ta⟩:=r;subst e;cases q;cases qm:M[k]? with
  | none=>
   have e:now (.mr k) M=.mr k:=by simp[now,qm]
   rw[e] at h;cases n <;> exact ff h
  | some m=>
   cases m with
   | lst xs=>
    have e:now (.mr k) M=.lst xs:=by simp[now,qm]
    rw[e] at h ⊢;cases n with
    | zero=>exact ff h
    | succ n=>
     obtain⟨vs,hv,ra⟩:=hw.at_ k a _ ta qm;obtain⟨its,rv,⟨o,m,h1,h2,_,h3⟩,_⟩:=I.list (X:=X) (xs:=vs) (.inl (.inl hv));obtain⟨as,R⟩:=dB I xs n vs its h ra rv;exact⟨_,.list h1 h2 h3 (by simpa using R)⟩
   | _=>
    have e:now (.mr k) M=.mr k:=by simp[now,qm]
    rw[e] at h;cases n <;> exact ff h
 | _=>exact gk I _ n v u h r q
theorem AF (hu:X.A.units+64<cLine):eI X (compareOp .Eq) (rD X (aS false)):=by
 intro aa s σ H x y v u Q I rx ry h;obtain⟨θ,M,dx,dy,hw,r1,r2,h⟩:=h;unfold aS at h;split at h
 ·rename_i hc;rw[Bool.and_eq_true] at hc;obtain⟨as,R1⟩:=fb I hw hc.1 r1 rx;obtain⟨bs,R2⟩:=fb I hw hc.2 r2 ry;have l1:=dW _ _ hc.1;have l2:=dW _ _ hc.2;refine SeqAt.compareEq_reads R1 R2 l1.1 l2.1 (by have:=l1.2;have:min (fq (now dx M)).depth (fq (now dy M)).depth≤(fq (now dx M)).depth:=Nat.min_le_left _ _;omega) ?_;rw[iQ _ _ _ _ hc.1 hc.2];refine⟨.bl _,H,I,rfl,?_⟩;have:=h _ θ H (.refl hw) rfl;rw[Bool.bne_false] at this;exact this
 ·exact h.elim
theorem A2 (hu:X.A.units+64<cLine):eI X (compareOp .NotEq) (rD X (aS true)):=by
 intro aa s σ H x y v u Q I rx ry h;obtain⟨θ,M,dx,dy,hw,r1,r2,h⟩:=h;unfold aS at h;split at h
 ·rename_i hc;rw[Bool.and_eq_true] at hc;obtain⟨as,R1⟩:=fb I hw hc.1 r1 rx;obtain⟨bs,R2⟩:=fb I hw hc.2 r2 ry;have l1:=dW _ _ hc.1;have l2:=dW _ _ hc.2;refine SeqAt.compareNe_reads R1 R2 l1.1 l2.1 (by have:=l1.2;have:min (fq (now dx M)).depth (fq (now dy M)).depth≤(fq (now dx M)).depth:=Nat.min_le_left _ _;omega) ?_;rw[iQ _ _ _ _ hc.1 hc.2];refine⟨.bl _,H,I,rfl,?_⟩;have:=h _ θ H (.refl hw) rfl;rw[Bool.bne_true] at this;exact this
 ·exact h.elim
def bj (d:D)(M:aq):Option (List D):=match d with
 | .tup xs=>some xs
 | .lst xs=>some xs
 | .ro xs=>some xs
 | .mr k=>match M[k]? with
  | some (.lst xs)=>some xs
  | _=>none
 | _=>none
def bG:F2:=fun x y M=>match bj x M,y with
 | some xs,.int i=>match n8 xs i with
  | some d=>.ok d M
  | none=>.bad
 | _,_=>.bad
theorem rf {i:Int}(r:isDs K θ H ds vs)(e:n8 ds i=some d):∃v,n8 vs i=some v∧isD K θ H d v:=by
 unfold n8 at e ⊢;rw[←ak r];cases q:vJ ds.length i with
 | none=>rw[q] at e;cases e
 | some j=>
  rw[q] at e;exact cy r e
theorem kL {xs:List D}(hw:Wr K θ H M)(r:isD K θ H d v)(e:bj d M=some xs):∃a vs,v=.ref a∧(gT K H a vs∨lK K H a vs)∧isDs K θ H xs vs:=by
 cases d with
 | tup ds=>obtain⟨a,vs,e1,ta,ra⟩:=r;cases e;exact⟨a,vs,e1,.inr ta.sq,ra⟩
 | lst ds=>obtain⟨a,vs,e1,ta,ra⟩:=r;cases e;exact⟨a,vs,e1,.inl ta.sq,ra⟩
 | ro ds=>obtain⟨a,vs,e1,ta,ra⟩:=r;cases e;exact⟨a,vs,e1,.inl ta.sq,ra⟩
 | mr k=>
  obtain⟨a,e1,ta⟩:=r;have e:(match M[k]? with|some (.lst xs)=>some xs|_=>none)=some xs:=e;cases qm:M[k]? with
  | none=>rw[qm] at e;cases e
  | some m=>
   cases m with
   | lst ys=>
    rw[qm] at e;cases e;obtain⟨vs,hv,ra⟩:=hw.at_ k a _ ta qm;exact⟨a,vs,e1,.inl (.inl (.inl hv)),ra⟩
   | _=>rw[qm] at e;cases e
 | _=>cases e
theorem Ac:BE X (rD X bG):=by
 intro value slice aa s σ H x y v u Q I rx ry h hs;obtain⟨θ,M,dx,dy,hw,r1,r2,h⟩:=h;unfold bG at h;split at h
 ·rename_i xs i q;split at h
  ·rename_i d qd;obtain⟨a,vs,ea,sq,ra⟩:=kL hw r1 q;obtain⟨z,ez,rz⟩:=rf ra qd;have hq:=h z θ H (.refl hw) rz;rcases sq with sq|sq
   ·exact vK value slice aa s σ H x y v u Q I rx ry ⟨a,vs,i,z,ea,r2,sq,ez,hq⟩ hs
   ·exact xU value slice aa s σ H x y v u Q I rx ry ⟨a,vs,i,z,ea,r2,sq,ez,hq⟩ hs
  ·exact h.elim
 ·exact h.elim
theorem AM {a b:Expr}{pos:Pos}{ga gb:GE}(ha:PE X a (tE X ga))(hb:PE X b (tE X gb))(hs:kQ b:=by intro _ _;rfl):PE X (.Subscript a b pos) (tE X (g2 bG ga gb)):=
 (Bf Ac ha hb hs).of fun _ _ _ h=>oT h
def kW (xs:List D)(lo hi:Option Int):List D:=(xs.drop (HT.sIx xs.length 0 lo)).take (HT.sIx xs.length xs.length hi-HT.sIx xs.length 0 lo)
def jq (x:D)(lo hi:Option Int)(M:aq):aN D:=match x with
 | .tup xs=>.ok (.tup (kW xs lo hi)) M
 | .lst xs=>.ok (.lst (kW xs lo hi)) M
 | .ro xs=>.ok (.lst (kW xs lo hi)) M
 | .mr k=>match M[k]? with
  | some (.lst xs)=>.ok (.lst (kW xs lo hi)) M
  | _=>.bad
 | _=>.bad
abbrev GO:=bF→aq→aN (Option Int)
def dr:GO:=fun _ M=>.ok none M
def iq (g:GE):GO:=fun ρ M=>(g ρ M).bind fun d M1=>match d with
 | .int i=>.ok (some i) M1
 | _=>.bad
def Bq (X:Cx)(θ:List Addr)(H:Hp)(Q:Option Int→Hp→Prop):aN (Option Int)→Prop
 | .ok b M'=>∀θ' H',Go X.K θ H θ' H' M'→Q b H'
 | .err c M'=>bV X θ H c M'
 | .bad=>False
def tO (X:Cx)(g:GO):TO:=fun σ H Q=>∃ρ θ M,ed X.K θ H σ ρ∧Wr X.K θ H M∧Bq X θ H Q (g ρ M)
theorem _root_.L2.PO.of {e:Option Expr}{t t':TO}(h:PO X e t)(w:∀σ H Q,t' σ H Q→t σ H Q):PO X e t':=fun aa s σ H Q I q=>h aa s σ H Q I (w σ H Q q)
theorem uh:PO X none (tO X dr):=vD.of fun σ H Q ⟨ρ,θ,M,hd,hw,f⟩=>f θ H (.refl hw)
theorem uT (h:PE X e (tE X g)):PO X (some e) (tO X (iq g)):=(uR h).of fun σ H Q hxx=>by
 obtain⟨ρ,θ,M,hd,hw,h⟩:=hxx;refine bp hd hw (Bq X θ H Q) (fun c M' h=>h) (fun h=>h) h fun d M1 v θ1 H1 g1 r1 h1=>?_
 split at h1
 ·rename_i i;exact⟨i,r1,h1 θ1 H1 g1⟩
 ·exact h1.elim
theorem ww {g:GO}{Q:Option Int→Hp→Prop}{α:Type}(hd:ed X.K θ H σ ρ)(hw:Wr X.K θ H M)(F:aN α→Prop)(Fe:∀c M',F (.err c M')→bV X θ H c M')(Fb:F .bad→False)
  {f:Option Int→aq→aN α} (h:F ((g ρ M).bind f)) (k:∀d M1 θ1 H1,Go X.K θ H θ1 H1 M1→F (f d M1)→Q d H1):tO X g σ H Q:=by
 refine⟨ρ,θ,M,hd,hw,?_⟩;cases q:g ρ M with
 | ok d M1=>
  rw[q] at h;exact fun θ1 H1 g1=>k d M1 θ1 H1 g1 h
 | err c M1=>rw[q] at h;exact Fe c M1 h
 | bad=>rw[q] at h;exact(Fb h).elim
def uc (g:GE)(gl gh:GO):GE:=fun ρ M=>(g ρ M).bind fun x M1=>(gl ρ M1).bind fun lo M2=>(gh ρ M2).bind fun hi M3=>jq x lo hi M3
def Df (X:Cx):V→Option Int→Option Int→Hp→VK→Prop:=fun x lo hi H Q=>∃θ M d,Wr X.K θ H M∧isD X.K θ H d x∧aA X θ H Q (jq d lo hi M)
theorem gn (r:isDs K θ H ds vs)(lo hi:Option Int):isDs K θ H (kW ds lo hi) (m9 vs lo hi):=by
 unfold kW m9;rw[←ak r];exact kn _ (kF _ r)
theorem B6:BO X (Df X):=by
 intro aa s σ H x v vl vu lo hi sl Q I rx hs pl pu h;obtain⟨θ,M,d,hw,r,h⟩:=h;cases d with
 | tup ds=>
  obtain⟨a,vs,e,ta,ra⟩:=r
  by_cases hc:HT.sIx vs.length 0 lo=0∧HT.sIx vs.length vs.length hi=vs.length
  ·subst e;cases rx;obtain⟨its,rv,ht,hz⟩:=I.tuple ta.sq;have hlen:its.toArray.size=vs.length:=by rw[size_toArray];exact rv.length.symm
   refine⟨"tuple",_,PyProof.Rows.slot_tuple_getitem.lookup,ht.typeIs,?_⟩;refine ft ht hs pl pu (by rw[hlen];exact hc) ⟨.ref a,H,I,rfl,h _ θ H (.refl hw) ⟨a,vs,rfl,ta,?_⟩⟩;have e:kW ds lo hi=ds:=by
    unfold kW;rw[ak ra,hc.1,hc.2,drop_zero,Nat.sub_zero,←ak ra,take_length]
   rw[e];exact ra
  ·exact yq aa s σ H x v vl vu lo hi sl Q I rx hs pl pu ⟨a,vs,e,ta.sq,hc,fun p hp=>h _ θ _ (bX hw hp) (dZ hw hp (gn ra lo hi))⟩
 | lst ds=>
  obtain⟨a,vs,e,ta,ra⟩:=r;exact lu aa s σ H x v vl vu lo hi sl Q I rx hs pl pu ⟨a,vs,e,ta.sq,fun p hp=>h _ θ _ (bX hw hp) (dP hw hp (gn ra lo hi))⟩
 | ro ds=>
  obtain⟨a,vs,e,ta,ra⟩:=r;exact lu aa s σ H x v vl vu lo hi sl Q I rx hs pl pu ⟨a,vs,e,ta.sq,fun p hp=>h _ θ _ (bX hw hp) (dP hw hp (gn ra lo hi))⟩
 | mr k=>
  obtain⟨a,e,ta⟩:=r;have h:aA X θ H Q (match M[k]? with|some (.lst xs)=>.ok (.lst (kW xs lo hi)) M|_=>.bad):=h;cases qm:M[k]? with
  | none=>rw[qm] at h;exact h.elim
  | some m=>
   cases m with
   | lst ys=>
    rw[qm] at h;obtain⟨vs,hv,ra⟩:=hw.at_ k a _ ta qm;exact lu aa s σ H x v vl vu lo hi sl Q I rx hs pl pu ⟨a,vs,e,.inl (.inl hv),fun p hp=>h _ θ _ (bX hw hp) (dP hw hp (gn ra lo hi))⟩
   | _=>rw[qm] at h;exact h.elim
 | _=>exact h.elim
theorem rh {lo hi:Option Expr}{gl gh:GO}{p2:Pos}(he:PE X e (tE X g))(hl:PO X lo (tO X gl))(hh:PO X hi (tO X gh)):PE X (.Subscript e (.Slice lo hi none p2) pos) (tE X (uc g gl gh)):=
 (qQ B6 he hl hh).of fun σ H Q hxx=>by
  obtain⟨ρ,θ,M,hd,hw,h⟩:=hxx;refine bp hd hw (aA X θ H Q) (fun c M' h=>h) (fun h=>h) h fun d M1 v θ1 H1 g1 r1 h1=>?_
  refine ww (hd.go g1) g1.wr (aA X θ1 H1 Q) (fun c M' h=>h) (fun h=>h) (h1.go g1) fun l M2 θ2 H2 g2 h2=>?_
  refine ww ((hd.go g1).go g2) g2.wr (aA X θ2 H2 Q) (fun c M' h=>h) (fun h=>h) (h2.go g2) fun u M3 θ3 H3 g3 h3=>?_
  exact⟨θ3,M3,d,g3.wr,r1.go (g2.trans g3),h3.go g3⟩
def uX (d:D)(M:aq):aN Bool:=match d with
 | .non=>.ok false M
 | .bl b=>.ok b M
 | .int i=>.ok (i != 0) M
 | .str x=>if x.length≤sizeLine then .ok ((x.length:Int) != 0) M else .bad
 | .tup xs=>.ok (!xs.isEmpty) M
 | .lst xs=>.ok (!xs.isEmpty) M
 | .ro xs=>.ok (!xs.isEmpty) M
 | .mr k=>match M[k]? with
  | some (.lst xs)=>.ok (!xs.isEmpty) M
  | _=>.bad
 | .exc _=>.bad
 | .any=>.bad
def kS (g:GE):GT:=fun ρ M=>(g ρ M).bind uX
theorem dS (r:isDs K θ H ds vs):(!vs.isEmpty)=!ds.isEmpty:=by
 have:=ak r;cases ds <;> cases vs <;> simp_all
theorem zn {a:Expr}(ha:PE X a (tE X g))(he:∀whole,isTrue a X.env whole=(do let v ←whole;standAt a.pos;holding [v] (truthy v)):=by intro _;rfl):PT X a (tT X (kS g)):=
 (sJ ha he).of fun σ H Q hxx=>by
  obtain⟨ρ,θ,M,hd,hw,h⟩:=hxx;refine bp hd hw (g9 X θ H Q) (fun c M' h=>h) (fun h=>h) h fun d M1 v θ1 H1 g1 r1 h1=>?_
  cases d with
  | non=>have e:v=.non:=r1;subst e;exact⟨false,rfl,h1 θ1 H1 g1⟩
  | bl b=>have e:v=.bl b:=r1;subst e;exact⟨b,rfl,h1 θ1 H1 g1⟩
  | int i=>have e:v=.int i:=r1;subst e;exact⟨i != 0,rfl,h1 θ1 H1 g1⟩
  | str x=>
   have e:v=.str x:=r1;subst e;have h1:g9 X θ H Q (if x.length≤sizeLine then .ok ((x.length:Int) != 0) M1 else .bad):=h1;split at h1
   ·rename_i hl;exact⟨_,⟨hl,rfl⟩,h1 θ1 H1 g1⟩
   ·exact h1.elim
  | tup xs=>
   obtain⟨a,vs,e,ta,ra⟩:=r1;subst e;exact⟨_,.inr (.inl ⟨vs,ta.sq,(dS ra).symm⟩),h1 θ1 H1 g1⟩
  | lst xs=>
   obtain⟨a,vs,e,ta,ra⟩:=r1;subst e;exact⟨_,.inl ⟨vs,ta.sq,(dS ra).symm⟩,h1 θ1 H1 g1⟩
  | ro xs=>
   obtain⟨a,vs,e,ta,ra⟩:=r1;subst e;exact⟨_,.inl ⟨vs,ta.sq,(dS ra).symm⟩,h1 θ1 H1 g1⟩
  | mr k=>
   obtain⟨a,e,ta⟩:=r1;subst e;have h1:g9 X θ H Q (match M1[k]? with|some (.lst xs)=>.ok (!xs.isEmpty) M1|_=>.bad):=h1;cases qm:M1[k]? with
   | none=>rw[qm] at h1;exact h1.elim
   | some m=>
    cases m with
    | lst ys=>
     rw[qm] at h1;obtain⟨vs,hv,ra⟩:=g1.wr.at_ k a _ ta qm;exact⟨_,.inl ⟨vs,.inl (.inl hv),(dS ra).symm⟩,h1 θ1 H1 g1⟩
    | _=>rw[qm] at h1;exact h1.elim
  | exc c=>exact h1.elim
  | any=>exact h1.elim
def fT:FD:=fun ds M=>match ds with
 | [.str x]=>if x.length≤sizeLine then .ok (.int x.length) M else .bad
 | [d]=>match bj d M with
  | some xs=>.ok (.int xs.length) M
  | none=>.bad
 | _=>.bad
def nT:FD:=fun ds M=>match ds with
 | [.int i,.int j]=>.ok (.int (if j<i then j else i)) M
 | _=>.bad
def gN:FD:=fun ds M=>match ds with
 | [d]=>match bj d M with
  | some xs=>.ok (.lst xs) M
  | none=>.bad
 | _=>.bad
def eG:FD:=fun ds M=>match ds with
 | [d]=>match bj d M with
  | some xs=>.ok (.tup xs) M
  | none=>.bad
 | _=>.bad
theorem fR (r:isDs K θ H [d] xs):∃v,xs=[v]∧isD K θ H d v:=by
 obtain⟨v,rr,e,h1,h2⟩:=r;have e2:rr=[]:=h2;subst e2;exact⟨v,e,h1⟩
theorem xt {d':D}(r:isDs K θ H [d,d'] xs):∃v v',xs=[v,v']∧isD K θ H d v∧isD K θ H d' v':=by
 obtain⟨v,rr,e,h1,h2⟩:=r;obtain⟨v',e2,h3⟩:=fR h2;subst e2;exact⟨v,v',e,h1,h3⟩
theorem ym:cb X (.builtin "len") (rC X fT):=by
 intro aa s σ H xs us Q I r h;obtain⟨θ,M,ds,hw,rd,h⟩:=h;unfold fT at h;split at h
 ·rename_i x;split at h
  ·rename_i hl;obtain⟨v,e,rv⟩:=fR rd;exact lq aa s σ H xs us Q I r ⟨x,by rw[e,show v=.str x from rv],hl,h _ θ H (.refl hw) rfl⟩
  ·exact h.elim
 ·rename_i d _;split at h
  ·rename_i ys q;obtain⟨v,e,rv⟩:=fR rd;obtain⟨a,vs,ea,sq,ra⟩:=kL hw rv q;refine kY aa s σ H xs us Q I r ⟨a,vs,by rw[e,ea],sq,?_⟩;rw[←ak ra];exact h _ θ H (.refl hw) rfl
  ·exact h.elim
 ·exact h.elim
theorem xH (hc:X.calm=true):cb X (.builtin "min") (rC X nT):=by
 intro aa s σ H xs us Q I r h;obtain⟨θ,M,ds,hw,rd,h⟩:=h;unfold nT at h;split at h
 ·rename_i i j;obtain⟨v,v',e,rv,rv'⟩:=xt rd;exact pQ hc aa s σ H xs us Q I r ⟨i,j,by rw[e,show v=.int i from rv,show v'=.int j from rv'],h _ θ H (.refl hw) rfl⟩
 ·exact h.elim
theorem uV:cb X (.type "list") (rC X gN):=by
 intro aa s σ H xs us Q I r h;obtain⟨θ,M,ds,hw,rd,h⟩:=h;unfold gN at h;split at h
 ·rename_i d;split at h
  ·rename_i ys q;obtain⟨v,e,rv⟩:=fR rd;obtain⟨a,vs,ea,sq,ra⟩:=kL hw rv q;exact lG aa s σ H xs us Q I r ⟨a,vs,by rw[e,ea],sq,fun l hl=>h _ θ _ (bX hw hl) (dP hw hl ra)⟩
  ·exact h.elim
 ·exact h.elim
theorem tH:cb X (.type "tuple") (rC X eG):=by
 intro aa s σ H xs us Q I r h;obtain⟨θ,M,ds,hw,rd,h⟩:=h;unfold eG at h;split at h
 ·rename_i d;obtain⟨v,e,rv⟩:=fR rd;cases d with
  | tup ys=>
   obtain⟨a,vs,ea,ta,ra⟩:=rv;exact ck aa s σ H xs us Q I r ⟨a,vs,by rw[e,ea],.inr ⟨ta.sq,h _ θ H (.refl hw) ⟨a,vs,rfl,ta,ra⟩⟩⟩
  | lst ys=>
   obtain⟨a,vs,ea,ta,ra⟩:=rv;exact ck aa s σ H xs us Q I r ⟨a,vs,by rw[e,ea],.inl ⟨ta.sq,fun l hl=>h _ θ _ (bX hw hl) (dZ hw hl ra)⟩⟩
  | ro ys=>
   obtain⟨a,vs,ea,ta,ra⟩:=rv;exact ck aa s σ H xs us Q I r ⟨a,vs,by rw[e,ea],.inl ⟨ta.sq,fun l hl=>h _ θ _ (bX hw hl) (dZ hw hl ra)⟩⟩
  | mr k=>
   obtain⟨a,ea,ta⟩:=rv;cases qm:M[k]? with
   | none=>simp[bj,qm] at h;exact h.elim
   | some m=>
    cases m with
    | lst ys=>
     simp only[bj,qm] at h;obtain⟨vs,hv,ra⟩:=hw.at_ k a _ ta qm;exact ck aa s σ H xs us Q I r ⟨a,vs,by rw[e,ea],.inl ⟨.inl (.inl hv),fun l hl=>h _ θ _ (bX hw hl) (dZ hw hl ra)⟩⟩
    | _=>simp[bj,qm] at h;exact h.elim
  | _=>exact h.elim
 ·exact h.elim
end
def bT (cells:List (Str×Addr)):List (Str×NameKind)→List (Str×Addr)→List (Str×Addr)
 | [],acc=>acc
 | (n,k)::r,acc=>if k==.free then bT cells r ((n,(cells.lookup n).getD 0)::acc) else bT cells r acc
theorem jH {env:Env}:∀(l:List (Str×NameKind)) (cs:List (Str×Addr)),(∀p∈l,p.2=.free→∃c,env.cells.lookup p.1=some c)→
  (forIn (m:=Sem) l cs fun x r=>match x with
   | (name,kind)=>if(kind==NameKind.free)=true then do let __do_lift ←cellOf env name;pure (ForInStep.yield ((name,__do_lift)::r)) else pure (ForInStep.yield r))=pure (bT env.cells l cs)
 | [],cs,h=>rfl
 | (n,k)::r,cs,h=>by
  have ih:=fun cs=>jH (env:=env) r cs fun p hp=>h p (mem_cons_of_mem _ hp)
  rw[forIn_cons]
  by_cases hk:(k==NameKind.free)=true
  ·obtain⟨c,hc⟩:=h (n,k) mem_cons_self (by simpa using hk);have e:cellOf env n=pure c:=by unfold cellOf;rw[show List.lookup n env.cells=some c from hc]
   simp only[hk,if_true,bT,e,pure_bind];rw[ih,show List.lookup n env.cells=some c from hc];rfl
  ·simp only[hk,if_false,bT,pure_bind,Bool.false_eq_true];exact ih cs
theorem kP {env:Env}(h:∀p∈scope.names,p.2=.free→∃c,env.cells.lookup p.1=some c):closureFor scope env=pure (bT env.cells scope.names []):=by
 have:=jH (env:=env) scope.names [] h;unfold closureFor;simp only[bind_pure_comp] at this ⊢
 first
  | (rw[this];rfl)
  | (simp[this])
  | exact this
theorem jc {cells:List (Str×Addr)}:∀(l:List (Str×NameKind)) (acc:List (Str×Addr)),(∀p∈acc,cells.lookup p.1=some p.2)→(∀p∈l,p.2=.free→∃c,cells.lookup p.1=some c)→
  ∀p∈bT cells l acc,cells.lookup p.1=some p.2
 | [],acc,ha,h=>ha
 | (n,k)::r,acc,ha,h=>by
  have hr:∀p∈r,p.2=.free→∃c,cells.lookup p.1=some c:=fun p hp=>h p (mem_cons_of_mem _ hp)
  unfold bT
  by_cases hk:(k==NameKind.free)=true
  ·rw[if_pos hk];refine jc r _ (fun p hp=>?_) hr;rcases mem_cons.mp hp with e|hp
   ·subst e;obtain⟨c,hc⟩:=h (n,k) mem_cons_self (by simpa using hk);have hc':cells.lookup n=some c:=hc;show cells.lookup n=some ((cells.lookup n).getD 0);rw[hc'];rfl
   ·exact ha p hp
  ·rw[if_neg hk];exact jc r acc ha hr
theorem jp {cells:List (Str×Addr)}:∀(l:List (Str×NameKind)) (acc:List (Str×Addr)),∀p∈acc,p∈bT cells l acc
 | [],acc,p,h=>h
 | (n,k)::r,acc,p,h=>by
  unfold bT
  by_cases hk:(k==NameKind.free)=true
  ·rw[if_pos hk];exact jp r _ p (mem_cons_of_mem _ h)
  ·rw[if_neg hk];exact jp r acc p h
theorem i7 {cells:List (Str×Addr)}:∀(l:List (Str×NameKind)) (acc:List (Str×Addr)) (n:Str),(n,NameKind.free)∈l→∃c,(n,c)∈bT cells l acc
 | [],acc,n,h=>by cases h
 | (m,k)::r,acc,n,h=>by
  unfold bT;rcases mem_cons.mp h with e|h
  ·cases e;rw[if_pos (by rfl)];exact⟨_,jp r _ _ mem_cons_self⟩
  ·by_cases hk:(k==NameKind.free)=true
   ·rw[if_pos hk];exact i7 r _ n h
   ·rw[if_neg hk];exact i7 r acc n h
theorem fJ {l:List (Str×Addr)}{n:Str}(h:(n,c)∈l):∃c',l.lookup n=some c':=by
 induction l with
 | nil=>cases h
 | cons p r ih=>
  obtain⟨m,d⟩:=p
  by_cases e:(n==m)=true
  ·exact⟨d,by simp[List.lookup,e]⟩
  ·have e':(n==m)=false:=by simpa using e
   rcases mem_cons.mp h with q|q
   ·cases q;simp at e
   ·obtain⟨c',hc⟩:=ih q;exact⟨c',by simp only[List.lookup,e'];exact hc⟩
theorem cN {env:Env}:∀{names:List (Str×NameKind)} {x:Str} {k:NameKind},
  (names.map fun(n,k)=>if(k==NameKind.free&&env.scope.kind==.function&&env.kindOf n==some .cell) then(n,NameKind.cell) else(n,k)).lookup x=some k→
   names.lookup x=some k∨(k=.cell∧names.lookup x=some .free)
 | [],_,_,h=>by simp at h
 | (n,k')::r,x,k,h=>by
  have ih:=@cN env r x k;have h:List.lookup x ((if(k'==NameKind.free&&env.scope.kind==.function&&env.kindOf n==some .cell)=true then(n,NameKind.cell) else(n,k'))::_)=some k:=h
  by_cases hc:(k'==NameKind.free&&env.scope.kind==.function&&env.kindOf n==some .cell)=true
  ·rw[if_pos hc] at h;cases hx:x==n with
   | true=>
    simp only[lookup_cons,hx] at h ⊢;cases h;have:k'=.free:=by
     rw[Bool.and_eq_true,Bool.and_eq_true] at hc;simpa using hc.1.1
    subst this;exact .inr ⟨rfl,rfl⟩
   | false=>
    simp only[lookup_cons,hx] at h ⊢;exact ih h
  ·rw[if_neg hc] at h;cases hx:x==n with
   | true=>
    simp only[lookup_cons,hx] at h ⊢;exact .inl h
   | false=>
    simp only[lookup_cons,hx] at h ⊢;exact ih h
def dR (sc:Scope)(fk:Str→Option NameKind)(xs:List Str)(R N:List Str):Bool:=
 decide (sc.kind=.function)&&xs.all (fun x=>sc.names.lookup x==some .local) &&
 sc.names.all (fun p=>match p.2 with
  | .cell=>false
  | .local=>(xs.contains p.1||p.1==(".0":Str))&&sc.names.lookup p.1==some .local
  | .free=>fk p.1==some .cell||fk p.1==some .free
  | _=>true) &&
 decide ((xs++R).Nodup)&&!(R.contains (".0":Str))&&R.length==N.length &&
 (R.zip N).all (fun p=>p.1==p.2||sc.names.lookup p.1 != some .free)
structure bN (sc:Scope)(fk:Str→Option NameKind)(xs:List Str)(R N:List Str):Prop where
 kind:sc.kind=.function
 own:∀x∈xs,sc.names.lookup x=some .local
 nocell:∀p∈sc.names,p.2≠.cell
 locs:∀p∈sc.names,p.2=.local→p.1∈xs∨p.1=(".0":Str)
 lnames:∀p∈sc.names,p.2=.local→sc.names.lookup p.1=some .local
 free:∀p∈sc.names,p.2=.free→fk p.1=some .cell∨fk p.1=some .free
 nd:(xs++R).Nodup
 no0:(".0":Str)∉R
 len:R.length=N.length
 same:∀(i:Nat) y,R[i]?=some y→sc.names.lookup y=some .free→N[i]?=some y
theorem bN.of {sc:Scope}{fk:Str→Option NameKind}{xs:List Str}{R N:List Str}(h:dR sc fk xs R N=true):bN sc fk xs R N:=by
 unfold dR at h;simp only[Bool.and_eq_true,decide_eq_true_eq,all_eq_true,Bool.not_eq_true',beq_iff_eq] at h;obtain⟨⟨⟨⟨⟨⟨h1,h2⟩,h3⟩,h4⟩,h5⟩,h6⟩,h7⟩:=h;refine⟨h1,h2,fun p hp e=>?_,fun p hp e=>?_,fun p hp e=>?_,fun p hp e=>?_,h4,?_,h6,fun i y hy hf=>?_⟩
 ·have:=h3 p hp;rw[e] at this;simp at this
 ·have:=h3 p hp;rw[e] at this;simp at this;exact this.1
 ·have:=h3 p hp;rw[e] at this;simp at this;exact this.2
 ·have:=h3 p hp;rw[e] at this;simp at this;exact this
 ·intro hm;have:R.contains (".0":Str)=true:=by simpa using hm
  rw[this] at h5;cases h5
 ·obtain⟨hi,e⟩:=List.getElem?_eq_some_iff.mp hy;have hn:i<N.length:=by rw[←h6];exact hi
  have hz:(R[i],N[i])∈R.zip N:=by
   rw[mem_iff_getElem];exact⟨i,by simp;omega,by simp⟩
  have:=h7 _ hz;simp only[Bool.or_eq_true,beq_iff_eq,bne_iff_ne,ne_eq] at this;rcases this with q|q
  ·rw[getElem?_eq_getElem hn,←q,e]
  ·rw[e] at q;exact absurd hf q
def ay (X:Cx)(scope:Scope)(xs:List Str)(R:List Str)(fp:List Addr)(s:Shared)(H:Hp)(C:Addr):Cx where
 prog:=X.prog
 w:=X.w
 K:=X.K
 mg:=X.mg
 base:=X.base
 A:=X.A
 N:=xs++R
 s₀:=s
 H₀:=H
 env:=compEnvC scope (bT X.env.cells scope.names []) C X.env
 outer:=X.stack
 stack:=X.stack
 ex:=fp
 fn:=fun _=>false
 calm:=X.calm
 pn:=[]
 xe:=fun _ _=>False
section
variable {X:Cx}{aa:List (Addr×Obj)}{σ:L2.St}{H:Hp}{s:Shared}{scope:Scope}{xs:List Str}{R:List Str}{fp:List Addr}{C:Addr}
theorem bN.cells (S:bN scope X.env.kindOf xs R X.N)(I:L2.Inv X aa σ H s):∀p∈scope.names,p.2=.free→∃c,X.env.cells.lookup p.1=some c:=fun p hp e=>I.ok.has p.1 (S.free p hp e)
theorem bu (S:bN scope X.env.kindOf xs R X.N)(I:L2.Inv X aa σ H s){y:Str}(h:(bT X.env.cells scope.names []).lookup y=some c):X.env.cells.lookup y=some c:=
 jc scope.names [] (fun _ z=>by cases z) (S.cells I) (y,c) (PySem.mem_of_lookup h)
theorem sB {h4:Heap}{m:Str→Option Value}{tk:Nat}(S:bN scope X.env.kindOf xs R X.N)(I:L2.Inv X aa σ H s)(hC:s.heap.objs.size≤C)(k:∀b o,s.heap.get? b=some o→h4.get? b=some o)(hn:h4.Ns C m)
  (hf:∀b∈fp,eV X aa H b) (hfl:∀b∈fp,b<s.heap.objs.size):L2.Inv (ay X scope xs R fp s H C) [] (List.replicate xs.length none++σ) H {s with heap:=h4,toks:=tk}:=by
 have hkn:∀y kk,(relabel scope X.env).names.lookup y=some kk→(kk=.cell∨kk=.free)→scope.names.lookup y=some .free:=fun y kk e hk=>by
  rcases cN e with q|q
  ·rcases hk with z|z
   ·subst z;exact absurd rfl (S.nocell _ (PySem.mem_of_lookup q))
   ·subst z;exact q
  ·exact q.2
 have hasc:∀y,scope.names.lookup y=some .free→∃c,(bT X.env.cells scope.names []).lookup y=some c:=fun y e=>by
  obtain⟨c,hc⟩:=i7 (cells:=X.env.cells) scope.names [] y (PySem.mem_of_lookup e);exact fJ hc
 refine⟨⟨I.ok.mod,S.kind,I.ok.glob,I.ok.blt,hC,fun y z c h1 h2=>I.ok.inj y z c (bu S I h1) (bu S I h2),fun y hy=>?_,fun y c z=>absurd (show false=true from z) Bool.false_ne_true,I.ok.hd,I.ok.frames,.inl rfl,fun b hb=>⟨?_,fun y c e=>?_⟩,I.bs,Nat.le_trans I.ok.bsz I.sz,fun b o e hb=>?_,fun b hb z=>?_,I.stack,I.stkFree⟩,
  rfl,I.bare,Un.kept k,⟨m,hn,fun i y v h1 h2 h3=>?_⟩,fun y c e=>?_,I.hok.fresh hC,fun y c e=>I.freeC y c (bu S I e),fun p hp=>absurd (show p∈([]:List (Addr×Obj)) from hp) (by simp),I.hok.kept k,?_⟩
 ·rcases hy with e|e
  ·exact hasc y (hkn y _ e (.inl rfl))
  ·exact hasc y (hkn y _ e (.inr rfl))
 ·exact Nat.ne_of_lt (Nat.lt_of_lt_of_le (hfl b hb) hC)
 ·exact(hf b hb).2.2.2.2.1 y c (bu S I e)
 ·rcases(hf b hb).2.2.2.1 with z|z
  ·exact I.ok.noex b o e z
  ·exact absurd (Nat.lt_of_lt_of_le (Heap.lt_size e) (Nat.le_trans I.ok.bsz z)) (Nat.lt_irrefl _)
 ·rcases mem_cons.mp (I.stkSub b z) with e|e
  ·exact(hf b hb).2.1 e
  ·exact(hf b hb).2.2.1 e
 ·by_cases hi:i<xs.length
  ·exfalso;rw[getElem?_append_left (by rw[length_replicate];exact hi),getElem?_replicate,if_pos hi] at h2;cases h2
  ·obtain⟨i,rfl⟩:∃j,i=xs.length+j:=⟨i-xs.length,by omega⟩;have h1:R[i]?=some y:=by
    have h1:(xs++R)[xs.length+i]?=some y:=h1;rw[getElem?_append_right (by omega)] at h1;simpa using h1
   have h2:σ[i]?=some (some v):=by
    rw[getElem?_append_right (by rw[length_replicate];omega)] at h2;simpa using h2
   have hyR:y∈R:=mem_of_getElem? h1;have hf':scope.names.lookup y=some .free∧((relabel scope X.env).names.lookup y=some .cell∨(relabel scope X.env).names.lookup y=some .free):=by
    have h3:(relabel scope X.env).names.lookup y=some .local∨(relabel scope X.env).names.lookup y=some .cell∨(relabel scope X.env).names.lookup y=some .free:=h3;rcases h3 with e|e|e
    ·rcases cN e with q|q
     ·exfalso;rcases S.locs _ (PySem.mem_of_lookup q) rfl with z|z
      ·exact(nodup_append.mp S.nd).2.2 y z y hyR rfl
      ·have z:y=(".0":Str):=z;rw[z] at hyR;exact S.no0 hyR
     ·exact absurd q.1 (by intro z;cases z)
    ·exact⟨hkn y _ e (.inl rfl),.inl e⟩
    ·exact⟨hkn y _ e (.inr rfl),.inr e⟩
   have hN:=S.same i y h1 hf'.1;have hk:=S.free (y,.free) (PySem.mem_of_lookup hf'.1) rfl;obtain⟨mX,hnX,hl⟩:=I.loc;have vis:AZ X.env.scope y:=by
    rcases hk with z|z
    ·exact .inr (.inl z)
    ·exact .inr (.inr z)
   obtain⟨u,r,l⟩:=hl i y v hN h2 vis;refine⟨u,r,.inr ⟨hf'.2,?_⟩⟩;rcases l with⟨z,_⟩|⟨_,c,hc,o,ho,hod⟩
   ·exfalso;rcases hk with q|q
    ·have q:X.env.kindOf y=some .cell:=q;rw[z] at q;cases q
    ·have q:X.env.kindOf y=some .free:=q;rw[z] at q;cases q
   ·obtain⟨c',hc'⟩:=hasc y hf'.1;have:c'=c:=by
     have:=bu S I hc';rw[hc] at this;exact(Option.some.inj this).symm
    subst this;exact⟨c',hc',o,k _ _ ho,hod⟩
 ·obtain⟨v,o,ho,hd⟩:=I.cell y c (bu S I e);exact⟨v,o,k _ _ ho,hd⟩
 ·show(List.replicate xs.length none++σ).length=(xs++R).length;rw[length_append,length_append,length_replicate,I.len,S.len]
end
def cg (t:jP)(gc:GT)(ge:GE):List D→bF→aq→aN (List D)
 | [],ρ,M=>if t.ok M then .ok [] M else .bad
 | d::r,ρ,M=>if t.ok M then
   match gc (some d::ρ) M with
   | .ok true M1=>match ge (some d::ρ) M1 with
    | .ok e M2=>(cg t gc ge r ρ M2).bind fun es M3=>.ok (e::es) M3
    | _=>.bad
   | .ok false M1=>cg t gc ge r ρ M1
   | _=>.bad
  else .bad
def lC:GT:=fun _ M=>.ok true M
def aI (t:jP)(n:Nat)(sg:GG)(gc:GT)(ge:GE):List D→bF→aq→aN (List D)
 | [],ρ,M=>if t.ok M then .ok [] M else .bad
 | d::r,ρ,M=>if t.ok M then
   match sg d (List.replicate n none++ρ) with
   | none=>.bad
   | some ρ1=>match gc ρ1 M with
    | .ok true M1=>match ge ρ1 M1 with
     | .ok e M2=>(aI t n sg gc ge r ρ M2).bind fun es M3=>.ok (e::es) M3
     | _=>.bad
    | .ok false M1=>aI t n sg gc ge r ρ M1
    | _=>.bad
  else .bad
def gP (gi:GI)(n:Nat)(sg:GG)(gc:GT)(ge:GE)(mk:List D→aq→aN D):GE:=fun ρ M=>(gi ρ M).bind fun t M1=>(aI t n sg gc ge t.ds ρ M1).bind mk
theorem mS (t:jP)(gc:GT)(ge:GE):∀(ds:List D) (ρ:bF) (M:aq),cg t gc ge ds ρ M=aI t 1 (dA 0) gc ge ds ρ M
 | [],ρ,M=>rfl
 | d::r,ρ,M=>by
  have ih:=mS t gc ge r;unfold cg aI;show _=(if t.ok M=true then(match gc (some d::ρ) M with
    | .ok true M1=>match ge (some d::ρ) M1 with
     | .ok e M2=>(aI t 1 (dA 0) gc ge r ρ M2).bind fun es M3=>.ok (e::es) M3
     | _=>.bad
    | .ok false M1=>aI t 1 (dA 0) gc ge r ρ M1
    | _=>.bad) else .bad)
  simp only[ih]
def rq (n:Nat)(sg:GG):Prop:=∀d ρ ρ',sg d ρ=some ρ'→ρ'.length=ρ.length∧∀i:Nat,n≤i→ρ'[i]?=ρ[i]?
theorem ul (h:i<n):rq n (dA i):=fun d ρ ρ' e=>by
 have e:some (ρ.set i (some d))=some ρ':=e;cases e;exact⟨by rw[length_set],fun j hj=>by rw[getElem?_set_ne (by omega)]⟩
theorem rq.back {τ:L2.St}{ρ1:bF}(o:rq n sg)(e:sg d (List.replicate n none++ρ)=some ρ1)(h:ed K θ H τ ρ1):ed K θ H τ (List.replicate n none++ρ):=by
 obtain⟨a,b⟩:=o _ _ _ e;refine⟨by rw[←a];exact h.len,fun i d' q=>?_⟩
 by_cases hi:i<n
 ·rw[getElem?_append_left (by rw[length_replicate];exact hi),getElem?_replicate,if_pos hi] at q;cases q
 ·rw[←b i (by omega)] at q;exact h.at_ i d' q
def bS (gi:GI)(gc:GT)(ge:GE)(mk:List D→aq→aN D):GE:=fun ρ M=>(gi ρ M).bind fun t M1=>(cg t gc ge t.ds ρ M1).bind mk
theorem mE (elt target iter:Expr)(ifs:List Expr)(scope:Scope)(pos:Pos)(it acc:Value)(env:Env)(cond:Sem Bool)
  (hc:(forIn (m:=Sem) ifs true fun c r=>if r=true then do let ok ←isTrue c env (eval c env);pure (ForInStep.yield ok) else pure (ForInStep.yield r))=cond) :
  compTurn (.ListComp elt [⟨target,iter,ifs,0⟩] scope pos) 0 it acc env=(standAt iter.pos >>= fun _=>pyNext it >>= fun r=>match r with
   | none=>pure (.done .next)
   | some v=>letOwnedTupleGo target it v >>= fun _=>assign target env v >>= fun _=>cond >>= fun ok=>
    if ok=true then((eval elt env >>= fun x=>call (.builtin "list.append") [acc,x] >>= fun _=>pure ()) >>= fun _=>
     again (.compLoop (.ListComp elt [⟨target,iter,ifs,0⟩] scope pos) 0 it acc env)) else again (.compLoop (.ListComp elt [⟨target,iter,ifs,0⟩] scope pos) 0 it acc env)):=by
 subst hc;rfl
section
variable {prog:Program}{w:World}{A:Around}{R:Result→Shared→Prop}{s:Shared}
theorem eP {elt target iter:Expr}{ifs:List Expr}{scope:Scope}{pos:Pos}{it acc:Value}{env:Env}{cond:Sem Bool}
  (hc:(forIn (m:=Sem) ifs true fun c r=>if r=true then do let ok ←isTrue c env (eval c env);pure (ForInStep.yield ok) else pure (ForInStep.yield r))=cond) (I:Nat→Shared→Prop)
  (turn:∀n s,I n s→wpAny (model prog w) A (pyNext it) (fun r s₁=>match r with
   | none=>R (.ok .next) s₁
   | some v=>wpAny (model prog w) A (letOwnedTupleGo target it v) (fun _ s₂=>wpAny (model prog w) A (assign target env v) (fun _ s₃=>wpAny (model prog w) A cond (fun ok s₄=>if ok=true then
     wpAny (model prog w) A (eval elt env) (fun x s₅=>wpAny (model prog w) A (call (.builtin "list.append") [acc,x]) (fun _ s₆=>∃m,m<n∧I m s₆) (fun _ _=>False) s₅) (fun _ _=>False) s₄
     else∃m,m<n∧I m s₄) (fun _ _=>False) s₃) (fun _ _=>False) s₂) (fun _ _=>False) s₁) (fun _ _=>False) s)
  (n:Nat) (h:I n s):codeAny (model prog w) A (.compLoop (.ListComp elt [⟨target,iter,ifs,0⟩] scope pos) 0 it acc env) R s:=by
 refine codeAny_loop rfl I (fun n s hI=>?_) n h;show wpAny _ _ ((compTurn (.ListComp elt [⟨target,iter,ifs,0⟩] scope pos) 0 it acc env).onRaise (fun x=>do noteFrame x env;theTreesLotGoes x)) _ _ s;refine wpAny_noted ?_;rw[mE _ _ _ _ _ _ _ _ _ _ hc];refine wpAny_bind (wpAny_standAt (wpAny_bind (wpAny_mono (turn n s hI) (fun r s₁ h₁=>?_) fun _ _ z=>z.elim)));cases r with
 | none=>exact wpAny_pure h₁
 | some v=>
  refine wpAny_bind (wpAny_mono h₁ (fun _ s₂ h₂=>?_) fun _ _ z=>z.elim);refine wpAny_bind (wpAny_mono h₂ (fun _ s₃ h₃=>?_) fun _ _ z=>z.elim);refine wpAny_bind (wpAny_mono h₃ (fun ok s₄ h₄=>?_) fun _ _ z=>z.elim);cases ok with
  | true=>
   rw[if_pos rfl] at h₄;rw[if_pos rfl];exact wpAny_bind (wpAny_bind (wpAny_mono h₄ (fun x s₅ h₅=>wpAny_bind (wpAny_mono h₅ (fun _ s₆ h₆=>wpAny_pure (wpAny_pure ⟨rfl,h₆⟩)) fun _ _ z=>z.elim)) fun _ _ z=>z.elim))
  | false=>
   rw[if_neg Bool.false_ne_true] at h₄;rw[if_neg Bool.false_ne_true];exact wpAny_pure ⟨rfl,h₄⟩
theorem nh {env:Env}:(forIn (m:=Sem) ([]:List Expr) true fun c r=>if r=true then do let ok ←isTrue c env (eval c env);pure (ForInStep.yield ok) else pure (ForInStep.yield r))=pure true:=rfl
theorem o9 {env:Env}{c:Expr}:(forIn (m:=Sem) [c] true fun c r=>if r=true then do let ok ←isTrue c env (eval c env);pure (ForInStep.yield ok) else pure (ForInStep.yield r))=isTrue c env (eval c env):=by
 rw[forIn_cons];simp
end
theorem uP {b a c:Nat}(h:b<a)(e:c=a+1):b≠c:=by omega
theorem sI {b a c:Nat}(h:b<c)(e:c=a):a≠b:=by omega
theorem lF {b a c:Nat}(h:b<c)(e:c=a):b≠a:=by omega
abbrev da (its:List Value)(n:Nat):Obj:={cls:=.type "list",data:=.seq its.toArray n}
section
variable {X:Cx}{aa:List (Addr×Obj)}{σ:L2.St}{s:Shared}{scope:Scope}{xs:List Str}{tg:Expr}{sg:GG}{R:List Str}{elt iter:Expr}{ifs:List Expr}{pos:Pos}{E:Value→Shared→Prop}
theorem uk {σ:L2.St}(h:ed K θ H σ ρ):ed K θ H (List.replicate n none++σ) (List.replicate n none++ρ):=by
 refine⟨by rw[length_append,length_append,length_replicate,length_replicate,h.len],fun i d e=>?_⟩
 by_cases hi:i<n
 ·rw[getElem?_append_left (by rw[length_replicate];exact hi),getElem?_replicate,if_pos hi] at e;cases e
 ·rw[getElem?_append_right (by rw[length_replicate];omega),length_replicate] at e ⊢;exact h.at_ _ d e
inductive De (X0:Cx) (fp:List Addr) (tn:Nat→Heap→Prop) (K:W.Frag) (acc:Addr) (t:jP) (ρ0:bF) (θ1:List Addr) (H2:Hp) (es:List D) (go:List D→aq→aN (List D)) (Mend:aq) (n:Nat) (s':Shared):Prop
 | mk (i:Nat) (τ:L2.St) (H':Hp) (θ':List Addr) (M':aq) (ds rest:List D) (vs:List V) (its:List Value) (na:Nat) (e1:n=t.ds.length-i) (e2:i≤t.ds.length)
   (e3:L2.Inv X0 [(acc,da its na)] τ H' s') (e4:ed K θ' H' τ ρ0) (e5:tn i s'.heap) (e6:∀b∈fp,H' b=none) (e7:Go K θ1 H2 θ' H' M') (e8:isDs K θ' H' ds vs) (e9:aC vs its) (e10:go (t.ds.drop i) M'=.ok rest Mend) (e11:ds++rest=es)
theorem nS {fp:List Addr}{it:Addr}{tn:Nat→Heap→Prop}{J:It}{H2:Hp}{s2:Shared}{t:jP}{M1:aq}{θ1:List Addr}{gc:GT}{ge:GE}{es:List D}{Mend:aq}{RR:Value→Addr→Result→Shared→Prop}
  (S:bN scope X.env.kindOf xs R X.N) (hc:X.calm=true) (I2:L2.Inv X aa σ H2 s2) (T:sR X.prog X.w X.K tg J fp it tn) (st2:tn 0 s2.heap) (f2:∀b∈fp,eV X aa H2 b)
  (hw1:Wr X.K θ1 H2 M1) (hd1:ed X.K θ1 H2 σ ρ) (hJ:wN X.K J θ1 H2 t) (hgo:aI t xs.length sg gc ge t.ds ρ M1=.ok es Mend) (hlen:es.length≤sizeLine)
  (hcd:∀C,∃cond,(forIn (m:=Sem) ifs true fun c r=>if r=true then do let ok ←isTrue c (ay X scope xs R fp s2 H2 C).env (eval c (ay X scope xs R fp s2 H2 C).env);pure (ForInStep.yield ok) else pure (ForInStep.yield r))=cond∧
   ∀(aa:List (Addr×Obj)) (s:Shared) (σ:L2.St) (H:Hp) (Q:Bool→Hp→Prop),L2.Inv (ay X scope xs R fp s2 H2 C) aa σ H s→tT (ay X scope xs R fp s2 H2 C) gc σ H Q→wpAny (model X.prog X.w) X.A cond (TP (ay X scope xs R fp s2 H2 C) aa σ Q) (fun _ _=>False) s)
  (own:rq xs.length sg) (hg:∀C,PG (ay X scope xs R fp s2 H2 C) tg (tG (ay X scope xs R fp s2 H2 C) sg))
  (he:∀C,PE (ay X scope xs R fp s2 H2 C) elt (tE (ay X scope xs R fp s2 H2 C) ge))
  (fin:∀(acc C:Addr) (s':Shared) (H':Hp) (θ':List Addr) (vs:List V) (m:Str→Option Value),L2.Inv X aa σ (bi H' acc (.lst vs)) s'→s'.heap.Ns C m→eV X aa (bi H' acc (.lst vs)) C→Go X.K θ1 H2 θ' H' Mend→H' acc=none→isDs X.K θ' H' es vs→RR (.ref acc) C (.ok .next) s') :
  wpAny (model X.prog X.w) X.A (newList []) (fun acc s₃=>wpAny (model X.prog X.w) X.A (newFunctionEnv scope X.env.globals (bT X.env.cells scope.names []) [] X.env.qual none .none (some X.env)) (fun cenv s₄=>
   codeAny (model X.prog X.w) X.A (.compStart (.ListComp elt [⟨tg,iter,ifs,0⟩] scope pos) 0 (.ref it) acc {cenv with scope:=relabel scope X.env}) (RR acc cenv.locals) s₄) E s₃) E s2:=by
 refine wpAny_newObj_type (wpAny_newFunctionEnv S.nocell (by intro y hy;simp at hy) (fun h₁ hns₁ hsb₁=>?_) S.kind);dsimp only at hns₁ hsb₁ ⊢;generalize hHp:s2.heap.push {cls:=.type "list",dict:=none,data:=.seq ([]:List Value).toArray}=Hp2 at hns₁ hsb₁ ⊢;have hCe:Hp2.objs.size=s2.heap.objs.size+1:=by rw[←hHp,Heap.size_push]
 generalize hCd:Hp2.objs.size=C at hns₁ hsb₁ hCe ⊢;generalize hAd:s2.heap.objs.size=acc at hCe ⊢;have hDC:acc≠C:=by rw[hCe];exact Nat.ne_of_lt (Nat.lt_succ_self _)
 have old:∀b o,s2.heap.get? b=some o→h₁.get? b=some o:=fun b o e=>by
  have hb:b<acc:=by rw[←hAd];exact Heap.lt_size e
  refine hsb₁.extBut b o (uP hb hCe) (Heap.get?_push_of_some _ ?_);rw[←hHp];exact Heap.get?_push_of_some _ e
 have hacc0:h₁.get? acc=some (da [] 0):=by
  refine hsb₁.extBut acc _ hDC (Heap.get?_push_of_some _ ?_);rw[←hHp,←hAd];exact Heap.get?_push_size _ rfl
 have hfl:∀b∈fp,b<s2.heap.objs.size:=fun b hb=>by
  obtain⟨o,e,_⟩:=T.obj 0 _ st2 b hb;exact Heap.lt_size e
 have hCs:s2.heap.objs.size≤C:=by omega
 have IY0:L2.Inv (ay X scope xs R fp s2 H2 C) [] (List.replicate xs.length none++σ) H2 {s2 with heap:=h₁,toks:=s2.toks+([]:List (Str×Value)).length}:=sB S I2 hCs old hns₁ f2 hfl;obtain⟨cond,hcond,hct⟩:=hcd C;have fpY:∀{H':Hp} {p:Obj},(∀b∈fp,H' b=none)→∀b∈fp,eV (ay X scope xs R fp s2 H2 C) [(acc,p)] H' b:=fun {H' p} hn b hb=>by
  refine⟨hn b hb,?_,fun z=>?_,.inl hb,fun y c e=>?_,fun q hq=>?_⟩
  ·exact Nat.ne_of_lt (Nat.lt_of_lt_of_le (hfl b hb) hCs)
  ·rcases mem_cons.mp (I2.stkSub b z) with e|e
   ·exact(f2 b hb).2.1 e
   ·exact(f2 b hb).2.2.1 e
  ·exact(f2 b hb).2.2.2.2.1 y c (bu S I2 e)
  ·have hq:q∈([]:List (Addr×Obj))++[(acc,p)]:=hq;have e:q=(acc,p):=by simpa using hq
   rw[e];exact sI (hfl b hb) hAd
 have accF:∀b∈iW X.stack,acc≠b:=fun b hb e=>by
  have:acc∉X.env.locals::X.fs:=by
   intro z;rcases mem_cons.mp z with z|z
   ·exact sI I2.lt hAd z
   ·exact I2.nofs (Nat.le_of_eq hAd) z
  exact this (e▸I2.stkSub b hb)
 have loop:∀s₃:Shared,s₃={s2 with heap:=h₁,toks:=s2.toks+([]:List (Str×Value)).length}→
   codeAny (model X.prog X.w) X.A (.compLoop (.ListComp elt [⟨tg,iter,ifs,0⟩] scope pos) 0 (.ref it) (.ref acc) (ay X scope xs R fp s2 H2 C).env) (RR (.ref acc) C) s₃:=by
  rintro s₃ rfl;have pin0:∀{σ':L2.St} {H':Hp} {s':Shared} {its:List Value} {n:Nat},L2.Inv (ay X scope xs R fp s2 H2 C) [] σ' H' s'→s'.heap.get? acc=some (da its n)→H' acc=none→L2.Inv (ay X scope xs R fp s2 H2 C) [(acc,da its n)] σ' H' s':=fun {σ' H' s' its n} I' e hn=>
   I'.pins_of fun p hp=>by
    have ep:p=(acc,da its n):=by simpa using hp
    subst ep;exact⟨e,hn,hDC,fun z=>accF acc z rfl,fun v z=>by cases z⟩
  refine eP hcond (De (ay X scope xs R fp s2 H2 C) fp tn X.K acc t (List.replicate xs.length none++ρ) θ1 H2 es (fun l N=>aI t xs.length sg gc ge l ρ N) Mend) ?_ t.ds.length
   ⟨0,_,H2,θ1,M1,[],es,[],[],0,rfl,Nat.zero_le _,pin0 IY0 hacc0 (I2.hok.fresh (Nat.le_of_eq hAd)),uk hd1,T.keep 0 _ _ st2 (fun b hb o e=>old b o e),fun b hb=>(f2 b hb).1,.refl hw1,rfl,.nil,hgo,rfl⟩
  rintro n s' ⟨i,τ,H',θ',M',ds,rest,vs,its,na,rfl,hil,I',dn',st',fr',g',rd',rv',hrest,hes⟩;have hok:t.ok M'=true:=by
   cases hq:t.ok M' with
   | true=>rfl
   | false=>
    exfalso;cases hdr:t.ds.drop i with
    | nil=>rw[hdr,aI,if_neg (by rw[hq];exact Bool.false_ne_true)] at hrest;cases hrest
    | cons d r=>rw[hdr,aI,if_neg (by rw[hq];exact Bool.false_ne_true)] at hrest;cases hrest
  obtain⟨hy,hst⟩:=hJ θ' H' M' g' hok i
  by_cases hlt:i<t.ds.length
  ·have e1:t.ds[i]?=some t.ds[i]:=getElem?_eq_getElem hlt;obtain⟨hgo',hyl⟩:=hy _ e1;rw[drop_eq_getElem_cons hlt,aI,if_pos hok] at hrest;refine b8 (T.item (ay X scope xs R fp s2 H2 C) rfl rfl rfl hc i _ s' _ H' _ I' (fpY fr') st' hgo') fun r s4 hxx=>?_
   obtain⟨u,hr,h4⟩:=hxx;subst hr;refine b8 h4 fun _ s5 hxx=>?_
   obtain⟨v,H5,I5,r5,y5,st5,fr5⟩:=hxx;obtain⟨gy,rx⟩:=hyl v H5 y5;have I5':=I5.pinned (fpY fr5) (T.obj _ _ st5);cases qs:sg t.ds[i] (List.replicate xs.length none++ρ) with
   | none=>rw[qs] at hrest;cases hrest
   | some ρ1=>
   rw[qs] at hrest;dsimp only at hrest;refine b8 (hg C _ s5 _ H5 v u (fun σ6 H6=>ed X.K θ' H6 σ6 ρ1∧H6=H5) I5' r5 ⟨_,θ',M',t.ds[i],dn'.go gy,gy.wr,rx,ρ1,qs,fun σ6 d6=>⟨d6,rfl⟩⟩) fun _ s6 hxx=>?_
   obtain⟨σ6,H6,I6,hdY,eH6⟩:=hxx;subst eH6;cases qc:gc ρ1 M' with
   | bad=>rw[qc] at hrest;cases hrest
   | err c Mx=>rw[qc] at hrest;cases hrest
   | ok b Mb=>
    refine b8 (hct _ s6 _ H6 (fun b' H7=>b'=b∧∃θ7,Go X.K θ' H6 θ7 H7 Mb) I6 ⟨_,θ',M',hdY,gy.wr,?_⟩) fun ok s7 ⟨H7,I7,eb,θ7,g7⟩=>?_
    ·rw[qc];exact fun θ7 H7 g7=>⟨rfl,θ7,g7⟩
    subst eb;have fpk:∀{s8:Shared} {σ8:L2.St} {H8:Hp},L2.Inv (ay X scope xs R fp s2 H2 C) ([(acc,da its na)]++i3 fp s5.heap) σ8 H8 s8→(∀b∈fp,H8 b=none)∧(∀b∈fp,∀o,s5.heap.get? b=some o→s8.heap.get? b=some o)∧s8.heap.get? acc=some (da its na)∧H8 acc=none:=fun {s8 σ8 H8} I8=>by
     have pa:=I8.pin (acc,da its na) (mem_append_right _ (mem_append_left _ (by simp)));refine⟨fun b hb=>?_,fun b hb o e=>(I8.pin (b,o) (mem_append_right _ (mem_append_right _ (dY hb e)))).1,pa.1,pa.2.1⟩;obtain⟨o,e,d⟩:=T.obj _ _ st5 b hb;exact(I8.pin (b,o) (mem_append_right _ (mem_append_right _ (dY hb e)))).2.1
    cases ok with
    | false=>
     rw[if_neg Bool.false_ne_true];rw[qc] at hrest;obtain⟨k1,k2,k3,k4⟩:=fpk I7;exact⟨t.ds.length-(i+1),by omega,i+1,σ6,H7,θ7,Mb,ds,rest,vs,its,na,rfl,hlt,I7.unpinned,own.back qs (hdY.go g7),T.keep _ _ _ st5 k2,k1,g'.trans (gy.trans g7),rd'.go (gy.trans g7),rv',hrest,hes⟩
    | true=>
     rw[if_pos rfl];rw[qc] at hrest;have hrest:(match ge ρ1 Mb with
      | .ok e M2=>(aI t xs.length sg gc ge (t.ds.drop (i+1)) ρ M2).bind fun es M3=>.ok (e::es) M3
      | _=>.bad)=aN.ok rest Mend:=hrest
     cases qe:ge ρ1 Mb with
     | bad=>rw[qe] at hrest;cases hrest
     | err c Mx=>rw[qe] at hrest;cases hrest
     | ok dv Mv=>
      rw[qe] at hrest;have hrest:((aI t xs.length sg gc ge (t.ds.drop (i+1)) ρ Mv).bind fun es M3=>aN.ok (dv::es) M3)=aN.ok rest Mend:=hrest;refine b8 (he C _ s7 _ H7 (fun w H8=>∃θ8,Go X.K θ7 H7 θ8 H8 Mv∧isD X.K θ8 H8 dv w) I7 ⟨_,θ7,Mb,hdY.go g7,g7.wr,?_⟩) fun uv s8 ⟨w,H8,I8,rw8,θ8,g8,rd8⟩=>?_
      ·rw[qe];exact fun w θ8 H8 g8 rd8=>⟨θ8,g8,rd8⟩
      obtain⟨k1,k2,k3,k4⟩:=fpk I8;cases qr:aI t xs.length sg gc ge (t.ds.drop (i+1)) ρ Mv with
      | bad=>rw[qr] at hrest;cases hrest
      | err c Mx=>rw[qr] at hrest;cases hrest
      | ok rest' Mr=>
       rw[qr] at hrest;have hrest:aN.ok (dv::rest') Mr=aN.ok rest Mend:=hrest;cases hrest;have hsz:its.length<sizeLine:=by
        have e2:(ds++dv::rest').length≤sizeLine:=by rw[hes];exact hlen
        rw[length_append,length_cons,ak rd',rv'.length] at e2;omega
       refine call_meets F.slot_list_append ⟨_,k3,rfl⟩ F.entry_list_append (F.args_list_append_2 _ _) (PySem.list_append acc its.toArray na uv (by rw[size_toArray];omega)) ⟨k3,?_⟩;have qup:=PySem.IsL.update k3 (fun a=>a.push uv);have eup:(its.toArray.push uv)=(its++[uv]).toArray:=by simp
       have keepb:∀b o,b≠acc→s8.heap.get? b=some o→(s8.heap.update acc (Obj.mapSeq fun a=>a.push uv)).get? b=some o:=fun b o hb e=>(Heap.get?_update_other s8.heap _ (Ne.symm hb)).trans e
       have I9:L2.Inv (ay X scope xs R fp s2 H2 C) [] σ6 H8 {s8 with heap:=s8.heap.update acc (Obj.mapSeq fun a=>a.push uv),toks:=s8.toks}:=by
        refine Inv.turned (it:=acc) (I8.pins_of (pins':=[]) fun p hp=>absurd hp (by simp)) keepb k4 hDC (.inr (Nat.le_of_eq hAd)) (fun y c e z=>?_) fun p hp=>absurd (show p∈([]:List (Addr×Obj)) from hp) (by simp)
        obtain⟨v',o,ho,hdd⟩:=I2.cell y c (bu S I2 e);exact lF (Heap.lt_size ho) hAd z
       obtain⟨n',eq'⟩:∃n',(s8.heap.update acc (Obj.mapSeq fun a=>a.push uv)).get? acc=some (da (its++[uv]) n'):=by
        have q2:=qup;rw[eup] at q2;exact⟨_,q2⟩
       exact⟨t.ds.length-(i+1),by omega,i+1,σ6,H8,θ8,Mv,ds++[dv],rest',vs++[w],its++[uv],n',rfl,hlt,pin0 I9 eq' k4,own.back qs (hdY.go (g7.trans g8)),T.keep _ _ _ st5 (fun b hb o e=>keepb b o (lF (hfl b hb) hAd) (k2 b hb o e)),k1,g'.trans (gy.trans (g7.trans g8)),bZ (rd'.go (gy.trans (g7.trans g8))) ⟨w,[],rfl,rd8,rfl⟩,rv'.append (.cons rw8 .nil),qr,by rw[←hes];simp⟩
  ·have e:i=t.ds.length:=by omega
   subst e;rw[drop_length,aI,if_pos hok] at hrest;cases hrest;have hes:ds=es:=by rw[←hes];simp
   subst hes;refine b8 (T.done (ay X scope xs R fp s2 H2 C) rfl rfl rfl hc _ _ s' _ H' _ I' (fpY fr') st' (hst (Nat.le_refl _))) fun r s4 hxx=>?_
   obtain⟨hr,I4⟩:=hxx;subst hr;have pa:=I4.pin (acc,da its na) (mem_append_right _ (by simp));have e4:s4.heap.get? acc=some (da its na):=pa.1;have n4:H' acc=none:=pa.2.1;have lv:vs.length≤sizeLine:=by rw[←ak rd'];exact hlen
   obtain⟨mC,hnC,_⟩:=I4.loc;have hHC:H' C=none:=I4.free;have qD:Un (iW X.stack) fp H2 H' s2.heap s4.heap:=I4.base;have neA:∀{b:Addr} {o:Obj},s2.heap.get? b=some o→b≠acc:=fun {b o} e=>lF (Heap.lt_size e) hAd
   have neH:∀{b:Addr} {u:HO},H' b=some u→b≠acc:=fun {b u} e z=>by rw[z,n4] at e;cases e
   have un4:Un (iW X.stack) fp H2 (bi H' acc (.lst vs)) s2.heap s4.heap:=by
    refine⟨qD.keep,qD.slot,fun b o e n hx=>?_,qD.there,fun b xs e=>?_,fun b o u e=>?_,fun b ps e=>?_⟩
    ·rw[aj (neA e)];exact qD.free b o e n hx
    ·have z:=qD.tups b xs e;rw[aj (neH z)];exact z
    ·have z:=qD.frzs b o u e;rw[aj (neH z)];exact z
    ·obtain⟨more,z⟩:=qD.tbls b ps e;exact⟨more,by rw[aj (neH z)];exact z⟩
   have hok4:fB X.prog X.w (bi H' acc (.lst vs)) s4.heap:=fun b u e=>by
    by_cases hb:b=acc
    ·subst hb;rw[aT] at e;cases e;exact⟨lv,its,na,rv',e4⟩
    ·rw[aj hb] at e;exact(I4.hok b u e).stay (fun c v _ q=>q) (fun c q=>by rw[aj (neH q)];exact q) fun c xs q=>by rw[aj (neH q)];exact q
   have IX:L2.Inv X aa σ (bi H' acc (.lst vs)) s4:=I2.call' (ch:=fp) I4.os un4 hok4 I4.bare fun b hb=>⟨(f2 b hb).2.2.2.1,(f2 b hb).2.1,(f2 b hb).2.2.2.2.1,(f2 b hb).2.2.2.2.2⟩
   refine fin acc C s4 H' θ' vs mC IX hnC (I2.fpOk hCs ?_) g' n4 rd';rw[aj (Ne.symm hDC)];exact hHC
 exact codeAny_compStart_list (loop _ rfl) (T.self _ 0 _ _ _ (T.keep 0 _ _ st2 fun b hb o e=>old b o e) (loop _ rfl))
end
variable{mk:List D→aq→aN D}
section
variable {X:Cx}{scope:Scope}{xs:List Str}{tg:Expr}{sg:GG}{x:Str}{px:Pos}{R:List Str}{elt iter:Expr}{ifs:List Expr}{pos:Pos}{gi:GI}{gc:GT}{ge:GE}
def yt (mk:List D→aq→aN D):Prop:=∀(X:Cx) (θ:List Addr) (H:Hp) (Q:VK) (ds:List D) (M:aq) (vs:List V),aA X θ H Q (mk ds M)→Wr X.K θ H M→isDs X.K θ H ds vs→vs.length≤sizeLine∧∀p,H p=none→Q (.ref p) (bi H p (.lst vs))
theorem rB:yt aW:=fun X θ H Q ds M vs h hw r=>aA.lst h hw r
theorem rE:yt dk:=fun X θ H Q ds M vs h hw r=>aA.mut h hw r
theorem yC (hm:mk=aW∨mk=dk){X:Cx}{Q:VK}(h:aA X θ H Q (mk ds M)):ds.length≤sizeLine:=by
 rcases hm with e|e <;> subst e
 ·unfold aW at h;split at h
  ·assumption
  ·exact h.elim
 ·unfold dk at h;split at h
  ·assumption
  ·exact h.elim
theorem Bm (hm:mk=aW∨mk=dk):yt mk:=by
 rcases hm with e|e <;> subst e
 ·exact rB
 ·exact rE
def fX (X:Cx)(scope:Scope)(xs:List Str)(R:List Str)(ifs:List Expr)(gc:GT):Prop:=∀fp s2 H2 C,∃cond,(forIn (m:=Sem) ifs true fun c r=>if r=true then do let ok ←isTrue c (ay X scope xs R fp s2 H2 C).env (eval c (ay X scope xs R fp s2 H2 C).env);pure (ForInStep.yield ok) else pure (ForInStep.yield r))=cond∧
   ∀(aa:List (Addr×Obj)) (s:Shared) (σ:L2.St) (H:Hp) (Q:Bool→Hp→Prop),L2.Inv (ay X scope xs R fp s2 H2 C) aa σ H s→tT (ay X scope xs R fp s2 H2 C) gc σ H Q→wpAny (model X.prog X.w) X.A cond (TP (ay X scope xs R fp s2 H2 C) aa σ Q) (fun _ _=>False) s
theorem rH:fX X scope xs R [] lC:=fun fp s2 H2 C=>⟨_,nh,fun aa s σ H Q I ⟨ρ,θ,M,hd,hw,h⟩=>wpAny_pure ⟨H,I,h θ H (.refl hw)⟩⟩
theorem tL {c:Expr}(h:∀fp s2 H2 C,PT (ay X scope xs R fp s2 H2 C) c (tT (ay X scope xs R fp s2 H2 C) gc)):fX X scope xs R [c] gc:=fun fp s2 H2 C=>⟨_,o9,fun aa s σ H Q I q=>h fp s2 H2 C aa s σ H Q I q⟩
theorem fO {t:jP}{n:Nat}{sg:GG}{gc:GT}{ge:GE}{ρ:bF}{c:Str}{M':aq}:∀(ds:List D) (M:aq),aI t n sg gc ge ds ρ M=.err c M'→False
 | [],M,h=>by
  unfold aI at h;split at h <;> cases h
 | d::r,M,h=>by
  unfold aI at h;split at h
  ·split at h
   ·cases h
   ·split at h
    ·rename_i M1 q1;split at h
     ·rename_i e M2 q2;cases q:aI t n sg gc ge r ρ M2 with
      | ok es M3=>rw[q] at h;cases h
      | err c2 M3=>exact fO r M2 q
      | bad=>rw[q] at h;cases h
     ·cases h
    ·rename_i M1 q1;exact fO r M1 h
    ·cases h
  ·cases h
theorem tJ (hS:dR scope X.env.kindOf xs R X.N=true)(hc:X.calm=true)(hm:mk=aW∨mk=dk)(hi:PI X tg iter (tI X gi))(own:rq xs.length sg)(hg:∀fp s H C,PG (ay X scope xs R fp s H C) tg (tG (ay X scope xs R fp s H C) sg))(hts:fX X scope xs R ifs gc)
  (he:∀fp s H C,PE (ay X scope xs R fp s H C) elt (tE (ay X scope xs R fp s H C) ge))
  (hs:∀x,foldedSetIterable iter X.env x=pure x:=by intro _;rfl):PE X (.ListComp elt [⟨tg,iter,ifs,0⟩] scope pos) (tE X (gP gi xs.length sg gc ge mk)):=by
 have S:=bN.of hS;intro aa s σ H Q I h;obtain⟨ρ,θ,M,hd,hw,h⟩:=h;rw[eval_ListComp];refine wpAny_comprehension_free (use:=none) rfl hs (kP (S.cells I)) S.kind S.lnames ?_;refine b8 (hi aa s σ H (fun J H2=>∃t M1 θ1,gi ρ M=.ok t M1∧Go X.K θ H θ1 H2 M1∧wN X.K J θ1 H2 t) I ⟨ρ,θ,M,hd,hw,?_⟩) fun v s1 h1=>b8 h1 fun itv s2 h2=>?_
 ·cases q:gi ρ M with
  | ok t M1=>exact fun J θ1 H1 g1 hJ=>⟨t,M1,θ1,rfl,g1,hJ⟩
  | err c M1=>unfold gP at h;rw[q] at h;exact h
  | bad=>unfold gP at h;rw[q] at h;exact h
 obtain⟨it,fp,tn,J,H2,rfl,I2,T,st2,f2,t,M1,θ1,eg,g1,hJ⟩:=h2;unfold gP at h;rw[eg] at h;have h:aA X θ H Q ((aI t xs.length sg gc ge t.ds ρ M1).bind mk):=h;cases q:aI t xs.length sg gc ge t.ds ρ M1 with
 | bad=>rw[q] at h;exact h.elim
 | err c Mx=>exact(fO _ _ q).elim
 | ok es Mend=>
  rw[q] at h;have h:aA X θ H Q (mk es Mend):=h;refine nS (RR:=fun acc C=>compPost (model X.prog X.w) X.A X.xe none (EP X aa σ Q) acc C) S hc I2 T st2 f2 g1.wr (hd.go g1) hJ q (yC hm h) (fun C=>hts fp s2 H2 C) own (fun C=>hg fp s2 H2 C) (fun C=>he fp s2 H2 C) ?_;intro acc C s' H' θ' vs m IX hnC fC g' na rd;refine⟨m,hnC,fun h' sb=>?_⟩;have I3:L2.Inv X aa σ (bi H' acc (.lst vs)) {s' with heap:=h',toks:=s'.toks}:=IX.turned (it:=C) (fun b o hb e=>(sb.2 b hb).trans e) fC.1 fC.2.1 fC.2.2.2.1 fC.2.2.2.2.1 fC.2.2.2.2.2;exact⟨.ref acc,_,I3,rfl,(Bm hm X θ' H' Q es Mend vs (aA.go (g1.trans g') h) g'.wr rd).2 acc na⟩
theorem vS {px:Pos}(hS:dR scope X.env.kindOf [x] R X.N=true)(fp:List Addr)(s:Shared)(H:Hp)(C:Addr):PG (ay X scope [x] R fp s H C) (.Name x px) (tG (ay X scope [x] R fp s H C) (dA 0)):=
 have S:=bN.of hS
 oJ (X:=ay X scope [x] R fp s H C) S.nd rfl (.inl (lookup_relabel_local (S.own x (by simp)))) (.inr (lookup_relabel_local (S.own x (by simp))))
theorem wc (mk:List D→aq→aN D):bS gi gc ge mk=gP gi 1 (dA 0) gc ge mk:=by
 funext ρ M;unfold bS gP;simp only[mS]
theorem vV (hS:dR scope X.env.kindOf [x] R X.N=true)(hc:X.calm=true)(hm:mk=aW∨mk=dk)(hi:PI X (.Name x px) iter (tI X gi))(hts:fX X scope [x] R ifs gc)
  (he:∀fp s H C,PE (ay X scope [x] R fp s H C) elt (tE (ay X scope [x] R fp s H C) ge))
  (hs:∀x,foldedSetIterable iter X.env x=pure x:=by intro _;rfl):PE X (.ListComp elt [⟨.Name x px,iter,ifs,0⟩] scope pos) (tE X (bS gi gc ge mk)):=by
 rw[wc];exact tJ (xs:=[x]) hS hc hm hi (ul (Nat.zero_lt_one)) (vS hS) hts he hs
end
def cR:D→Bool
 | .non=>true
 | .bl _=>true
 | .int _=>true
 | .str _=>true
 | _=>false
def wG:D→V
 | .non=>.non
 | .bl b=>.bl b
 | .int i=>.int i
 | .str x=>.str x
 | _=>.non
theorem lV (r:isD K θ H d v)(f:cR d=true):v=wG d∧dH v=true:=by
 cases d with
 | non=>have e:v=.non:=r;subst e;exact⟨rfl,rfl⟩
 | bl b=>have e:v=.bl b:=r;subst e;exact⟨rfl,rfl⟩
 | int b=>have e:v=.int b:=r;subst e;exact⟨rfl,rfl⟩
 | str b=>have e:v=.str b:=r;subst e;exact⟨rfl,rfl⟩
 | _=>cases f
theorem i8 {K:W.Frag}{θ:List Addr}{H:Hp}:∀{ds:List D} {vs:List V},isDs K θ H ds vs→ds.all cR=true→vs=ds.map wG∧vs.all dH=true
 | [],vs,r,f=>by have e:vs=[]:=r;subst e;exact⟨rfl,rfl⟩
 | d::ds,vs,r,f=>by
  obtain⟨v,rr,e,h1,h2⟩:=r;subst e;rw[all_cons,Bool.and_eq_true] at f;obtain⟨e1,f1⟩:=lV h1 f.1;obtain⟨e2,f2⟩:=i8 h2 f.2;exact⟨by rw[map_cons,←e1,←e2],by rw[all_cons,f1,f2];rfl⟩
theorem oh {x y:D}(fx:cR x=true)(fy:cR y=true):oj (wG x) (wG y)=iu x y:=by
 cases x <;> first|exact ff fx|(cases y <;> first|exact ff fy|rfl)
section
variable {X:Cx}
def qw (k:Nat)(x:D)(M:aq):aN D:=match M[k]? with
 | some (.lst xs)=>if xs.length<sizeLine then .ok .non (M.set k (.lst (xs++[x]))) else .bad
 | _=>.bad
def fK (go ge:GE):GE:=fun ρ M=>(go ρ M).bind fun o M1=>match o with
 | .mr k=>match M1[k]? with
  | some (.lst _)=>(ge ρ M1).bind (qw k)
  | _=>.bad
 | _=>.bad
theorem pR {o:Expr}{go ge:GE}{apos cpos:Pos}(ho:PE X o (tE X go))(he:PE X e (tE X ge))
  (hbase:attributeBase o "append" X.env (eval o X.env)=eval o X.env:=by rfl)
  (hfew:((backTo cpos (starEach [e] X.env)).all (fun x=>!x.1)&&(backToKw cpos (keywordEach [] X.env)).all (fun x=>x.1.isSome)
   && decide ([e].length+([]:List Keyword).length+(if([]:List Keyword).isEmpty then 0 else 1)<30))=true:=by rfl)
  (hline:(apos.endLine==cpos.line)=true:=by rfl) (hs:starEach [e] X.env=(false,eval e X.env)::starEach [] X.env:=by rfl) (hplain:(backTo cpos (starEach [] X.env)).any (·.1)=false:=by rfl) :
  PE X (.Call (.Attribute o "append" apos) [e] [] cpos) (tE X (fK go ge)):=
 (rg PySem.F.plainAttrs_list PySem.F.slot_list_append PySem.F.type_list_append pE ho (cE he fD hs) hbase hfew hline hs hplain).of fun σ H Q hxx=>by
  obtain⟨ρ,θ,M,hd,hw,h⟩:=hxx;refine bp hd hw (aA X θ H Q) (fun c M' h=>h) (fun h=>h) h fun d M1 v θ1 H1 g1 r1 h1=>?_
  have h2:=aA.go g1 h1;cases d with
  | mr k=>
   have h2:aA X θ1 H1 Q (match M1[k]? with|some (.lst _)=>(ge ρ M1).bind (qw k)|_=>.bad):=h2;cases qm1:M1[k]? with
   | none=>rw[qm1] at h2;exact h2.elim
   | some m1=>
    cases m1 with
    | obj _ _=>rw[qm1] at h2;exact h2.elim
    | dK _=>rw[qm1] at h2;exact h2.elim
    | dT _=>rw[qm1] at h2;exact h2.elim
    | lst ys1=>
     rw[qm1] at h2;obtain⟨a1,ea1,ta1⟩:=id r1;obtain⟨vs1,hv1,_⟩:=g1.wr.at_ k a1 _ ta1 qm1;refine⟨by rw[ea1];exact .inl ⟨rfl,vs1,.inl (.inl hv1)⟩,?_⟩;refine bp (hd.go g1) g1.wr (aA X θ1 H1 Q) (fun c M' h=>h) (fun h=>h) h2 fun dx M2 vx θ2 H2 g2 r2 h3=>?_
     have h3:aA X θ1 H1 Q (match M2[k]? with|some (.lst xs)=>if xs.length<sizeLine then .ok .non (M2.set k (.lst (xs++[dx]))) else .bad|_=>.bad):=h3;obtain⟨a,ea,ta⟩:=r1.go g2;cases qm:M2[k]? with
     | none=>rw[qm] at h3;exact h3.elim
     | some m=>
      cases m with
      | obj _ _=>rw[qm] at h3;exact h3.elim
      | dK _=>rw[qm] at h3;exact h3.elim
      | dT _=>rw[qm] at h3;exact h3.elim
      | lst ys=>
       rw[qm] at h3;obtain⟨vs,hv,ra⟩:=g2.wr.at_ k a _ ta qm;have h3:aA X θ1 H1 Q (if ys.length<sizeLine then .ok .non (M2.set k (.lst (ys++[dx]))) else .bad):=h3;split at h3
       ·rename_i hl;have gs:=rR (ds:=ys) g2.wr ta (bZ ra (show isDs X.K θ2 H2 [dx] [vx] from⟨vx,[],rfl,r2,rfl⟩));exact⟨a,vs,vx,ea,rfl,hv,by rw[←ak ra];exact hl,h3 _ θ2 _ (g2.trans gs) rfl⟩
       ·exact h3.elim
  | _=>exact h2.elim
end
def aG (f:D→Option D):List D→Option (List D)
 | []=>some []
 | d::ds=>match f d,aG f ds with
  | some x,some xs=>some (x::xs)
  | _,_=>none
def frz (n:Nat)(M:aq):Nat→D→Option D
 | 0,_=>none
 | f+1,d=>match d with
  | .mr k=>if k<n then some (.mr k) else match M[k]? with
   | some (.lst xs)=>(aG (frz n M f) xs).map .lst
   | _=>none
  | .tup xs=>(aG (frz n M f) xs).map .tup
  | .lst xs=>(aG (frz n M f) xs).map .lst
  | .ro xs=>(aG (frz n M f) xs).map .ro
  | d=>some d
def ma (f:D→Option D):List (Str×D)→Option (List (Str×D))
 | []=>some []
 | (x,d)::r=>match f d,ma f r with
  | some e,some r'=>some ((x,e)::r')
  | _,_=>none
def jW {κ:Type}(f:D→Option D):List (κ×D)→Option (List (κ×D))
 | []=>some []
 | (x,d)::r=>match f d,jW f r with
  | some e,some r'=>some ((x,e)::r')
  | _,_=>none
def cL (n:Nat)(M:aq):List MO→Option (List MO)
 | []=>some []
 | .lst xs::r=>match aG (frz n M 30) xs,cL n M r with
  | some ys,some r'=>some (.lst ys::r')
  | _,_=>none
 | .obj c fs::r=>match ma (frz n M 30) fs,cL n M r with
  | some gs,some r'=>some (.obj c gs::r')
  | _,_=>none
 | .dK fs::r=>match jW (frz n M 30) fs,cL n M r with
  | some gs,some r'=>some (.dK gs::r')
  | _,_=>none
 | .dT fs::r=>match jW (frz n M 30) fs,cL n M r with
  | some gs,some r'=>some (.dT gs::r')
  | _,_=>none
def d9 (n:Nat)(o:aN D):aN D:=match o with
 | .ok d M=>if M.length=n then .ok d M else match frz n M 30 d,cL n M (M.take n) with
  | some d',some M'=>.ok d' M'
  | _,_=>.bad
 | .err c M=>if M.length=n then .err c M else match cL n M (M.take n) with
  | some M'=>.err c M'
  | none=>.bad
 | .bad=>.bad
section
variable {K:W.Frag}{θ more:List Addr}{H:Hp}{M:aq}{n:Nat}
theorem cM {f:D→Option D}{θ':List Addr}:∀{ds es:List D} {vs:List V},aG f ds=some es→isDs K θ' H ds vs→(∀d∈ds,∀e v,f d=some e→isD K θ' H d v→isD K θ H e v)→isDs K θ H es vs
 | [],es,vs,h,r,k=>by cases h;exact r
 | d::ds,es,vs,h,r,k=>by
  obtain⟨v,rr,e,h1,h2⟩:=r;unfold aG at h;cases q1:f d with
  | none=>rw[q1] at h;cases h
  | some x=>
   cases q2:aG f ds with
   | none=>rw[q1,q2] at h;cases h
   | some xs=>
    rw[q1,q2] at h;cases h;exact⟨v,rr,e,k d mem_cons_self x v q1 h1,cM q2 h2 fun d' hd=>k d' (mem_cons_of_mem _ hd)⟩
theorem hO (hw:Wr K (θ++more) H M)(hn:θ.length=n):∀(f:Nat) (d e:D) (v:V),frz n M f d=some e→isD K (θ++more) H d v→isD K θ H e v
 | 0,d,e,v,h,r=>by cases h
 | f+1,d,e,v,h,r=>by
  have ih:=hO hw hn f;have sub:∀{a:Addr},a∉θ++more→a∉θ:=fun {a} z y=>z (mem_append_left _ y)
  cases d with
  | mr k=>
   obtain⟨a,ea,ta⟩:=r
   by_cases hk:k<n
   ·have h:(if k<n then some (D.mr k) else _)=some e:=h;rw[if_pos hk] at h;cases h;exact⟨a,ea,by rw[getElem?_append_left (by rw[hn];exact hk)] at ta;exact ta⟩
   ·have h:(if k<n then some (D.mr k) else match M[k]? with|some (.lst xs)=>(aG (frz n M f) xs).map .lst|_=>none)=some e:=h;rw[if_neg hk] at h;cases qm:M[k]? with
    | none=>rw[qm] at h;cases h
    | some m=>
     cases m with
     | lst xs=>
      rw[qm] at h;have h:(aG (frz n M f) xs).map D.lst=some e:=h;obtain⟨vs,hv,ra⟩:=hw.at_ k a _ ta qm;cases qo:aG (frz n M f) xs with
      | none=>rw[qo] at h;cases h
      | some ys=>
       rw[qo] at h;cases h;refine⟨a,vs,ea,⟨hv,fun z=>?_⟩,cM qo ra fun d _ e v=>ih d e v⟩;rw[getElem?_append_right (by omega)] at ta;have hm:=mem_of_getElem? ta;exact(nodup_append.mp hw.nd).2.2 a z a hm rfl
     | _=>rw[qm] at h;cases h
  | tup xs=>
   have h:(aG (frz n M f) xs).map D.tup=some e:=h;cases qo:aG (frz n M f) xs with
   | none=>rw[qo] at h;cases h
   | some ys=>
    rw[qo] at h;cases h;obtain⟨a,vs,ea,ta,ra⟩:=r;exact⟨a,vs,ea,⟨ta.1,sub ta.2⟩,cM qo ra fun d _ e v=>ih d e v⟩
  | lst xs=>
   have h:(aG (frz n M f) xs).map D.lst=some e:=h;cases qo:aG (frz n M f) xs with
   | none=>rw[qo] at h;cases h
   | some ys=>
    rw[qo] at h;cases h;obtain⟨a,vs,ea,ta,ra⟩:=r;exact⟨a,vs,ea,⟨ta.1,sub ta.2⟩,cM qo ra fun d _ e v=>ih d e v⟩
  | ro xs=>
   have h:(aG (frz n M f) xs).map D.ro=some e:=h;cases qo:aG (frz n M f) xs with
   | none=>rw[qo] at h;cases h
   | some ys=>
    rw[qo] at h;cases h;obtain⟨a,vs,ea,ta,ra⟩:=r;refine⟨a,vs,ea,?_,cM qo ra fun d _ e v=>ih d e v⟩;rcases ta with⟨t1,t2⟩|t
    ·exact .inl ⟨t1,sub t2⟩
    ·exact .inr t
  | non=>cases h;exact r
  | bl b=>cases h;exact r
  | int b=>cases h;exact r
  | str b=>cases h;exact r
  | exc c=>
   cases h;obtain⟨a,C,ea,kc,t1,t2⟩:=r;exact⟨a,C,ea,kc,t1,sub t2⟩
  | any=>cases h;exact r
theorem oB {f:D→Option D}{θ':List Addr}:∀{fs gs:List (Str×D)} {vs:List (Str×V)},ma f fs=some gs→isFs K θ' H fs vs→(∀d e v,f d=some e→isD K θ' H d v→isD K θ H e v)→isFs K θ H gs vs
 | [],gs,vs,h,r,k=>by cases h;exact r
 | (x,d)::fs,gs,vs,h,r,k=>by
  obtain⟨v,rr,e,h1,h2⟩:=r;unfold ma at h;cases q1:f d with
  | none=>rw[q1] at h;cases h
  | some y=>
   cases q2:ma f fs with
   | none=>rw[q1,q2] at h;cases h
   | some ys=>
    rw[q1,q2] at h;cases h;exact⟨v,rr,e,k d y v q1 h1,oB q2 h2 k⟩
theorem kU {κ:Type}{f:D→Option D}{θ':List Addr}:∀{fs gs:List (κ×D)} {vs:List (κ×V)},jW f fs=some gs→isKs K θ' H fs vs→(∀d e v,f d=some e→isD K θ' H d v→isD K θ H e v)→isKs K θ H gs vs
 | [],gs,vs,h,r,k=>by cases h;exact r
 | (x,d)::fs,gs,vs,h,r,k=>by
  obtain⟨v,rr,e,h1,h2⟩:=r;unfold jW at h;cases q1:f d with
  | none=>rw[q1] at h;cases h
  | some y=>
   cases q2:jW f fs with
   | none=>rw[q1,q2] at h;cases h
   | some ys=>
    rw[q1,q2] at h;cases h;exact⟨v,rr,e,k d y v q1 h1,kU q2 h2 k⟩
theorem fU (hw:Wr K (θ++more) H M)(hn:θ.length=n):∀(l l':List MO),cL n M l=some l'→l'.length=l.length∧∀(i:Nat) m m' a,l[i]?=some m→l'[i]?=some m'→iJ K (θ++more) H m a→iJ K θ H m' a
 | [],l',h=>by cases h;exact⟨rfl,fun i m m' a e=>by simp at e⟩
 | .lst xs::r,l',h=>by
  unfold cL at h;cases q1:aG (frz n M 30) xs with
  | none=>rw[q1] at h;cases h
  | some ys=>
   cases q2:cL n M r with
   | none=>rw[q1,q2] at h;cases h
   | some r'=>
    rw[q1,q2] at h;cases h;obtain⟨hl,hr⟩:=fU hw hn r r' q2;refine⟨by rw[length_cons,length_cons,hl],fun i m m' a e1 e2 ok=>?_⟩;cases i with
    | zero=>
     have e1:some (MO.lst xs)=some m:=e1;have e2:some (MO.lst ys)=some m':=e2;cases e1;cases e2;obtain⟨vs,hv,ra⟩:=ok;exact⟨vs,hv,cM q1 ra fun d _ e v=>hO hw hn 30 d e v⟩
    | succ i=>exact hr i m m' a e1 e2 ok
 | .obj c fs::r,l',h=>by
  unfold cL at h;cases q1:ma (frz n M 30) fs with
  | none=>rw[q1] at h;cases h
  | some gs=>
   cases q2:cL n M r with
   | none=>rw[q1,q2] at h;cases h
   | some r'=>
    rw[q1,q2] at h;cases h;obtain⟨hl,hr⟩:=fU hw hn r r' q2;refine⟨by rw[length_cons,length_cons,hl],fun i m m' a e1 e2 ok=>?_⟩;cases i with
    | zero=>
     have e1:some (MO.obj c fs)=some m:=e1;have e2:some (MO.obj c gs)=some m':=e2;cases e1;cases e2;obtain⟨C,dx,vs,kC,hv,ra⟩:=ok;exact⟨C,dx,vs,kC,hv,oB q1 ra fun d e v=>hO hw hn 30 d e v⟩
    | succ i=>exact hr i m m' a e1 e2 ok
 | .dK fs::r,l',h=>by
  unfold cL at h;cases q1:jW (frz n M 30) fs with
  | none=>rw[q1] at h;cases h
  | some gs=>
   cases q2:cL n M r with
   | none=>rw[q1,q2] at h;cases h
   | some r'=>
    rw[q1,q2] at h;cases h;obtain⟨hl,hr⟩:=fU hw hn r r' q2;refine⟨by rw[length_cons,length_cons,hl],fun i m m' a e1 e2 ok=>?_⟩;cases i with
    | zero=>
     have e1:some (MO.dK fs)=some m:=e1;have e2:some (MO.dK gs)=some m':=e2;cases e1;cases e2;obtain⟨vs,hv,ra⟩:=ok;exact⟨vs,hv,kU q1 ra fun d e v=>hO hw hn 30 d e v⟩
    | succ i=>exact hr i m m' a e1 e2 ok
 | .dT fs::r,l',h=>by
  unfold cL at h;cases q1:jW (frz n M 30) fs with
  | none=>rw[q1] at h;cases h
  | some gs=>
   cases q2:cL n M r with
   | none=>rw[q1,q2] at h;cases h
   | some r'=>
    rw[q1,q2] at h;cases h;obtain⟨hl,hr⟩:=fU hw hn r r' q2;refine⟨by rw[length_cons,length_cons,hl],fun i m m' a e1 e2 ok=>?_⟩;cases i with
    | zero=>
     have e1:some (MO.dT fs)=some m:=e1;have e2:some (MO.dT gs)=some m':=e2;cases e1;cases e2;obtain⟨vs,hv,ra⟩:=ok;exact⟨vs,hv,kU q1 ra fun d e v=>hO hw hn 30 d e v⟩
    | succ i=>exact hr i m m' a e1 e2 ok
theorem tq {θ0:List Addr}{H0:Hp}{θ':List Addr}{H':Hp}{M' M2:aq}{n:Nat}(hn:θ0.length=n)(g:Go K θ0 H0 θ' H' M')(h:cL n M' (M'.take n)=some M2):Go K θ0 H0 θ0 H' M2:=by
 obtain⟨m,em,hm⟩:=g.ext;have hw:=g.wr;rw[em] at hw;obtain⟨hl,hr⟩:=fU hw hn _ _ h;have hlen:n≤M'.length:=by rw[←g.wr.len,em,length_append];omega
 refine⟨⟨⟨[],by simp,fun _ z=>by cases z⟩,g.keep,g.tkeep⟩,by rw[hl,length_take];omega,(nodup_append.mp hw.nd).1,fun i a mo e1 e2=>?_,g.wr.tb⟩;have hi:i<n:=by rw[←hn];exact(List.getElem?_eq_some_iff.mp e1).1
 have hiM:i<M'.length:=by omega
 refine hr i M'[i] mo a (by rw[getElem?_take_of_lt hi];exact getElem?_eq_getElem hiM) e2 (hw.at_ i a _ ?_ (getElem?_eq_getElem hiM));rw[getElem?_append_left (by rw[hn];exact hi)];exact e1
end
theorem yO {k:Nat}{CX:qF}(h:dC P w K mg base CX k f fd ps (nV K n F)) :
  dC P w K mg base CX k f fd ps (nV K n fun ds M=>d9 M.length (F ds M)):=h.imp fun vs H Q E hxx=>by
 obtain⟨θ,M,ds,hl,r,hw,q⟩:=hxx;refine⟨θ,M,ds,hl,r,hw,?_⟩;have q:sQ K θ H Q E (d9 M.length (F ds M)):=q;cases e:F ds M with
 | bad=>rw[e] at q;exact q
 | err c M1=>
  rw[e] at q;have q:sQ K θ H Q E (if M1.length=M.length then .err c M1 else match cL M.length M1 (M1.take M.length) with|some M'=>.err c M'|none=>.bad):=q;split at q
  ·exact q
  ·split at q
   ·rename_i M2 e2;exact fun C θ' H' a kC g=>q C θ H' a kC (tq hw.len g e2)
   ·exact q.elim
 | ok d M1=>
  rw[e] at q;have q:sQ K θ H Q E (if M1.length=M.length then .ok d M1 else match frz M.length M1 30 d,cL M.length M1 (M1.take M.length) with|some d',some M'=>.ok d' M'|_,_=>.bad):=q;split at q
  ·exact q
  ·split at q
   ·rename_i d' M2 e1 e2;intro v θ' H' g rd;refine q v θ H' (tq hw.len g e2) ?_;obtain⟨m,em,_⟩:=g.ext;have hw':=g.wr;rw[em] at hw' rd;exact hO hw' hw.len 30 d d' v e1 rd
   ·exact q.elim
structure Fn (K:W.Frag)(mg:Str→Option Value)(x:Str)(st:Stmt)(f:Addr)(fd:FuncData)(ps:List Str):Prop where
 F:ya K x x st f fd
 m:mg x=some (.ref f)
 b:eC K fd ps []
section
variable {X:Cx}
theorem vv (i:Nat){pos:Pos}(hN:X.N[i]?=some x:=by rfl)(hv:AZ X.env.scope x:=by first|exact Or.inl rfl|exact Or.inr (Or.inl rfl)|exact Or.inr (Or.inr rfl))(hd:(x==("__debug__":Str))=false:=by decide)
  (hcd:(x==("__classdict__":Str))=false:=by decide):PE X (.Name x pos) (tE X (af i)):=zx (yG hN hv hd hcd)
theorem ss (i:Nat){pos pos':Pos}(hN:X.N.Nodup)(he:PE X e (tE X g))(hi:X.N[i]?=some x:=by rfl)(hx:rk X.env.scope x:=by first|exact Or.inl rfl|exact Or.inr rfl)
  (hs:swapsWith e (some (.Name x pos')) pos.line X.env=pure false:=by rfl) (hf:X.fn x=true∨X.env.scope.names.lookup x=some .local:=by first|exact .inl rfl|exact .inr rfl) :
  PS X (.Assign [.Name x pos'] e pos) (tS X (av i g)):=zv hN hi hx he hs hf
theorem gg (i:Nat){pos:Pos}(hN:X.N.Nodup)(hi:X.N[i]?=some x:=by rfl)(hx:rk X.env.scope x:=by first|exact Or.inl rfl|exact Or.inr rfl)(hf:X.fn x=true∨X.env.scope.names.lookup x=some .local:=by first|exact .inl rfl|exact .inr rfl):PG X (.Name x pos) (tG X (dA i)):=oJ hN hi hx hf
end
theorem yT {ns:List Int}(tb:fF K H)(hS:gT K H a (ns.map V.int))(h:∃M',F [.ro (ns.map D.int)] []=.ok (.bl true) M'):nV K 1 F [.ref a] H (fun v _=>v=.bl true) E:=by
 obtain⟨M',e⟩:=h;refine⟨[],[],[.ro (ns.map D.int)],rfl,⟨_,[],rfl,⟨a,ns.map V.int,rfl,?_,?_⟩,rfl⟩,⟨rfl,nodup_nil,fun i a m e=>by simp at e,tb⟩,?_⟩
 ·rcases hS with h|h
  ·exact .inl ⟨h,by simp⟩
  ·exact .inr h
 ·clear e
  induction ns with
  | nil=>exact rfl
  | cons n ns ih=>
   refine⟨.int n,ns.map V.int,rfl,rfl,?_⟩;have gen:∀l:List Int,isDs K [] H (l.map D.int) (l.map V.int):=by
    intro l
    induction l with
    | nil=>exact rfl
    | cons m l ih=>exact⟨_,_,rfl,rfl,ih⟩
   exact gen ns
 ·rw[e];exact fun v θ' H' g r=>r
def aF:Expr→Bool
 | .Starred _ _=>false
 | _=>true
def cc (es:List Expr):Bool:=es.all aF
theorem sE {env:Env}(h:aF e=true):starEach (e::es) env=(false,eval e env)::starEach es env:=by
 cases e <;> first|rfl|(simp[aF] at h)
theorem sS {pos:Pos}{env:Env}:∀{es:List Expr},cc es=true→(backTo pos (starEach es env)).any (·.1)=false
 | [],_=>rfl
 | e::es,h=>by
  unfold cc at h;rw[all_cons,Bool.and_eq_true] at h;have ih:=sS (pos:=pos) (env:=env) (es:=es) h.2;rw[sE h.1];unfold backTo at ih ⊢;rw[map_cons,any_cons,ih];rfl
section
variable {X:Cx}{e:Expr}{es:List Expr}{x:Str}{p pos:Pos}{k n:Nat}{f:Addr}{fd:FuncData}{ps:List Str}{F:FD}{ga:GA}{g:GE}{tg:Expr}
theorem BV {gr:GA}(ha:PE X e (tE X g))(hr:PA X es (tA X gr))(h:aF e=true:=by rfl):PA X (e::es) (tA X (ae g gr)):=wm ha hr (sE h)
theorem Au (Fn:dC X.prog X.w X.K X.mg X.base (io X.prog X.w) k f fd ps (nV X.K n F))(hr:bA k X.A)(hg:Gl X x)(hm:X.mg x=some (.ref f))(hk:W.keepIn X.K (.ref f)=true)(hb:eC X.K fd ps [])
  (ha:PA X (e::es) (tA X ga)) (hdb:(x==("__debug__":Str))=false:=by decide) (h1:aF e=true:=by rfl) (h2:cc es=true:=by rfl) :
  PE X (.Call (.Name x p) (e::es) [] pos) (tE X (au n F ga)):=uz Fn hr hg hm hk hb ha hdb (sE h1) (sS h2)
theorem zP {id:String}(hc:cb X (.builtin id) (rC X F))(hg:Gl X x)(hm:X.mg x=none)(hv:bootBuiltins x=some (.builtin id))(ha:PA X (e::es) (tA X ga))(hn:x≠"__name__":=by decide)(hdb:(x==("__debug__":Str))=false:=by decide)
  (h1:aF e=true:=by rfl) (h2:cc es=true:=by rfl):PE X (.Call (.Name x p) (e::es) [] pos) (tE X (bt F ga)):=qL hc hg hm hv ha hn hdb (sE h1) (sS h2)
theorem A4 (hc:cb X (.type T) (rC X F))(hg:Gl X x)(hm:X.mg x=none)(hv:bootBuiltins x=some (.type T))(ha:PA X (e::es) (tA X ga))(hn:x≠"__name__":=by decide)(hdb:(x==("__debug__":Str))=false:=by decide)
  (h1:aF e=true:=by rfl) (h2:cc es=true:=by rfl):PE X (.Call (.Name x p) (e::es) [] pos) (tE X (bt F ga)):=pk hc hg hm hv ha hn hdb (sE h1) (sS h2)
theorem Bw {a:Expr}(hg:Gl X "range")(hm:X.mg "range"=none)(ha:PA X [a] (tA X ga))(h1:aF a=true:=by rfl):PI X tg (.Call (.Name "range" p) [a] [] pos) (tI X (dh ga)):=qf hg hm ha (sE h1)
end
end DL
namespace DL
open PySem L2
theorem uG {j:Int}(h:-(2 ^ 62)≤j∧j<2 ^ 62)(M:aq):qV [.int j] M=.ok ⟨ba 0 j.toNat,none⟩ M:=by
 unfold qV;exact if_pos h
theorem sZ {n:Nat}(h:n≤1000000)(M:aq):qV [.int (n:Int)] M=.ok ⟨ba 0 n,none⟩ M:=by
 have:=uG (j:=(n:Int)) (by omega) M;rw[this];rfl
theorem dX {ds:List D}{M:aq}:jP.ok ⟨ds,none⟩ M=true:=rfl
theorem bW {n:Nat}(h:n≤1000000):n≤sizeLine:=Nat.le_trans h (by rw[sizeLine_eq];decide)
end DL
namespace DL
@[simp] theorem CL (i j:Int):iu (.int i) (.int j)=(i==j):=rfl
@[simp] theorem CG (i j:Bool):iu (.bl i) (.bl j)=(i==j):=rfl
@[simp] theorem CV (i j:PySem.Str):iu (.str i) (.str j)=(i==j):=rfl
@[simp] theorem CS:iu .non .non=true:=rfl
@[simp] theorem CW (i:Int):iu (.int i) .non=false:=rfl
@[simp] theorem Cc (i:Int):iu .non (.int i)=false:=rfl
@[simp] theorem Cj (xs ys:List D):iu (.tup xs) (.tup ys)=cG xs ys:=rfl
@[simp] theorem Ct (xs ys:List D):iu (.lst xs) (.lst ys)=cG xs ys:=rfl
@[simp] theorem By:cG [] []=true:=rfl
@[simp] theorem BM (y:D) (ys:List D):cG [] (y::ys)=false:=rfl
@[simp] theorem BH (y:D) (ys:List D):cG (y::ys) []=false:=rfl
@[simp] theorem BS (x y:D) (xs ys:List D):cG (x::xs) (y::ys)=(iu x y&&cG xs ys):=rfl
@[simp] theorem zD (n:Nat) (i:Int):aP n (.int i)=true:=by cases n <;> rfl
@[simp] theorem AD (n:Nat) (i:Bool):aP n (.bl i)=true:=by cases n <;> rfl
@[simp] theorem zG (n:Nat):aP n .non=true:=by cases n <;> rfl
@[simp] theorem zF (n:Nat) (x:PySem.Str):aP n (.str x)=PySem.PyData.strOk x:=by cases n <;> rfl
@[simp] theorem pS (n:Nat) (xs:List D):aP (n+1) (.tup xs)=aH n xs:=rfl
@[simp] theorem p8 (n:Nat) (xs:List D):aP (n+1) (.lst xs)=aH n xs:=rfl
@[simp] theorem wz (xs:List D):aP 40 (.tup xs)=aH 39 xs:=pS 39 xs
@[simp] theorem wA (xs:List D):aP 40 (.lst xs)=aH 39 xs:=p8 39 xs
@[simp] theorem zk (n:Nat):aH n []=true:=by cases n <;> rfl
@[simp] theorem wM (n:Nat) (x:D) (xs:List D):aH n (x::xs)=(aP n x&&aH n xs):=by cases n <;> rfl
@[simp] theorem BR (i:Int) (M:aq):now (.int i) M=.int i:=rfl
@[simp] theorem CC (i:Bool) (M:aq):now (.bl i) M=.bl i:=rfl
@[simp] theorem BD (M:aq):now .non M=.non:=rfl
@[simp] theorem BL (x:PySem.Str) (M:aq):now (.str x) M=.str x:=rfl
@[simp] theorem BJ (xs:List D) (M:aq):now (.tup xs) M=.tup xs:=rfl
@[simp] theorem BK (xs:List D) (M:aq):now (.lst xs) M=.lst xs:=rfl
end DL
namespace DL
open PySem PySem.Spec PyProof.Rows L2 PySem.W PySem.Builtin PySem.Builtin.ObjectAttr PySem.Builtin.Getset_descriptor List
structure fG (K:Frag)(C:Addr):Prop where
 cl:(clsIn K C).isSome=true
 ca:findIn K (.ref C) "__class__"=some (some (.builtin "object.__class__"))
 sp:specialIn K (.builtin "object.__class__") "__get__"=some (some (.builtin "getset_descriptor.__get__"))
 tk:takesIn K (.builtin "object.__class__")=some true
 ob:mroIn K C (.type "object")=some true
 ga:findIn K (.ref C) "__getattribute__"=some (some (.builtin "BaseException.__getattribute__"))
 gh:findIn K (.ref C) "__getattr__"=some none
 be:mroIn K C (.type "BaseException")=some true
def vp (a C:Addr)(h:Heap):Prop:=∃o,h.get? a=some o∧o.cls=.ref C
section
variable {prog:Program}{w:World}{A:Around}{E:Value→Shared→Prop}{K:Frag}{a C:Addr}{h:Heap}{g:Array GenState}{d:Drawn}{t:Nat}{os:OsState}
theorem vp.type {M:Model}(I:vp a C h):Looks M h (typeOf (.ref a)) (.ref C):=by
 obtain⟨o,e,c⟩:=I;exact c▸(Looks.ld e).andThen .now
theorem vc {R:Result→Shared→Prop}{tp:Value}(X:K.In h)(I:vp a C h)(k:fG K C)(hq:R (.ok (.ret (.ref C))) ⟨h,g,d,t,os⟩) :
  codeAny (model prog w) A (.call (.builtin "getset_descriptor.__get__") ⟨[.builtin "object.__class__",.ref a,tp],[]⟩) R ⟨h,g,d,t,os⟩:=by
 have L0:=I.type (M:=model prog w);have L1:=looks_mroIn (M:=model prog w) X k.ob;have go:=KF.slot_gs.check (model prog w) A.in1;refine codeAny_call_builtin KF.slot_gs.plain KF.entry_gs ?_;refine go _ _ _ _ _ _ KF.type_class (KF.args_gs _ _ _) ?_;unfold Builtin.«getset_descriptor.__get__» descrGet;rw[dga_obj];refine wpAny_bind (wpAny_pure ?_);unfold descrGetter descrCheckInstance descrNameAndClass isInstance;simp only[KF.owner_class]
 repeat lk
 refine⟨Code.quiet_builtin _ (by decide +kernel),codeAny_builtin KF.entry_class ?_⟩;unfold Builtin.«object.__class__» shownTypeOf
 repeat lk
 exact hq
theorem si (X:K.In h)(I:vp a C h)(k:fG K C):Looks (model prog w) h (Builtin.ObjectAttr.find (.ref a) (.ref C) "__class__") (.bind (.builtin "getset_descriptor.__get__") (.builtin "object.__class__")):=by
 have L1:=looks_findIn (M:=model prog w) X k.ca;have L2:Looks (model prog w) h (Builtin.ObjectAttr.getOf (some (.builtin "object.__class__"))) (some (.builtin "getset_descriptor.__get__")):=looks_specialIn X k.sp;unfold Builtin.ObjectAttr.find;refine L1.andThen (L2.andThen ?_);have L3:=looks_takesIn (M:=model prog w) X k.tk;have L4:Looks (model prog w) h (Builtin.ObjectAttr.dataDescriptor? (some (.builtin "object.__class__")) (some (.builtin "getset_descriptor.__get__"))) (some (.builtin "getset_descriptor.__get__",.builtin "object.__class__")):=L3.andThen .now;exact L4.andThen (Looks.tag .now)
theorem pZ {tk:Tok}{Q:PySem.Fin→Shared→Prop}(X:K.In h)(I:vp a C h)(k:fG K C)(hq:Q (.done (.ret (.ref C))) ⟨h,g,d,t,os⟩) :
  wpAny (model prog w) A (Builtin.«object.__getattribute__» ⟨[.ref a,.str "__class__" tk],[]⟩) Q E ⟨h,g,d,t,os⟩:=by
 unfold Builtin.«object.__getattribute__»;refine wpAny_bind (wpAny_pure ?_);refine wpAny_bind (wpAny_pure ?_);refine wpAny_bind (I.type.at ?_);refine wpAny_bind ((si X I k).at ?_);show wpAny (model prog w) A (Builtin.ObjectAttr.bindTo _ _ _ _) Q E _;unfold Builtin.ObjectAttr.bindTo;refine wpAny_bind (wpAny_holding (wpAny_call (vc X I k ?_)));exact wpAny_pure hq
theorem yg {tk:Tok}{Q:Value→Shared→Prop}(X:K.In h)(I:vp a C h)(k:fG K C)(hq:Q (.ref C) ⟨h,g,d,t,os⟩):wpAny (model prog w) A (getAttrBy (.ref a) (.str "__class__" tk) false) Q E ⟨h,g,d,t,os⟩:=by
 have L0:=I.type (M:=model prog w);have L1:=looks_findIn (M:=model prog w) X k.ga;have L2:=looks_findIn (M:=model prog w) X k.gh;have hkind:builtinKind "BaseException.__getattribute__"=some .slot:=by decide +kernel
 have hcut:splitId "BaseException.__getattribute__"=some ("BaseException","__getattribute__"):=by decide +kernel
 have hargs:=F.args_bexc_ga (.ref a) (.str "__class__" tk);have LB:=looks_mroIn (M:=model prog w) X k.be;have chk:∀{A':Around} {E':Value→Shared→Prop} {Q':Unit→Shared→Prop},Q' () ⟨h,g,d,t,os⟩→wpAny (model prog w) A' (checkBuiltinCall "BaseException.__getattribute__" ⟨[.ref a,.str "__class__" tk],[]⟩) Q' E' ⟨h,g,d,t,os⟩:=fun hq'=>by
  simp only[checkBuiltinCall,hkind,hcut];refine wpAny_bind ?_;unfold isInstance;refine wpAny_bind (L0.at (LB.at ?_))
  repeat (first|wp_step)
  exact hq'
 have f3:=PySem.F.attr_ValueError.ga.bind (.ref a);unfold getAttrBy;refine wpAny_holding (wpAny_bind (L0.at (wpAny_bind (L1.at ?_))));show wpAny _ _ (getAttrByItsOwn _ _ _ _ _ _) _ _ _;unfold getAttrByItsOwn hookBefore;refine wpAny_bind ?_;rw[if_pos (show onTheHeap (Value.ref C)=true from rfl)];refine L2.at ?_;refine wpAny_bind (wpAny_attempt (wpAny_holding ?_));unfold callGetattribute;rw[if_neg (by simp)];unfold boundAndCalled;rw[f3];refine wpAny_bind (wpAny_pure ?_);refine wpAny_call (codeAny_call_builtin PySem.F.attr_ValueError.ga.plain F.entry_bexc_ga (chk (pZ X I k ?_)));exact wpAny_pure hq
theorem qI {Q:Option Value→Shared→Prop}(X:K.In h)(I:vp a C h)(k:fG K C)(hq:Q (some (.ref C)) ⟨h,g,d,t+1,os⟩):wpAny (model prog w) A (getAttr? (.ref a) "__class__") Q E ⟨h,g,d,t,os⟩:=by
 unfold getAttr? getAttrBy?;refine wpAny_bind (wpAny_mkText ?_);refine wpAny_bind (wpAny_attempt (yg X I k ?_));exact wpAny_pure hq
theorem rS (k:fG K C):KitX K (.ref a) (.ref C) (vp a C) where
 ty:=fun M h _ I=>I.type
 it:=fun M h X I=>by
  have hc:=k.cl;obtain⟨cd,hc⟩:=Option.isSome_iff_exists.mp hc;unfold clsIn at hc;split at hc
  ·rename_i ho;intro A' Q' E' s' k' q;unfold isType loadHead;exact wpAny_bind (wpAny_loadPart (k' _ _ (X _ _ ho)) (wpAny_pure q))
  ·cases hc
 ne:=fun h tp dd its n sl X htp=>by
  refine Bool.eq_false_iff.mpr fun q=>?_
  obtain⟨cd,hc⟩:=Option.isSome_iff_exists.mp k.cl;have e:C=tp:=Value.ref.inj (beq_iff_eq.mp q);subst e;unfold clsIn at hc;split at hc
  ·rename_i ho;have z:=(X _ _ ho).symm.trans htp;cases z
  ·cases hc
 ca:=fun {prog w A E Q s} X I hq=>by
  obtain⟨h,g,d,t,os⟩:=s;exact qI X I k hq
end
end DL
namespace DL
open PySem PySem.Spec PyProof.Rows L2 List
abbrev Ak:List Value:=[.type "ValueError",.type "Exception",.type "BaseException",.type "object"]
structure Ec (K:W.Frag)(mg:Str→Option Value)(c:Str)(C:Addr):Prop where
 at_:bR K c C
 m:mg c=some (.ref C)
 k:fG K C
 ex:W.excIn K C Ak "ValueError.__new__"=true
 ty:W.typeIn K (.ref C)=some (.type "type")
 sf:W.mroIn K C (.ref C)=some true
variable{K:W.Frag}{C:Addr}
theorem wY {h:Heap}{bmB:List Value}{newId:String}(X:K.In h)(q:W.excIn K C bmB newId=true) :
  ∃bm N nm qn bs hdct sn sub ab col dd k0 k1 k2 k3 k5 mN,h.get? C=some (excClassObj nm qn C N bs bm hdct sn sub ab col dd k0 k1 k2 k3 k5 newId)∧h.Ns N mN∧mN "__init__"=none∧OwnTail h bmB bm:=by
 unfold W.excIn at q;split at q
 ·rename_i d1 cd s1 at1;split at q
  ·rename_i C2 rest j0 j1 j2 j3 nn j5 e1 e2;simp only[Bool.and_eq_true,beq_iff_eq,Bool.not_eq_true'] at q;obtain⟨⟨⟨⟨⟨r1,r2⟩,r3⟩,r4⟩,r5⟩,r6⟩:=q;subst r1;subst r2;cases cd with
   | mk c1 c2 c3 c4 c5 c6 c7 c8 c9 c10 c11=>
    dsimp only at e1 r3 r5 r6;subst e1;subst r3;have e3:s1=#[j0,j1,j2,j3,some (.builtin nn),j5]:=by
     cases s1 with
     | mk l=>
      have e4:l=_:=e2;rw[e4]
    subst e3;refine⟨rest,c4,c1,c5,c2,c6,c7,c8,c9,c10,d1,j0,j1,j2,j3,j5,h.nsMap c4,X _ _ at1,?_,W.nsMap_none_of_in X r5 r6,W.tail_of_in X r4⟩;exact Heap.Ns.of_isNs (W.isNs_of_in X r5)
  ·cases q
 ·cases q
def cU (c:Str)(g:GE):GS:=fun ρ M=>(g ρ M).bind fun _ M1=>.err c M1
theorem sd {X:Cx}{c:Str}{e:Expr}{g:GE}{np cpos pos:Pos}(k:Ec X.K X.mg c C)(hc:X.calm=true)(hg:Gl X c)(he:PE X e (tE X g))(h1:aF e=true:=by rfl)(hd:(c==("__debug__":Str))=false:=by decide) :
  PS X (.Raise (some (.Call (.Name c np) [e] [] cpos)) none pos) (tS X (cU c g)):=by
 intro aa s σ H D I h;obtain⟨ρ,θ,M,hdn,hw,h⟩:=h;obtain⟨bm,N,nm,qn,bs,hdct,sn,sub,ab,col,dd,k0,k1,k2,k3,k5,mN,hC,hN,hni,T⟩:=wY I.ok.mod.kin k.ex;have hs:starEach [e] X.env=(false,eval e X.env)::starEach [] X.env:=sE h1;have hplain:(backTo cpos (starEach [e] X.env)).any (·.1)=false:=sS (by unfold cc;simp[h1]);refine wpAny_Raise_call_subT (C:=C) (nm:=nm) (q:=qn) (N:=N) (bs:=bs) (bm:=bm) (hdct:=hdct) (sn:=sn) (sub:=sub) (ab:=ab) (col:=col) (dd:=dd) (k0:=k0) (k1:=k1) (k2:=k2) (k3:=k3) (k5:=k5)
  PySem.F.excBase_ValueError (mN:=mN) (T.hasType PySem.F.excBase_ValueError.hasBase) (I.ok.hd hc) hplain hni (iR I hg k.m ⟨rfl,?_⟩ hd)
 have hv:=cE he fD hs cpos aa s σ H (fun vs H1=>vs.length=1∧∃θ1 M1,Go X.K θ H θ1 H1 M1∧bV X θ1 H1 c M1) I (by
  refine bp hdn hw (cz X θ H D) (fun c M' h=>h) (fun h=>h) h fun d M1 v θ1 H1 g1 r1 h2=>?_
  exact⟨rfl,θ1,M1,g1,bV.go g1 h2⟩)
 rw[hs] at hv ⊢;refine Calls.evalArgs_plain (wpAny_mono hv (fun us s2 hq=>⟨rfl,?_⟩) fun _ _ y=>y);obtain⟨vs,H1,I1,rv,hl,θ1,M1,g1,ok⟩:=hq;refine⟨by show us.length≤sizeLine;rw[←rv.length,hl];exact Nat.le_trans (by decide:1≤1000000) (by rw[sizeLine_eq];decide),I1.bk _ _ hC,hN.keeps I1.bk,T.keeps I1.bk,fun h' e' hm=>?_⟩;exact ok C θ1 H1 e' _ k.at_ (.refl g1.wr) ⟨aa,σ,.inl ⟨s2.heap,us,I1,hm⟩⟩
variable{b:Bool}
section
variable {M:Model}{A:Around}{E:Value→Shared→Prop}{K:W.Frag}{a C G:Addr}{h:Heap}{g:Array GenState}{d:Drawn}{t:Nat}{os:OsState}
theorem k9 (X:K.In h)(k:(W.clsIn K G).isSome=true):W.Looks M h (isType (.ref G)) true:=by
 obtain⟨cd,hc⟩:=Option.isSome_iff_exists.mp k;unfold W.clsIn at hc;split at hc
 ·rename_i ho;intro A' Q' E' s' k' q;unfold isType loadHead;exact wpAny_bind (wpAny_loadPart (k' _ _ (X _ _ ho)) (wpAny_pure q))
 ·cases hc
theorem mB {Q:Bool→Shared→Prop}(X:K.In h)(I:vp a C h)(kG:fG K G)(tG:W.typeIn K (.ref G)=some (.type "type"))(hm:W.mroIn K C (.ref G)=some b)
  (hq:Q b ⟨h,g,d,t,os⟩):wpAny M A (excMatches (.ref a) (.ref G)) Q E ⟨h,g,d,t,os⟩:=by
 have L0:W.Looks M h (typeOf (.ref a)) (.ref C):=I.type;have L1:=W.looks_typeIn (M:=M) X tG;have L2:W.Looks M h (isSubtype (.type "type") (.type "tuple")) false:=W.Looks.of_pure tc_notTuple;have L3:=W.looks_mroIn (M:=M) X kG.be;have L4:=W.looks_mroIn (M:=M) X hm;have L5:W.Looks M h (isInstance (.ref G) (.type "tuple")) false:=L1.andThen L2;have L6:W.Looks M h (isType (.ref G)) true:=k9 X kG.cl;unfold excMatches;refine wpAny_bind (L5.at ?_);simp only[Bool.false_eq_true,if_false];refine wpAny_bind (wpAny_pure ?_);simp only[forIn_cons,List.forIn_nil];unfold isExcClass;refine wpAny_bind (wpAny_bind (wpAny_bind (wpAny_bind (L6.at ?_))));simp only[if_true];refine L3.at ?_;simp only[Bool.not_true,Bool.false_eq_true,if_false];refine wpAny_pure ?_;refine wpAny_pure ?_;refine wpAny_bind (L0.at ?_);refine wpAny_bind (wpAny_bind (wpAny_bind (L4.at ?_)));cases b with
 | true=>
  simp only[if_true];exact wpAny_pure (wpAny_pure (wpAny_pure hq))
 | false=>
  simp only[Bool.false_eq_true,if_false];exact wpAny_pure (wpAny_pure (wpAny_pure hq))
end
variable{A:Around}{Q:Unit→Shared→Prop}
section
variable {X:Cx}{aa:List (Addr×Obj)}{σ:L2.St}{H:Hp}{s:Shared}{B:Heap}{a C:Addr}{a0:Value}
theorem qa (I:L2.Inv X aa σ H s)(cov:xO X aa H B)(fl:Heap.FlyingW B X.stack a (.ref C) a0 s.heap)(hn:H a=none):L2.Inv X aa σ (bi H a (vm a C)) s:=by
 obtain⟨oe,vs,he,hcl,hd,_⟩:=fl.first;have hBa:B.get? a=none:=fl.2.1;have nfld:∀b o,s.heap.get? b=some o→(∀ws,o.data≠.fields ws)→b≠a:=fun b o e n z=>by
  subst z;rw[he] at e;cases e;exact n vs hd
 have nB:∀b o,B.get? b=some o→b≠a:=fun b o e z=>by rw[z,hBa] at e;cases e
 have nloc:X.env.locals≠a:=by
  obtain⟨m,⟨o,es,ep,ho,hdat,_⟩,_⟩:=I.loc;exact nfld _ o ho fun ws q=>by rw[hdat] at q;cases q
 have nold:∀b o,X.s₀.heap.get? b=some o→b∉X.ex→b≠a:=fun b o e nx=>by
  by_cases hf:b∈X.fs
  ·obtain⟨_,ob,e2,nf⟩:=I.funs.mem hf;exact nfld b ob e2 nf
  ·obtain⟨o',e'⟩:=cov.old b o e nx (iM I e hf);exact nB b o' e'
 refine⟨I.ok,I.os,I.bare,⟨I.base.keep,I.base.slot,fun b o e n nx=>?_,I.base.there,fun b xs e=>?_,fun b o u e=>?_,fun b ps e=>?_⟩,I.loc,I.cell,?_,fun x c e=>?_,fun p hp=>?_,fun b o e=>?_,I.len⟩
 ·rw[aj (nold b o e nx)];exact I.base.free b o e n nx
 ·have q:=I.base.tups b xs e;rw[aj (fun z=>by rw[z,hn] at q;cases q)];exact q
 ·have q:=I.base.frzs b o u e;rw[aj (fun z=>by rw[z,hn] at q;cases q)];exact q
 ·obtain⟨m,q⟩:=I.base.tbls b ps e;exact⟨m,by rw[aj (fun z=>by rw[z,hn] at q;cases q)];exact q⟩
 ·rw[aj nloc];exact I.free
 ·obtain⟨v,o,ho,hdat⟩:=I.cell x c e;rw[aj (nfld c o ho fun ws q=>by rw[hdat] at q;cases q)];exact I.freeC x c e
 ·obtain⟨e,n,ne,nf,d⟩:=I.pin p hp;obtain⟨o',e'⟩:=cov.pin p hp;exact⟨e,by rw[aj (nB _ _ e')];exact n,ne,nf,d⟩
 ·by_cases hb:b=a
  ·subst hb;rw[aT] at e;cases e;exact⟨⟨oe,he,hcl⟩,⟨oe,he⟩,fun h1 h2 ⟨o,e1,e2⟩ k=>⟨o,k o e1,e2⟩⟩
  ·rw[aj hb] at e;exact(I.hok b o e).stay (fun _ _ _ q=>q) (fun c q=>by rw[aj (fun z=>by rw[z,hn] at q;cases q)];exact q) fun c xs q=>by rw[aj (fun z=>by rw[z,hn] at q;cases q)];exact q
theorem fj {M:Model}{E:Value→Shared→Prop}{i:Nat}{n:Str}{pos:Pos}(I:L2.Inv X aa σ H s)(hN:X.N.Nodup)(hi:X.N[i]?=some n)(hl:X.env.kindOf n=some .local)
  (h:∀s',L2.Inv X aa (σ.set i none) H s'→Q () s'):wpAny M A (do bindName X.env n .none;unbindBehindTheSuite X.env n pos) Q E s:=by
 obtain⟨m,hn,lk⟩:=I.loc;have hcls:(X.env.scope.kind==.class||(X.env.scope.kind==.module&&X.env.locals != X.env.globals))=false:=by rw[I.ok.kind];rfl
 have hiσ:i<σ.length:=by rw[I.len];exact(List.getElem?_eq_some_iff.mp hi).1
 refine wpAny_nameGoes_keeps hl hn hcls fun h' v hn' hs=>h _ ?_
 have old:∀b o,X.s₀.heap.get? b=some o→b≠X.env.locals:=fun b o e=>Nat.ne_of_lt (Nat.lt_of_lt_of_le (Heap.lt_size e) I.ok.above)
 refine⟨I.ok,I.os,I.bare,⟨fun b o e n hb hx=>(hs.2 b (old b o e)).trans (I.base.keep b o e n hb hx),fun b o e n hb hx=>?_,I.base.free,fun b o e hx=>?_,I.base.tups,I.base.frzs,I.base.tbls⟩,⟨_,hn',fun j y v' e1 e2 e3=>?_⟩,fun y c e=>?_,I.free,I.freeC,fun p hp=>?_,fun b o e=>?_,?_⟩
 ·obtain⟨sl,e1⟩:=I.base.slot b o e n hb hx;exact⟨sl,(hs.2 b (old b o e)).trans e1⟩
 ·obtain⟨o',e1⟩:=I.base.there b o e hx;exact⟨o',(hs.2 b (old b o e)).trans e1⟩
 ·by_cases hj:j=i
  ·subst hj;rw[getElem?_set_self hiσ] at e2;cases e2
  ·rw[getElem?_set_ne (Ne.symm hj)] at e2;obtain⟨u',r',q⟩:=lk j y v' e1 e2 e3;refine⟨u',r',?_⟩;rcases q with⟨k,e⟩|⟨k,c,e,z⟩
   ·have ny:y≠n:=fun e=>hj (jx hN e1 (e▸hi))
    exact .inl ⟨k,by show(if y=n then v else m y)=some u';rw[if_neg ny];exact e⟩
   ·exact .inr ⟨k,c,e,z.sameBut hs (I.cne y c e)⟩
 ·obtain⟨w',z⟩:=I.cell y c e;exact⟨w',z.sameBut hs (I.cne y c e)⟩
 ·obtain⟨e,n,ne,nf,d⟩:=I.pin p hp;exact⟨(hs.2 p.1 ne).trans e,n,ne,nf,d⟩
 ·refine(I.hok b o e).stay (fun c w' hc q=>(hs.2 c ?_).trans q) (fun _ q=>q) fun _ _ q=>q
  rintro z;have hf:=I.free;rw[←z] at hf;rcases hc with hc|hc
  ·rw[←hc,hf] at e;cases e
  ·rw[hf] at hc;cases hc
 ·rw[length_set];exact I.len
theorem nD {M:Model}{E:Value→Shared→Prop}{env:Env}{outer:List Env}{L:Addr}{base h:Heap}{vs:List Value}
  (hfr:A.frames=some (env::outer)) (hf:env.frame=some L) (hkb:base.StaysIn h) (hl:h.FunFrames base (env::outer)) (m:Heap.MadeExcOf h s.heap a (.ref C) vs)
  (hQ:∀h' t,Heap.HeldW base (env::outer) a (.ref C) (.ref t) L h'→s.heap.UpToSlots h'→Q () {s with heap:=h'}):wpAny M A (noteFrame (.ref a) env) Q E s:=by
 obtain⟨t,he,htn,ht⟩:=m.there;have fresh:base.get? a=none:=by
  cases hq:base.get? a with
  | none=>rfl
  | some o'=>have z:=hkb a o' hq;rw[m.new] at z;cases z
 unfold noteFrame;simp only[hf];refine wpAny_bind (wpAny_field he rfl (x:=.none) rfl ?_);rw[if_neg (by decide)];refine wpAny_entryW (a0:=.ref t) hfr (hl.of_keeps fun b o hb _=>⟨o,m.keeps b o hb,rfl⟩) hf he (fun b o hb=>m.keeps b o (hkb b o hb)) fresh rfl (by show 1<6;decide) rfl fun h' hN=>?_
 obtain⟨x1,x2,x3,x4⟩:=hN;exact hQ h' t ⟨x1,fresh,x2,x3⟩ x4
end
def qD (i:Nat):Fl→Fl
 | .nx ρ=>.nx (ρ.set i none)
 | .bk ρ=>.bk (ρ.set i none)
 | .ct ρ=>.ct (ρ.set i none)
 | .rt d=>.rt d
def iw (i:Nat)(ok:Str→Bool)(gb gh:GS):GS:=fun ρ M=>match gb ρ M with
 | .err c M1=>if ok c then match gh ((List.replicate ρ.length none).set i (some (.exc c))) M1 with
   | .ok f M2=>.ok (qD i f) M2
   | _=>.bad
  else .bad
 | o=>o
abbrev iY (X:Cx)(pn:List (Addr×Obj))(E:Value→Shared→Prop):Cx:={X with pn:=pn,xe:=E}
abbrev fN (X:Cx)(pn:List (Addr×Obj))(a:Addr):Cx:={X with A:=X.A.mark (some (.ref a)),calm:=false,pn:=pn,xe:=fun _ _=>False}
section
variable {X:Cx}{aa pins' pn:List (Addr×Obj)}{σ:L2.St}{H:Hp}{s:Shared}{E:Value→Shared→Prop}{a:Addr}
theorem xn (k:X.Ok):(iY X pn E).Ok:=⟨k.mod,k.kind,k.glob,k.blt,k.above,k.inj,k.has,k.cab,k.hd,k.frames,k.stk,k.exf,k.bs,k.bsz,k.noex,k.exfs,k.funs,k.frf⟩
theorem vg (k:X.Ok):(fN X pn a).Ok:=⟨k.mod,k.kind,k.glob,k.blt,k.above,k.inj,k.has,k.cab,(fun z=>by cases z),k.frames,k.stk,k.exf,k.bs,k.bsz,k.noex,k.exfs,k.funs,k.frf⟩
theorem ng (k:(iY X pn E).Ok):X.Ok:=⟨k.mod,k.kind,k.glob,k.blt,k.above,k.inj,k.has,k.cab,k.hd,k.frames,k.stk,k.exf,k.bs,k.bsz,k.noex,k.exfs,k.funs,k.frf⟩
theorem vk (I:L2.Inv X aa σ H s):L2.Inv (iY X (X.pn++aa) E) [] σ H s:=⟨xn I.ok,I.os,I.bare,I.base,I.loc,I.cell,I.free,I.freeC,fun p hp=>I.pin p (by simpa using hp),I.hok,I.len⟩
theorem eW (I:L2.Inv (iY X (X.pn++aa) E) pins' σ H s):L2.Inv X aa σ H s:=⟨ng I.ok,I.os,I.bare,I.base,I.loc,I.cell,I.free,I.freeC,fun p hp=>I.pin p (mem_append_left _ hp),I.hok,I.len⟩
theorem sF (I:L2.Inv (iY X pn E) pins' σ H s):L2.Inv (fN X pn a) pins' σ H s:=⟨vg (ng I.ok),I.os,I.bare,I.base,I.loc,I.cell,I.free,I.freeC,I.pin,I.hok,I.len⟩
theorem dO (k:X.Ok)(I:L2.Inv (fN X (X.pn++aa) a) pins' σ H s):L2.Inv X aa σ H s:=⟨k,I.os,I.bare,I.base,I.loc,I.cell,I.free,I.freeC,fun p hp=>I.pin p (mem_append_left _ hp),I.hok,I.len⟩
end
variable{θ:List Addr}{H:Hp}{σ:L2.St}
theorem ed.clear {ρ:bF}(h:ed K θ H σ ρ)(i:Nat):ed K θ H (σ.set i none) (ρ.set i none):=by
 refine⟨by rw[length_set,length_set];exact h.len,fun j d e=>?_⟩
 by_cases hj:j=i
 ·subst hj;have hl:j<ρ.length:=by have:=(List.getElem?_eq_some_iff.mp e).1;rw[length_set] at this;exact this
  rw[getElem?_set_self hl] at e;cases e
 ·rw[getElem?_set_ne (Ne.symm hj)] at e;obtain⟨u,e1,r1⟩:=h.at_ j d e;exact⟨u,by rw[getElem?_set_ne (Ne.symm hj)];exact e1,r1⟩
theorem sV {n i:Nat}{d:D}{v:V}(hl:σ.length=n)(r:isD K θ H d v):ed K θ H (σ.set i (some v)) ((List.replicate n none).set i (some d)):=by
 refine⟨by rw[length_set,length_set,length_replicate,hl],fun j d' e=>?_⟩
 by_cases hj:j=i
 ·subst hj;have hlt:j<n:=by have:=(List.getElem?_eq_some_iff.mp e).1;rw[length_set,length_replicate] at this;exact this
  rw[getElem?_set_self (by rw[length_replicate];exact hlt)] at e;have e':d=d':=by simpa using e
  subst e';exact⟨v,getElem?_set_self (by rw[hl];exact hlt),r⟩
 ·rw[getElem?_set_ne (Ne.symm hj),getElem?_replicate] at e;split at e <;> cases e
theorem xR {X:Cx}{G n:Str}{Ga:Addr}{i:Nat}{ok:Str→Bool}{gb gh:GS}{body suite:List Stmt}{b0:Stmt}{np hpos pos:Pos}(kG:Ec X.K X.mg G Ga)(hok:∀c C,ok c=true→bR X.K c C→W.mroIn X.K C (.ref Ga)=some true)
  (hg:Gl X G) (hst:X.stack=X.env::X.outer) (hf:X.env.frame=some X.env.locals) (hN:X.N.Nodup) (hi:X.N[i]?=some n) (hl:X.env.kindOf n=some .local) (hfn:X.fn n=true∨X.env.scope.names.lookup n=some .local)
  (hb:∀pn E,PSs (iY X pn E) body (tS (iY X pn E) gb)) (hh:∀pn a,PSs (fN X pn a) (b0::suite) (tS (fN X pn a) gh)) (hd:(G==("__debug__":Str))=false:=by decide) :
  PS X (.Try body [.ExceptHandler (some (.Name G np)) (some n) (b0::suite) hpos] [] [] pos) (tS X (iw i ok gb gh)):=by
 intro aa s σ H D I h;obtain⟨ρ,θ,M,hdn,hw,h⟩:=h;have fin:∀(f:Flow) (s1:Shared) (E:Value→Shared→Prop),SP (iY X (X.pn++aa) E) [] D f s1→SP X aa D f s1:=fun f s1 E q=>by
  cases f with
  | next=>obtain⟨σ',H',I',q⟩:=q;exact⟨σ',H',eW I',q⟩
  | brk=>obtain⟨σ',H',I',q⟩:=q;exact⟨σ',H',eW I',q⟩
  | cont=>obtain⟨σ',H',I',q⟩:=q;exact⟨σ',H',eW I',q⟩
  | ret u=>obtain⟨v,σ',H',I',r,q⟩:=q;exact⟨v,σ',H',eW I',r,q⟩
 refine wpAny_Try_except ?_;obtain⟨E,hE⟩:∃E:Value→Shared→Prop,E=(fun e s₁=>wpAny (model X.prog X.w) X.A (noteFrame e X.env) (fun _ s₂=>wpAny (model X.prog X.w) X.A (setFlight e none) (fun _ s₃=>wpAny (model X.prog X.w) X.A (handleBy e X.env [.ExceptHandler (some (.Name G np)) (some n) (b0::suite) hpos]) (SP X aa D) X.xe s₃) X.xe s₂) X.xe s₁):=⟨_,rfl⟩;refine wpAny_mono (hb (X.pn++aa) E [] s σ H D (vk I) ⟨ρ,θ,M,hdn,hw,?_⟩) (fun f s1 q=>?_) fun e s₁ y=>by rw[hE] at y;exact y
 ·unfold iw at h;cases q:gb ρ M with
  | ok f M1=>rw[q] at h;cases f <;> exact h
  | bad=>rw[q] at h;exact h
  | err c M1=>
   rw[q] at h;have h:cz X θ H D (if ok c=true then(match gh ((List.replicate ρ.length none).set i (some (.exc c))) M1 with | .ok f M2=>.ok (qD i f) M2|_=>.bad) else .bad):=h
   by_cases hc:ok c=true
   ·rw[if_pos hc] at h;intro C θ1 H1 a s1 kC g1 fl;obtain⟨pins',σ',fl⟩:=fl;show E (.ref a) s1;rw[hE];have land:∀(B:Heap) (a0:Value) (s5:Shared),L2.Inv (iY X (X.pn++aa) E) pins' σ' H1 s5→H1 a=none→
      Heap.FlyingW B X.stack a (.ref C) a0 s5.heap→xO (fN X (X.pn++aa) a) pins' H1 B→wpAny (model X.prog X.w) X.A (handleBy (.ref a) X.env [.ExceptHandler (some (.Name G np)) (some n) (b0::suite) hpos]) (SP X aa D) X.xe s5:=fun B a0 s5 I5 hn fl5 cov=>by
     have J5:L2.Inv (fN X (X.pn++aa) a) pins' σ' H1 s5:=sF I5;refine wpAny_handleBy_cons (codeAny_handlers_test (iR (X:=fN X (X.pn++aa) a) J5 hg kG.m ?_ hd)) (by intro q;cases q);obtain⟨hp5,gg5,dd5,tt5,os5⟩:=s5;refine mB J5.kIn fl5.there kG.k kG.ty (hok c C hc kC) (codeAny_handlers_suite_as ?_);refine lands_againW fl5 fun h6 fl6 up6=>?_
     have J6:=eB J5 cov fl5.1 fl6.1 up6;have J7:=qa J6 cov fl6 hn;refine jB (X:=fN X (X.pn++aa) a) J7 hN hi (.inl hl) (v:=.ref a) rfl (fun s8 J8=>?_) hfn;have g7:Go X.K θ1 H1 θ1 (bi H1 a (vm a C)) M1:=bX g1.wr hn;have ra:isD X.K θ1 (bi H1 a (vm a C)) (.exc c) (.ref a):=⟨a,C,rfl,kC,aT,g1.wr.fresh hn⟩;have hlen:σ'.length=ρ.length:=by rw[hdn.len,J7.len];exact I.len.symm
     refine wpAny_mono (hh (X.pn++aa) a pins' s8 _ _ {nx:=fun σ2 H2=>D.nx (σ2.set i none) H2,bk:=fun σ2 H2=>D.bk (σ2.set i none) H2,ct:=fun σ2 H2=>D.ct (σ2.set i none) H2,rt:=D.rt} J8 ⟨_,θ1,M1,sV hlen ra,g7.wr,?_⟩) (fun f s9 q9=>?_) fun _ _ z=>z.elim
     ·cases qg:gh ((List.replicate ρ.length none).set i (some (.exc c))) M1 with
      | bad=>rw[qg] at h;exact h
      | err c2 M2=>rw[qg] at h;exact h.elim
      | ok f M2=>
       rw[qg] at h;have gg:=g1.trans g7;cases f with
       | nx ρ2=>exact fun σ2 θ2 H2 g2 d2=>h (σ2.set i none) θ2 H2 (gg.trans g2) (d2.clear i)
       | bk ρ2=>exact fun σ2 θ2 H2 g2 d2=>h (σ2.set i none) θ2 H2 (gg.trans g2) (d2.clear i)
       | ct ρ2=>exact fun σ2 θ2 H2 g2 d2=>h (σ2.set i none) θ2 H2 (gg.trans g2) (d2.clear i)
       | rt d=>exact fun v θ2 H2 g2 r2=>h v θ2 H2 (gg.trans g2) r2
     ·cases f with
      | next=>
       obtain⟨σ9,H9,I9,q9⟩:=q9;exact fj (X:=fN X (X.pn++aa) a) I9 hN hi hl fun s' I'=>⟨_,H9,dO I.ok I',q9⟩
      | brk=>
       obtain⟨σ9,H9,I9,q9⟩:=q9;exact fj (X:=fN X (X.pn++aa) a) I9 hN hi hl fun s' I'=>⟨_,H9,dO I.ok I',q9⟩
      | cont=>
       obtain⟨σ9,H9,I9,q9⟩:=q9;exact fj (X:=fN X (X.pn++aa) a) I9 hN hi hl fun s' I'=>⟨_,H9,dO I.ok I',q9⟩
      | ret u=>
       obtain⟨v9,σ9,H9,I9,r9,q9⟩:=q9;exact fj (X:=fN X (X.pn++aa) a) I9 hN hi hl fun s' I'=>⟨v9,_,H9,dO I.ok I',r9,q9⟩
    have hfrm:X.A.frames=some (X.env::X.outer):=by rw[←hst];exact I.ok.frames
    rcases fl with⟨h0,vs,I0,m⟩|⟨I0,hn,B,a0,fl,cov⟩|⟨I0,hn,B,a0,L,hL,held,cov⟩
    ·have cov:=mT I0;have hid:∀b o,(W.hideAll h0 (iW X.stack)).get? b=some o→h0.get? b=some o:=fun b o q=>W.of_hideAll _ q
     have ff:h0.FunFrames (W.hideAll h0 (iW X.stack)) (X.env::X.outer):=by rw[←hst];exact ij I0
     refine nD hfrm hf hid ff m fun h4 t held4 up4=>?_
     refine wpAny_landsW held4 fun h5 fl5 up5=>?_
     have I1:=I0.kept (t':=s1.toks) (h':=s1.heap) m.keeps;have I5:=eB (s:=s1) (h':=h5) I1 cov (fun b o q=>m.keeps b o (hid b o q)) fl5.1 (up4.trans up5);have fl6:=fl5;rw[←hst] at fl6;exact land _ _ _ I5 (kr I0 m) fl6 ⟨cov.trk,cov.pin,cov.old⟩
    ·have fl:Heap.FlyingW B (X.env::X.outer) a (.ref C) a0 s1.heap:=by rw[←hst];exact fl
     refine wpAny_looks_onW hfrm hf fl fun h4 held4 up4=>?_
     refine wpAny_landsW held4 fun h5 fl5 up5=>?_
     have I5:=eB (s:=s1) (h':=h5) I0 cov fl.1 fl5.1 (up4.trans up5);have fl6:=fl5;rw[←hst] at fl6;exact land B a0 _ I5 hn fl6 ⟨cov.trk,cov.pin,cov.old⟩
    ·refine wpAny_noteFrame_againW hL held.2.2.2 ?_;refine wpAny_landsW held fun h5 fl5 up5=>?_
     have I5:=eB (s:=s1) (h':=h5) I0 cov held.1 fl5.1 up5;exact land B a0 _ I5 hn fl5 ⟨cov.trk,cov.pin,cov.old⟩
   ·rw[if_neg hc] at h;exact h.elim
 ·cases f with
  | next=>exact wpAny_execs_nil (fin .next s1 _ q)
  | brk=>exact fin .brk s1 _ q
  | cont=>exact fin .cont s1 _ q
  | ret u=>exact fin (.ret u) s1 _ q
variable{es:List Expr}{gs:List GE}{M:aq}{xs:List D}{c0:Value}{T:String}
section
variable {X:Cx}
def mH:D→Option Str
 | .int a=>if a.natAbs.log2<1920 then some (toString a) else none
 | .str x=>if x.length≤sizeLine then some x else none
 | _=>none
def gM (g:GE):GE:=fun ρ M=>(g ρ M).bind fun d M1=>match mH d with
 | some x=>.ok (.str x) M1
 | none=>.bad
theorem xq {e:Expr}{g:GE}{pos:Pos}{i:Int}(he:PE X e (tE X g))(hi:i=-1:=by rfl):PE X (.FormattedValue e i none pos) (tE X (gM g)):=by
 subst hi;intro aa s σ H Q I h;obtain⟨ρ,θ,M,hd,hw,h⟩:=h;refine FormattedValue_plain (wpAny_mono (he aa s σ H (fun v H1=>∃d M1 θ1,Go X.K θ H θ1 H1 M1∧isD X.K θ1 H1 d v∧aA X θ1 H1 Q (match mH d with|some x=>.ok (.str x) M1|none=>.bad)) I ?_) (fun u s1 hq=>?_) fun _ _ y=>y)
 ·exact bp hd hw (aA X θ H Q) (fun c M' h=>h) (fun h=>h) h fun d M1 v θ1 H1 g1 r1 h1=>⟨d,M1,θ1,g1,r1,aA.go g1 h1⟩
 ·obtain⟨v,H1,I1,rv,d,M1,θ1,g1,r1,h1⟩:=hq;cases d with
  | int a=>
   have e:v=.int a:=r1;subst e;obtain⟨t,rfl⟩:=rv;unfold mH at h1
   by_cases hc:a.natAbs.log2<1920
   ·simp only[if_pos hc] at h1;exact formatField_int_small hc ⟨.str (toString a),H1,I1.tok _,⟨_,rfl⟩,h1 _ θ1 H1 (.refl g1.wr) rfl⟩
   ·simp only[if_neg hc] at h1;exact h1.elim
  | str x=>
   have e:v=.str x:=r1;subst e;obtain⟨t,rfl⟩:=rv;unfold mH at h1
   by_cases hc:x.length≤sizeLine
   ·simp only[if_pos hc] at h1;exact formatField_str (fun t' tk=>⟨.str x,H1,I1.tok _,⟨_,rfl⟩,h1 _ θ1 H1 (.refl g1.wr) rfl⟩) hc
   ·simp only[if_neg hc] at h1;exact h1.elim
  | _=>exact h1.elim
inductive zE (X:Cx):List Expr→List GE→Prop where
 | nil:zE X [] []
 | cons {e:Expr} {es:List Expr} {g:GE} {gs:List GE}:PE X e (tE X g)→zE X es gs→zE X (e::es) (g::gs)
def du:List GE→Str→GE
 | [],acc=>fun _ M=>.ok (.str acc) M
 | g::gs,acc=>fun ρ M=>(g ρ M).bind fun d M1=>match d with
  | .str y=>if(acc++y).length≤sizeLine then du gs (acc++y) ρ M1 else .bad
  | _=>.bad
theorem ui (h:zE X es gs):∀(acc:Str) (aa:List (Addr×Obj)) (s:Shared) (σ:L2.St) (H:Hp) (Q:VK),acc.length≤sizeLine→L2.Inv X aa σ H s→tE X (du gs acc) σ H Q→wpAny (model X.prog X.w) X.A (joinParts acc (evalEach es X.env)) (EP X aa σ Q) X.xe s:=by
 induction h with
 | nil=>
  intro acc aa s σ H Q hl I h;obtain⟨ρ,θ,M,hd,hw,h⟩:=h;exact joinParts_nil ⟨.str acc,H,I.tok _,⟨_,rfl⟩,h _ θ H (.refl hw) rfl⟩ hl
 | @cons e es g gs he hes ih=>
  intro acc aa s σ H Q hl I h;obtain⟨ρ,θ,M,hd,hw,h⟩:=h;show wpAny _ _ (joinParts acc (eval e X.env::evalEach es X.env)) _ _ _;refine joinParts_cons (wpAny_mono (he aa s σ H (fun v H1=>∃d M1 θ1,Go X.K θ H θ1 H1 M1∧isD X.K θ1 H1 d v∧aA X θ1 H1 Q (match d with | .str y=>if(acc++y).length≤sizeLine then du gs (acc++y) ρ M1 else .bad|_=>.bad)) I ?_) (fun u s1 hq=>?_) fun _ _ y=>y)
  ·exact bp hd hw (aA X θ H Q) (fun c M' h=>h) (fun h=>h) h fun d M1 v θ1 H1 g1 r1 h1=>⟨d,M1,θ1,g1,r1,aA.go g1 h1⟩
  ·obtain⟨v,H1,I1,rv,d,M1,θ1,g1,r1,h1⟩:=hq;cases d with
   | str y=>
    have e:v=.str y:=r1;subst e;obtain⟨t,rfl⟩:=rv
    by_cases hc:(acc++y).length≤sizeLine
    ·simp only[if_pos hc] at h1;exact⟨hc,ih (acc++y) aa s1 σ H1 Q hc I1 ⟨ρ,θ1,M1,hd.go g1,g1.wr,h1⟩⟩
    ·simp only[if_neg hc] at h1;exact h1.elim
   | _=>exact h1.elim
theorem wg {e1 e2:Expr}{pos:Pos}(h:zE X (e1::e2::es) gs):PE X (.JoinedStr (e1::e2::es) pos) (tE X (du gs Str.empty)):=by
 intro aa s σ H Q I q;exact JoinedStr_many (ui h Str.empty aa s σ H Q (Nat.zero_le _) I q)
theorem i9 {x:V}:∀{xs:List V} {us:List Value},aC xs us→xs.all dH=true→us.countP (zM x)=xs.countP fun y=>oj y x
 | _,_,.nil,_=>rfl
 | y::xs,u::us,.cons r t,f=>by
  rw[all_cons,Bool.and_eq_true] at f;rw[List.countP_cons,List.countP_cons,nq r f.1,i9 t f.2]
theorem n9 {x:V}:∀{xs:List V} {us:List Value},aC xs us→xs.all dH=true→us.findIdx? (zM x)=xs.findIdx? fun y=>oj y x
 | _,_,.nil,_=>rfl
 | y::xs,u::us,.cons r t,f=>by
  rw[all_cons,Bool.and_eq_true] at f;rw[List.findIdx?_cons,List.findIdx?_cons,nq r f.1,n9 t f.2]
def eL (d:D)(M:aq):Option (List D):=match d with
 | .lst xs=>some xs
 | .ro xs=>some xs
 | .mr k=>match M[k]? with
  | some (.lst xs)=>some xs
  | _=>none
 | _=>none
theorem nr {d:D}{v:V}(hw:Wr K θ H M)(r:isD K θ H d v)(e:eL d M=some xs):∃a vs,v=.ref a∧gT K H a vs∧isDs K θ H xs vs:=by
 cases d with
 | lst ys=>cases e;obtain⟨a,vs,ea,ta,ra⟩:=r;exact⟨a,vs,ea,ta.sq,ra⟩
 | ro ys=>cases e;obtain⟨a,vs,ea,ta,ra⟩:=r;exact⟨a,vs,ea,ta.sq,ra⟩
 | mr k=>
  obtain⟨a,ea,ta⟩:=r;have e:(match M[k]? with|some (.lst xs)=>some xs|_=>none)=some xs:=e;cases q:M[k]? with
  | none=>rw[q] at e;cases e
  | some m=>
   cases m with
   | lst ys=>
    rw[q] at e;cases e;obtain⟨vs,hv,ra⟩:=hw.at_ k a _ ta q;exact⟨a,vs,ea,.inl (.inl hv),ra⟩
   | _=>rw[q] at e;cases e
 | _=>cases e
def qP (K:W.Frag):V→List V→Hp→VK→Prop:=fun x vs H Q=>∃p xs y,x=.ref p∧vs=[y]∧gT K H p xs∧dH y=true∧xs.all dH=true∧Q (.int (xs.countP fun z=>oj z y)) H
theorem rO:CU X "list.count" (qP X.K):=by
 intro aa s σ H x vs v us Q I rx rv h;obtain⟨p,xs,y,rfl,rfl,hq,fy,fs,q⟩:=h;cases rx;obtain⟨u,rfl,ru⟩:=rv.one;obtain⟨its,r,⟨o,n,h1,h2,h3,h4⟩,hz⟩:=I.list hq;obtain⟨c,dd,dat,sl⟩:=o;have e1:c=.type "list":=h2;have e2:dat=.seq its.toArray n:=h4;subst e1;subst e2;refine call_meets F.slot_list_count ⟨_,h1,rfl⟩ F.entry_list_count (F.args_list_count_2 _ _) (SeqAt.list_countAt p its.toArray n dd sl u (zM y)) ⟨h1,fun w hw=>jA ru fy r fs w (by simpa using hw),?_⟩;refine⟨.int (xs.countP fun z=>oj z y),H,I.tok _,⟨s.toks,?_⟩,q⟩;rw[←i9 r fs]
def sG (K:W.Frag):V→List V→Hp→VK→Prop:=fun x vs H Q=>∃p xs y j,x=.ref p∧vs=[y]∧gT K H p xs∧dH y=true∧xs.all dH=true∧(xs.findIdx? fun z=>oj z y)=some j∧Q (.int (j:Nat)) H
theorem sL:CU X "list.index" (sG X.K):=by
 intro aa s σ H x vs v us Q I rx rv h;obtain⟨p,xs,y,j,rfl,rfl,hq,fy,fs,hj,q⟩:=h;cases rx;obtain⟨u,rfl,ru⟩:=rv.one;obtain⟨its,r,⟨o,n,h1,h2,h3,h4⟩,hz⟩:=I.list hq;obtain⟨c,dd,dat,sl⟩:=o;have e1:c=.type "list":=h2;have e2:dat=.seq its.toArray n:=h4;subst e1;subst e2;rw[←n9 r fs] at hj;obtain⟨hlt,hhit,hno⟩:=List.findIdx?_eq_some_iff_getElem.mp hj;have hsz:j<its.toArray.size:=by simpa using hlt
 have hsmall:(j:Int)<2 ^ 63-1:=by
  have l1:=r.length;have l2:=fP;omega
 refine call_meets F.slot_list_index ⟨_,h1,rfl⟩ F.entry_list_index (F.args_list_index_2 _ _) (SeqAt.list_indexAt p its.toArray n dd sl u (zM y) j hsz hsmall (by simpa using hhit) (fun m hm hmj=>by have:=hno m hmj;simpa using this)) ⟨h1,fun w hw=>jA ru fy r fs w (by simpa using hw),?_⟩;exact⟨.int j,H,I.tok _,⟨s.toks,rfl⟩,q⟩
def d8 (F:List D→D→aq→aN D)(go ge:GE):GE:=fun ρ M=>(go ρ M).bind fun o M1=>match eL o M1 with
 | some _=>(ge ρ M1).bind fun x M2=>match eL o M2 with
  | some xs=>F xs x M2
  | none=>.bad
 | none=>.bad
def eE (xs:List D)(x:D)(M:aq):aN D:=if cR x&&xs.all cR then .ok (.int (xs.countP fun y=>iu y x)) M else .bad
def eT (xs:List D)(x:D)(M:aq):aN D:=if cR x&&xs.all cR then(match xs.findIdx? fun y=>iu y x with|some j=>.ok (.int (j:Nat)) M|none=>.bad) else .bad
theorem jO {x:D}:∀{ds:List D},cR x=true→ds.all cR=true→(ds.map wG).countP (fun z=>oj z (wG x))=ds.countP fun y=>iu y x
 | [],_,_=>rfl
 | d::ds,fx,f=>by
  rw[all_cons,Bool.and_eq_true] at f;rw[map_cons,List.countP_cons,List.countP_cons,jO fx f.2,oh f.1 fx]
theorem ou {x:D}:∀{ds:List D},cR x=true→ds.all cR=true→(ds.map wG).findIdx? (fun z=>oj z (wG x))=ds.findIdx? fun y=>iu y x
 | [],_,_=>rfl
 | d::ds,fx,f=>by
  rw[all_cons,Bool.and_eq_true] at f;rw[map_cons,List.findIdx?_cons,List.findIdx?_cons,ou fx f.2,oh f.1 fx]
section
variable {o e:Expr}{go ge:GE}{apos cpos:Pos}
theorem oD {F:List D→D→aq→aN D}{rr:V→List V→Hp→VK→Prop}{Q:VK}(hs:starEach [e] X.env=(false,eval e X.env)::starEach [] X.env)
  (hF:∀θ H M o x xs v y Q,Wr X.K θ H M→isD X.K θ H o v→eL o M=some xs→isD X.K θ H x y→aA X θ H Q (F xs x M)→rr v [y] H Q) (h:tE X (d8 F go ge) σ H Q):C0 X.K "list" rr (tE X go) (oy (tE X ge) yj) σ H Q:=by
 obtain⟨ρ,θ,M,hd,hw,h⟩:=h;refine bp hd hw (aA X θ H Q) (fun c M' h=>h) (fun h=>h) h fun d M1 v θ1 H1 g1 r1 h1=>?_
 have h2:=aA.go g1 h1;cases ql:eL d M1 with
 | none=>rw[ql] at h2;exact h2.elim
 | some xs0=>
  rw[ql] at h2;obtain⟨a,vs,ea,sq,ra⟩:=nr g1.wr r1 ql;refine⟨by rw[ea];exact .inl ⟨rfl,vs,sq⟩,?_⟩;refine bp (hd.go g1) g1.wr (aA X θ1 H1 Q) (fun c M' h=>h) (fun h=>h) h2 fun dx M2 vx θ2 H2 g2 r2 h3=>?_
  have h4:=aA.go g2 h3;cases ql2:eL d M2 with
  | none=>rw[ql2] at h4;exact h4.elim
  | some xs=>
   rw[ql2] at h4;exact hF θ2 H2 M2 d dx xs v vx Q g2.wr (r1.go g2) ql2 r2 h4
theorem rU {o x:D}{v y:V}{Q:VK}(hw:Wr X.K θ H M)(r:isD X.K θ H o v)(el:eL o M=some xs)(ry:isD X.K θ H x y)(h:aA X θ H Q (eE xs x M)):qP X.K v [y] H Q:=by
 obtain⟨a,vs,ea,sq,ra⟩:=nr hw r el;unfold eE at h;split at h
 ·rename_i hc;rw[Bool.and_eq_true] at hc;obtain⟨e1,f1⟩:=lV ry hc.1;obtain⟨e2,f2⟩:=i8 ra hc.2;refine⟨a,vs,y,ea,rfl,sq,f1,f2,?_⟩;rw[e1,e2,jO hc.1 hc.2];exact h _ θ H (.refl hw) rfl
 ·exact h.elim
theorem rZ {o x:D}{v y:V}{Q:VK}(hw:Wr X.K θ H M)(r:isD X.K θ H o v)(el:eL o M=some xs)(ry:isD X.K θ H x y)(h:aA X θ H Q (eT xs x M)):sG X.K v [y] H Q:=by
 obtain⟨a,vs,ea,sq,ra⟩:=nr hw r el;unfold eT at h;split at h
 ·rename_i hc;rw[Bool.and_eq_true] at hc;obtain⟨e1,f1⟩:=lV ry hc.1;obtain⟨e2,f2⟩:=i8 ra hc.2;split at h
  ·rename_i j hj;exact⟨a,vs,y,j,ea,rfl,sq,f1,f2,by rw[e1,e2,ou hc.1 hc.2];exact hj,h _ θ H (.refl hw) rfl⟩
  ·exact h.elim
 ·exact h.elim
theorem nO {env:Env}(h:aF e=true):((backTo cpos (starEach [e] env)).all (fun x=>!x.1)&&(backToKw cpos (keywordEach [] env)).all (fun x=>x.1.isSome)
   && decide ([e].length+([]:List Keyword).length+(if([]:List Keyword).isEmpty then 0 else 1)<30))=true:=by
 rw[sE h];rfl
theorem sx (ho:PE X o (tE X go))(he:PE X e (tE X ge))(h1:aF e=true:=by rfl)(hbase:attributeBase o "count" X.env (eval o X.env)=eval o X.env:=by rfl)(hline:(apos.endLine==cpos.line)=true:=by rfl) :
  PE X (.Call (.Attribute o "count" apos) [e] [] cpos) (tE X (d8 eE go ge)):=
 (rg PySem.F.plainAttrs_list PySem.F.slot_list_count PySem.F.type_list_count rO ho (cE he fD (sE h1)) hbase (nO h1) hline (sE h1) rfl).of fun σ H Q h=>oD (sE h1) (fun θ H M o x xs v y Q=>rU) h
theorem rF (ho:PE X o (tE X go))(he:PE X e (tE X ge))(h1:aF e=true:=by rfl)(hbase:attributeBase o "index" X.env (eval o X.env)=eval o X.env:=by rfl)(hline:(apos.endLine==cpos.line)=true:=by rfl) :
  PE X (.Call (.Attribute o "index" apos) [e] [] cpos) (tE X (d8 eT go ge)):=
 (rg PySem.F.plainAttrs_list PySem.F.slot_list_index PySem.F.type_list_index sL ho (cE he fD (sE h1)) hbase (nO h1) hline (sE h1) rfl).of fun σ H Q h=>oD (sE h1) (fun θ H M o x xs v y Q=>rZ) h
end
def dg (ok:Str→Option Bool)(g:GE):GE:=fun ρ M=>(g ρ M).bind fun d M1=>match d with
 | .exc c=>match ok c with
  | some b=>.ok (.bl b) M1
  | none=>.bad
 | _=>.bad
theorem tN {v0:V}{ok:Str→Option Bool}(r0:∀c,L2.RelV v0 c→c=c0)(hk:∀c b C,ok c=some b→bR X.K c C→fG X.K C∧W.kitOne X.K (.ref C) c0=some b) :
  cb X (.builtin "isinstance") (fun xs H Q=>∃θ M d v,Wr X.K θ H M∧isD X.K θ H d v∧xs=[v,v0]∧aA X θ H Q (match d with | .exc c=>(match ok c with|some b=>.ok (.bl b) M|none=>.bad)|_=>.bad)):=by
 intro aa s σ H xs us Q I r h;obtain⟨θ,M,d,v,hw,rv,e,h⟩:=h;subst e;obtain⟨u,c,rfl,ru,rc⟩:=wI r;have ec:c=c0:=r0 c rc;subst ec;cases d with
 | exc c=>
  obtain⟨a,C,ea,kC,t,na⟩:=rv;subst ea;cases ru;cases q:ok c with
  | none=>simp only[q] at h;exact h.elim
  | some b=>
   simp only[q] at h;obtain⟨kx,e1⟩:=hk c b C q kC;obtain⟨p,_,_⟩:=I.hok a _ t;exact W.kia_one (rS kx) I.kIn p e1 (fun z=>nomatch z) fun tk=>⟨.bl b,H,I.tok _,rfl,h _ θ H (.refl hw) rfl⟩
 | _=>exact h.elim
def mM (l:List (Str×Bool))(c:Str):Option Bool:=l.lookup c
theorem rX {l:List (Str×Bool)}(h:∀p∈l,∃C,bR K p.1 C∧fG K C∧W.kitOne K (.ref C) c0=some p.2):∀c b C,mM l c=some b→bR K c C→fG K C∧W.kitOne K (.ref C) c0=some b:=fun c b C e kC=>by
 obtain⟨C',k1,k2,k3⟩:=h (c,b) (PySem.mem_of_lookup e);have:=k1.inj kC;subst this;exact⟨k2,k3⟩
theorem vT {mg:Str→Option Value}{g:Str}{G:Addr}(kG:Ec K mg g G)(hm:W.mroIn K C (.ref G)=some b):W.kitOne K (.ref C) (.ref G)=some b:=by
 unfold W.kitOne;split
 ·rename_i q;have e:C=G:=Value.ref.inj (beq_iff_eq.mp q);subst e;rw[kG.sf] at hm;exact hm
 ·show(if((W.clsIn K G).isSome&&W.typeIn K (.ref G)==some (.type "type"))=true then W.subIn K (.ref C) (.ref G) else none)=some b;rw[if_pos (by rw[kG.k.cl,kG.ty];rfl)];exact hm
theorem qH (hT:W.kitMeta T=true)(hm:W.mroIn K C (.type T)=some b):W.kitOne K (.ref C) (.type T)=some b:=by
 unfold W.kitOne;rw[if_neg (by intro q;cases beq_iff_eq.mp q)];show(if W.kitMeta T=true then W.subIn K (.ref C) (.type T) else none)=some b;rw[if_pos hT];exact hm
section
variable {e:Expr}{g:GE}{p p2 pos:Pos}{x:Str}{ok:Str→Option Bool}
theorem qO {v0:V}{Q:VK}(h:tE X (dg ok g) σ H Q):BF (fun xs H Q=>∃θ M d v,Wr X.K θ H M∧isD X.K θ H d v∧xs=[v,v0]∧aA X θ H Q (match d with | .exc c=>(match ok c with|some b=>.ok (.bl b) M|none=>.bad)|_=>.bad)) (oy (tE X g) (oy (tC v0) yj)) σ H Q:=by
 obtain⟨ρ,θ,M,hd,hw,h⟩:=h;refine bp hd hw (aA X θ H Q) (fun c M' h=>h) (fun h=>h) h fun d M1 v θ1 H1 g1 r1 h1=>?_
 exact⟨θ1,M1,d,v,g1.wr,r1,rfl,aA.go g1 h1⟩
theorem wW {G:Addr}(hm:X.mg x=some (.ref G))(hk:∀c b C,ok c=some b→bR X.K c C→fG X.K C∧W.kitOne X.K (.ref C) (.ref G)=some b)(hg:Gl X x)(hgi:Gl X "isinstance")(hmi:X.mg "isinstance"=none)(he:PE X e (tE X g))
  (h1:aF e=true:=by rfl) (hd:(x==("__debug__":Str))=false:=by decide):PE X (.Call (.Name "isinstance" p) [e,.Name x p2] [] pos) (tE X (dg ok g)):=
 (ju (tN (v0:=.ref G) (fun c z=>z) hk) hgi hmi boot_isinstance (cE he (cE (vd hg hm (v:=.ref G) rfl hd) fD (sE rfl)) (sE h1)) (by decide) (by decide) (sE h1) (sS rfl)).of fun σ H Q h=>qO h
theorem ve (hv:bootBuiltins x=some (.type T))(hm:X.mg x=none)(hk:∀c b C,ok c=some b→bR X.K c C→fG X.K C∧W.kitOne X.K (.ref C) (.type T)=some b)(hg:Gl X x)(hgi:Gl X "isinstance")(hmi:X.mg "isinstance"=none)(he:PE X e (tE X g))
  (h1:aF e=true:=by rfl) (hn:x≠"__name__":=by decide) (hd:(x==("__debug__":Str))=false:=by decide):PE X (.Call (.Name "isinstance" p) [e,.Name x p2] [] pos) (tE X (dg ok g)):=
 (ju (tN (v0:=.ty T) (fun c z=>z) hk) hgi hmi boot_isinstance (cE he (cE (vO hg hm hv (v:=.ty T) rfl hn hd) fD (sE rfl)) (sE h1)) (by decide) (by decide) (sE h1) (sS rfl)).of fun σ H Q h=>qO h
end
theorem Dd {l:List Str}{Ga:Addr}(h:∀c∈l,∃C,bR K c C∧W.mroIn K C (.ref Ga)=some true):∀c C,l.contains c=true→bR K c C→W.mroIn K C (.ref Ga)=some true:=fun c C e kC=>by
 obtain⟨C',k1,k2⟩:=h c (List.contains_iff_mem.mp e);have:=k1.inj kC;subst this;exact k2
end
end DL
namespace DL
open PySem L2
theorem AB {P:Program}{w:World}{H:Hp}{s:Shared}{e:Value}{s':Shared}(z:io P w [] H s (fun _ _ _=>False) e s'):False:=by
 obtain⟨_,_,_,_,_,_,_,_,_,_,_,_,_,_,h⟩:=z;exact h
end DL
namespace DL
open PySem PySem.Spec PyProof.Rows L2 List
structure Kc (K:W.Frag)(mg:Str→Option Value)(c:Str)(C:Addr):Prop where
 at_:bR K c C
 m:mg c=some (.ref C)
 cl:C9 K C
end DL
namespace DL
open PySem PySem.Spec PyProof.Rows L2 List
open AutoSeq1 (wpAny_loadPart')
variable{ch:List Addr}
section
variable {X:Cx}{aa:List (Addr×Obj)}{σ:L2.St}{H:Hp}{s:Shared}
theorem lI {a:Addr}{o:HO}{h':Heap}{t':Nat}(I:L2.Inv X aa σ H s)(hf:∀b∈ch,eV X aa H b)(k:∀b u,b∉ch→s.heap.get? b=some u→h'.get? b=some u)
  (hp:s.heap.objs.size≤a) (new:aV X.prog X.w (bi H a o) h' a o):L2.Inv X aa σ (bi H a o) {s with heap:=h',toks:=t'}:=by
 have hn:H a=none:=I.hok.fresh hp;have ne:∀{b:Addr} {u:HO},H b=some u→b≠a:=fun {b u} e z=>by rw[z,hn] at e;cases e
 have nch:∀b u,H b=some u→b∉ch:=fun b u e z=>by rw[(hf b z).1] at e;cases e
 refine I.step (g':=s.gens) (d':=s.drawn) (ch:=ch) (fun b hb=>⟨(hf b hb).2.2.2.1,(hf b hb).2.1,(hf b hb).2.2.2.2.1,(hf b hb).2.2.2.2.2⟩) (fun b u _ _ hc e _=>k b u hc e) (fun b u _ _ hc e _=>⟨u.slots,k b u hc e⟩)
  (fun b u _ e n=>by rw[aj (Nat.ne_of_lt (Nat.lt_of_lt_of_le (Heap.lt_size e) hp))];exact n) (fun b u hc e=>⟨u,k b u hc e⟩) (fun b xs e=>by rw[aj (ne e)];exact e) (fun b u v e=>by rw[aj (ne e)];exact e)
  (fun b ps e=>⟨#[],by rw[aj (ne e),e];simp⟩) (fun m hm=>?_) (fun b u e=>?_) I.bare
 ·obtain⟨u,es,ep,ho,r⟩:=hm;exact⟨u,es,ep,k _ u (fun z=>(hf _ z).2.1 rfl) ho,r⟩
 ·by_cases hb:b=a
  ·subst hb;rw[aT] at e;cases e;exact new
  ·rw[aj hb] at e;refine(I.hok b u e).stay (fun c v hc q=>k c v ?_ q) (fun c q=>by rw[aj (ne q)];exact q) fun c xs q=>by rw[aj (ne q)];exact q
   rcases hc with z|z
   ·rw[z];exact nch b u e
   ·exact nch c _ z
theorem qA {h':Heap}{t':Nat}(I:L2.Inv X aa σ H s)(hf:∀b∈ch,eV X aa H b)(k:∀b u,b∉ch→s.heap.get? b=some u→h'.get? b=some u):L2.Inv X aa σ H {s with heap:=h',toks:=t'}:=by
 have nch:∀b u,H b=some u→b∉ch:=fun b u e z=>by rw[(hf b z).1] at e;cases e
 refine I.step (g':=s.gens) (d':=s.drawn) (ch:=ch) (fun b hb=>⟨(hf b hb).2.2.2.1,(hf b hb).2.1,(hf b hb).2.2.2.2.1,(hf b hb).2.2.2.2.2⟩) (fun b u _ _ hc e _=>k b u hc e) (fun b u _ _ hc e _=>⟨u.slots,k b u hc e⟩)
  (fun b u _ e n=>n) (fun b u hc e=>⟨u,k b u hc e⟩) (fun b xs e=>e) (fun b u v e=>e) (fun b ps e=>⟨#[],by rw[e];simp⟩) (fun m hm=>?_) (fun b u e=>?_) I.bare
 ·obtain⟨u,es,ep,ho,r⟩:=hm;exact⟨u,es,ep,k _ u (fun z=>(hf _ z).2.1 rfl) ho,r⟩
 ·refine(I.hok b u e).stay (fun c v hc q=>k c v ?_ q) (fun c q=>q) fun c xs q=>q
  rcases hc with z|z
  ·rw[z];exact nch b u e
  ·exact nch c _ z
end
def Aa (ds:List D):List D:=(List.range ds.length).zipWith (fun(k:Nat) d=>D.tup [.int (k:Int),d]) ds
end DL
namespace DL
open PySem PySem.Spec PyProof.Rows L2 List
section
variable {X:Cx}{e o lo hi:Expr}{g go gl gh:GE}{pos ip sp:Pos}
def sk:GE:=fun _ _=>.bad
theorem xZ:PE X e (tE X sk):=fun aa s σ H Q I h=>by
 obtain⟨ρ,θ,M,hd,hw,h⟩:=h;exact h.elim
end
def H0 (K:W.Frag)(a:Addr)(so:Obj)(xs:List V)(ts:List Addr)(bm:Addr)(ob:Obj):Hp:=fun b=>
 if b=a then(if K.lookup a=none then some (.frz so (.lst xs)) else none) else if b∈ts then some (.tbl #[]) else if b=bm then some (BW ob) else none
structure BU (K:W.Frag)(h:Heap)(ts:List Addr)(bm:Addr)(ob:Obj):Prop where
 tab:∀P∈ts,h.get? P=some (W.tabObj #[])∧isCodeTable h P∧K.lookup P=none
 names:∀x,x∈bI→∀c P,W.tabIn K x=some (c,P)→P∈ts
 bmk:W.nsIn K mainGlobals "__builtins__"=some (some (.ref bm))
 bmh:h.get? bm=some ob
 bmc:ob.cls=.type "module"∧ob.dict=some builtinsNs∧ob.data=.plain
 bmn:bm≠builtinsNs∧bm≠mainGlobals
 bml:K.lookup bm=none
variable{K:W.Frag}
theorem sM {h:Heap}{a:Addr}{so:Obj}{xs:List V}{ts:List Addr}{bm:Addr}{ob:Obj}(L:BU K h ts bm ob)(ha:h.get? a=some so)(sc:so.cls=.type "list"):fF K (H0 K a so xs ts bm ob):=by
 have neT:∀P∈ts,P≠a:=fun P hP e=>by
  have:=(L.tab P hP).1;rw[e,ha] at this;cases this;cases sc
 have neB:bm≠a:=fun e=>by
  have:=L.bmh;rw[e,ha] at this;cases this;have:=L.bmc.1;rw[sc] at this;simp at this
 have nBT:bm∉ts:=fun hb=>by
  have:=(L.tab bm hb).1;rw[L.bmh] at this;cases this;have:=L.bmc.1;simp at this
 refine⟨fun x hx c P e=>?_,fun x hx c P e=>⟨bm,ob,L.bmk,?_,L.bmc.1,L.bmc.2.1,L.bmc.2.2,L.bmn⟩⟩
 ·have hP:=L.names x hx c P e;refine⟨#[],?_,by simp[TriplesOk],fun pos cv q=>by simp[codeAmong] at q⟩;unfold H0;rw[if_neg (neT P hP),if_pos hP]
 ·unfold H0;rw[if_neg neB,if_neg nBT,if_pos rfl]
theorem pF {P:Program}{w:World}{mg mb:Str→Option Value}{CX:qF}{k:Nat}{fa a:Addr}{fd:FuncData}{x:Str}{sp:Sp}{s₁:Shared}{vs:List Value}{ns:List Int}{ts:List Addr}{bm:Addr}{ob:Obj}
  (KX:K.In s₁.heap) (hns:s₁.heap.Ns mainGlobals mg) (hb:s₁.heap.Ns builtinsNs mb) (hbb:∀x:Str,x≠"__name__"→mb x=bootBuiltins x) (hlim:s₁.heap.NoLimit) (hg:s₁.gens=#[])
  (ha:s₁.heap.get? a=some {cls:=.type "list",data:=.seq vs.toArray}) (hi:IntsAre vs ns) (hl:ns.length≤sizeLine) (hr:bA k callerA) (L:BU K s₁.heap ts bm ob)
  (F:∀base:Heap,K.In base→base.Ns mainGlobals mg→dC P w K mg base CX k fa fd [x] sp) (hbind:∀(s:Shared) (u:Value),BindsTo s fd ⟨[u],[]⟩ [(x,u)])
  (hsp:∀H:Hp,fF K H→gT K H a (ns.map V.int)→sp [.ref a] H (fun v _=>v=.bl true) fun _ _ _=>False)
  (hCX:∀H e s',CX [] H s₁ (fun _ _ _=>False) e s'→False) :
  codeAny (model P w) callerA (.call (.ref fa) ⟨[.ref a],[]⟩) (fun r s'=>r=.ok (.ret (.bool true))∧OldK s₁.heap s'.heap∧s'.os=s₁.os∧AllBare s'.gens) s₁:=by
 have rv:=ka hi;have lenV:=hi.length;have hH:∃H:Hp,H=H0 K a {cls:=.type "list",data:=.seq vs.toArray} (ns.map V.int) ts bm ob:=⟨_,rfl⟩;obtain⟨H,eH⟩:=hH;have tb:fF K H:=by rw[eH];exact sM L ha rfl
 have at_:∀b u,H b=some u→(b=a∧K.lookup a=none∧u=.frz {cls:=.type "list",data:=.seq vs.toArray} (.lst (ns.map V.int)))∨(b≠a∧b∈ts∧u=.tbl #[])∨(b=bm∧u=BW ob):=fun b u e=>by
  rw[eH] at e;unfold H0 at e
  by_cases h1:b=a
  ·rw[if_pos h1] at e
   by_cases h2:K.lookup a=none
   ·rw[if_pos h2] at e;cases e;exact .inl ⟨h1,h2,rfl⟩
   ·rw[if_neg h2] at e;cases e
  ·rw[if_neg h1] at e
   by_cases h2:b∈ts
   ·rw[if_pos h2] at e;cases e;exact .inr (.inl ⟨h1,h2,rfl⟩)
   ·rw[if_neg h2] at e
    by_cases h3:b=bm
    ·rw[if_pos h3] at e;cases e;exact .inr (.inr ⟨h3,rfl⟩)
    ·rw[if_neg h3] at e;cases e
 have hok:fB P w H s₁.heap:=fun b u e=>by
  rcases at_ b u e with⟨h1,_,h3⟩|⟨_,h2,h3⟩|⟨h1,h3⟩
  ·subst h1 h3;exact⟨ha,by rw[length_map];exact hl,vs,_,rv,ha⟩
  ·subst h3;exact(L.tab b h2).1
  ·subst h1 h3;exact⟨L.bmh,trivial,⟨_,L.bmh⟩,fun _ _ _ _=>trivial⟩
 have hS:gT K H a (ns.map V.int):=by
  cases hk:K.lookup a with
  | some o=>
   have e:=KX a o hk;rw[ha] at e;cases e;exact .inr ⟨_,vs.toArray,_,hk,rfl,rfl,rfl,by rw[size_toArray,lenV];exact hl,by simpa using rv⟩
  | none=>exact .inl (.inr ⟨{cls:=.type "list",data:=.seq vs.toArray},by rw[eH];unfold H0;rw[if_pos rfl,if_pos hk]⟩)
 have base_of:∀{b:Addr} {o:Obj},s₁.heap.get? b=some o→H b=none→(lU s₁.heap H).get? b=some o:=fun e n=>tQ e n
 have noA:∀{b:Addr} {o:Obj} {es:Array DictEntry} {ep:Nat},s₁.heap.get? b=some o→o.data=.dict es ep→H b=none:=fun {b o es ep} e d=>by
  cases q:H b with
  | none=>rfl
  | some u=>
   exfalso;rcases at_ b u q with⟨h1,_,_⟩|⟨_,h2,_⟩|⟨h1,_⟩
   ·subst h1;rw[ha] at e;cases e;have d':Data.seq vs.toArray _=Data.dict es ep:=d;cases d'
   ·rw[(L.tab b h2).1] at e;cases e;cases d
   ·subst h1;rw[L.bmh] at e;cases e;rw[L.bmc.2.2] at d;cases d
 have nsK:∀{b:Addr} {m:Str→Option Value},s₁.heap.Ns b m→(lU s₁.heap H).Ns b m:=fun {b m} ⟨o,es,ep,e,d,r⟩=>⟨o,es,ep,base_of e (noA e d),d,r⟩
 have hKb:K.In (lU s₁.heap H):=fun b o e=>base_of (KX b o e) (by
  cases q:H b with
  | none=>rfl
  | some u=>
   exfalso;rcases at_ b u q with⟨h1,h2,_⟩|⟨_,h2,_⟩|⟨h1,_⟩
   ·subst h1;rw[h2] at e;cases e
   ·rw[(L.tab b h2).2.2] at e;cases e
   ·subst h1;rw[L.bml] at e;cases e)
 have hM:Mod K mg (lU s₁.heap H):=⟨hKb,nsK hns,⟨mb,nsK hb,hbb⟩,let ⟨mc,h1,h2⟩:=hlim;⟨mc,nsK h1,h2⟩⟩;have e0:uZ P w K mg (lU s₁.heap H) callerA [] s₁ H:=⟨rfl,hM,fun b o e=>wf e,Nat.le_of_eq (o7 _ _),trivial,fun b hb=>absurd (show b∈([]:List Addr) from hb) (by simp),hok,.of_eq hg⟩;refine codeAny_mono ((F _ hKb (nsK hns)).run callerA [] s₁ H ⟨[.ref a],[]⟩ [.ref a] [.ref a] _ _ hr e0 (hbind s₁ (.ref a)) (.cons rfl .nil) (hsp H tb hS)) fun r s' h=>?_
 cases r with
 | error e=>exact(hCX H e s' h).elim
 | ok fl=>
  cases fl with
  | next=>exact False.elim h
  | brk=>exact False.elim h
  | cont=>exact False.elim h
  | ret u=>
   obtain⟨v,H',os,bare,un,hok',r',q⟩:=h;have q':v=.bl true:=q;subst q';obtain rfl:u=Value.bool true:=r';refine⟨rfl,⟨fun b o e=>?_,fun b o e=>?_⟩,os,bare⟩
   ·cases q:H b with
    | none=>exact .inl (un.keep b o e q (by intro z;exact absurd (show b∈([]:List Addr) from z) (by simp)) (by simp))
    | some u=>
     rcases at_ b u q with⟨h1,_,h3⟩|⟨_,h2,h3⟩|⟨h1,h3⟩
     ·subst h3;have z2:=un.frzs b _ _ q;obtain⟨e1,_⟩:=hok b _ q;obtain⟨e2,_⟩:=hok' b _ z2;rw[e] at e1;cases e1;exact .inl e2
     ·subst h3;obtain⟨more,z2⟩:=un.tbls b _ q;have e1:s₁.heap.get? b=some {cls:=.none,data:=.fields #[]}:=hok b _ q;have e2:s'.heap.get? b=some {cls:=.none,data:=.fields (#[]++more)}:=hok' b _ z2;rw[e] at e1;cases e1;exact .inr (.inl ⟨(L.tab b h2).2.1,rfl,#[],more,rfl,e2⟩)
     ·subst h3;have z2:=un.frzs b _ _ q;obtain⟨e1,_⟩:=hok b _ q;obtain⟨e2,_⟩:=hok' b _ z2;rw[e] at e1;cases e1;exact .inl e2
   ·exact un.there b o e (by simp)
theorem xx {l:W.OpenLaw}{n k:Nat}{q:Program}{loose:List Str}{XP:(Str→Option Value)→Heap→Prop}{YP:World→Heap→Prop}{d:DefRec}{K:Params→W.Frag}{CX:World→qF}{sp:World→Sp}{x:Str}
  (hn:l.most=some n) (hn2:n≤sizeLine) (hdf:d.params.defaults=[]) (hr:bA k callerA)
  (hY:∀(w:World) (h:Heap),YP w h→(K w.params).In h)
  (F:∀(w:World) (mg:Str→Option Value) (fa:Addr) (h:Heap),(K w.params).In h→h.Ns mainGlobals mg→mg d.name=some (.ref fa)→
   ∃fd:FuncData,(∀(s:Shared) (u:Value),BindsTo s fd ⟨[u],[]⟩ [(x,u)])∧
    ∀base:Heap,(K w.params).In base→base.Ns mainGlobals mg→dC l.prog w (K w.params) mg base (CX w) k fa fd [x] (sp w))
  (tabs:∀w:World,∃(ls:List (Str×DefRec×Addr×Addr)) (bm:Addr),(∀p∈ls,(recsOf q).find? (fun e=>e.name==p.1)=some p.2.1∧W.tabIn (K w.params) p.1=some (p.2.2.1,p.2.2.2)∧(K w.params).lookup p.2.2.2=none)∧
   (∀y,y∈bI→W.nsIn (K w.params) mainGlobals y=some none∨∃p∈ls,p.1=y)∧W.nsIn (K w.params) mainGlobals "__builtins__"=some (some (.ref bm))∧(K w.params).lookup bm=none)
  (hsp:∀(w:World) (H:Hp) (a:Addr) (ns:List Int),ns.length≤n→fF (K w.params) H→gT (K w.params) H a (ns.map V.int)→sp w [.ref a] H (fun v _=>v=.bl true) fun _ _ _=>False)
  (hCX:∀(w:World) (H:Hp) (s:Shared) (e:Value) (s':Shared),CX w [] H s (fun _ _ _=>False) e s'→False) :
  W.WalkO q loose XP YP l.row.toRowW d [] (fun f vs=>PySem.call f vs):=by
 refine Att.attach_call hn hdf fun w s₀ s₁ mg mb fa o pm cd doc a vs ns G Y ho hd hcd hmg hobj hints hlen hg=>?_
 have KX:=hY w _ Y;obtain⟨fd,hb,hF⟩:=F w mg fa _ KX G.T.g hmg;obtain⟨ls,bm,hls,hnm,hbm,hbl⟩:=tabs w;obtain⟨bm',ob,b1,b2,b3,b4,b5,b6⟩:=G.T.bmain;have eb:bm'=bm:=by
  have:=W.mg_of KX G.T.g hbm;rw[b1] at this;cases this;rfl
 subst eb;have L:BU (K w.params) s₁.heap (ls.map (·.2.2.2)) bm' ob:=by
  refine⟨fun P hP=>?_,fun y hy c P e=>?_,hbm,?_,?_,?_,hbl⟩
  ·obtain⟨p,hp,rfl⟩:=mem_map.mp hP;obtain⟨h1,h2,h3⟩:=hls p hp;obtain⟨c1,c2⟩:=W.tab_of G.T KX h1 h2;exact⟨c2,(c1.tab c2).isCodeTable,h3⟩
  ·rcases hnm y hy with q|⟨p,hp,q⟩
   ·unfold W.tabIn at e;rw[q] at e;cases e
   ·subst q;obtain⟨h1,h2,h3⟩:=hls p hp;rw[h2] at e;cases e;exact mem_map.mpr ⟨p,hp,rfl⟩
  ·exact b3
  ·exact⟨b4,b5,b6⟩
  ·refine⟨b2,fun z=>?_⟩;obtain⟨o',es,ep,e1,e2,_⟩:=G.T.g;rw[←z,b3] at e1;cases e1;rw[b6] at e2;cases e2
 exact pF KX G.T.g G.T.b G.T.builtins G.T.nolimit hg hobj hints (Nat.le_trans hlen hn2) hr L hF hb (fun H hT hS=>hsp w H a ns hlen hT hS) fun H e s'=>hCX w H s₁ e s'
structure Cv (K:W.Frag)(x:Str)(c P:Addr):Prop where
 mem:x∈bI
 tab:W.tabIn K x=some (c,P)
 uniq:∀y,y∈bI→y≠x→∀c2,W.tabIn K y≠some (c2,P)
 hd:∃o vs file tf flags tg inF text tt,K.lookup c=some o∧o.cls=.type "code"∧o.data=.fields vs∧vs[11]?=some (.ref P)∧vs.getD 11 .none=.ref P∧vs.getD 18 .none=.str file tf∧
  vs.getD 7 .none=.int flags tg∧vs.getD 9 .none=.bool inF∧vs.getD 10 .none=.int text tt∧c≠P
def fW:List D→Option (List Int)
 | []=>some []
 | .int i::r=>(fW r).map (i::·)
 | _=>none
def tP:D→Option (List Int)
 | .tup ds=>fW ds
 | _=>none
theorem nc {K:W.Frag}{θ:List Addr}{H:Hp}:∀{ds:List D} {ks:List Int} {vs:List V},fW ds=some ks→isDs K θ H ds vs→vs=ks.map V.int
 | [],ks,vs,h,r=>by cases h;exact r
 | d::ds,ks,vs,h,r=>by
  obtain⟨v,rr,e,h1,h2⟩:=r;cases d with
  | int i=>
   cases q:fW ds with
   | none=>simp[fW,q] at h
   | some l=>
    simp[fW,q] at h;subst h;have h1:v=.int i:=h1;rw[e,h1,nc q h2];rfl
  | _=>cases h
theorem rP {θ:List Addr}{H:Hp}{d:D}{ks:List Int}{v:V}(h:tP d=some ks)(r:isD K θ H d v):∃a,v=.ref a∧ie K θ H a (ks.map V.int):=by
 cases d with
 | tup ds=>
  obtain⟨a,vs,e,t,rs⟩:=r;have:=nc (show fW ds=some ks from h) rs;subst this;exact⟨a,e,t⟩
 | _=>cases h
end DL
namespace DL
open PySem PySem.Spec PyProof.Rows L2 List
theorem t8 (A:Around)(s:Shared)(a:Int)(t:Tok)(c:Int)(u:Tok)(prog:Program)(w:World)(E:Value→Shared→Prop)(Q:Value→Shared→Prop)(h:Q (.bool (decide (c<a))) s) :
  wpAny (model prog w) A (richCompare .Gt (.int a t) (.int c u)) Q E s:=(PyProof.Rows.gt_int h:wpAny (model prog w) A (compareOp .Gt (.int a t) (.int c u)) Q E s)
section
open PySem.SeqAt
open PySem.AutoSeq1 (wpAny_loadPart')
open PySem.MeetsSeq PySem.MeetsSeq2 PySem.MeetsSeq3
end
section
variable {X:Cx}{aa:List (Addr×Obj)}{σ:L2.St}
theorem pq (a:Value):argsOk "max" ⟨[a],[]⟩:=by unfold argsOk;kernel_rfl
end
end DL
namespace DL
open PySem PySem.Spec PyProof.Rows L2 List
end DL
namespace DL
open PySem PySem.Spec PyProof.Rows L2 List
section
open Builtin Builtin.Str
end
end DL
namespace DL
open PySem PySem.Spec PyProof.Rows L2 List
structure QE (X:Cx)(e:Expr)(g:GE):Prop where
 h:PE X e (tE X g)
structure QT (X:Cx)(e:Expr)(g:GT):Prop where
 h:PT X e (tT X g)
structure QW (X:Cx)(e:Expr)(g:GT):Prop where
 h:PW X e (tT X g)
structure QA (X:Cx)(es:List Expr)(g:GA):Prop where
 h:PA X es (tA X g)
structure QS (X:Cx)(st:Stmt)(g:GS):Prop where
 h:PS X st (tS X g)
structure QB (X:Cx)(st:List Stmt)(g:GS):Prop where
 h:PSs X st (tS X g)
structure QI (X:Cx)(tg e:Expr)(g:GI):Prop where
 h:PI X tg e (tI X g)
structure QG (X:Cx)(tg:Expr)(s:GG):Prop where
 h:PG X tg (tG X s)
structure Bc (X:Cx)(tgs:List Expr)(is:List Nat):Prop where
 h:v4 X tgs (Ap X is)
structure QP (X:Cx)(e:Option Expr)(g:GO):Prop where
 h:PO X e (tO X g)
structure Q2 (X:Cx)(f:Value→Value→Sem Value)(F:F2):Prop where
 h:eI X f (rD X F)
structure QC (X:Cx)(f:Value)(F:FD):Prop where
 h:cb X f (rC X F)
structure AU (X:Cx)(scope:Scope)(xs:List Str)(R:List Str)(ifs:List Expr)(gc:GT):Prop where
 h:fX X scope xs R ifs gc
structure QF (X:Cx)(es:List Expr)(gs:List GE):Prop where
 h:zE X es gs
variable{k:Nat}{f:F2}{op:CmpOp}{gs:List GE}{ok:Str→Option Bool}{xs:List Str}{is:List Nat}
section
variable {X:Cx}{e a b c o i:Expr}{es rest:List Expr}{x:Str}{p p2 pos pos':Pos}{g ga gb gc go gi ge:GE}{ta tb:GT}{gA:GA}
theorem A8:Q2 X (binaryOp .Add) bP:=⟨xW⟩
theorem yr:Q2 X (binaryOp .Add) mL:=⟨vQ⟩
theorem Ae:Q2 X (binaryOp .Sub) jd:=⟨wR⟩
theorem Ah:Q2 X (binaryOp .Mult) cP:=⟨yd⟩
theorem xJ:Q2 X (binaryOp .FloorDiv) ce:=⟨ut⟩
theorem Bd:Q2 X (binaryOp .Mod) dG:=⟨zj⟩
theorem AA:Q2 X (binaryOp .Pow) jS:=⟨xD⟩
theorem Cb:Q2 X (compareOp .Lt) pT:=⟨As⟩
theorem Cq:Q2 X (compareOp .Gt) vF:=⟨Ay⟩
theorem B9:Q2 X (compareOp .GtE) wk:=⟨AS⟩
theorem Cu (hr:bA k X.A):Q2 X (compareOp .Eq) (aS false):=⟨AF hr.units⟩
theorem CB (hr:bA k X.A):Q2 X (compareOp .NotEq) (aS true):=⟨A2 hr.units⟩
theorem Cr:Q2 X (compareOp .Is) (lL false):=⟨Bi⟩
theorem Bx:QC X (.builtin "len") fT:=⟨ym⟩
theorem A1 (hc:X.calm=true:=by rfl):QC X (.builtin "min") nT:=⟨xH hc⟩
theorem yi:QC X (.type "list") gN:=⟨uV⟩
theorem wa:QC X (.type "tuple") eG:=⟨tH⟩
theorem qv (i:Nat){x:Str}{pos:Pos}(hN:X.N[i]?=some x:=by rfl)(hv:AZ X.env.scope x:=by first|exact Or.inl rfl|exact Or.inr (Or.inl rfl)|exact Or.inr (Or.inr rfl))(hd:(x==("__debug__":Str))=false:=by decide)
  (hcd:(x==("__classdict__":Str))=false:=by decide):QE X (.Name x pos) (af i):=⟨vv i hN hv hd hcd⟩
theorem yx {i:Int}{j pos}:QE X (.Constant (.int i) j pos) (gC (.int i)):=⟨zm⟩
theorem A9 {b j pos}:QE X (.Constant (.bool b) j pos) (gC (.bl b)):=⟨zX⟩
theorem zb {j pos}:QE X (.Constant .none j pos) (gC .non):=⟨xA⟩
theorem xF {x j pos}:QE X (.Constant (.str x) j pos) (gC (.str x)):=⟨xv⟩
theorem BA {op:Operator}(ho:Q2 X (binaryOp op) f)(ha:QE X a ga)(hb:QE X b gb):QE X (.BinOp a op b pos) (g2 f ga gb):=⟨zS ho.h ha.h hb.h⟩
def xI:CmpOp→Bool
 | .In=>false
 | .NotIn=>false
 | _=>true
theorem ku {b:Expr}(h:xI op=true):behindInMarks op b=false:=by
 cases op <;> first|exact ye _|(cases h)
theorem yB (ho:Q2 X (compareOp op) f)(ha:QE X a ga)(hb:QE X b gb)(hm:xI op=true:=by rfl):QE X (.Compare a [op] [b] pos) (g2 f ga gb):=⟨xG ho.h ha.h hb.h (ku hm)⟩
theorem xj (ho:Q2 X (compareOp op) f)(ha:QE X a ga)(hb:QE X b gb)(hm:xI op=true:=by rfl):QT X (.Compare a [op] [b] pos) (aK (g2 f ga gb)):=⟨tK ho.h ha.h hb.h (ku hm)⟩
theorem v7 (ho:Q2 X (compareOp op) f)(ha:QE X a ga)(hb:QE X b gb)(hm:behindInMarks op b=false:=by with_unfolding_all rfl):QT X (.Compare a [op] [b] pos) (aK (g2 f ga gb)):=⟨tK ho.h ha.h hb.h hm⟩
theorem v5 (ha:QT X a ta):QW X (.BoolOp .And [a] pos) ta:=⟨uB ha.h⟩
theorem zd (ha:QT X a ta):QW X (.BoolOp .Or [a] pos) ta:=⟨yK ha.h⟩
theorem xY (ha:QT X a ta)(hb:QW X (.BoolOp .And (b::rest) pos) tb):QW X (.BoolOp .And (a::b::rest) pos) (dm ta tb):=⟨yI ha.h hb.h⟩
theorem Bn (ha:QT X a ta)(hb:QW X (.BoolOp .Or (b::rest) pos) tb):QW X (.BoolOp .Or (a::b::rest) pos) (iI ta tb):=⟨Bl ha.h hb.h⟩
theorem Bu (h:QW X a ta):QT X a ta:=⟨PW.pt h.h⟩
theorem yf (h:QT X a ta):QT X (.UnaryOp .Not a pos) (ik ta):=⟨zp h.h⟩
theorem zc (h:QE X a g)(he:∀whole,isTrue a X.env whole=(do let v ←whole;standAt a.pos;holding [v] (truthy v)):=by intro _;rfl):QT X a (kS g):=⟨zn h.h he⟩
theorem zl:QA X [] ah:=⟨xo⟩
theorem CD {gr:GA}(ha:QE X e g)(hr:QA X es gr)(h:aF e=true:=by rfl):QA X (e::es) (ae g gr):=⟨BV ha.h hr.h h⟩
theorem xS {x1}(h:QA X es gA):QE X (.Tuple es x1 pos) (bx gA):=⟨xf h.h⟩
theorem ze (h:QA X es gA):QE X (.List es pos) (cC gA):=⟨yZ h.h⟩
theorem xN (h:QA X es gA):QE X (.List es pos) (gq gA):=⟨zf h.h⟩
theorem zh:QF X [] []:=⟨.nil⟩
theorem CH (h:QE X e g)(t:QF X es gs):QF X (e::es) (g::gs):=⟨.cons h.h t.h⟩
theorem xB {i:Int}(h:QE X e g)(hi:i=-1:=by rfl):QE X (.FormattedValue e i none pos) (gM g):=⟨xq h.h hi⟩
theorem ug (h:QF X (a::b::es) gs):QE X (.JoinedStr (a::b::es) pos) (du gs Str.empty):=⟨wg h.h⟩
theorem vP:QP X none dr:=⟨uh⟩
theorem ur (h:QE X e g):QP X (some e) (iq g):=⟨uT h.h⟩
theorem sA {lo hi:Option Expr}{gl gh:GO}(he:QE X e g)(hl:QP X lo gl)(hh:QP X hi gh):QE X (.Subscript e (.Slice lo hi none p2) pos) (uc g gl gh):=⟨rh he.h hl.h hh.h⟩
theorem Bk (ha:QE X a ga)(hb:QE X b gb)(hs:kQ b:=by intro _ _;rfl):QE X (.Subscript a b pos) (g2 bG ga gb):=⟨AM ha.h hb.h hs⟩
section
variable {apos cpos:Pos}{k n:Nat}{f:Addr}{fd:FuncData}{ps:List Str}{F:FD}{T:String}{id:String}
theorem qj (ho:QE X o go)(he:QE X e ge)(h1:aF e=true:=by rfl)(hbase:attributeBase o "append" X.env (eval o X.env)=eval o X.env:=by rfl)(hline:(apos.endLine==cpos.line)=true:=by rfl):QE X (.Call (.Attribute o "append" apos) [e] [] cpos) (fK go ge):=⟨pR ho.h he.h hbase (nO h1) hline (sE h1) rfl⟩
theorem rN (ho:QE X o go)(he:QE X e ge)(h1:aF e=true:=by rfl)(hbase:attributeBase o "count" X.env (eval o X.env)=eval o X.env:=by rfl)(hline:(apos.endLine==cpos.line)=true:=by rfl):QE X (.Call (.Attribute o "count" apos) [e] [] cpos) (d8 eE go ge):=⟨sx ho.h he.h h1 hbase hline⟩
theorem sC (ho:QE X o go)(he:QE X e ge)(h1:aF e=true:=by rfl)(hbase:attributeBase o "index" X.env (eval o X.env)=eval o X.env:=by rfl)(hline:(apos.endLine==cpos.line)=true:=by rfl):QE X (.Call (.Attribute o "index" apos) [e] [] cpos) (d8 eT go ge):=⟨rF ho.h he.h h1 hbase hline⟩
theorem zR (Fn:dC X.prog X.w X.K X.mg X.base (io X.prog X.w) k f fd ps (nV X.K n F))(hr:bA k X.A)(hg:Gl X x)(hm:X.mg x=some (.ref f))(hk:W.keepIn X.K (.ref f)=true)(hb:eC X.K fd ps [])(ha:QA X (e::es) gA)
  (hdb:(x==("__debug__":Str))=false:=by decide) (h1:aF e=true:=by rfl) (h2:cc es=true:=by rfl):QE X (.Call (.Name x p) (e::es) [] pos) (au n F gA):=⟨Au Fn hr hg hm hk hb ha.h hdb h1 h2⟩
theorem wy (hc:QC X (.builtin id) F)(hg:Gl X x)(hm:X.mg x=none)(hv:bootBuiltins x=some (.builtin id))(ha:QA X (e::es) gA)(hn:x≠"__name__":=by decide)(hdb:(x==("__debug__":Str))=false:=by decide)
  (h1:aF e=true:=by rfl) (h2:cc es=true:=by rfl):QE X (.Call (.Name x p) (e::es) [] pos) (bt F gA):=⟨zP hc.h hg hm hv ha.h hn hdb h1 h2⟩
theorem A6 (hc:QC X (.type T) F)(hg:Gl X x)(hm:X.mg x=none)(hv:bootBuiltins x=some (.type T))(ha:QA X (e::es) gA)(hn:x≠"__name__":=by decide)(hdb:(x==("__debug__":Str))=false:=by decide)
  (h1:aF e=true:=by rfl) (h2:cc es=true:=by rfl):QE X (.Call (.Name x p) (e::es) [] pos) (bt F gA):=⟨A4 hc.h hg hm hv ha.h hn hdb h1 h2⟩
theorem yL {G:Addr}(hm:X.mg x=some (.ref G))(hk:∀c b C,ok c=some b→bR X.K c C→fG X.K C∧W.kitOne X.K (.ref C) (.ref G)=some b)(hg:Gl X x)(hgi:Gl X "isinstance")(hmi:X.mg "isinstance"=none)(he:QE X e g)
  (h1:aF e=true:=by rfl) (hd:(x==("__debug__":Str))=false:=by decide):QE X (.Call (.Name "isinstance" p) [e,.Name x p2] [] pos) (dg ok g):=⟨wW hm hk hg hgi hmi he.h h1 hd⟩
theorem vw (hv:bootBuiltins x=some (.type T))(hm:X.mg x=none)(hk:∀c b C,ok c=some b→bR X.K c C→fG X.K C∧W.kitOne X.K (.ref C) (.type T)=some b)(hg:Gl X x)(hgi:Gl X "isinstance")(hmi:X.mg "isinstance"=none)(he:QE X e g)
  (h1:aF e=true:=by rfl) (hn:x≠"__name__":=by decide) (hd:(x==("__debug__":Str))=false:=by decide):QE X (.Call (.Name "isinstance" p) [e,.Name x p2] [] pos) (dg ok g):=⟨ve hv hm hk hg hgi hmi he.h h1 hn hd⟩
end
theorem AO {tg:Expr}(hg:Gl X "range")(hm:X.mg "range"=none)(ha:QA X [a] gA)(h1:aF a=true:=by rfl):QI X tg (.Call (.Name "range" p) [a] [] pos) (dh gA):=⟨Bw hg hm ha.h h1⟩
theorem xm {tg:Expr}(h:QE X e g):QI X tg e (cF g):=⟨yR h.h⟩
section
variable {scope:Scope}{R:List Str}{iter elt:Expr}{ifs:List Expr}{gI:GI}{gC:GT}{px:Pos}{mk:List D→aq→aN D}
theorem pp :AU X scope xs R [] lC:=⟨rH⟩
theorem pv (h:∀fp s2 H2 C,QT (ay X scope xs R fp s2 H2 C) c ta):AU X scope xs R [c] ta:=⟨tL fun fp s2 H2 C=>(h fp s2 H2 C).h⟩
theorem vf (hS:dR scope X.env.kindOf [x] R X.N=true)(hm:mk=aW∨mk=dk)(hi:QI X (.Name x px) iter gI)(hts:AU X scope [x] R ifs gC)(he:∀fp s H C,QE (ay X scope [x] R fp s H C) elt ge)
  (hc:X.calm=true:=by rfl) (hs:∀x,foldedSetIterable iter X.env x=pure x:=by intro _;rfl):QE X (.ListComp elt [⟨.Name x px,iter,ifs,0⟩] scope pos) (bS gI gC ge mk):=⟨vV hS hc hm hi.h hts.h (fun fp s H C=>(he fp s H C).h) hs⟩
end
def iO:Expr→Bool
 | .ListComp ..=>false
 | .SetComp ..=>false
 | .DictComp ..=>false
 | _=>true
theorem jl {t:Option Expr}{l:Nat}{env:Env}(h:iO e=true):swapsWith e t l env=pure false:=by
 cases e <;> first|rfl|exact ff h
section
variable {st:Stmt}{stmts:List Stmt}{t u:GS}
theorem yW:QB X [] aU:=⟨yU⟩
theorem vI (h1:QS X st t)(h2:QB X stmts u):QB X (st::stmts) (ao t u):=⟨we h1.h h2.h⟩
theorem xM (h1:QS X st t):QB X [st] t:=⟨zi h1.h⟩
theorem wU (i:Nat){x:Str}(hN:X.N.Nodup)(he:QE X e g)(hi:X.N[i]?=some x:=by rfl)(hx:rk X.env.scope x:=by first|exact Or.inl rfl|exact Or.inr rfl)(hs:iO e=true:=by rfl)(hf:X.fn x=true∨X.env.scope.names.lookup x=some .local:=by first|exact .inl rfl|exact .inr rfl) :
  QS X (.Assign [.Name x pos'] e pos) (av i g):=⟨ss i hN he.h hi hx (jl hs) hf⟩
theorem vG (i:Nat){x:Str}(hN:X.N.Nodup)(he:QE X e g)(hi:X.N[i]?=some x:=by rfl)(hx:rk X.env.scope x:=by first|exact Or.inl rfl|exact Or.inr rfl)(hs:swapsWith e (some (.Name x pos')) pos.line X.env=pure false:=by rfl)(hf:X.fn x=true∨X.env.scope.names.lookup x=some .local:=by first|exact .inl rfl|exact .inr rfl) :
  QS X (.Assign [.Name x pos'] e pos) (av i g):=⟨ss i hN he.h hi hx hs hf⟩
theorem yV (he:QE X e g):QS X (.Return (some e) pos) (bY g):=⟨wZ he.h⟩
theorem vM (he:QE X e g)(hs:iO e=true:=by rfl):QS X (.Expr e pos) (cS g):=⟨uQ he.h (jl hs)⟩
theorem zV {a b:List Stmt}{tc:GT}(hc:QT X c tc)(ha:QB X a t)(hb:QB X b u):QS X (.If c a b pos) (dQ tc t u):=⟨AC hc.h ha.h hb.h⟩
theorem qn (i:Nat){x:Str}(hN:X.N.Nodup)(hi:X.N[i]?=some x:=by rfl)(hx:rk X.env.scope x:=by first|exact Or.inl rfl|exact Or.inr rfl)(hf:X.fn x=true∨X.env.scope.names.lookup x=some .local:=by first|exact .inl rfl|exact .inr rfl):QG X (.Name x pos) (dA i):=⟨gg i hN hi hx hf⟩
theorem va:Bc X [] []:=⟨uF⟩
theorem Af {i:Nat}(h1:QG X e (dA i))(h2:Bc X es is)(hs:(assignEach (e::es) X.env).map (·.2)=assign e X.env::(assignEach es X.env).map (·.2):=by rfl):Bc X (e::es) (i::is):=⟨qX h1.h h2.h hs⟩
theorem wX {k n:Nat}(h:Bc X es is)(hc:X.calm=true:=by rfl)(hl:is.length=n:=by rfl)(hn:(assignEach es X.env).length=n:=by rfl)(hst:(assignEach es X.env).findIdx? (·.1)=none:=by rfl):QG X (.Tuple es k pos) (df is):=⟨xP hc h.h hl hn hst⟩
theorem xE {ip:Pos}(he:QE X e g)(ho:QE X o go)(hi:QE X i gi)
  (ha:∀v,assign (.Subscript o i ip) X.env v=(do
   let ov ←holding [v] (eval o X.env)
   let iv ←holding [v,ov] (eval i X.env)
   standAt ip
   holding [v,ov,iv] (setItem ov iv v)
   release [v,ov,iv] []):=by intro _;rfl)
  (hs:iO e=true:=by rfl) (hw:swappedStores [.Subscript o i ip] e X.env=pure none:=by rfl):QS X (.Assign [.Subscript o i ip] e pos) (fm go gi g):=⟨yc he.h ho.h hi.h ha (by unfold swapsWithSole;exact jl hs) hw rfl⟩
theorem xX {tg iter:Expr}{body:List Stmt}{gI:GI}{sg:GG}{gB:GS}(hp:PassesOwn (model X.prog X.w) X.A X.env X.xe)(hi:QI X tg iter gI)(hg:QG X tg sg)(hb:QB X body gB)(hc:X.calm=true:=by rfl)(hs:∀x,foldedSetIterable iter X.env x=pure x:=by intro _;rfl) :
  QS X (.For tg iter body [] pos) (fE gI sg gB):=⟨yH hp hc hi.h hg.h hb.h hs⟩
theorem qJ {x:Str}{C:Addr}{np cpos:Pos}(k:Ec X.K X.mg x C)(hg:Gl X x)(he:QE X e g)(hc:X.calm=true:=by rfl)(h1:aF e=true:=by rfl)(hd:(x==("__debug__":Str))=false:=by decide):QS X (.Raise (some (.Call (.Name x np) [e] [] cpos)) none pos) (cU x g):=⟨sd k hc hg he.h h1 hd⟩
theorem yE {G n:Str}{Ga:Addr}{i:Nat}{ok:Str→Bool}{gB gh:GS}{body suite:List Stmt}{b0:Stmt}{np hpos:Pos}(kG:Ec X.K X.mg G Ga)(hok:∀c C,ok c=true→bR X.K c C→W.mroIn X.K C (.ref Ga)=some true)(hN:X.N.Nodup)
  (hb:∀pn E,QB (iY X pn E) body gB) (hh:∀pn a,QB (fN X pn a) (b0::suite) gh)
  (hg:Gl X G:=by rfl) (hst:X.stack=X.env::X.outer:=by rfl) (hf:X.env.frame=some X.env.locals:=by rfl) (hi:X.N[i]?=some n:=by rfl) (hl:X.env.kindOf n=some .local:=by rfl) (hfn:X.fn n=true∨X.env.scope.names.lookup n=some .local:=by first|exact .inl rfl|exact .inr rfl)
  (hd:(G==("__debug__":Str))=false:=by decide):QS X (.Try body [.ExceptHandler (some (.Name G np)) (some n) (b0::suite) hpos] [] [] pos) (iw i ok gB gh):=⟨xR kG hok hg hst hf hN hi hl hfn (fun pn E=>(hb pn E).h) (fun pn a=>(hh pn a).h) hd⟩
end
end
section
variable {X:Cx}{e o lo hi i:Expr}{g go gl gh:GE}{pos ip sp dpos p1 p2:Pos}{keys:List (Option Expr)}{values:List Expr}{tab:List (Str×Int)}
theorem xT:QE X e sk:=⟨xZ⟩
end
structure Mf (K:W.Frag)(C:Addr)(x qual:Str)(st:Stmt)(f:Addr)(fd:FuncData)(ps:List Str):Prop where
 F:ya K x qual st f fd
 me:Ca K C x f
 b:eC K fd ps []
variable{K:W.Frag}{x:Str}{fd:FuncData}
theorem AI {P:Program}{w:World}{mg:Str→Option Value}{base:Heap}{qual:Str}{st:Stmt}{f:Addr}{N ps:List Str}{n:Nat}{g:GS}(F:ya K x qual st f fd)(S:eZ N ps (aO st))(hn:ps.length=n)
  (hbody:∀(cdv:Value) (A:Around) (outer:List Env) (s:Shared) (H:Hp) (E:XK),bA k (A.deeper (envOfC qual (aO st) s.heap.objs.size f cdv))→QB (gL (io P w) P w K mg base N qual (aO st) f cdv A outer s H E) (cm st) g) :
  dC P w K mg base (io P w) (k+1) f fd ps (nV K n (cO (N.length-n) g)):=CP F S hn fun cdv A outer s H E hr=>(hbody cdv A outer s H E hr).h
variable{q:Program}{d:DefRec}
theorem wb {l:W.OpenLaw}{n:Nat}{loose:List Str}{XP:(Str→Option Value)→Heap→Prop}{YP:World→Heap→Prop}{K:Params→W.Frag}{F:FD}
  (hn:l.most=some n) (hn2:n≤sizeLine) (hdf:d.params.defaults=[]) (hr:bA k callerA) (hY:∀(w:World) (h:Heap),YP w h→(K w.params).In h)
  (hF:∀(w:World) (mg:Str→Option Value) (fa:Addr) (h:Heap),(K w.params).In h→h.Ns mainGlobals mg→mg d.name=some (.ref fa)→
   ∃fd:FuncData,(∀(s:Shared) (u:Value),BindsTo s fd ⟨[u],[]⟩ [(x,u)])∧∀base:Heap,(K w.params).In base→base.Ns mainGlobals mg→dC l.prog w (K w.params) mg base (io l.prog w) k fa fd [x] (nV (K w.params) 1 F))
  (tabs:∀w:World,∃(ls:List (Str×DefRec×Addr×Addr)) (bm:Addr),(∀p∈ls,(recsOf q).find? (fun e=>e.name==p.1)=some p.2.1∧W.tabIn (K w.params) p.1=some (p.2.2.1,p.2.2.2)∧(K w.params).lookup p.2.2.2=none)∧
   (∀y,y∈bI→W.nsIn (K w.params) mainGlobals y=some none∨∃p∈ls,p.1=y)∧W.nsIn (K w.params) mainGlobals "__builtins__"=some (some (.ref bm))∧(K w.params).lookup bm=none)
  (ht:∀ns:List Int,ns.length≤n→∃M',F [.ro (ns.map D.int)] []=.ok (.bl true) M') :
  W.WalkO q loose XP YP l.row.toRowW d [] (fun f vs=>PySem.call f vs):=
 xx (CX:=fun w=>io l.prog w) (sp:=fun w=>nV (K w.params) 1 F) hn hn2 hdf hr hY hF tabs (fun w H a ns hl tb hS=>yT tb hS (ht ns hl)) fun w H s e s' z=>AB z
theorem sT :∀p∈([]:List (Str×DefRec×Addr×Addr)),(recsOf q).find? (fun e=>e.name==p.1)=some p.2.1∧W.tabIn K p.1=some (p.2.2.1,p.2.2.2)∧K.lookup p.2.2.2=none:=fun _ h=>by cases h
variable{ls:List (Str×DefRec×Addr×Addr)}
theorem p5 {c P:Addr}(h1:(recsOf q).find? (fun e=>e.name==x)=some d)(h2:W.tabIn K x=some (c,P))(h3:K.lookup P=none)
  (h:∀p∈ls,(recsOf q).find? (fun e=>e.name==p.1)=some p.2.1∧W.tabIn K p.1=some (p.2.2.1,p.2.2.2)∧K.lookup p.2.2.2=none) :
  ∀p∈(x,d,c,P)::ls,(recsOf q).find? (fun e=>e.name==p.1)=some p.2.1∧W.tabIn K p.1=some (p.2.2.1,p.2.2.2)∧K.lookup p.2.2.2=none:=fun p hp=>by
 rcases mem_cons.mp hp with rfl|hp
 ·exact⟨h1,h2,h3⟩
 ·exact h p hp
theorem tD {φ:Str→Prop}(h1:φ "ink_shown")(h2:φ "table_within")(h3:φ "slots_given")(h4:φ "cast_on_slots"):∀y,y∈bI→φ y:=fun y hy=>by
 simp only[bI,mem_cons,not_mem_nil,or_false] at hy;rcases hy with rfl|rfl|rfl|rfl <;> assumption
theorem v8 {bm:Addr}(h:∀p∈ls,(recsOf q).find? (fun e=>e.name==p.1)=some p.2.1∧W.tabIn K p.1=some (p.2.2.1,p.2.2.2)∧K.lookup p.2.2.2=none)
  (h2:∀y,y∈bI→W.nsIn K mainGlobals y=some none∨∃p∈ls,p.1=y) (h3:W.nsIn K mainGlobals "__builtins__"=some (some (.ref bm))) (h4:K.lookup bm=none) :
  ∃(ls:List (Str×DefRec×Addr×Addr)) (bm:Addr),(∀p∈ls,(recsOf q).find? (fun e=>e.name==p.1)=some p.2.1∧W.tabIn K p.1=some (p.2.2.1,p.2.2.2)∧K.lookup p.2.2.2=none)∧
   (∀y,y∈bI→W.nsIn K mainGlobals y=some none∨∃p∈ls,p.1=y)∧W.nsIn K mainGlobals "__builtins__"=some (some (.ref bm))∧K.lookup bm=none:=⟨ls,bm,h,h2,h3,h4⟩
theorem xK {f c P:Addr}{oc occ:Value}{od odc:Option Addr}{sl slc:Array (Option Value)}{vs:Array Value}
  (a:W.nsIn K mainGlobals x=some (some (.ref f))) (l:K.lookup f=some ⟨oc,od,.func fd,sl⟩) (ec:fd.code=.ref c) (lc:K.lookup c=some ⟨occ,odc,.fields vs,slc⟩) (h11:vs[11]?=some (.ref P)):W.tabIn K x=some (c,P):=by
 unfold W.tabIn;rw[a];dsimp only;rw[l];dsimp only;rw[ec];dsimp only;rw[lc];dsimp only;rw[h11]
end DL
namespace PySem
section
variable {prog:Program}{w:World}{K:Type}[DecidableEq K]{knd:HeapKind prog w K}{A:Around}{E:Value→Shared→Prop}{s:Shared}
theorem hk_setDefault {d a:Addr}{xs:List (K×Addr×Value)}{k:K}{v:Value}{Q:Value→Shared→Prop}(hu:knd.room A)(hkey:knd.is s.heap k a)(hm:s.heap.DictOfH knd d xs)
  (h1:∀p,atKey xs k=some p→Q p.2 {s with toks:=s.toks+knd.draws k})
  (h2:atKey xs k=none→∀h',h'.DictOfH knd d (storedH xs k a v)→Heap.SameBut d s.heap h'→Q v {s with heap:=h',toks:=s.toks+knd.draws k})
  (hsz:xs.length≤sizeLine):wpAny (model prog w) A (dictSetDefault d (.ref a) v) Q E s:=by
 obtain⟨o,es,ep,ho,hc,hd,he,his,hn⟩:=hm;unfold dictSetDefault
 try with_reducible refine wpAny_holding ?_
 refine wpAny_bind (knd.pyHash hu hkey ?_);refine wpAny_bind (wpAny_dictFind_heap (s:={s with toks:=s.toks+knd.draws k}) hu hkey ho hd he his hn ?_ ?_)
 ·intro hno;have hnot:k∉xs.map (·.1):=not_mem_keys_of_get hno;have none_:=atKey_none_of_get hno;refine wpAny_bind (wpAny_rule ?_);refine wpAny_bind (wpAny_updateDictKeys (hz:=by have e:=size_of_entries he;omega) (s:={s with toks:=s.toks+knd.draws k}) ho hd (wpAny_pure (h2 none_ _ ⟨_,_,ep+1,Heap.get?_update_self _ ho (Obj.isFreed_of_dict (Obj.data_mapDictKeys hd _)),
   hc.mapDictKeys _,Obj.data_mapDictKeys hd _,?_,?_,?_⟩ (Heap.SameBut.update ..))))
  ·rw[storedH_new none_];simp[he,entryOfKey]
  ·rw[storedH_new none_];intro x hx;rcases List.mem_append.mp hx with hx|hx
   ·exact knd.keeps (his x hx) ho hd (Heap.SameBut.update ..)
   ·simp only[List.mem_singleton] at hx;subst hx;exact knd.keeps hkey ho hd (Heap.SameBut.update ..)
  ·rw[storedH_new none_];rw[List.map_append,List.nodup_append];refine⟨hn,by simp,?_⟩;intro x hx y hy;simp only[List.map_cons,List.map_nil,List.mem_singleton] at hy;subst hy;exact fun e=>hnot (e▸hx)
 ·intro j p hj;have at_:=atKey_of_get hn hj;refine wpAny_bind (wpAny_dictEntries (s:={s with toks:=s.toks+knd.draws k}) ho hd ?_);rw[entry_at he j,hj];exact wpAny_bind (wpAny_rule (wpAny_pure (h1 _ at_)))
theorem hk_meets_setdefault (knd:HeapKind prog w K)(d a:Addr)(hd:(d==sysModules)=false)(dflt:Value) :
  MeetsIn prog w (Builtin.«dict.setdefault» ⟨[.ref d,.ref a,dflt],[]⟩) (fun A R s=>knd.room A.in1∧∃k xs,knd.is s.heap k a∧s.heap.DictOfH knd d xs∧xs.length≤sizeLine∧
   (∀p,atKey xs k=some p→R (.ok (.ret p.2)) {s with toks:=s.toks+knd.draws k})∧
   (atKey xs k=none→∀h',h'.DictOfH knd d (storedH xs k a dflt)→Heap.SameBut d s.heap h'→R (.ok (.ret dflt)) {s with heap:=h',toks:=s.toks+knd.draws k})):=
 .of_wp fun A R s hxx=>by
  obtain⟨hu,k,xs,hkey,hm,hz,h1,h2⟩:=hxx;unfold Builtin.«dict.setdefault»;refine wpAny_bind ?_;unfold Builtin.Dict.keyAndDefault;refine wpAny_bind (wpAny_notOrdered_dict hm.typeIs ?_);show wpAny _ _ (pure (d,Value.ref a,some dflt)) _ _ s;refine wpAny_pure ?_;show wpAny _ _ (if(d==sysModules)=true then _ else(dictSetDefault d (.ref a) dflt >>= _)) _ _ s;rw[if_neg (by rw[hd];exact Bool.false_ne_true)];exact wpAny_bind (hk_setDefault (hsz:=hz) hu hkey hm (fun p hp=>wpAny_pure ⟨p.2,rfl,h1 p hp⟩) fun hn h' hm' hs'=>wpAny_pure ⟨dflt,rfl,h2 hn h' hm' hs'⟩)
end
end PySem
namespace L2
open PySem PySem.Spec PyProof.Rows List
def C4 (H:Hp)(a:Addr)(y z r:V)(H':Hp):Prop:=
 (nj H a y (some r)∧H'=H)∨(∃kvs k,H a=some (.dK kvs)∧y=kV k∧fo kvs k=none∧kvs.length<sizeLine∧r=z∧H'=bi H a (.dK (iD kvs k z)))∨
 ∃kvs k b,H a=some (.dT kvs)∧y=.ref b∧H b=some (.tup (k.map kV))∧fo kvs k=none∧kvs.length<sizeLine∧r=z∧H'=bi H a (.dT (iD kvs k z))
section
variable {X:Cx}{aa:List (Addr×Obj)}{σ:St}{H H':Hp}{s:Shared}{a:Addr}{y z r:V}{u d:Value}{A:Around}{E:Value→Shared→Prop}
theorem su {Q:Value→Shared→Prop}(hu:A.units+1<cLine)(I:Inv X aa σ H s)(g:C4 H a y z r H')(ry:RelV y u)(rz:RelV z d)(h:∀w' s',Inv X aa σ H' s'→RelV r w'→Q w' s') :
  wpAny (model X.prog X.w) A (call (.builtin "dict.setdefault") [.ref a,u,d]) Q E s:=by
 rcases g with⟨g,rfl⟩|⟨kvs,k,e,ey,l,hl,er,rfl⟩|⟨kvs,k,b,e,ey,eb,l,hl,er,rfl⟩
 ·rcases g with⟨kvs,k,e,ey,l⟩|⟨kvs,k,b,e,ey,eb,l⟩
  ·subst ey;obtain⟨z',hd,vs,rel,dd⟩:=m5 I.hok e;obtain⟨w',hw,rw'⟩:=fu.some_of (v:=r) (o:=valueAt vs k) (by rw[l];exact rel.val k);refine call_meetsIn PySem.F.slot_dict_setdefault dd.typeIs PySem.F.entry_dict_setdefault (PySem.F.args_dict_setdefault_3 _ _ _) (kt_meets_setdefault (aE X.prog X.w) a (oY ry) hd d) ⟨vs,dd,by rw[←rel.length];exact z',fun v hv=>?_,fun hn=>?_⟩
   ·rw[hw] at hv;cases hv;exact h _ _ (I.tok _) rw'
   ·rw[hw] at hn;cases hn
  ·subst ey;cases (show u=Value.ref b from ry);obtain⟨z',hd,xs,rel,dd⟩:=mv I.hok e;obtain⟨w',hw,rw'⟩:=fu.some_of (v:=r) (o:=(atKey xs k).map (·.2)) (by rw[l];exact rel.val k);obtain⟨p,hp,hp2⟩:=Option.map_eq_some_iff.mp hw;refine call_meetsIn PySem.F.slot_dict_setdefault dd.typeIs PySem.F.entry_dict_setdefault (PySem.F.args_dict_setdefault_3 _ _ _) (hk_meets_setdefault (tupleKind (aE X.prog X.w)) a b hd d) ⟨tupleKind_room_in1 hu,k,xs,lH I.hok eb,dd,by rw[←Paired.length rel];exact z',fun q hq=>?_,fun hn=>?_⟩
   ·rw[hp] at hq;cases hq;rw[hp2];exact h _ _ (I.tok _) rw'
   ·rw[hp] at hn;cases hn
 ·subst ey er;obtain⟨z',hd,vs,rel,dd⟩:=AX I.hok e;have hn:valueAt vs k=none:=fu.none_of (by rw[←l];exact rel.val k);have hl':(iD kvs k r).length≤sizeLine:=by have:=im kvs k r;omega
  refine call_meetsIn PySem.F.slot_dict_setdefault dd.typeIs PySem.F.entry_dict_setdefault (PySem.F.args_dict_setdefault_3 _ _ _) (kt_meets_setdefault (aE X.prog X.w) a (oY ry) hd d) ⟨vs,dd,by rw[←rel.length];exact z',fun v hv=>?_,fun _ h' dd' hs=>h _ _ ?_ rz⟩
  ·rw[hn] at hv;cases hv
  ·have he:∃q,h'.get? a=some q:=let ⟨q,_,_,hq,_⟩:=dd';⟨q,hq⟩
   exact oG I (by rw[e];exact True.intro) hs he (yk hl' hd (rel.put k rz) dd')
 ·subst ey er;cases (show u=Value.ref b from ry);obtain⟨z',hd,xs,rel,dd⟩:=AK I.hok e;have hn:(atKey xs k).map (·.2)=none:=fu.none_of (by rw[←l];exact rel.val k);have hl':(iD kvs k r).length≤sizeLine:=by have:=im kvs k r;omega
  refine call_meetsIn PySem.F.slot_dict_setdefault dd.typeIs PySem.F.entry_dict_setdefault (PySem.F.args_dict_setdefault_3 _ _ _) (hk_meets_setdefault (tupleKind (aE X.prog X.w)) a b hd d) ⟨tupleKind_room_in1 hu,k,xs,lH I.hok eb,dd,by rw[←Paired.length rel];exact z',fun q hq=>?_,fun _ h' dd' hs=>h _ _ ?_ rz⟩
  ·rw[hq] at hn;cases hn
  ·obtain⟨q,es,ep,hq,h2,h3,h4,_,h5⟩:=dd';refine oG I (by rw[e];exact True.intro) hs ⟨q,hq⟩ ⟨hl',hd,_,(rel.put k eb rz).keeps fun c ys ec=>?_,q,es,ep,hq,h2,h3,h4,h5⟩;rw[aj (mD ec e (fun z=>nomatch z))];exact ec
end
section
variable {X:Cx}{o e f:Expr}{td ty tx:TE}{apos cpos:Pos}
def AR (td ty tx:TE):TE:=fun σ H Q=>td σ H fun x H1=>∃a,x=.ref a∧CQ H1 a∧ty σ H1 fun y H2=>tx σ H2 fun z H3=>∃r H4,C4 H3 a y z r H4∧Q r H4
theorem nl (hu:X.A.units+1<cLine)(ho:PE X o td)(he:PE X e ty)(hf:PE X f tx)(m:M2 X o "setdefault" apos e f cpos):PE X (.Call (.Attribute o "setdefault" apos) [e,f] [] cpos) (AR td ty tx):=by
 intro aa s σ H Q I h;refine wpAny_Call_method m.base m.few m.line PySem.F.plainAttrs_dict PySem.F.slot_dict_setdefault PySem.F.type_dict_setdefault (b8 (ho aa s σ H _ I h) fun u s1 hxx=>?_);obtain⟨x,H1,I1,rx,a,ex,d,q1⟩:=hxx;subst ex;obtain rfl:u=Value.ref a:=rx;obtain⟨t1,t2,_⟩:=yb I1 d;refine⟨t1,t2,?_⟩;rw[m.trees];refine Calls.callWith_builtin rfl (Calls.evalArgs_plain (Calls.spliced_cons (b8 (he aa s1 σ H1 _ I1 q1) fun iv s2 ⟨y,H2,I2,ry,q2⟩=>
  Calls.spliced_cons (b8 (hf aa s2 σ H2 _ I2 q2) fun fv s3 ⟨z,H3,I3,rz,r,H4,g,q3⟩=>Calls.spliced_nil ?_))))
 exact su hu I3 g ry rz fun w' s4 I4 rw'=>⟨_,H4,I4,rw',q3⟩
end
def sortI (ns:List Int):List Int:=ns.mergeSort fun a b=>decide (a≤b)
end L2
namespace DL
open PySem PySem.Spec PyProof.Rows L2 List
def cY:D→Option bH
 | .int i=>some (.inl i)
 | .str x=>some (.inr x)
 | _=>none
def pf:List D→Option (List bH)
 | []=>some []
 | d::ds=>match cY d,pf ds with
  | some k,some ks=>some (k::ks)
  | _,_=>none
def nJ:D→Option (List bH)
 | .tup ds=>pf ds
 | _=>none
def cQ {κ:Type}[DecidableEq κ](kvs:List (κ×D))(k:κ):Option D:=(kvs.find? fun kv=>decide (kv.1=k)).map (·.2)
section
variable {K:W.Frag}{θ:List Addr}{H:Hp}
theorem qT {d:D}{k:bH}{v:V}(e:cY d=some k)(r:isD K θ H d v):v=kV k:=by
 cases d <;> simp only[cY,Option.some.injEq,reduceCtorEq] at e
 ·subst e;exact r
 ·subst e;exact r
theorem rG:∀{ds:List D} {ks:List bH} {vs:List V},pf ds=some ks→isDs K θ H ds vs→vs=ks.map kV
 | [],ks,vs,e,r=>by
  simp only[pf,Option.some.injEq] at e;subst e;exact r
 | d::ds,ks,vs,e,r=>by
  obtain⟨v,us,e1,r1,r2⟩:=r;simp only[pf] at e;cases q1:cY d with
  | none=>rw[q1] at e;cases e
  | some k=>
   cases q2:pf ds with
   | none=>rw[q1,q2] at e;cases e
   | some ks'=>
    rw[q1,q2] at e;cases e;rw[e1,qT q1 r1,rG q2 r2];rfl
theorem yN {d:D}{ks:List bH}{v:V}(e:nJ d=some ks)(r:isD K θ H d v):∃b,v=.ref b∧H b=some (.tup (ks.map kV))∧b∉θ:=by
 cases d with
 | tup ds=>
  obtain⟨a,vs,e1,t,r1⟩:=r;rw[rG e r1] at t;exact⟨a,e1,t.1,t.2⟩
 | _=>cases e
section
variable {κ:Type}[DecidableEq κ]
theorem qM {p:κ×D}{r:List (κ×D)}{k:κ}(e:p.1=k):cQ (p::r) k=some p.2:=by simp[cQ,find?_cons,e]
theorem qY {p:κ×D}{r:List (κ×D)}{k:κ}(e:¬p.1=k):cQ (p::r) k=cQ r k:=by simp[cQ,find?_cons,e]
theorem gF:∀{fs:List (κ×D)} {vs:List (κ×V)} (k:κ),isKs K θ H fs vs→(∀d,cQ fs k=some d→∃v,fo vs k=some v∧isD K θ H d v)∧(cQ fs k=none→fo vs k=none)
 | [],vs,k,r=>by
  have e:vs=[]:=r;subst e;exact⟨fun d h=>(by cases h),fun _=>rfl⟩
 | p::fs,vs,k,r=>by
  obtain⟨k0,d0⟩:=p;obtain⟨v,us,e,h1,h2⟩:=r;subst e
  by_cases q:k0=k
  ·rw[qM (p:=(k0,d0)) q,gH (p:=(k0,v)) q];exact⟨fun d h=>(by cases h;exact⟨v,rfl,h1⟩),fun h=>(by cases h)⟩
  ·rw[qY (p:=(k0,d0)) q,gJ (p:=(k0,v)) q];exact gF k h2
theorem gW {k:κ}{d:D}{v:V}(h:isD K θ H d v):∀{fs:List (κ×D)} {vs:List (κ×V)},isKs K θ H fs vs→isKs K θ H (fs++[(k,d)]) (vs++[(k,v)])
 | [],vs,r=>by
  have e:vs=[]:=r;subst e;exact⟨v,[],rfl,h,rfl⟩
 | (k0,d0)::fs,vs,r=>by
  obtain⟨u,us,e,h1,h2⟩:=r;subst e;exact⟨u,us++[(k,v)],rfl,h1,gW h h2⟩
theorem dn:∀{fs:List (κ×D)} {vs:List (κ×V)},isKs K θ H fs vs→fs.length=vs.length
 | [],vs,r=>by
  have e:vs=[]:=r;subst e;rfl
 | (k0,d0)::fs,vs,r=>by
  obtain⟨u,us,e,h1,h2⟩:=r;subst e;rw[length_cons,length_cons,dn h2]
end
end
section
variable {X:Cx}{pos apos cpos:Pos}{o e f:Expr}
def jm:GE:=fun _ M=>.ok (.mr M.length) (M++[.dK []])
theorem vC:PE X (.Dict [] [] pos) (tE X jm):=rJ.of fun σ H Q ⟨ρ,θ,M,hd,hw,h⟩ p hp=>by
 have h:aA X θ H Q (.ok (.mr M.length) (M++[.dK []])):=h;exact h _ _ _ (ot hw hp ⟨[],aT,rfl⟩) (mR hw)
def i6:Option MO→Bool
 | some (.dK _)=>true
 | some (.dT _)=>true
 | _=>false
def de (i:Nat)(y z:D)(M:aq):aN D:=match M[i]? with
 | some (.dK kvs)=>match cY y with
  | some k=>match cQ kvs k with
   | some r=>.ok r M
   | none=>if kvs.length<sizeLine then .ok z (M.set i (.dK (kvs++[(k,z)]))) else .bad
  | none=>.bad
 | some (.dT kvs)=>match nJ y with
  | some k=>match cQ kvs k with
   | some r=>.ok r M
   | none=>if kvs.length<sizeLine then .ok z (M.set i (.dT (kvs++[(k,z)]))) else .bad
  | none=>.bad
 | _=>.bad
def cJ (go gy gz:GE):GE:=fun ρ M=>(go ρ M).bind fun o M1=>match o with
 | .mr i=>if i6 M1[i]?=true then(gy ρ M1).bind fun y M2=>(gz ρ M2).bind fun z M3=>de i y z M3 else .bad
 | _=>.bad
theorem pP {K:W.Frag}{θ:List Addr}{H:Hp}{M:aq}{i:Nat}{a:Addr}(hw:Wr K θ H M)(ta:θ[i]?=some a)(h:i6 M[i]?=true):CQ H a:=by
 cases q:M[i]? with
 | none=>rw[q] at h;cases h
 | some m=>
  cases m with
  | lst _=>rw[q] at h;cases h
  | obj _ _=>rw[q] at h;cases h
  | dK kvs=>obtain⟨vs,e,_⟩:=hw.at_ i a _ ta q;exact .inl ⟨vs,.inl e⟩
  | dT kvs=>obtain⟨vs,e,_⟩:=hw.at_ i a _ ta q;exact .inr ⟨vs,.inl e⟩
theorem pH {go gy gz:GE}(hu:X.A.units+1<cLine)(ho:PE X o (tE X go))(he:PE X e (tE X gy))(hf:PE X f (tE X gz))(m:M2 X o "setdefault" apos e f cpos) :
  PE X (.Call (.Attribute o "setdefault" apos) [e,f] [] cpos) (tE X (cJ go gy gz)):=(nl hu ho he hf m).of fun σ H Q hxx=>by
 obtain⟨ρ,θ,M,hd,hw,h⟩:=hxx;refine bp hd hw (aA X θ H Q) (fun c M' h=>h) (fun h=>h) h fun d M1 v θ1 H1 g1 r1 h1=>?_
 have h2:=aA.go g1 h1;cases d with
 | mr i=>
  have h2:aA X θ1 H1 Q (if i6 M1[i]?=true then(gy ρ M1).bind fun y M2=>(gz ρ M2).bind fun z M3=>de i y z M3 else .bad):=h2;obtain⟨a,ea,ta⟩:=id r1;split at h2
  ·rename_i hD;refine⟨a,ea,pP g1.wr ta hD,?_⟩;refine bp (hd.go g1) g1.wr (aA X θ1 H1 Q) (fun c M' h=>h) (fun h=>h) h2 fun dy M2 vy θ2 H2 g2 r2 h3=>?_
   refine bp ((hd.go g1).go g2) g2.wr (aA X θ2 H2 Q) (fun c M' h=>h) (fun h=>h) (aA.go g2 h3) fun dz M3 vz θ3 H3 g3 r3 h4=>?_
   have h4:=aA.go g3 h4;have ry:isD X.K θ3 H3 dy vy:=r2.go g3;obtain⟨a',ea',ta3⟩:isD X.K θ3 H3 (.mr i) v:=r1.go (g2.trans g3);obtain rfl:a=a':=by rw[ea] at ea';injection ea'
   unfold de at h4;cases q:M3[i]? with
   | none=>rw[q] at h4;exact h4.elim
   | some mo=>
    cases mo with
    | lst _=>rw[q] at h4;exact h4.elim
    | obj _ _=>rw[q] at h4;exact h4.elim
    | dK kvs=>
     rw[q] at h4;dsimp only at h4;obtain⟨vs,hv,ra⟩:=g3.wr.at_ i a _ ta3 q;cases qk:cY dy with
     | none=>rw[qk] at h4;exact h4.elim
     | some k=>
      rw[qk] at h4;dsimp only at h4;have ek:=qT qk ry;obtain⟨i1,i2⟩:=gF k ra;cases qg:cQ kvs k with
      | some r=>
       rw[qg] at h4;obtain⟨vr,hvr,rr⟩:=i1 r qg;exact⟨vr,H3,.inl ⟨.inl ⟨vs,k,.inl hv,ek,hvr.symm⟩,rfl⟩,h4 _ _ _ (.refl g3.wr) rr⟩
      | none=>
       rw[qg] at h4;dsimp only at h4;split at h4
       ·rename_i hl;have nv:=i2 qg;refine⟨vz,_,.inr (.inl ⟨vs,k,hv,ek,nv,by rw[←dn ra];exact hl,rfl,rfl⟩),?_⟩;rw[l8 vz nv];have gs:=lB (m:=.dK (kvs++[(k,dz)])) (o:=.dK (vs++[(k,vz)])) g3.wr ta3 ⟨_,aT,dE (iP g3.wr ta3) (gW r3 ra)⟩;exact h4 _ _ _ gs (r3.go gs)
       ·exact h4.elim
    | dT kvs=>
     rw[q] at h4;dsimp only at h4;obtain⟨vs,hv,ra⟩:=g3.wr.at_ i a _ ta3 q;cases qk:nJ dy with
     | none=>rw[qk] at h4;exact h4.elim
     | some k=>
      rw[qk] at h4;dsimp only at h4;obtain⟨b,eb,hb,_⟩:=yN qk ry;obtain⟨i1,i2⟩:=gF k ra;cases qg:cQ kvs k with
      | some r=>
       rw[qg] at h4;obtain⟨vr,hvr,rr⟩:=i1 r qg;exact⟨vr,H3,.inl ⟨.inr ⟨vs,k,b,.inl hv,eb,hb,hvr.symm⟩,rfl⟩,h4 _ _ _ (.refl g3.wr) rr⟩
      | none=>
       rw[qg] at h4;dsimp only at h4;split at h4
       ·rename_i hl;have nv:=i2 qg;refine⟨vz,_,.inr (.inr ⟨vs,k,b,hv,eb,hb,nv,by rw[←dn ra];exact hl,rfl,rfl⟩),?_⟩;rw[l8 vz nv];have gs:=lB (m:=.dT (kvs++[(k,dz)])) (o:=.dT (vs++[(k,vz)])) g3.wr ta3 ⟨_,aT,dE (iP g3.wr ta3) (gW r3 ra)⟩;exact h4 _ _ _ gs (r3.go gs)
       ·exact h4.elim
  ·exact h2.elim
 | _=>exact h2.elim
def kK:List D→Option (List Int)
 | []=>some []
 | .int i::ds=>(kK ds).map (i::·)
 | _::_=>none
theorem qU {K:W.Frag}{θ:List Addr}{H:Hp}:∀{ds:List D} {ns:List Int} {vs:List V},kK ds=some ns→isDs K θ H ds vs→vs=ns.map V.int
 | [],ns,vs,e,r=>by
  simp only[kK,Option.some.injEq] at e;subst e;exact r
 | d::ds,ns,vs,e,r=>by
  obtain⟨v,us,e1,r1,r2⟩:=r;cases d with
  | int i=>
   simp only[kK] at e;obtain⟨ms,e2,e3⟩:=Option.map_eq_some_iff.mp e;subst e3;rw[e1,qU e2 r2,show v=V.int i from r1];rfl
  | _=>cases e
theorem fe {K:W.Frag}{θ:List Addr}{H:Hp}:∀ns:List Int,isDs K θ H (ns.map D.int) (ns.map V.int)
 | []=>rfl
 | n::ns=>⟨_,_,rfl,rfl,fe ns⟩
end
section
variable {X:Cx}{pos apos cpos:Pos}{o e f:Expr}{go gy gz:GE}
theorem uC:QE X (.Dict [] [] pos) jm:=⟨vC⟩
theorem pL {k:Nat}(hr:bA k X.A)(ho:QE X o go)(he:QE X e gy)(hf:QE X f gz)
  (base:attributeBase o "setdefault" X.env (eval o X.env)=eval o X.env:=by rfl)
  (few:((backTo cpos (starEach [e,f] X.env)).all (fun x=>!x.1)&&(backToKw cpos (keywordEach [] X.env)).all (fun x=>x.1.isSome)
   && decide (([e,f]:List Expr).length+([]:List Keyword).length+(if([]:List Keyword).isEmpty then 0 else 1)<30))=true:=by rfl)
  (line:(apos.endLine==cpos.line)=true:=by rfl) (trees:backTo cpos (starEach [e,f] X.env)=[(false,eval e X.env),(false,eval f X.env)]:=by rfl) :
  QE X (.Call (.Attribute o "setdefault" apos) [e,f] [] cpos) (cJ go gy gz):=⟨pH (wq hr) ho.h he.h hf.h ⟨base,few,line,trees⟩⟩
end
end DL
namespace L2
open PySem PySem.Spec PyProof.Rows List
end L2
namespace DL
open PySem PySem.Spec PyProof.Rows L2 List
end DL
namespace L2
open PySem PySem.Spec PyProof.Rows List
end L2
namespace DL
open PySem PySem.Spec PyProof.Rows L2 List
theorem eD {N ps:List Str}{sc:Scope}(h1:sc.kind=.function:=by rfl)(h2:sc.isCoroutine=false:=by rfl)(h3:sc.isGenerator=false:=by rfl)(h4:N.Nodup:=by decide +kernel)(h5:N.take ps.length=ps:=by rfl)
  (h6:∀x∈ps,sc.names.lookup x=some .local∨sc.names.lookup x=some .cell:=by decide +kernel) (h7:∀y∈sc.names,y.2≠.free:=by decide +kernel):eZ N ps sc:=⟨h1,h2,h3,h4,h5,h6,h7⟩
section
variable {X:Cx}{e:Expr}{es:List Expr}{x:Str}{p pos:Pos}{gA:GA}{k k' n:Nat}{f:Addr}{fd:FuncData}{ps:List Str}{F:FD}{st:Stmt}{id:String}{T:String}
theorem wF (hc:QC X (.builtin id) F)(hm:X.mg x=none)(hv:bootBuiltins x=some (.builtin id))(ha:QA X (e::es) gA)(hg:Gl X x:=by rfl)(hn:x≠"__name__":=by decide)(hdb:(x==("__debug__":Str))=false:=by decide)
  (h1:aF e=true:=by rfl) (h2:cc es=true:=by rfl):QE X (.Call (.Name x p) (e::es) [] pos) (bt F gA):=wy hc hg hm hv ha hn hdb h1 h2
end
def FF (K:W.Frag)(mg:Str→Option Value)(x:Str)(st:Stmt)(ps:List Str):Prop:=∃f fd,Fn K mg x st f fd ps
def KC (K:W.Frag)(mg:Str→Option Value)(c:Str)(C:Addr):Prop:=Kc K mg c C∧W.makesIn K C=true∧W.keepIn K (.ref C)=true
def MF (K:W.Frag)(mg:Str→Option Value)(c m q:Str)(st:Stmt)(ps:List Str):Prop:=∃C f fd,KC K mg c C∧Mf K C m q st f fd ps
def LF (K:W.Frag)(mg:Str→Option Value)(x:Str)(st:Stmt)(ps:List Str):Prop:=∃f fd c P,Fn K mg x st f fd ps∧W.nsIn K mainGlobals x=some (some (.ref f))∧Cv K x c P
def NA (K:W.Frag)(mg:Str→Option Value)(c f:Str):Prop:=∃C,KC K mg c C∧yM K C f
def EX (K:W.Frag)(mg:Str→Option Value)(x:Str):Prop:=∃C,Ec K mg x C
def IX (K:W.Frag)(mg:Str→Option Value)(x:Str)(tab:List (Str×Bool)):Prop:=∃G,Ec K mg x G∧∀p∈tab,∃C,Ec K mg p.1 C∧W.mroIn K C (.ref G)=some p.2
def IB (K:W.Frag)(mg:Str→Option Value)(x:String)(tab:List (Str×Bool)):Prop:=∀p∈tab,∃C,Ec K mg p.1 C∧W.mroIn K C (.type x)=some p.2
def Ls {α:Type}(P:α→Prop)(l:List α):Prop:=∀t∈l,P t
section
variable {α β γ:Type}{P:α→Prop}{l:List α}{a:α}
theorem Ls.nil:Ls P []:=fun _ h=>by cases h
theorem Ls.cons (h:P a)(t:Ls P l):Ls P (a::l):=fun x hx=>by
 rcases mem_cons.mp hx with e|e
 ·rw[e];exact h
 ·exact t x e
end
structure RN (l c:Nat)(xs R:List Str):Prop
theorem rn (l c:Nat)(xs R:List Str):RN l c xs R:=⟨⟩
def Ok (P:Program)(w:World)(K:W.Frag)(mg:Str→Option Value)(base:Heap)(x:Str)(k n:Nat)(F:FD):Prop:=
 ∃f fd ps,dC P w K mg base (io P w) k f fd ps (nV K n F)∧mg x=some (.ref f)∧W.keepIn K (.ref f)=true∧eC K fd ps []
section
variable {P:Program}{w:World}{K:W.Frag}{mg:Str→Option Value}{base:Heap}{x c m q:Str}{st:Stmt}{N ps:List Str}{k n:Nat}{g:GS}{F:FD}
theorem ja (h:Ok P w K mg base x k n F):Ok P w K mg base x k n fun ds M=>d9 M.length (F ds M):=by
 obtain⟨f,fd,ps,h1,h2,h3,h4⟩:=h;exact⟨f,fd,ps,yO h1,h2,h3,h4⟩
theorem jX (T:FF K mg x st ps)(N:List Str)(S:eZ N ps (aO st))(hn:ps.length=n)
  (hb:∀(f:Addr) (cdv:Value) (A:Around) (outer:List Env) (s:Shared) (H:Hp) (E:XK),N.Nodup→bA k (A.deeper (envOfC x (aO st) s.heap.objs.size f cdv))→QB (gL (io P w) P w K mg base N x (aO st) f cdv A outer s H E) (cm st) g) :
  Ok P w K mg base x (k+1) n (cO (N.length-n) g):=by
 obtain⟨f,fd,T⟩:=T;exact⟨f,fd,ps,AI T.F S hn fun cdv A outer s H E hr=>hb f cdv A outer s H E S.nd hr,T.m,T.F.kp,T.b⟩
end
section
variable {X:Cx}{e a o value:Expr}{es:List Expr}{x c m f:Str}{p p2 pos apos pos':Pos}{gA:GA}{g go gv:GE}{k k' n:Nat}{F:FD}{tab:List (Str×Bool)}{bs:List Str}
theorem Ao (h:Ok X.prog X.w X.K X.mg X.base x k n F)(hr:bA k' X.A)(ha:QA X (e::es) gA)(hk:k≤k':=by first|decide|omega)(hg:Gl X x:=by rfl)
  (hdb:(x==("__debug__":Str))=false:=by decide) (h1:aF e=true:=by rfl) (h2:cc es=true:=by rfl):QE X (.Call (.Name x p) (e::es) [] pos) (au n F gA):=by
 obtain⟨f,fd,ps,h1',h2',h3,h4⟩:=h;exact zR h1' (hr.mono hk) hg h2' h3 h4 ha hdb h1 h2
theorem pK {np cpos:Pos}(h:EX X.K X.mg x)(he:QE X e g)(hg:Gl X x:=by rfl)(hc:X.calm=true:=by rfl)(h1:aF e=true:=by rfl)(hd:(x==("__debug__":Str))=false:=by decide):QS X (.Raise (some (.Call (.Name x np) [e] [] cpos)) none pos) (cU x g):=by
 obtain⟨C,h⟩:=h;exact qJ h hg he hc h1 hd
theorem uE (h:IX X.K X.mg x tab)(hmi:X.mg "isinstance"=none)(he:QE X e g)(hg:Gl X x:=by rfl)(hgi:Gl X "isinstance":=by rfl)
  (h1:aF e=true:=by rfl) (hd:(x==("__debug__":Str))=false:=by decide):QE X (.Call (.Name "isinstance" p) [e,.Name x p2] [] pos) (dg (mM tab) g):=by
 obtain⟨G,h,t⟩:=h;exact yL h.m (rX fun p hp=>(t p hp).elim fun C q=>⟨C,q.1.at_,q.1.k,vT h q.2⟩) hg hgi hmi he h1 hd
theorem tX {T:String}(h:IB X.K X.mg T tab)(hm:X.mg x=none)(hmi:X.mg "isinstance"=none)(he:QE X e g)(hT:W.kitMeta T=true)(hv:bootBuiltins x=some (.type T))(hg:Gl X x:=by rfl)(hgi:Gl X "isinstance":=by rfl)
  (h1:aF e=true:=by rfl) (hn:x≠"__name__":=by decide) (hd:(x==("__debug__":Str))=false:=by decide):QE X (.Call (.Name "isinstance" p) [e,.Name x p2] [] pos) (dg (mM tab) g):=
 vw hv hm (rX fun p hp=>(h p hp).elim fun C q=>⟨C,q.1.at_,q.1.k,qH hT q.2⟩) hg hgi hmi he h1 hn hd
theorem vA {l:List Str}{G n:Str}{i:Nat}{gB gh:GS}{body suite:List Stmt}{b0:Stmt}{np hpos:Pos}(h:IX X.K X.mg G tab)(hN:X.N.Nodup)
  (hb:∀pn E,QB (iY X pn E) body gB) (hh:∀pn a,QB (fN X pn a) (b0::suite) gh) (hl:tab=l.map (·,true):=by rfl)
  (hg:Gl X G:=by rfl) (hst:X.stack=X.env::X.outer:=by rfl) (hf:X.env.frame=some X.env.locals:=by rfl) (hi:X.N[i]?=some n:=by rfl) (hl:X.env.kindOf n=some .local:=by rfl) (hfn:X.fn n=true∨X.env.scope.names.lookup n=some .local:=by first|exact .inl rfl|exact .inr rfl)
  (hd:(G==("__debug__":Str))=false:=by decide):QS X (.Try body [.ExceptHandler (some (.Name G np)) (some n) (b0::suite) hpos] [] [] pos) (iw i (List.contains l) gB gh):=by
 obtain⟨C,h,t⟩:=h;refine yE h (Dd (l:=l) fun c hc=>?_) hN hb hh hg hst hf hi hl hfn hd;subst tab;obtain⟨D,q1,q2⟩:=t (c,true) (mem_map.mpr ⟨c,hc,rfl⟩);exact⟨D,q1.at_,q2⟩
end
section
variable {X:Cx}{x:Str}{pos px:Pos}{ge:GE}{scope:Scope}{xs R:List Str}{iter elt tg:Expr}{ifs:List Expr}{gI:GI}{gC:GT}{sg:GG}{mk:List D→aq→aN D}{j:Nat}{y:Str}{py spos:Pos}{n:Nat}
theorem sD (hS:dR scope X.env.kindOf [x] X.N X.N=true)(hm:mk=aW∨mk=dk)(hi:QI X (.Name x px) iter gI)(hts:AU X scope [x] X.N ifs gC)(he:∀fp s H C,QE (ay X scope [x] X.N fp s H C) elt ge)
  (hc:X.calm=true:=by rfl) (hs:∀x,foldedSetIterable iter X.env x=pure x:=by intro _;rfl):QE X (.ListComp elt [⟨.Name x px,iter,ifs,0⟩] scope pos) (bS gI gC ge mk):=vf hS hm hi hts he hc hs
end
structure Tx (tab:List (Str×Stmt×List Str))(mtab:List (Str×Str×Str×Stmt×List Str))(ls:List (Str×Stmt×List Str))(zs es:List Str)(rs:List (Str×List (Str×Bool)))(vt:List (Str×Bool))(nas:List (Str×Str))(cs:List (Str×Str))(ci:List (Str×Int))
  (P:Program) (w:World) (K:W.Frag) (mg:Str→Option Value) (base:Heap):Prop where
 f:Ls (fun t=>FF K mg t.1 t.2.1 t.2.2) tab
 m:Ls (fun t=>MF K mg t.1 t.2.1 t.2.2.1 t.2.2.2.1 t.2.2.2.2) mtab
 l:Ls (fun t=>LF K mg t.1 t.2.1 t.2.2) ls
 z:∀x∈zs,mg x=none
 e:∀x∈es,EX K mg x
 r:Ls (fun t=>IX K mg t.1 t.2) rs
 b:IB K mg "ValueError" vt
 a:∀t∈nas,NA K mg t.1 t.2
 s:Ls (fun t=>∃tk,mg t.1=some (.str t.2 tk)) cs
 i:Ls (fun t=>∃tk,mg t.1=some (.int t.2 tk)) ci
variable{K:W.Frag}{mg:Str→Option Value}
theorem wo {l:List (Str×List (Str×Bool))}{x:Str}{t:List (Str×Bool)}(h:Ls (fun t=>IX K mg t.1 t.2) l)(e:l.lookup x=some t):IX K mg x t:=by
 refine h (x,t) ?_
 induction l with
 | nil=>cases e
 | cons p l ih=>
  obtain⟨y,u⟩:=p;rw[lookup_cons] at e;split at e
  ·rename_i q;cases e;rw[eq_of_beq q];exact .head _
  ·exact .tail _ (ih (fun t ht=>h t (.tail _ ht)) e)
section
variable {K:W.Frag}{mg:Str→Option Value}{x c m q:Str}{st:Stmt}{ps:List Str}{l:List (Str×Stmt×List Str)}{l':List (Str×Str×Str×Stmt×List Str)}
theorem jR (h:Ls (fun t=>FF K mg t.1 t.2.1 t.2.2) l)(i:Nat)(e:l[i]?=some (x,st,ps):=by rfl):FF K mg x st ps:=h _ (mem_of_getElem? e)
end
section
variable {K:W.Frag}{h:Heap}{mg:Str→Option Value}{x c m q f':Str}{st:Stmt}{ps:List Str}{f C G:Addr}{oc kV dc pm cd ct:Value}{od an:Option Addr}{sl:Array (Option Value)}
theorem AV (X:K.In h)(Gm:h.Ns mainGlobals mg)(a:W.nsIn K mainGlobals x=some (some (.ref f)))(l:K.lookup f=some ⟨oc,od,.func (W.fnOf x x (dU st) (cm st) (aO st) .none kV dc pm an cd ct),sl⟩)(c:W.codeIn K cd x=true)(k:W.keepIn K (.ref f)=true)
  (b:∀(kV doc pm:Value) (an:Option Addr) (cdv ct:Value) (us:List Value),us.length=ps.length→bindArgs (W.fnOf x x (dU st) (cm st) (aO st) .none kV doc pm an cdv ct) ⟨us,[]⟩=pure (ps.zip us)):FF K mg x st ps:=
 ⟨f,_,qG (st:=st) l c k,W.mg_of X Gm a,(qG (st:=st) l c k).binds b⟩
theorem A0 (kC:KC K mg c C)(a:W.findIn K (.ref C) f'=some none):NA K mg c f':=⟨C,kC,a⟩
theorem A3 (X:K.In h)(Gm:h.Ns mainGlobals mg)(q:W.nsIn K mainGlobals x=some (some (.ref C)))(cl:W.isClsIn K C=true)(ca:W.findIn K (.ref C) "__class__"=some (some (.builtin "object.__class__")))(sp:W.specialIn K (.builtin "object.__class__") "__get__"=some (some (.builtin "getset_descriptor.__get__")))(tk:W.takesIn K (.builtin "object.__class__")=some true)
  (ob:W.mroIn K C (.type "object")=some true) (ga:W.findIn K (.ref C) "__getattribute__"=some (some (.builtin "BaseException.__getattribute__"))) (gh:W.findIn K (.ref C) "__getattr__"=some none) (be:W.mroIn K C (.type "BaseException")=some true)
  (ex:W.excIn K C Ak "ValueError.__new__"=true) (ty:W.typeIn K (.ref C)=some (.type "type")) (sf:W.mroIn K C (.ref C)=some true):Ec K mg x C:=⟨q,W.mg_of X Gm q,⟨cl,ca,sp,tk,ob,ga,gh,be⟩,ex,ty,sf⟩
theorem AE (h:Ec K mg x C):EX K mg x:=⟨C,h⟩
theorem Al {tab:List (Str×Bool)}(h:Ec K mg x G)(t:Ls (fun p=>∃C,Ec K mg p.1 C∧W.mroIn K C (.ref G)=some p.2) tab):IX K mg x tab:=⟨G,h,t⟩
theorem Bb {T:Value}{b:Bool}(h:Ec K mg x C)(e:W.mroIn K C T=some b):∃C,Ec K mg x C∧W.mroIn K C T=some b:=⟨C,h,e⟩
theorem Cd (X:K.In h)(Gm:h.Ns mainGlobals mg)(e:W.nsIn K mainGlobals x=some none):mg x=none:=W.mg_none_of X Gm e
theorem Bo {u:Tok→Value}{tk:Tok}(X:K.In h)(Gm:h.Ns mainGlobals mg)(e:W.nsIn K mainGlobals x=some (some (u tk))):∃tk,mg x=some (u tk):=⟨tk,W.mg_of X Gm e⟩
end
theorem yn {l:W.OpenLaw}{w:World}{fa:Addr}{st:Stmt}{k:Nat}{F:FD}(hfa:mg "law"=some (.ref fa))(L:FF K mg "law" st ["script"])
  (h:∀(base:Heap) (f:Addr) (fd:FuncData),Fn K mg "law" st f fd ["script"]→dC l.prog w K mg base (io l.prog w) k f fd ["script"] (nV K 1 F))
  (hb:∀(kV doc pm:Value) (an:Option Addr) (cdv ct:Value) (v:Value),bindArgs (W.fnOf "law" "law" (dU st) (cm st) (aO st) .none kV doc pm an cdv ct) ⟨[v],[]⟩=pure [(("script":Str),v)]) :
  ∃fd:FuncData,(∀(s:Shared) (v:Value),BindsTo s fd ⟨[v],[]⟩ [("script",v)])∧∀base:Heap,K.In base→base.Ns mainGlobals mg→dC l.prog w K mg base (io l.prog w) k fa fd ["script"] (nV K 1 F):=by
 obtain⟨f,fd,L⟩:=L;have e:=hfa.symm.trans L.m;cases e;refine⟨fd,fun s v=>?_,fun base _ _=>h base _ fd L⟩;obtain⟨oc,od,kV,doc,pm,an,cdv,ct,osl,rfl,lk,hcd⟩:=L.F.ex;exact .of_eq (hb kV doc pm an cdv ct v)
end DL
namespace DL
open PySem PySem.Spec PyProof.Rows PySem.W L2 List
section
variable {key:Nat→Int}{N:Nat}{s:Shared}{cmp:Nat→Nat→(Bool→Shared→Prop)→Shared→Prop}
def kp (key:Nat→Int)(p:Array Nat)(k:Nat):Int:=key (p.getD k 0)
def up (key:Nat→Int)(p:Array Nat)(n:Nat):Prop:=∀k,k+1<n→kp key p k≤kp key p (k+1)
end
section
theorem gK:∀a:List Int,HT.lexLt a a=false
 | []=>rfl
 | x::a=>by rw[HT.lexLt_cons,if_pos rfl];exact gK a
theorem iU:∀a b:List Int,HT.lexLt a b=false→HT.lexLt b a=false→a=b
 | [],[],_,_=>rfl
 | [],_::_,h,_=>by cases h
 | _::_,[],_,h=>by cases h
 | x::a,y::b,h1,h2=>by
  rw[HT.lexLt_cons] at h1 h2
  by_cases e:x=y
  ·subst e;rw[if_pos rfl] at h1 h2;rw[iU a b h1 h2]
  ·rw[if_neg e,decide_eq_false_iff_not] at h1;rw[if_neg (fun z=>e z.symm),decide_eq_false_iff_not] at h2;omega
theorem dF:∀a b c:List Int,HT.lexLt a b=true→HT.lexLt b c=true→HT.lexLt a c=true
 | [],[],_,h,_=>by cases h
 | [],_::_,[],_,h=>by cases h
 | [],_::_,_::_,_,_=>rfl
 | _::_,[],_,h,_=>by cases h
 | _::_,_::_,[],_,h=>by cases h
 | x::a,y::b,z::c,h1,h2=>by
  rw[HT.lexLt_cons] at h1 h2 ⊢
  by_cases e:x=y
  ·subst e;rw[if_pos rfl] at h1
   by_cases e2:x=z
   ·subst e2;rw[if_pos rfl] at h2 ⊢;exact dF a b c h1 h2
   ·rw[if_neg e2] at h2 ⊢;exact h2
  ·rw[if_neg e,decide_eq_true_iff] at h1
   by_cases e2:y=z
   ·subst e2;rw[if_neg e,decide_eq_true_iff];exact h1
   ·rw[if_neg e2,decide_eq_true_iff] at h2;rw[if_neg (by omega),decide_eq_true_iff];omega
def tZ (zs:List (List Int))(z:List Int):Int:=(zs.countP fun y=>HT.lexLt y z:Nat)
theorem oR {α:Type}{p q:α→Bool}:∀{l:List α} {x:α},(∀y,p y=true→q y=true)→x∈l→p x=false→q x=true→l.countP p<l.countP q
 | a::l,x,hs,hx,h1,h2=>by
  rw[List.countP_cons,List.countP_cons];rcases mem_cons.mp hx with e|e
  ·subst e;have:=List.countP_mono_left (l:=l) (fun y _=>hs y);rw[if_neg (by simp[h1]),if_pos h2];omega
  ·have:=oR hs e h1 h2;have h3:=hs a;cases q1:p a with
   | true=>rw[h3 q1];simp only[if_true];omega
   | false=>cases q a <;> simp <;> omega
theorem tW {zs:List (List Int)}{a b:List Int}(ha:a∈zs):HT.lexLt a b=decide (tZ zs a<tZ zs b):=by
 cases h:HT.lexLt a b with
 | true=>
  have:=oR (l:=zs) (x:=a) (p:=fun y=>HT.lexLt y a) (q:=fun y=>HT.lexLt y b) (fun y q=>dF y a b q h) ha (gK a) h;exact(decide_eq_true (by unfold tZ;omega)).symm
 | false=>
  have:zs.countP (fun y=>HT.lexLt y b)≤zs.countP (fun y=>HT.lexLt y a):=List.countP_mono_left (l:=zs) (p:=fun y=>HT.lexLt y b) (q:=fun y=>HT.lexLt y a) fun y _ q=>by
   have q:HT.lexLt y b=true:=q;show HT.lexLt y a=true;cases h2:HT.lexLt b a with
   | true=>exact dF y b a q h2
   | false=>rw[iU a b h h2];exact q
  exact(decide_eq_false (by unfold tZ;omega)).symm
def bg (zs:List (List Int)):List (List Int):=zs.mergeSort fun a b=>!HT.lexLt b a
theorem bf (zs:List (List Int)):(bg zs).Perm zs:=List.mergeSort_perm zs _
theorem eF (zs:List (List Int)):(bg zs).Pairwise fun a b=>HT.lexLt b a=false:=by
 have h:(bg zs).Pairwise (fun a b=>(!HT.lexLt b a)=true):=List.pairwise_mergeSort (le:=fun a b=>!HT.lexLt b a) (fun a b c h1 h2=>by
  simp only[Bool.not_eq_true'] at h1 h2 ⊢;cases q:HT.lexLt c a with
  | false=>rfl
  | true=>
   cases q2:HT.lexLt a b with
   | true=>rw[dF c a b q q2] at h2;cases h2
   | false=>have:=iU a b q2 h1;subst this;rw[q] at h2;cases h2) (fun a b=>by
  cases q:HT.lexLt b a with
  | false=>rfl
  | true=>
   cases q2:HT.lexLt a b with
   | false=>rfl
   | true=>have:=dF a b a q2 q;rw[gK] at this;cases this) zs
 exact h.imp fun h=>by simpa using h
theorem dM:∀{a b:List (List Int)},a.Perm b→a.Pairwise (fun x y=>HT.lexLt y x=false)→b.Pairwise (fun x y=>HT.lexLt y x=false)→a=b
 | [],b,p,_,_=>(List.Perm.nil_eq p)
 | x::a,[],p,_,_=>absurd p.symm.nil_eq (by simp)
 | x::a,y::b,p,ha,hb=>by
  have h1:HT.lexLt y x=false:=by
   rcases mem_cons.mp (p.symm.subset (mem_cons_self ..):y∈x::a) with e|e
   ·rw[e];exact gK x
   ·exact(List.pairwise_cons.mp ha).1 y e
  have h2:HT.lexLt x y=false:=by
   rcases mem_cons.mp (p.subset (mem_cons_self ..):x∈y::b) with e|e
   ·rw[e];exact gK y
   ·exact(List.pairwise_cons.mp hb).1 x e
  have e:=iU x y h2 h1;subst e;rw[dM (List.perm_cons x |>.mp p) (List.pairwise_cons.mp ha).2 (List.pairwise_cons.mp hb).2]
end
variable{h:Heap}
section
variable {prog:Program}{w:World}{A:Around}{E:Value→Shared→Prop}{s:Shared}
theorem mF {b fin:Bool}{Q:Bool→Shared→Prop}:∀{vs ws:List Value} {ns ms:List Int} (i:Nat),IntsAre vs ns→IntsAre ws ms→fin=decide (ns.length<ms.length)→Q (HT.lexLt ns ms) s→KatLex prog w A b fin Q (vs.zip ws) i s
 | _,_,_,_,i,.nil,.nil,e,h=>by
  rw[zip_nil_left];refine kat_nil ?_;rw[e];exact h
 | _,_,_,_,i,.nil,.cons _ _ _,e,h=>by
  rw[zip_nil_left];refine kat_nil ?_;rw[e,decide_eq_true (by simp)];exact h
 | _,_,_,_,i,.cons _ _ _,.nil,e,h=>by
  rw[zip_nil_right];refine kat_nil ?_;rw[e,decide_eq_false (by simp)];exact h
 | _,_,_,_,i,.cons (ns:=ns) x t r1,.cons (ns:=ms) y u r2,e,h=>by
  rw[zip_cons_cons];refine kat_cons (wpAny_eqBool_int ?_);rw[HT.lexLt_cons] at h
  by_cases q:x=y
  ·rw[if_pos q] at h;rw[show(x==y)=true by simp[q]];exact kat_yes (mF (i+1) r1 r2 (by rw[e];simp) h)
  ·rw[if_neg q] at h;rw[show(x==y)=false by simp[q]];refine kat_no ?_;cases (b&&i==0) with
   | true=>exact oneLt_int h
   | false=>exact kat_one _ _ (PyProof.Rows.lt_int (show W.BoolBack _ (.bool _) _ from h))
def gV (h:Heap):List Value→List (List Int)→Prop
 | [],[]=>True
 | v::vs,z::zs=>(∃b o xs k,v=.ref b∧h.get? b=some o∧o.cls=.type "tuple"∧o.data=.seq xs k∧IntsAre xs.toList z∧z≠[])∧gV h vs zs
 | _,_=>False
theorem gV.keep {h':Heap}(k:∀b o,h.get? b=some o→h'.get? b=some o):∀{vs:List Value} {zs:List (List Int)},gV h vs zs→gV h' vs zs
 | [],[],_=>trivial
 | [],_::_,t=>t.elim
 | _::_,[],t=>t.elim
 | _::_,_::_,⟨⟨b,o,xs,n,e,g,r⟩,t⟩=>⟨⟨b,o,xs,n,e,k _ _ g,r⟩,t.keep k⟩
theorem gV.firsts :∀{vs:List Value} {zs:List (List Int)},gV h vs zs→∃fs,KatTups h vs fs∧fs.length=vs.length∧∀v∈fs,∃n t,v=Value.int n t
 | [],[],_=>⟨[],.nil,rfl,fun v hv=>by cases hv⟩
 | [],_::_,t=>t.elim
 | _::_,[],t=>t.elim
 | _::_,z::_,⟨⟨b,o,xs,n,e,g,c,d,r,z0⟩,t⟩=>by
  obtain⟨fs,k,l,f⟩:=t.firsts;subst e;cases r':xs.toList with
  | nil=>rw[r'] at r;cases r;exact absurd rfl z0
  | cons x ys=>
   rw[r'] at r;cases r with
   | cons m tk r2=>
    refine⟨Value.int m tk::fs,.cons g c d (by rw[←Array.getElem?_toList,r'];rfl) k,by rw[length_cons,length_cons,l],fun v hv=>?_⟩;rcases mem_cons.mp hv with e|e
    ·exact⟨m,tk,e⟩
    ·exact f v e
end
def ax (z:List Int):D:=.tup (z.map D.int)
def fz:List D→Option (List (List Int))
 | []=>some []
 | d::ds=>match tP d,fz ds with
  | some (i::z),some zs=>some ((i::z)::zs)
  | _,_=>none
def C1:FD:=fun ds M=>match ds with
 | [d]=>match lR d M with
  | some xs=>match kK xs with
   | some ns=>if ns.length<64 then .ok (.lst ((L2.sortI ns).map D.int)) M else .bad
   | none=>match fz xs with
    | some zs=>if zs.length<64 then .ok (.lst ((bg zs).map ax)) M else .bad
    | none=>.bad
  | none=>.bad
 | _=>.bad
theorem j9 {K:W.Frag}{θ:List Addr}{H:Hp}{f:Nat→D}{g:Nat→V}:∀l:List Nat,(∀i∈l,isD K θ H (f i) (g i))→isDs K θ H (l.map f) (l.map g)
 | [],_=>rfl
 | i::l,h=>⟨_,_,rfl,h i (.head _),j9 l fun j hj=>h j (.tail _ hj)⟩
theorem fh {g:Nat→V}{u:Nat→Value}:∀l:List Nat,(∀i∈l,RelV (g i) (u i))→aC (l.map g) (l.map u)
 | [],_=>.nil
 | i::l,h=>.cons (h i (.head _)) (fh l fun j hj=>h j (.tail _ hj))
section
variable {X:Cx}{aa:List (Addr×Obj)}{σ:L2.St}{H:Hp}{s:Shared}{θ:List Addr}
theorem mZ (I:L2.Inv X aa σ H s):∀{xs:List D} {zs:List (List Int)} {vs:List V} {us:List Value},fz xs=some zs→isDs X.K θ H xs vs→aC vs us→
  gV s.heap us zs∧us.length=zs.length∧∀i,i<zs.length→isD X.K θ H (ax (zs.getD i [])) (vs.getD i .non)∧RelV (vs.getD i .non) (us.getD i Value.none)
 | [],zs,vs,us,e,r,v=>by
  simp only[fz,Option.some.injEq] at e;subst e;have:vs=[]:=r;subst this;cases v;exact⟨trivial,rfl,fun i h=>absurd h (by simp)⟩
 | d::xs,zs,vs,us,e,r,v=>by
  simp only[fz] at e;split at e
  ·rename_i i z zs' q1 q2;cases e;obtain⟨v1,vr,e1,r1,r2⟩:=r;subst e1;cases v with
   | cons h1 h2=>
    obtain⟨t,l,f⟩:=mZ I q2 r2 h2;obtain⟨b,eb,tb⟩:=rP q1 r1;subst eb;have eu:_=Value.ref b:=h1;subst eu;obtain⟨its,rr,⟨o,ho,hc,n,hd⟩,_⟩:=I.tuple tb.sq;refine⟨⟨⟨b,o,its.toArray,n,rfl,ho,hc,hd,nI rr,by simp⟩,t⟩,by rw[length_cons,length_cons,l],fun k hk=>?_⟩;cases k with
    | zero=>exact⟨⟨b,_,rfl,tb,fe _⟩,rfl⟩
    | succ k=>exact f k (by simpa using hk)
  ·cases e
end
def vH (neg:Bool):F2:=fun x y M=>match bj y M with
 | some xs=>if aP 40 x&&xs.all (aP 40) then .ok (.bl ((xs.any fun y=>iu y x) != neg)) M else .bad
 | none=>.bad
section
variable {X:Cx}{aa:List (Addr×Obj)}{σ:L2.St}{H:Hp}{s:Shared}{θ:List Addr}
noncomputable def inE (h:Heap) (px:PyData) (u:Value):Bool:=open Classical in decide (∃d as,Reads h u d as∧PyData.eqv d px=true)
theorem tV {px d:PyData}{u:Value}{as:List Addr}(r:Reads h u d as)(l:d.canLay0=true):inE h px u=PyData.eqv d px:=by
 unfold inE;cases e:PyData.eqv d px with
 | true=>exact @decide_eq_true _ (Classical.propDecidable _) ⟨d,as,r,e⟩
 | false=>
  refine @decide_eq_false _ (Classical.propDecidable _) fun hxx=>?_
  obtain⟨d',as',r',e'⟩:=hxx;have:=SeqAt.Reads.unique d d' u as as' l r r';subst this;rw[e] at e';cases e'
theorem iS (I:L2.Inv X aa σ H s){x:D}(hx:aP 40 x=true):∀{ds:List D} {vs:List V} {us:List Value},ds.all (aP 40)=true→isDs X.K θ H ds vs→aC vs us→us.any (inE s.heap (fq x))=(ds.any fun y=>iu y x)∧∀u∈us,∃d as,Reads s.heap u d as∧d.canLay0=true∧d.depth≤40
 | [],vs,us,_,r,v=>by
  have e:vs=[]:=r;subst e;cases v;exact⟨rfl,fun u hu=>by cases hu⟩
 | d::ds,vs,us,c,r,v=>by
  rw[all_cons,Bool.and_eq_true] at c;obtain⟨v1,vr,e1,r1,r2⟩:=r;subst e1;cases v with
  | cons h1 h2=>
   obtain⟨a,b⟩:=iS I hx c.2 r2 h2;obtain⟨as,R⟩:=gk I d 40 _ _ c.1 r1 h1;have l:=dW d 40 c.1;refine⟨?_,fun u hu=>?_⟩
   ·rw[any_cons,any_cons,a,tV R l.1,iQ d x 40 40 c.1 hx]
   ·rcases mem_cons.mp hu with e|e
    ·rw[e];exact⟨_,as,R,l.1,l.2⟩
    ·exact b u e
end
end DL
namespace DL
open PySem PySem.Spec PyProof.Rows L2 List
end DL
namespace DL
open PySem PySem.Spec PyProof.Rows PySem.W L2 List
def i5 (h:Heap)(d:Addr)(es:Array DictEntry)(ep:Nat):Prop:=∃o,h.get? d=some o∧o.ExactDict∧o.data=.dict es ep
variable{Q:Option Value→Shared→Prop}
section
variable {prog:Program}{w:World}{A:Around}{E:Value→Shared→Prop}{s:Shared}{d it:Addr}{es:Array DictEntry}{ep i:Nat}
theorem i5.typeIs (x:i5 s.heap d es ep):s.TypeIs (.ref d) "dict":=by
 obtain⟨o,ho,hc,_⟩:=x;exact⟨o,ho,hc.1⟩
theorem tm {Q:Value→Shared→Prop}(hd:(d==sysModules)=false)(x:i5 s.heap d es ep)
  (hQ:Q (.ref s.heap.objs.size) {s with heap:=s.heap.push {cls:=.type "dict_keyiterator",data:=.fields #[.ref d,.int 0 0,.int es.size 0,.int ep 0]}}):wpAny (model prog w) A (pyIter (.ref d)) Q E s:=by
 have T:=x.typeIs;obtain⟨o,ho,hc,hx⟩:=x;refine wpAny_pyIter_slot T PySem.F.slot_dict_iter (wpAny_call_entry PySem.F.slot_dict_iter T PySem.F.entry_dict_iter ?_ (PySem.F.args_dict_iter_1 _));unfold Builtin.«dict.__iter__»;refine wpAny_bind ?_;unfold Builtin.Dict.dictSlotNone;refine wpAny_bind (wpAny_notOrdered_dict T ?_);show wpAny _ _ (pure (Value.ref d)) _ _ s;refine wpAny_pure ?_;show wpAny _ _ (Builtin.Dict.showsAll d >>= _) _ _ s;unfold Builtin.Dict.showsAll;rw[if_neg (by rw[hd];exact Bool.false_ne_true)];refine wpAny_bind (wpAny_pure (wpAny_bind (wpAny_dictEntries ho hx (wpAny_bind (wpAny_dictEpoch ho hx (wpAny_bind (wpAny_newObj_type (wpAny_pure ⟨_,rfl,"dict_keyiterator",_,⟨_,Heap.get?_push_size _ rfl,rfl⟩,PySem.F.slot_dict_keyiterator_next.lookup,?_⟩))))))));exact hQ
theorem i5.stay {h h':Heap}(x:i5 h d es ep)(k:∀o,h.get? d=some o→h'.get? d=some o):i5 h' d es ep:=by
 obtain⟨o,ho,r⟩:=x;exact⟨o,k o ho,r⟩
theorem qW (hit:s.heap.IsKeyIter it d i es.size ep)(x:i5 s.heap d es ep)(hi:i<es.size)
  (hQ:∀h',h'.IsKeyIter it d (i+1) es.size ep→Heap.SameBut it s.heap h'→Q (some es[i].key) {s with heap:=h'}):wpAny (model prog w) A (pyNext (.ref it)) Q E s:=by
 have T:=hit.typeIs;obtain⟨o,ho,hc,hd⟩:=hit;obtain⟨od,hod,hcd,hx⟩:=x;unfold pyNext;refine wpAny_bind (wpAny_attempt (wpAny_callSpecial?_slot (name:=Str.ofString "__next__") T PySem.F.slot_dict_keyiterator_next (wpAny_call_entry PySem.F.slot_dict_keyiterator_next T PySem.F.entry_dict_keyiterator_next ?_ (PySem.F.args_dict_keyiterator_next_1 _))));refine wpAny_bind (wpAny_pure (wpAny_bind (wpAny_bind ?_)))
 first|refine wpAny_bind (wpAny_typeNameOfWhole_keyiter T (wpAny_pure ?_))|refine wpAny_bind (wpAny_typeNameOf_keyiter T (wpAny_pure ?_))
 refine wpAny_bind (wpAny_fieldsOf ho hd ?_);simp only[show Builtin.Dict_items.ownsTuple "dict_keyiterator"=false by decide,Bool.false_eq_true,if_false];show wpAny _ _ (if(Value.ref d==Value.none)=true then _ else _) _ _ s;rw[if_neg (show¬((Value.ref d==Value.none)=true) from Bool.false_ne_true)];refine wpAny_bind (wpAny_pure (wpAny_bind (wpAny_dictEntries hod hx ?_)));rw[if_neg (by simp)];refine wpAny_bind (wpAny_pure (wpAny_bind (wpAny_dictEpoch hod hx ?_)));rw[if_neg (by simp)];refine wpAny_pure ?_;simp only[show¬((i:Int)<0) from by omega,if_false,Int.toNat_natCast,Array.getElem?_eq_getElem hi];refine wpAny_bind ?_
 first|refine wpAny_bind (wpAny_typeNameOfWhole_keyiter T (wpAny_pure ?_))|refine wpAny_bind (wpAny_typeNameOf_keyiter T (wpAny_pure ?_))
 refine wpAny_bind (wpAny_isOneOf_keyiter T ?_);show wpAny _ _ (setField (.ref it) 1 (rawInt ((i:Int)+1)) >>= _) _ _ s;refine wpAny_bind (wpAny_setField ho hd (by simp) ?_);have hit2:(s.heap.update it (Obj.mapFields (·.setIfInBounds 1 (rawInt ((i:Int)+1))))).IsKeyIter it d (i+1) es.size ep:=
  ⟨_,Heap.get?_update_self _ ho (Obj.isFreed_of_fields (Obj.data_mapFields hd _)),(Obj.cls_mapFields ..).trans hc,by rw[Obj.data_mapFields hd];simp[rawInt]⟩
 refine wpAny_bind (wpAny_holding (wpAny_bind (wpAny_isOneOf_keyiter (s:={s with heap:=s.heap.update it (Obj.mapFields (·.setIfInBounds 1 (rawInt ((i:Int)+1))))}) hit2.typeIs ?_)));show wpAny _ _ (pure es[i].key) _ _ _;exact wpAny_pure (wpAny_pure ⟨_,rfl,wpAny_pure (hQ _ hit2 (Heap.SameBut.update ..))⟩)
theorem vj (hh:A.handled=none)(hit:s.heap.IsKeyIter it d es.size es.size ep)(x:i5 s.heap d es ep)
  (hQ:∀h',Heap.ExtBut it s.heap h'→Q none {s with heap:=h'}):wpAny (model prog w) A (pyNext (.ref it)) Q E s:=by
 have T:=hit.typeIs;obtain⟨o,ho,hc,hd⟩:=hit;obtain⟨od,hod,hcd,hx⟩:=x;unfold pyNext;refine wpAny_bind (wpAny_attempt (wpAny_callSpecial?_slot (name:=Str.ofString "__next__") T PySem.F.slot_dict_keyiterator_next (wpAny_call_entry PySem.F.slot_dict_keyiterator_next T PySem.F.entry_dict_keyiterator_next ?_ (PySem.F.args_dict_keyiterator_next_1 _))));refine wpAny_bind (wpAny_pure (wpAny_bind (wpAny_bind ?_)))
 first|refine wpAny_bind (wpAny_typeNameOfWhole_keyiter T (wpAny_pure ?_))|refine wpAny_bind (wpAny_typeNameOf_keyiter T (wpAny_pure ?_))
 refine wpAny_bind (wpAny_fieldsOf ho hd ?_);simp only[show Builtin.Dict_items.ownsTuple "dict_keyiterator"=false by decide,Bool.false_eq_true,if_false];show wpAny _ _ (if(Value.ref d==Value.none)=true then _ else _) _ _ s;rw[if_neg (show¬((Value.ref d==Value.none)=true) from Bool.false_ne_true)];refine wpAny_bind (wpAny_pure (wpAny_bind (wpAny_dictEntries hod hx ?_)));rw[if_neg (by simp)];refine wpAny_bind (wpAny_pure (wpAny_bind (wpAny_dictEpoch hod hx ?_)));rw[if_neg (by simp)];refine wpAny_pure ?_;simp only[show¬((es.size:Int)<0) from by omega,if_false,Int.toNat_natCast,Array.getElem?_eq_none (Nat.le_refl es.size)];refine wpAny_bind ?_
 first|refine wpAny_bind (wpAny_typeNameOfWhole_keyiter T (wpAny_pure ?_))|refine wpAny_bind (wpAny_typeNameOf_keyiter T (wpAny_pure ?_))
 show wpAny _ _ (setField (.ref it) 0 .none >>= _) _ _ s;refine wpAny_bind (wpAny_setField ho hd (by simp) ?_);show wpAny _ _ (newExc (.type "StopIteration") [] >>= _) _ _ _;refine wpAny_bind ?_;simp only[newExc,newTuple];refine wpAny_bind (wpAny_newObj_type ?_ (by size_fits));refine wpAny_bind (m:=firstArgMember _ _) (wpAny_of_eq (a:=Value.none) (by first|rfl|(simp only[firstArgMember];rfl)) (wpAny_newObj_type ?_ (by size_fits)));simp only[raiseNew];refine wpAny_bind (wpAny_handled ?_);rw[show A.in1.handled=none from hh];refine wpAny_bind (wpAny_pure (wpAny_throw ?_));refine wpAny_bind (wpAny_isInstance (T:="StopIteration") (b:=true) ⟨_,Heap.get?_push_size _ rfl,rfl⟩ isSubtype_stop (wpAny_pure (hQ _ (((Heap.SameBut.update ..).extBut.push _).push _))))
theorem pO (hh:A.handled=none)(hne:d≠it):Walks prog w A it [it,d] [it] es.size (fun i v=>∃e,es[i]?=some e∧v=e.key) (fun i h=>h.IsKeyIter it d i es.size ep∧i5 h d es ep) where
 sub:=fun b hb=>by rw[mem_singleton.mp hb];exact mem_cons_self
 frame:=fun _ _ _ st hk=>⟨st.1.at fun o e=>hk it mem_cons_self o e,st.2.stay fun o e=>hk d (mem_cons_of_mem _ mem_cons_self) o e⟩
 item:=fun i s Q E hi st hQ=>qW st.1 st.2 hi fun h' k1 k2=>hQ _ h' s.toks ⟨_,Array.getElem?_eq_getElem hi,rfl⟩ ⟨k1,st.2.stay fun o e=>k2.extBut d o hne e⟩ fun b o hb e=>k2.extBut b o (fun z=>hb (by rw[z];exact mem_cons_self)) e
 done:=fun s Q E st hQ=>vj hh st.1 st.2 fun h' k=>hQ h' s.toks fun b o hb e=>k b o (fun z=>hb (by rw[z];exact mem_cons_self)) e
 self:=fun _ _ _ _ st hQ=>wpAny_pyIter_keyiter st.1 hQ
theorem vn (lo:(d==sysModules)=false):KdlSrc prog w "dict" d d es.size (fun i v=>∃e,es[i]?=some e∧v=e.key) (fun h=>i5 h d es ep) where
 type:=fun _ x=>x.typeIs
 there:=fun _ x=>by obtain⟨o,ho,_⟩:=x;exact⟨Heap.lt_size ho,Heap.lt_size ho⟩
 keep:=fun _ _ x hk=>x.stay fun o e=>hk d (.inl rfl) o e
 notList:=by decide
 notTuple:=by decide
 hint:=fun _ _ _ _ x hq=>kdl_hint_dict x.typeIs hq
 iter:=fun _ s hh x=>⟨_,_,(fun _ _ hq=>tm lo x hq),pO hh (by obtain⟨o,ho,_⟩:=x;exact Nat.ne_of_lt (Heap.lt_size ho)),⟨⟨_,Heap.get?_push_size _ rfl,rfl,rfl⟩,x.stay fun o e=>Heap.get?_push_of_some _ e⟩⟩
end
def xr:bH→D
 | .inl i=>.int i
 | .inr x=>.str x
end DL
namespace DL
open PySem PySem.Spec PyProof.Rows L2 List
def CT (xs ys:List D):List D:=xs.zipWith (fun x y=>D.tup [x,y]) ys
section
variable {X:Cx}{aa:List (Addr×Obj)}{σ:L2.St}{H:Hp}{s:Shared}{θ:List Addr}
theorem oX (hu:X.A.units+64<cLine)(I:L2.Inv X aa σ H s){dx:D}{x:V}{v:Value}{ds:List D}{vs:List V}{its:List Value}(hx:aP 40 dx=true)(hc:ds.all (aP 40)=true)(r1:isD X.K θ H dx x)(rx:RelV x v)(ra:isDs X.K θ H ds vs)(r:aC vs its) :
  ∀w∈its,SeqAt.EqAt X.A.in1 s w v (inE s.heap (fq dx) w):=fun w hw=>by
 obtain⟨bs,RX⟩:=gk I dx 40 x v hx r1 rx;have lx:=dW dx 40 hx;obtain⟨d,as,R,l1,l2⟩:=(iS I hx hc ra r).2 w hw;rw[tV R l1];exact SeqAt.eqAt_reads d (fq dx) X.A.in1 s w v as bs R RX l1 lx.1 (by
  show X.A.units+1+min d.depth (fq dx).depth<cLine;have:min d.depth (fq dx).depth≤d.depth:=Nat.min_le_left _ _;omega)
theorem qC (hu:X.A.units+64<cLine):eI X (compareOp .NotIn) (rD X (vH true)):=by
 intro aa s σ H x y v u Q I rx ry h;obtain⟨θ,M,dx,dy,hw,r1,r2,h⟩:=h;unfold vH at h;cases q:bj dy M with
 | none=>rw[q] at h;exact h.elim
 | some xs=>
  rw[q] at h;dsimp only at h
  by_cases hc:(aP 40 dx&&xs.all (aP 40))=true
  ·rw[if_pos hc] at h;rw[Bool.and_eq_true] at hc;obtain⟨a,vs,ea,sq,ra⟩:=kL hw r2 q;subst ea;cases ry;have k:=h _ θ H (.refl hw) rfl;rw[Bool.bne_true] at k;rcases sq with sq|sq
   ·obtain⟨its,r,pl,hz⟩:=I.list sq;refine SeqAt.notIn_listAt (inE s.heap (fq dx)) pl.isList (fun w hw=>oX hu I hc.1 hc.2 r1 rx ra r w (by simpa using hw)) ⟨.bl _,H,I,rfl,?_⟩;rw[show its.toArray.any (inE s.heap (fq dx))=its.any (inE s.heap (fq dx)) by simp,(iS I hc.1 hc.2 ra r).1];exact k
   ·obtain⟨its,r,pl,hz⟩:=I.tuple sq;refine SeqAt.notIn_tupleAt (inE s.heap (fq dx)) pl (fun w hw=>oX hu I hc.1 hc.2 r1 rx ra r w (by simpa using hw)) ⟨.bl _,H,I,rfl,?_⟩;rw[show its.toArray.any (inE s.heap (fq dx))=its.any (inE s.heap (fq dx)) by simp,(iS I hc.1 hc.2 ra r).1];exact k
  ·rw[if_neg hc] at h;exact h.elim
end
section
variable {X:Cx}{k:Nat}{o e:Expr}{go ge:GE}{apos cpos:Pos}
theorem tF (hr:bA k X.A):Q2 X (compareOp .NotIn) (vH true):=⟨qC hr.units⟩
end
end DL
namespace DL
open PySem PySem.Spec PyProof.Rows L2 List
open AutoSeq1 (wpAny_loadPart')
def C8 (ds:List D)(M:aq):aN jP:=match ds with
 | [.lst xs,.lst ys]=>if xs.length=ys.length then .ok ⟨Aa (CT xs ys),none⟩ M else .bad
 | _=>.bad
def cT:List D→Int→Option Int
 | [],b=>some b
 | .int a::r,b=>if b<a then cT r a else cT r b
 | _::_,_=>none
def wC:List D→Option Int
 | .int a::r=>cT r a
 | _=>none
variable{ds0:List D}{vs:List V}{θ:List Addr}{k:Nat}
section
variable {X:Cx}{aa:List (Addr×Obj)}{σ:L2.St}
theorem o8 {l it S:Addr}{Q:VK}{R:Result→Shared→Prop}{H:Hp}{M:aq}{db:Int}
  (hr:bA (k+1) X.A) (hcalm:X.calm=true) (hw:Wr X.K θ H M) (ta:jz X.K θ H l vs) (r:isDs X.K θ H ds0 vs)
  (hnI:S≠it) (hR:∀u s',EP X aa σ Q u s'→R (.ok (.ret u)) s') (fi:eV X aa H it) (fS:eV X aa H S) (hQ:∀v,isD X.K θ H (.int db) v→Q v H) :
  ∀(rest:List D) (j:Nat) (s:Shared) (b:Int) (vb:V) (ub:Value) (n:Nat),ds0.drop j=rest→L2.Inv X aa σ H s→s.heap.IsListIter it l j→s.heap.get? S=some (seqObj "list" #[ub,ub] n)→
   isD X.K θ H (.int b) vb→RelV vb ub→cT rest b=some db→
   codeAny (model X.prog X.w) X.A (.builtin "max.loop" ⟨[.ref it,.none,.ref S],[]⟩) R s:=by
 have hname:(toString "max"++toString ".loop":String)="max.loop":=by decide
 have hr1:bA k X.A.in1:=hr.in1;intro rest
 induction rest with
 | nil=>
  intro j s b vb ub n hd I st eS rb rvb h;refine codeAny_builtin PySem.F.entry_max_loop ?_;rw[Around.under_plainId PySem.F.plain_max_loop _];show wpAny _ X.A.in1 (seqItems? (.ref S) >>= _) _ _ _;refine wpAny_bind (wpAny_seqItems eS rfl ?_);obtain⟨its,rv,p,hz⟩:=I.list ta.sq;have hlen:vs.length≤j:=by rw[←ak r];exact drop_eq_nil_iff.mp hd
  have hl:=rv.length;show wpAny _ X.A.in1 (tryCatch (pyNext (.ref it)) _ >>= _) _ _ _;refine wpAny_bind (wpAny_tryCatch (wpAny_pyNext_list_end (show X.A.in1.handled=none from I.ok.hd hcalm) st p.isList (by simp;omega) fun h' eb=>?_));have I1:L2.Inv X aa σ H {s with heap:=h'}:=I.turned (t':=s.toks) (fun b o hb e=>eb b o hb e) fi.1 fi.2.1 fi.2.2.2.1 fi.2.2.2.2.1 fi.2.2.2.2.2;have eS':h'.get? S=some (seqObj "list" #[ub,ub] n):=eb S _ hnI eS;show wpAny _ X.A.in1 (updateSeq S (fun _=>#[]) >>= _) _ _ _;refine wpAny_bind (wpAny_updateSeq eS' rfl (wpAny_bind (wpAny_letGo (wpAny_pure ?_))));have I2:L2.Inv X aa σ H {s with heap:=h'.update S (Obj.mapSeq fun _=>#[])}:=I1.turned (t':=s.toks) (fun b o hb e=>(Heap.get?_update_other h' _ (Ne.symm hb)).trans e) fS.1 fS.2.1 fS.2.2.2.1 fS.2.2.2.2.1 fS.2.2.2.2.2;have h:some b=some db:=h;cases h;exact hR ub _ ⟨vb,H,I2,rvb,hQ vb rb⟩
 | cons d rest ih=>
  intro j s b vb ub n hd I st eS rb rvb h;have hj:ds0[j]?=some d:=by
   have:=congrArg (·[0]?) hd;simpa using this
  have hd':ds0.drop (j+1)=rest:=by
   rw[←drop_drop,hd];rfl
  obtain⟨v,ev,rdv⟩:=cy r hj;refine codeAny_builtin PySem.F.entry_max_loop ?_;rw[Around.under_plainId PySem.F.plain_max_loop _];show wpAny _ X.A.in1 (seqItems? (.ref S) >>= _) _ _ _;refine wpAny_bind (wpAny_seqItems eS rfl ?_);obtain⟨its,rv,p,hz⟩:=I.list ta.sq;obtain⟨u,eu,ru⟩:=rv.get ev;show wpAny _ X.A.in1 (tryCatch (pyNext (.ref it)) _ >>= _) _ _ _;refine wpAny_bind (wpAny_tryCatch (wpAny_pyNext_list_item st p.isList (x:=u) (by simpa using eu) fun h' st' sb=>?_));have I1:L2.Inv X aa σ H {s with heap:=h'}:=I.turned (t':=s.toks) (fun b o hb e=>(sb.2 b hb).trans e) fi.1 fi.2.1 fi.2.2.2.1 fi.2.2.2.2.1 fi.2.2.2.2.2;have eS1:h'.get? S=some (seqObj "list" #[ub,ub] n):=(sb.2 S hnI).trans eS;cases d with
  | int ki=>
   have h:(if b<ki then cT rest ki else cT rest b)=some db:=h;have e1:v=.int ki:=rdv;have e2:vb=.int b:=rb;subst e1 e2;obtain⟨tk,rfl⟩:=ru;obtain⟨tb,rfl⟩:=rvb;refine wpAny_bind (wpAny_pure ?_);show wpAny _ X.A.in1 (tryCatch (holding [.int ki tk,.int ki tk] (richCompare .Gt (.int ki tk) (.int b tb) >>= _)) _ >>= _) _ _ _;refine wpAny_bind (wpAny_tryCatch (wpAny_holding (wpAny_bind (t8 _ _ _ _ _ _ _ _ _ _ ?_))));refine wpAny_bind (wpAny_holding (wpAny_truthy_bool ?_));refine wpAny_bind (wpAny_letGo (wpAny_pure ?_))
   by_cases hlt:b<ki
   ·rw[if_pos hlt] at h;simp only[hlt,decide_true,if_true];refine wpAny_bind (wpAny_updateSeq eS1 rfl (wpAny_bind (wpAny_letGo ?_)));rw[hname];obtain⟨n3,eS3⟩:∃n3,(h'.update S (Obj.mapSeq fun _=>#[.int ki tk,.int ki tk])).get? S=some (seqObj "list" #[.int ki tk,.int ki tk] n3):=⟨_,get?_update_seq eS1 fun _=>#[.int ki tk,.int ki tk]⟩;have kp:∀b o,b≠S→h'.get? b=some o→(h'.update S (Obj.mapSeq fun _=>#[.int ki tk,.int ki tk])).get? b=some o:=fun b o hb e=>(Heap.get?_update_other h' _ (Ne.symm hb)).trans e
    have I3:L2.Inv X aa σ H {s with heap:=h'.update S (Obj.mapSeq fun _=>#[.int ki tk,.int ki tk])}:=I1.turned (t':=s.toks) kp fS.1 fS.2.1 fS.2.2.2.1 fS.2.2.2.2.1 fS.2.2.2.2.2;obtain⟨oI,hoI,cI,dI⟩:=id st';exact wpAny_pure ⟨plainId_quiet PySem.F.plain_max_loop _,ih (j+1) _ ki _ (.int ki tk) n3 hd' I3 ⟨oI,kp it oI (Ne.symm hnI) hoI,cI,dI⟩ eS3 rfl ⟨tk,rfl⟩ h⟩
   ·rw[if_neg hlt] at h;simp only[hlt,decide_false,Bool.false_eq_true,if_false];refine wpAny_bind (wpAny_letGo ?_);rw[hname];exact wpAny_pure ⟨plainId_quiet PySem.F.plain_max_loop _,ih (j+1) _ b _ (.int b tb) n hd' I1 st' eS1 rfl ⟨tb,rfl⟩ h⟩
  | _=>cases h
theorem pV {l:Addr}{Q:VK}{H:Hp}{M:aq}{db:Int}{s:Shared}
  (hr:bA (k+1) X.A) (hcalm:X.calm=true) (I:L2.Inv X aa σ H s) (hw:Wr X.K θ H M) (ta:jz X.K θ H l vs) (r:isDs X.K θ H ds0 vs) (h:wC ds0=some db) (hQ:∀v,isD X.K θ H (.int db) v→Q v H) :
  wpAny (model X.prog X.w) X.A (call (.builtin "max") [.ref l] []) (EP X aa σ Q) X.xe s:=by
 have hname:(toString "max"++toString ".loop":String)="max.loop":=by decide
 cases ds0 with
 | nil=>cases h
 | cons d rest=>
  cases d with
  | int ks=>
   have h:cT rest ks=some db:=h;obtain⟨v,ev,rdv⟩:=cy (i:=0) r rfl;obtain⟨its,rv,p,hz⟩:=I.list ta.sq;refine kmk_tree PySem.F.kind_max PySem.F.plain_max PySem.F.entry_max (pq _) ?_;show wpAny _ X.A.in1 (Builtin.Builtins.bindParams "max" ["key","default"] 0 ⟨[],[]⟩ >>= _) _ _ s;refine wpAny_bind (wpAny_of_eq (show Builtin.Builtins.bindParams "max" ["key","default"] 0 ⟨[],[]⟩=pure [none,none] from rfl) ?_);refine wpAny_bind (wpAny_pure ?_);refine wpAny_bind (wpAny_pyIter_list p.isList ?_);refine wpAny_bind (wpAny_newList ?_ (Nat.zero_le _));rw[hname];have hS:(s.heap.push {cls:=.type "list_iterator",data:=.fields #[.ref l,.int 0 0]}).objs.size=s.heap.objs.size+1:=size_push' ..;have fi:eV X aa H s.heap.objs.size:=I.fpOk (Nat.le_refl _) (I.hok.fresh (Nat.le_refl _));have leS:s.heap.objs.size≤(s.heap.push {cls:=.type "list_iterator",data:=.fields #[.ref l,.int 0 0]}).objs.size:=by rw[hS];exact Nat.le_succ _
   have fS:eV X aa H (s.heap.push {cls:=.type "list_iterator",data:=.fields #[.ref l,.int 0 0]}).objs.size:=I.fpOk leS (I.hok.fresh leS);have hnI:(s.heap.push {cls:=.type "list_iterator",data:=.fields #[.ref l,.int 0 0]}).objs.size≠s.heap.objs.size:=by rw[hS];exact Nat.ne_of_gt (Nat.lt_succ_self _)
   have gI:((s.heap.push {cls:=.type "list_iterator",data:=.fields #[.ref l,.int 0 0]}).push (seqObj "list" #[] 0)).get? s.heap.objs.size=some {cls:=.type "list_iterator",data:=.fields #[.ref l,.int 0 0]}:=Heap.get?_push_of_some _ (Heap.get?_push_size _ rfl);have gS:((s.heap.push {cls:=.type "list_iterator",data:=.fields #[.ref l,.int 0 0]}).push (seqObj "list" #[] 0)).get? (s.heap.push {cls:=.type "list_iterator",data:=.fields #[.ref l,.int 0 0]}).objs.size=some (seqObj "list" #[] 0):=Heap.get?_push_size _ rfl;have I0:L2.Inv X aa σ H {s with heap:=(s.heap.push {cls:=.type "list_iterator",data:=.fields #[.ref l,.int 0 0]}).push (seqObj "list" #[] 0)}:=I.kept (t':=s.toks) fun b o e=>Heap.get?_push_of_some _ (Heap.get?_push_of_some _ e)
   generalize (s.heap.push {cls:=.type "list_iterator",data:=.fields #[.ref l,.int 0 0]}).objs.size=S at *;generalize hit:s.heap.objs.size=it at *;refine wpAny_pure ⟨plainId_quiet PySem.F.plain_max_loop _,?_⟩;refine codeAny_builtin PySem.F.entry_max_loop ?_;rw[Around.under_plainId PySem.F.plain_max_loop _];show wpAny _ X.A.in1 (seqItems? (.ref S) >>= _) _ _ _;refine wpAny_bind (wpAny_seqItems gS rfl ?_);obtain⟨its',rv',p',hz'⟩:=I0.list ta.sq;obtain⟨u',eu',ru'⟩:=rv'.get ev;show wpAny _ X.A.in1 (tryCatch (pyNext (.ref it)) _ >>= _) _ _ _;refine wpAny_bind (wpAny_tryCatch (wpAny_pyNext_list_item (i:=0) ⟨_,gI,rfl,rfl⟩ p'.isList (x:=u') (by simpa using eu') fun h' st' sb=>?_));have I1:L2.Inv X aa σ H {s with heap:=h'}:=I0.turned (t':=s.toks) (fun b o hb e=>(sb.2 b hb).trans e) fi.1 fi.2.1 fi.2.2.2.1 fi.2.2.2.2.1 fi.2.2.2.2.2;have eS1:h'.get? S=some (seqObj "list" #[] 0):=(sb.2 S hnI).trans gS;obtain⟨oI,hoI,cI,dI⟩:=id st';refine wpAny_bind (wpAny_pure ?_);refine wpAny_bind ?_;show wpAny _ X.A.in1 (updateSeq S (fun _=>#[u',u'])) _ _ _;refine wpAny_updateSeq eS1 rfl ?_;rw[hname];obtain⟨n3,eS3⟩:∃n3,(h'.update S (Obj.mapSeq fun _=>#[u',u'])).get? S=some (seqObj "list" #[u',u'] n3):=⟨_,get?_update_seq eS1 fun _=>#[u',u']⟩;have kp:∀b o,b≠S→h'.get? b=some o→(h'.update S (Obj.mapSeq fun _=>#[u',u'])).get? b=some o:=fun b o hb e=>(Heap.get?_update_other h' _ (Ne.symm hb)).trans e
   have I3:L2.Inv X aa σ H {s with heap:=h'.update S (Obj.mapSeq fun _=>#[u',u'])}:=I1.turned (t':=s.toks) kp fS.1 fS.2.1 fS.2.2.2.1 fS.2.2.2.2.1 fS.2.2.2.2.2;exact wpAny_pure ⟨plainId_quiet PySem.F.plain_max_loop _,o8 hr hcalm hw ta r hnI (fun u s' e=>e) fi fS hQ rest 1 _ ks v u' n3 rfl I3 ⟨oI,kp it oI (Ne.symm hnI) hoI,cI,dI⟩ eS3 rdv ru' h⟩
  | _=>cases h
def fA:FD:=fun ds M=>match ds with
 | [.lst xs]=>match wC xs with
  | some d=>.ok (.int d) M
  | none=>.bad
 | _=>.bad
theorem u7 (hr:bA (k+1) X.A)(hc:X.calm=true):cb X (.builtin "max") (rC X fA):=by
 intro aa s σ H xs us Q I r h;obtain⟨θ,M,ds,hw,rd,h⟩:=h;unfold fA at h;split at h
 ·rename_i ys;split at h
  ·rename_i d q;obtain⟨v,rr,e,⟨a,vs,ea,ta,rs⟩,er⟩:=rd;have er:rr=[]:=er;subst er e ea;obtain⟨u,rfl,ru⟩:=jE r;have ru:u=.ref a:=ru;subst ru;exact pV hr hc I hw (.inl ⟨.inl ta.1,ta.2⟩) rs q fun v rv=>h v θ H (.refl hw) rv
  ·exact h.elim
 ·exact h.elim
theorem yA (hr:bA (k+1) X.A)(hc:X.calm=true:=by rfl):QC X (.builtin "max") fA:=⟨u7 hr hc⟩
end
end DL
namespace DL
open PySem L2
def aJ:Nat→D→Bool
 | 0,_=>false
 | f+1,d=>match d with
  | .mr _=>false
  | .tup xs=>xs.all (aJ f)
  | .lst xs=>xs.all (aJ f)
  | .ro xs=>xs.all (aJ f)
  | _=>true
theorem a5 {f:D→Option D}:∀{xs:List D},(∀x∈xs,f x=some x)→aG f xs=some xs
 | [],_=>rfl
 | x::xs,h=>by
  unfold aG;rw[h x List.mem_cons_self,a5 fun y hy=>h y (List.mem_cons_of_mem _ hy)]
theorem eO {n:Nat}{M:aq}:∀(f:Nat) (d:D),aJ f d=true→frz n M f d=some d
 | 0,d,h=>by cases h
 | f+1,d,h=>by
  cases d with
  | mr k=>cases h
  | tup xs=>
   have h:xs.all (aJ f)=true:=h;show(aG (frz n M f) xs).map D.tup=_;rw[a5 fun x hx=>eO f x (List.all_eq_true.mp h x hx)];rfl
  | lst xs=>
   have h:xs.all (aJ f)=true:=h;show(aG (frz n M f) xs).map D.lst=_;rw[a5 fun x hx=>eO f x (List.all_eq_true.mp h x hx)];rfl
  | ro xs=>
   have h:xs.all (aJ f)=true:=h;show(aG (frz n M f) xs).map D.ro=_;rw[a5 fun x hx=>eO f x (List.all_eq_true.mp h x hx)];rfl
  | _=>rfl
def cf:MO→Bool
 | .lst xs=>xs.all (aJ 30)
 | .obj _ fs=>fs.all fun p=>aJ 30 p.2
 | .dK fs=>fs.all fun p=>aJ 30 p.2
 | .dT fs=>fs.all fun p=>aJ 30 p.2
theorem g6 {κ:Type}{f:D→Option D}:∀{fs:List (κ×D)},(∀p∈fs,f p.2=some p.2)→jW f fs=some fs
 | [],_=>rfl
 | (x,d)::fs,h=>by
  unfold jW;rw[h (x,d) List.mem_cons_self,g6 fun y hy=>h y (List.mem_cons_of_mem _ hy)]
theorem km {f:D→Option D}:∀{fs:List (Str×D)},(∀p∈fs,f p.2=some p.2)→ma f fs=some fs
 | [],_=>rfl
 | (x,d)::fs,h=>by
  unfold ma;rw[h (x,d) List.mem_cons_self,km fun y hy=>h y (List.mem_cons_of_mem _ hy)]
@[simp] theorem zH (f:Nat) (i:Int):aJ (f+1) (.int i)=true:=rfl
@[simp] theorem Ax (f:Nat) (i:Bool):aJ (f+1) (.bl i)=true:=rfl
@[simp] theorem zK (f:Nat):aJ (f+1) .non=true:=rfl
@[simp] theorem zN (f:Nat) (x:Str):aJ (f+1) (.str x)=true:=rfl
theorem zJ (f:Nat)(xs:List D):aJ (f+1) (.tup xs)=xs.all (aJ f):=rfl
theorem pG (f:Nat)(xs:List D):aJ (f+1) (.lst xs)=xs.all (aJ f):=rfl
theorem pU (f:Nat)(l:List Int):(l.map D.int).all (aJ (f+1))=true:=by
 rw[List.all_map];exact List.all_eq_true.mpr fun x _=>rfl
end DL
namespace DL
open PySem L2
variable{b:GS}{ρ:bF}{M M1:aq}
theorem aB {a:GS}{ρ1:bF}(h:a ρ M=.ok (.nx ρ1) M1):ao a b ρ M=b ρ1 M1:=by
 unfold ao;rw[h];rfl
variable{d:D}
theorem Be {a:GS}(h:a ρ M=.ok (.rt d) M1):ao a b ρ M=.ok (.rt d) M1:=by
 unfold ao;rw[h];rfl
theorem Bs {a:GS}{c:Str}(h:a ρ M=.err c M1):ao a b ρ M=.err c M1:=by
 unfold ao;rw[h];rfl
theorem gU {t:GT}{a:GS}(h:t ρ M=.ok true M1):dQ t a b ρ M=a ρ M1:=by
 unfold dQ;rw[h,ai,if_pos rfl]
theorem eK {t:GT}{a:GS}(h:t ρ M=.ok false M1):dQ t a b ρ M=b ρ M1:=by
 unfold dQ;rw[h,ai,if_neg Bool.false_ne_true]
variable{g:GE}
theorem aD {i:Nat}(h:g ρ M=.ok d M1):av i g ρ M=.ok (.nx (ρ.set i (some d))) M1:=by
 unfold av;rw[h,ai]
theorem iK (h:g ρ M=.ok d M1):cS g ρ M=.ok (.nx ρ) M1:=by
 unfold cS;rw[h,ai]
theorem fM (h:g ρ M=.ok d M1):bY g ρ M=.ok (.rt d) M1:=by
 unfold bY;rw[h,ai]
theorem lb {a b:GT}{x y:Bool}(ha:a ρ M=.ok x M)(hb:x=true→b ρ M=.ok y M):dm a b ρ M=.ok (x&&y) M:=by
 unfold dm;rw[ha,ai];cases x with
 | true=>exact hb rfl
 | false=>rfl
theorem nP {a b:GT}{x y:Bool}(ha:a ρ M=.ok x M)(hb:x=false→b ρ M=.ok y M):iI a b ρ M=.ok (x||y) M:=by
 unfold iI;rw[ha,ai];cases x with
 | true=>rfl
 | false=>exact hb rfl
variable{a:GE}
theorem bb {x:Bool}(ha:a ρ M=.ok (.bl x) M1):aK a ρ M=.ok x M1:=by
 unfold aK;rw[ha,ai];rfl
variable{x:D}{o:aN D}
theorem az {f:F2}{b:GE}{M2:aq}{y:D}(ha:a ρ M=.ok x M1)(hb:b ρ M1=.ok y M2)(h:f x y M2=o):g2 f a b ρ M=o:=by
 unfold g2;rw[ha,ai,hb,ai,h]
variable{F:FD}
theorem lY (ha:a ρ M=.ok x M1)(h:F [x] M1=o):bt F (ae a ah) ρ M=o:=by
 unfold bt ae ah;rw[ha,ai,ai,ai,h]
theorem lZ (ha:a ρ M=.ok x M1)(h:F [x] M1=o):au 1 F (ae a ah) ρ M=o:=by
 unfold au ae ah;rw[ha,ai,ai,ai,if_pos (show [x].length=1 from rfl),h]
theorem ke {b:GE}{M2:aq}{y:D}(ha:a ρ M=.ok x M1)(hb:b ρ M1=.ok y M2)(h:F [x,y] M2=o):au 2 F (ae a (ae b ah)) ρ M=o:=by
 unfold au ae ah;rw[ha,ai,hb,ai,ai,ai,ai,if_pos (show [x,y].length=2 from rfl),h]
theorem AQ {b c:GE}{M2 M3:aq}{y z:D}(ha:a ρ M=.ok x M1)(hb:b ρ M1=.ok y M2)(hc:c ρ M2=.ok z M3)(h:F [x,y,z] M3=o):au 3 F (ae a (ae b (ae c ah))) ρ M=o:=by
 unfold au ae ah;rw[ha,ai,hb,ai,hc,ai,ai,ai,ai,ai,if_pos (show [x,y,z].length=3 from rfl),h]
theorem oE {b c d:GE}{M2 M3 M4:aq}{y z u:D}(ha:a ρ M=.ok x M1)(hb:b ρ M1=.ok y M2)(hc:c ρ M2=.ok z M3)(hd:d ρ M3=.ok u M4)(h:F [x,y,z,u] M4=o):au 4 F (ae a (ae b (ae c (ae d ah)))) ρ M=o:=by
 unfold au ae ah;rw[ha,ai,hb,ai,hc,ai,hd,ai,ai,ai,ai,ai,ai,if_pos (show [x,y,z,u].length=4 from rfl),h]
variable{xs:List D}
theorem gw {i:Nat}(h:ρ[i]?=some (some (.lst xs))):cF (af i) ρ M=.ok ⟨xs,none⟩ M:=by
 unfold cF af;rw[h];rfl
theorem wJ (a b:Int)(M:aq):aS false (.int a) (.int b) M=.ok (.bl (decide (a=b))) M:=by
 show aN.ok (D.bl ((a==b) != false)) M=_
 by_cases q:a=b <;> simp[q]
theorem oN (a b:Int)(M:aq):aS true (.int a) (.int b) M=.ok (.bl (!decide (a=b))) M:=by
 show aN.ok (D.bl ((a==b) != true)) M=_
 by_cases q:a=b <;> simp[q]
theorem tM (M:aq)(E:List D):(M++[MO.lst E])[M.length]?=some (.lst E):=by simp
theorem rm (M:aq)(E E':List D):(M++[MO.lst E]).set M.length (.lst E')=M++[MO.lst E']:=by simp
variable{k:Nat}
theorem nF (h:xs[k]?=some d):bG (.lst xs) (.int k) M=.ok d M:=by
 have a:=lQ (xs:=xs) (j:=k) h;unfold bG bj;dsimp only;rw[a]
theorem oz (h:xs[k]?=some d):bG (.tup xs) (.int k) M=.ok d M:=by
 have a:=lQ (xs:=xs) (j:=k) h;unfold bG bj;dsimp only;rw[a]
theorem iN :gq ah ρ M=.ok (.mr M.length) (M++[.lst []]):=by
 show(if([]:List D).length≤sizeLine then aN.ok (D.mr M.length) (M++[.lst []]) else .bad)=_;rw[if_pos (show([]:List D).length≤sizeLine from Nat.zero_le _)]
variable{ga:GA}{ds:List D}
theorem fQ (h:ga ρ M=.ok ds M1)(hl:ds.length≤100000:=by exact Nat.le_of_ble_eq_true rfl):bx ga ρ M=.ok (.tup ds) M1:=by
 have:ds.length≤sizeLine:=bW (by omega);unfold bx;rw[h,ai];unfold jL;rw[if_pos this]
theorem jg (h:ga ρ M=.ok ds M1)(hl:ds.length≤100000:=by exact Nat.le_of_ble_eq_true rfl):cC ga ρ M=.ok (.lst ds) M1:=by
 have:ds.length≤sizeLine:=bW (by omega);unfold cC;rw[h,ai];unfold aW;rw[if_pos this]
theorem cB {r:GA}{M2:aq}(h:g ρ M=.ok d M1)(hr:r ρ M1=.ok ds M2):ae g r ρ M=.ok (d::ds) M2:=by
 unfold ae;rw[h,ai,hr,ai]
theorem lE {go ge:GE}{E E1:List D}(h1:go ρ M=.ok (.mr k) M)(h2:M[k]?=some (.lst E))(h3:ge ρ M=.ok d M1)(h4:M1[k]?=some (.lst E1))(h:E1.length<1000000) :
  fK go ge ρ M=.ok .non (M1.set k (.lst (E1++[d]))):=by
 have l:E1.length<sizeLine:=Nat.lt_of_lt_of_le h (by rw[sizeLine_eq];decide);unfold fK;rw[h1,ai];dsimp only;rw[h2];dsimp only;rw[h3,ai];unfold qw;rw[h4];dsimp only;rw[if_pos l]
theorem kN {n:Nat}(h:ga ρ M=.ok [.int (n:Int)] M1)(hn:n≤1000000):dh ga ρ M=.ok ⟨ba 0 n,none⟩ M1:=by
 unfold dh;rw[h,ai,sZ hn]
theorem fL {gi:GI}{sg:GG}{t:jP}{o:aN Fl}(h:gi ρ M=.ok t M1)(e:a8 t sg b t.ds ρ M1=o):fE gi sg b ρ M=o:=by
 unfold fE;rw[h,ai,e]
theorem uO {i j:Int}(h0:0<j)(h1:j≤1000000)(M:aq):ce (.int i) (.int j) M=.ok (.int (i / j)) M:=by
 have h2:j.natAbs<2 ^ 20:=by omega
 have h3:j.natAbs≠0:=by omega
 have h4:=(Nat.log2_lt h3).mpr h2;unfold ce;dsimp only;rw[if_pos ⟨h0,by omega⟩]
theorem v6 (h:aP 40 d=true)(hs:iu d d=true)(hm:∀M,now d M=d)(M:aq):aS true d d M=.ok (.bl false) M:=by
 unfold aS;rw[hm,h,hs];rfl
end DL
namespace DL
open PySem L2
def dw (n:Nat):Nat→D→Bool
 | 0,_=>false
 | f+1,d=>match d with
  | .mr k=>decide (k<n)
  | .tup xs=>xs.all (dw n f)
  | .lst xs=>xs.all (dw n f)
  | .ro xs=>xs.all (dw n f)
  | _=>true
theorem dN {n:Nat}{M:aq}:∀(f:Nat) (d:D),dw n f d=true→frz n M f d=some d
 | 0,d,h=>by cases h
 | f+1,d,h=>by
  cases d with
  | mr k=>
   have h:decide (k<n)=true:=h;show(if k<n then some (D.mr k) else _)=_;rw[if_pos (of_decide_eq_true h)]
  | tup xs=>
   have h:xs.all (dw n f)=true:=h;show(aG (frz n M f) xs).map D.tup=_;rw[a5 fun x hx=>dN f x (List.all_eq_true.mp h x hx)];rfl
  | lst xs=>
   have h:xs.all (dw n f)=true:=h;show(aG (frz n M f) xs).map D.lst=_;rw[a5 fun x hx=>dN f x (List.all_eq_true.mp h x hx)];rfl
  | ro xs=>
   have h:xs.all (dw n f)=true:=h;show(aG (frz n M f) xs).map D.ro=_;rw[a5 fun x hx=>dN f x (List.all_eq_true.mp h x hx)];rfl
  | _=>rfl
theorem cw {n:Nat}:∀(f:Nat) (d:D),aJ f d=true→dw n f d=true
 | 0,d,h=>by cases h
 | f+1,d,h=>by
  cases d with
  | mr k=>cases h
  | tup xs=>exact List.all_eq_true.mpr fun x hx=>cw f x (List.all_eq_true.mp (show xs.all (aJ f)=true from h) x hx)
  | lst xs=>exact List.all_eq_true.mpr fun x hx=>cw f x (List.all_eq_true.mp (show xs.all (aJ f)=true from h) x hx)
  | ro xs=>exact List.all_eq_true.mpr fun x hx=>cw f x (List.all_eq_true.mp (show xs.all (aJ f)=true from h) x hx)
  | _=>rfl
def nX (n:Nat):MO→Bool
 | .lst xs=>xs.all (dw n 30)
 | .obj _ fs=>fs.all fun p=>dw n 30 p.2
 | .dK fs=>fs.all fun p=>dw n 30 p.2
 | .dT fs=>fs.all fun p=>dw n 30 p.2
theorem gQ {n:Nat}{o:MO}(h:cf o=true):nX n o=true:=by
 cases o with
 | lst xs=>exact List.all_eq_true.mpr fun x hx=>cw 30 x (List.all_eq_true.mp (show xs.all (aJ 30)=true from h) x hx)
 | obj c fs=>exact List.all_eq_true.mpr fun x hx=>cw 30 x.2 (List.all_eq_true.mp (show(fs.all fun p=>aJ 30 p.2)=true from h) x hx)
 | dK fs=>exact List.all_eq_true.mpr fun x hx=>cw 30 x.2 (List.all_eq_true.mp (show(fs.all fun p=>aJ 30 p.2)=true from h) x hx)
 | dT fs=>exact List.all_eq_true.mpr fun x hx=>cw 30 x.2 (List.all_eq_true.mp (show(fs.all fun p=>aJ 30 p.2)=true from h) x hx)
theorem cX {n:Nat}{M:aq}:∀{l:List MO},l.all (nX n)=true→cL n M l=some l
 | [],_=>rfl
 | .lst xs::r,h=>by
  rw[List.all_cons,Bool.and_eq_true] at h;unfold cL;rw[cX h.2];have h1:xs.all (dw n 30)=true:=h.1;rw[a5 fun x hx=>dN 30 x (List.all_eq_true.mp h1 x hx)]
 | .obj c fs::r,h=>by
  rw[List.all_cons,Bool.and_eq_true] at h;unfold cL;rw[cX h.2];have h1:(fs.all fun p=>dw n 30 p.2)=true:=h.1;rw[km fun p hp=>dN 30 p.2 (List.all_eq_true.mp h1 p hp)]
 | .dK fs::r,h=>by
  rw[List.all_cons,Bool.and_eq_true] at h;unfold cL;rw[cX h.2];have h1:(fs.all fun p=>dw n 30 p.2)=true:=h.1;rw[g6 fun p hp=>dN 30 p.2 (List.all_eq_true.mp h1 p hp)]
 | .dT fs::r,h=>by
  rw[List.all_cons,Bool.and_eq_true] at h;unfold cL;rw[cX h.2];have h1:(fs.all fun p=>dw n 30 p.2)=true:=h.1;rw[g6 fun p hp=>dN 30 p.2 (List.all_eq_true.mp h1 p hp)]
def jT (M:aq):Prop:=M.all (nX M.length)=true
variable{M:aq}
theorem jT.pure (h:M.all cf=true):jT M:=List.all_eq_true.mpr fun x hx=>gQ (List.all_eq_true.mp h x hx)
theorem ll {d:D}{E:aq}(hd:aJ 30 d=true)(hM:jT M):d9 M.length (.ok d (M++E))=.ok d M:=by
 unfold d9
 by_cases h:(M++E).length=M.length
 ·have:E=[]:=by
   rw[List.length_append] at h;exact List.length_eq_zero_iff.mp (by omega)
  subst this;simp
 ·simp only[if_neg h];rw[List.take_left,eO 30 d hd,cX hM]
theorem uY {c:Str}{E:aq}(hM:jT M):d9 M.length (.err c (M++E))=.err c M:=by
 unfold d9
 by_cases h:(M++E).length=M.length
 ·have:E=[]:=by
   rw[List.length_append] at h;exact List.length_eq_zero_iff.mp (by omega)
  subst this;simp
 ·simp only[if_neg h];rw[List.take_left,cX hM]
theorem mO {xs:List D}(hx:xs.all (aJ 29)=true)(hM:jT M):d9 M.length (.ok (.mr M.length) (M++[.lst xs]))=.ok (.lst xs) M:=by
 have f1:=cX (n:=M.length) (M:=M++[.lst xs]) hM;have f2:frz M.length (M++[.lst xs]) 30 (.mr M.length)=some (.lst xs):=by
  have o:aG (frz M.length (M++[.lst xs]) 29) xs=some xs:=a5 fun x h=>eO 29 x (List.all_eq_true.mp hx x h)
  show(if M.length<M.length then some (D.mr M.length) else match (M++[MO.lst xs])[M.length]? with|some (MO.lst ys)=>(aG (frz M.length (M++[MO.lst xs]) 29) ys).map D.lst|_=>none)=_;rw[if_neg (Nat.lt_irrefl _)];simp;rw[o]
 show(if(M++[MO.lst xs]).length=M.length then aN.ok (D.mr M.length) (M++[MO.lst xs]) else match frz M.length (M++[MO.lst xs]) 30 (.mr M.length),cL M.length (M++[MO.lst xs]) ((M++[MO.lst xs]).take M.length) with|some d',some M'=>.ok d' M'|_,_=>.bad)=_;rw[if_neg (by simp),List.take_left,f1,f2]
variable{kvs:List (bH×D)}
theorem ir {i:Nat}{y z:D}{k:bH}(h:M[i]?=some (.dK kvs))(hk:cY y=some k)(hg:cQ kvs k=none)(hl:kvs.length<1000000):de i y z M=.ok z (M.set i (.dK (kvs++[(k,z)]))):=by
 unfold de;rw[h];dsimp only;rw[hk];dsimp only;rw[hg];dsimp only;rw[if_pos (Nat.lt_of_lt_of_le hl (bW (by decide)))]
theorem hZ {i:Nat}{y z r:D}{k:bH}(h:M[i]?=some (.dK kvs))(hk:cY y=some k)(hg:cQ kvs k=some r):de i y z M=.ok r M:=by
 unfold de;rw[h];dsimp only;rw[hk];dsimp only;rw[hg]
end DL
namespace TS
open PySem PyProof.Rows PySem.W
def gallop':Bool→Keyed→Array Keyed→Nat→Nat→Nat→StateT SortSt Sem (Option Nat):=sortPriv% PySem.Builtin.gallop
variable{arr:Array Keyed}
section
variable {prog:Program}{w:World}{A:Around}{E:Value→Shared→Prop}{s:Shared}{κ:SortKind}{G:Keyed→Prop}{key:Keyed→Int}
def LtOk (prog:Program)(w:World)(A:Around)(s:Shared)(κ:SortKind)(G:Keyed→Prop)(key:Keyed→Int):Prop:=∀x y,G x→G y→∀C:Bool→Shared→Prop,C (decide (key x<key y)) s→wpAny (model prog w) A (keyLt' κ x.1 y.1) C (fun _ _=>False) s
theorem wpS_lt (hL:LtOk prog w A s κ G key){x y:Keyed}(hx:G x)(hy:G y){st:SortSt}(hk:kindOf st=κ){Q:Option Bool→SortSt→Prop}(h:Q (some (decide (key x<key y))) st):wpS (model prog w) A E s (lt' x y) Q st:=by
 rw[lt'_eq];refine wpS_bind (wpS_get ?_);rw[hk];refine wpS_bind (wpS_lift (wpAny_attempt (wpAny_mono (hL x y hx hy (fun b s'=>b=decide (key x<key y)∧s'=s) ⟨rfl,rfl⟩) (fun b s' hb=>?_) fun _ _ hF=>hF.elim)));obtain⟨rfl,rfl⟩:=hb;exact⟨rfl,wpS_pure h⟩
theorem wpS_elem {i:Nat}{x:Keyed}(hi:arr[i]?=some x){st:SortSt}{Q:Keyed→SortSt→Prop}(h:Q x st):wpS (model prog w) A E s (elem' arr i) Q st:=by
 rw[elem'_eq,hi];exact wpS_pure h
def bey (key:Keyed→Int)(left:Bool)(k x:Keyed):Bool:=if left then decide (key x<key k) else !decide (key k<key x)
theorem wpS_bey (hL:LtOk prog w A s κ G key){l:Bool}{k x:Keyed}{i:Nat}(hk:G k)(hx:G x)(hi:arr[i]?=some x){st:SortSt}(hst:kindOf st=κ){Q:Option Bool→SortSt→Prop}(h:Q (some (bey key l k x)) st) :
  wpS (model prog w) A E s (do let x ←elem' arr i;if l=true then lt' x k else do let r ←lt' k x;pure (Option.map (fun x=>!x) r)) Q st:=by
 refine wpS_bind (wpS_elem hi ?_);cases l with
 | true=>
  rw[if_pos rfl];exact wpS_lt hL hx hk hst h
 | false=>
  rw[if_neg Bool.false_ne_true];exact wpS_bind (wpS_lt hL hk hx hst (wpS_pure h))
structure Seek (key:Keyed→Int)(G:Keyed→Prop)(l:Bool)(k:Keyed)(arr:Array Keyed)(b n:Nat)(B:Nat→Bool):Prop where
 at_:∀i,i<n→∃x,arr[b+i]?=some x∧G x∧B i=bey key l k x
 mono:∀i j,i≤j→j<n→B j=true→B i=true
def Found (n:Nat)(B:Nat→Bool)(m:Nat):Prop:=m≤n∧(∀i,i<m→B i=true)∧∀i,m≤i→i<n→B i=false
theorem gallop_ok (hL:LtOk prog w A s κ G key){l:Bool}{k:Keyed}{b n hint:Nat}{B:Nat→Bool}(hk:G k)(hS:Seek key G l k arr b n B)(hh:hint<n){st:SortSt}(hst:kindOf st=κ){Q:Option Nat→SortSt→Prop}
  (h:∀m,Found n B m→Q (some m) st):wpS (model prog w) A E s (gallop' l k arr b n hint) Q st:=by
 have be:∀i,i<n→∀{Q:Option Bool→SortSt→Prop},Q (some (B i)) st→wpS (model prog w) A E s (do let x ←elem' arr (b+i);if l=true then lt' x k else do let r ←lt' k x;pure (Option.map (fun x=>!x) r)) Q st:=fun i hi Q hq=>by
  obtain⟨x,e,gx,eb⟩:=hS.at_ i hi;rw[eb] at hq;exact wpS_bey hL hk gx e hst hq
 have no:∀i j,i≤j→j<n→B i=false→B j=false:=fun i j h1 h2 h3=>by
  cases q:B j with
  | false=>rfl
  | true=>rw[hS.mono i j h1 h2 q] at h3;cases h3
 refine wpS_bind (be hint hh ?_);dsimp only;cases q:B hint with
 | true=>
  rw[if_pos rfl];refine wpS_bind (wpS_mono (wpS_forRange
   (I:=fun x c st'=>∃la of_,c=(none,la,of_)∧st'=st∧(la=0∨la<n-hint)∧la<of_∧x+1≤of_∧(hint+la<n→B (hint+la)=true))
   (Q:=fun c st'=>∃la of_,c=(none,la,of_)∧st'=st∧la<of_∧hint+la<n∧B (hint+la)=true∧(hint+of_<n→B (hint+of_)=false)) ?step ?fin ⟨0,1,rfl,rfl,.inl rfl,by decide,by decide,fun _=>q⟩) ?post)
  case fin=>
   rintro c st' ⟨la,of_,rfl,rfl,h1,h2,h3,h4⟩;rw[show max 0 n=n by omega] at h3;exact⟨la,of_,rfl,rfl,h2,by omega,h4 (by omega),fun z=>by omega⟩
  case step=>
   rintro x c st' _ hx ⟨la,of_,rfl,rfl,h1,h2,h3,h4⟩;dsimp only
   by_cases hm:of_≥n-hint
   ·rw[if_pos hm];exact wpS_pure ⟨la,of_,rfl,rfl,h2,by omega,h4 (by omega),fun z=>by omega⟩
   ·rw[if_neg hm];refine wpS_bind (be (hint+of_) (by omega) ?_);dsimp only;cases r:B (hint+of_) with
    | true=>exact wpS_pure ⟨of_,2*of_+1,rfl,rfl,.inr (by omega),by omega,by omega,fun _=>r⟩
    | false=>exact wpS_pure ⟨la,of_,rfl,rfl,h2,by omega,h4 (by omega),fun _=>r⟩
  case post=>
   rintro c st' ⟨la,of_,rfl,rfl,h2,h3,h4,h5⟩;dsimp only;refine wpS_bind (wpS_mono (wpS_forRange
    (I:=fun x c st''=>∃lo hi,c=(none,lo,hi)∧st''=st'∧lo≤hi∧hi≤n∧hi-lo≤n-x∧(∀i,i<lo→B i=true)∧∀i,hi≤i→i<n→B i=false)
    (Q:=fun c st''=>∃lo hi,c=(none,lo,hi)∧st''=st'∧Found n B hi) ?step2 ?fin2 ⟨_,_,rfl,rfl,by omega,by omega,by omega,fun i hi=>hS.mono i (hint+la) (by omega) h3 h4,fun i h6 h7=>?low2⟩) ?post2)
   case low2=>
    by_cases z:of_≤n-hint
    ·rw[Nat.min_eq_left z] at h6;exact no (hint+of_) i h6 h7 (h5 (by omega))
    ·rw[Nat.min_eq_right (by omega)] at h6;omega
   case fin2=>
    rintro c st'' ⟨lo,hi,rfl,rfl,g1,g2,g3,g4,g5⟩;rw[show max 0 n=n by omega] at g3;exact⟨lo,hi,rfl,rfl,g2,fun i hi=>g4 i (by omega),g5⟩
   case step2=>
    rintro x c st'' _ hx ⟨lo,hi,rfl,rfl,g1,g2,g3,g4,g5⟩;dsimp only
    by_cases hm:lo≥hi
    ·rw[if_pos hm];exact wpS_pure ⟨lo,hi,rfl,rfl,g2,fun i hi=>g4 i (by omega),g5⟩
    ·rw[if_neg hm];refine wpS_bind (be (lo+(hi-lo) / 2) (by omega) ?_);dsimp only;cases r:B (lo+(hi-lo) / 2) with
     | true=>exact wpS_pure ⟨_,_,rfl,rfl,by omega,by omega,by omega,fun i hi=>hS.mono i _ (by omega) (by omega) r,g5⟩
     | false=>exact wpS_pure ⟨_,_,rfl,rfl,by omega,by omega,by omega,g4,fun i z1 z2=>no _ i z1 z2 r⟩
   case post2=>
    rintro c st'' ⟨lo,hi,rfl,rfl,g⟩;exact wpS_pure (h hi g)
 | false=>
  rw[if_neg Bool.false_ne_true];refine wpS_bind (wpS_mono (wpS_forRange
   (I:=fun x c st'=>∃la of_,c=(none,la,of_)∧st'=st∧la≤hint∧la<of_∧x+1≤of_∧B (hint-la)=false)
   (Q:=fun c st'=>∃la of_,c=(none,la,of_)∧st'=st∧la<of_∧la≤hint∧B (hint-la)=false∧(of_≤hint→B (hint-of_)=true)) ?step3 ?fin3 ⟨0,1,rfl,rfl,by omega,by decide,by decide,q⟩) ?post3)
  case fin3=>
   rintro c st' ⟨la,of_,rfl,rfl,h1,h2,h3,h4⟩;rw[show max 0 n=n by omega] at h3;exact⟨la,of_,rfl,rfl,h2,h1,h4,fun z=>by omega⟩
  case step3=>
   rintro x c st' _ hx ⟨la,of_,rfl,rfl,h1,h2,h3,h4⟩;dsimp only
   by_cases hm:of_≥hint+1
   ·rw[if_pos hm];exact wpS_pure ⟨la,of_,rfl,rfl,h2,h1,h4,fun z=>by omega⟩
   ·rw[if_neg hm];refine wpS_bind (be (hint-of_) (by omega) ?_);dsimp only;cases r:B (hint-of_) with
    | true=>exact wpS_pure ⟨la,of_,rfl,rfl,h2,h1,h4,fun _=>r⟩
    | false=>exact wpS_pure ⟨of_,2*of_+1,rfl,rfl,by omega,by omega,by omega,r⟩
  case post3=>
   rintro c st' ⟨la,of_,rfl,rfl,h2,h3,h4,h5⟩;dsimp only;refine wpS_bind (wpS_mono (wpS_forRange
    (I:=fun x c st''=>∃lo hi,c=(none,lo,hi)∧st''=st'∧lo≤hi∧hi≤n∧hi-lo≤n-x∧(∀i,i<lo→B i=true)∧∀i,hi≤i→i<n→B i=false)
    (Q:=fun c st''=>∃lo hi,c=(none,lo,hi)∧st''=st'∧Found n B hi) ?step4 ?fin4 ⟨_,_,rfl,rfl,by omega,by omega,by omega,fun i hi=>?low4,fun i h6 h7=>no _ i h6 h7 h4⟩) ?post4)
   case low4=>
    by_cases z:of_≤hint+1
    ·rw[Nat.min_eq_left z] at hi;exact hS.mono i (hint-of_) (by omega) (by omega) (h5 (by omega))
    ·rw[Nat.min_eq_right (by omega)] at hi;omega
   case fin4=>
    rintro c st'' ⟨lo,hi,rfl,rfl,g1,g2,g3,g4,g5⟩;rw[show max 0 n=n by omega] at g3;exact⟨lo,hi,rfl,rfl,g2,fun i hi=>g4 i (by omega),g5⟩
   case step4=>
    rintro x c st'' _ hx ⟨lo,hi,rfl,rfl,g1,g2,g3,g4,g5⟩;dsimp only
    by_cases hm:lo≥hi
    ·rw[if_pos hm];exact wpS_pure ⟨lo,hi,rfl,rfl,g2,fun i hi=>g4 i (by omega),g5⟩
    ·rw[if_neg hm];refine wpS_bind (be (lo+(hi-lo) / 2) (by omega) ?_);dsimp only;cases r:B (lo+(hi-lo) / 2) with
     | true=>exact wpS_pure ⟨_,_,rfl,rfl,by omega,by omega,by omega,fun i hi=>hS.mono i _ (by omega) (by omega) r,g5⟩
     | false=>exact wpS_pure ⟨_,_,rfl,rfl,by omega,by omega,by omega,g4,fun i z1 z2=>no _ i z1 z2 r⟩
   case post4=>
    rintro c st'' ⟨lo,hi,rfl,rfl,g⟩;exact wpS_pure (h hi g)
end
end TS
namespace TS
open PySem PyProof.Rows PySem.W
structure Mg (R:Keyed→Keyed→Prop)(W out RA RB:List Keyed):Prop where
 perm:(out++(RA++RB)).Perm W
 up:out.Pairwise R
 le:∀x∈out,∀y∈RA++RB,R x y
section
variable {R:Keyed→Keyed→Prop}{W out RA RB XS:List Keyed}{x:Keyed}
theorem Mg.swap (h:Mg R W out RA RB):Mg R W out RB RA:=⟨(List.Perm.append_left _ List.perm_append_comm).trans h.perm,h.up,fun x hx y hy=>h.le x hx y (by
 rcases List.mem_append.mp hy with z|z
 ·exact List.mem_append_right _ z
 ·exact List.mem_append_left _ z)⟩
theorem Mg.as (h:Mg R W out (XS++RA) RB)(hs:(XS++RA).Pairwise R)(hx:∀x∈XS,∀y∈RB,R x y):Mg R W (out++XS) RA RB:=by
 rw[List.pairwise_append] at hs;refine⟨?_,?_,fun x hx' y hy=>?_⟩
 ·have:=h.perm;rw[List.append_assoc,←List.append_assoc XS];exact this
 ·rw[List.pairwise_append];exact⟨h.up,hs.1,fun x h1 y h2=>h.le x h1 y (List.mem_append_left _ (List.mem_append_left _ h2))⟩
 ·rcases List.mem_append.mp hx' with z|z
  ·refine h.le x z y ?_;rcases List.mem_append.mp hy with u|u
   ·exact List.mem_append_left _ (List.mem_append_right _ u)
   ·exact List.mem_append_right _ u
  ·rcases List.mem_append.mp hy with u|u
   ·exact hs.2.2 x z y u
   ·exact hx x z y u
theorem Mg.a (h:Mg R W out (x::RA) RB)(hs:(x::RA).Pairwise R)(hx:∀y∈RB,R x y):Mg R W (out++[x]) RA RB:=
 Mg.as (XS:=[x]) h hs fun z hz y hy=>by rw[List.mem_singleton.mp hz];exact hx y hy
theorem Mg.fin (h:Mg R W out RA [])(hs:RA.Pairwise R):(out++RA).Perm W∧(out++RA).Pairwise R:=by
 refine⟨by have:=h.perm;rwa [List.append_nil] at this,?_⟩;rw[List.pairwise_append];exact⟨h.up,hs,fun x h1 y h2=>h.le x h1 y (List.mem_append_left _ h2)⟩
end
variable{i:Nat}{x:Keyed}
theorem drop_at {a:Array Keyed}(h:a[i]?=some x):a.toList.drop i=x::a.toList.drop (i+1):=by
 rw[←Array.getElem?_toList] at h;obtain⟨hi,e⟩:=List.getElem?_eq_some_iff.mp h;rw[List.drop_eq_getElem_cons hi,e]
theorem at_of {a:Array Keyed}(h:i<a.size):∃x,a[i]?=some x∧x∈a.toList:=⟨a[i],getElem?_pos _ i h,by simp⟩
theorem mem_drop {a:Array Keyed}(h:x∈a.toList.drop i):∃j,a[i+j]?=some x:=by
 obtain⟨j,hj,e⟩:=List.getElem_of_mem h;refine⟨j,?_⟩;rw[←Array.getElem?_toList,←e,←List.getElem?_drop,List.getElem?_eq_getElem hj]
theorem mem_take {a:Array Keyed}{k:Nat}(h:x∈(a.toList.drop i).take k):∃j,j<k∧a[i+j]?=some x:=by
 obtain⟨j,hj,e⟩:=List.getElem_of_mem h;rw[List.length_take] at hj;refine⟨j,by omega,?_⟩;rw[←Array.getElem?_toList,←e,←List.getElem?_drop,List.getElem_take,List.getElem?_eq_getElem]
def leK (key:Keyed→Int)(x y:Keyed):Prop:=key x≤key y
variable{k:Keyed}
section
variable {key:Keyed→Int}{G:Keyed→Prop}
theorem up_at {a:Array Keyed}(h:a.toList.Pairwise (leK key)){j:Nat}{y:Keyed}(hij:i≤j)(hx:a[i]?=some x)(hy:a[j]?=some y):key x≤key y:=by
 rw[←Array.getElem?_toList] at hx hy;obtain⟨hi,ex⟩:=List.getElem?_eq_some_iff.mp hx;obtain⟨hj,ey⟩:=List.getElem?_eq_some_iff.mp hy
 by_cases e:i=j
 ·subst e;rw[←ex,←ey];exact Int.le_refl _
 ·rw[←ex,←ey];exact(List.pairwise_iff_getElem.mp h) i j hi hj (by omega)
def seekB (key:Keyed→Int)(l:Bool)(k:Keyed)(a:Array Keyed)(b i:Nat):Bool:=match a[b+i]? with
 | some x=>bey key l k x
 | none=>false
theorem seek_of {a:Array Keyed}{l:Bool}{b n:Nat}(hG:∀i x,b≤i→i<b+n→a[i]?=some x→G x)(hU:∀i j x y,b≤i→i≤j→j<b+n→a[i]?=some x→a[j]?=some y→key x≤key y)(hn:b+n≤a.size):Seek key G l k a b n (seekB key l k a b):=by
 refine⟨fun i hi=>?_,fun i j hij hj h=>?_⟩
 ·obtain⟨x,e,_⟩:=at_of (a:=a) (i:=b+i) (by omega);exact⟨x,e,hG _ x (by omega) (by omega) e,by unfold seekB;rw[e]⟩
 ·obtain⟨x,e,_⟩:=at_of (a:=a) (i:=b+i) (by omega);obtain⟨y,e2,_⟩:=at_of (a:=a) (i:=b+j) (by omega);have le:=hU (b+i) (b+j) x y (by omega) (by omega) (by omega) e e2;unfold seekB at h ⊢;rw[e2] at h;rw[e];dsimp only at h ⊢;unfold bey at h ⊢;cases l with
  | true=>
   rw[if_pos rfl] at h ⊢;have:=of_decide_eq_true h;exact decide_eq_true (by omega)
  | false=>
   rw[if_neg Bool.false_ne_true] at h ⊢;rw[Bool.not_eq_true',decide_eq_false_iff_not] at h ⊢;omega
theorem found_r {a:Array Keyed}{b n m:Nat}(h:Found n (seekB key false k a b) m):(∀i x,i<m→a[b+i]?=some x→key x≤key k)∧∀i x,m≤i→i<n→a[b+i]?=some x→key k<key x:=by
 refine⟨fun i x hi e=>?_,fun i x h1 h2 e=>?_⟩
 ·have:=h.2.1 i hi;unfold seekB at this;rw[e] at this;dsimp only at this;unfold bey at this;rw[if_neg Bool.false_ne_true,Bool.not_eq_true',decide_eq_false_iff_not] at this;omega
 ·have:=h.2.2 i h1 h2;unfold seekB at this;rw[e] at this;dsimp only at this;unfold bey at this;rw[if_neg Bool.false_ne_true,Bool.not_eq_false',decide_eq_true_eq] at this;exact this
theorem found_l {a:Array Keyed}{b n m:Nat}(h:Found n (seekB key true k a b) m):(∀i x,i<m→a[b+i]?=some x→key x<key k)∧∀i x,m≤i→i<n→a[b+i]?=some x→key k≤key x:=by
 refine⟨fun i x hi e=>?_,fun i x h1 h2 e=>?_⟩
 ·have:=h.2.1 i hi;unfold seekB at this;rw[e] at this;dsimp only at this;unfold bey at this;rw[if_pos rfl,decide_eq_true_eq] at this;exact this
 ·have:=h.2.2 i h1 h2;unfold seekB at this;rw[e] at this;dsimp only at this;unfold bey at this;rw[if_pos rfl,decide_eq_false_iff_not] at this;omega
end
structure Sm (st st':SortSt):Prop where
 kind:kindOf st'=kindOf st
 arr:arrOf st'=arrOf st
 pend:pendingOf st'=pendingOf st
 fail:failedOf st'=failedOf st
theorem Sm.refl (st:SortSt):Sm st st:=⟨rfl,rfl,rfl,rfl⟩
def mergeLo':Array Keyed→Array Keyed→StateT SortSt Sem (Array Keyed):=sortPriv% PySem.Builtin.mergeLo
def mergeHi':Array Keyed→Array Keyed→StateT SortSt Sem (Array Keyed):=sortPriv% PySem.Builtin.mergeHi
structure Two (key:Keyed→Int)(G:Keyed→Prop)(a b:Array Keyed):Prop where
 ua:a.toList.Pairwise (leK key)
 ub:b.toList.Pairwise (leK key)
 ga:∀x∈a.toList,G x
 gb:∀x∈b.toList,G x
 na:1≤a.size
 nb:1≤b.size
 first:∀y,b[0]?=some y→∀x∈a.toList,key y≤key x
 last:∀x,a[a.size-1]?=some x→∀y∈b.toList,key y≤key x
def Good (key:Keyed→Int)(a b:Array Keyed)(r:Array Keyed):Prop:=r.toList.Perm (a.toList++b.toList)∧r.toList.Pairwise (leK key)
section
variable {key:Keyed→Int}{G:Keyed→Prop}{a b out:Array Keyed}{ia ib:Nat}
theorem ext_l (a:Array Keyed)(i:Nat):(a.extract i a.size).toList=a.toList.drop i:=by
 rw[Array.toList_extract,List.extract_eq_drop_take,List.take_of_length_le];rw[List.length_drop,Array.length_toList];exact Nat.le_refl _
theorem ext_m (a:Array Keyed)(i k:Nat):(a.extract i (i+k)).toList=(a.toList.drop i).take k:=by
 simp[Array.toList_extract,List.extract_eq_drop_take]
def LI (key:Keyed→Int)(a b out:Array Keyed)(ia ib:Nat):Prop:=Mg (leK key) (a.toList++b.toList) out.toList (a.toList.drop ia) (b.toList.drop ib)∧out.size=ia+ib
theorem LI.pb (T:Two key G a b)(h:LI key a b out ia ib){y:Keyed}(hy:b[ib]?=some y)(hle:∀x∈a.toList.drop ia,key y≤key x):LI key a b (out.push y) ia (ib+1):=by
 refine⟨?_,by rw[Array.size_push,h.2];omega⟩;have m:=h.1;rw[drop_at hy] at m;rw[Array.toList_push];exact(Mg.a m.swap (by rw[←drop_at hy];exact T.ub.drop) hle).swap
theorem LI.pa (T:Two key G a b)(h:LI key a b out ia ib)(hx:a[ia]?=some x)(hle:∀y∈b.toList.drop ib,key x≤key y):LI key a b (out.push x) (ia+1) ib:=by
 refine⟨?_,by rw[Array.size_push,h.2];omega⟩;have m:=h.1;rw[drop_at hx] at m;rw[Array.toList_push];exact Mg.a m (by rw[←drop_at hx];exact T.ua.drop) hle
theorem LI.as (T:Two key G a b)(h:LI key a b out ia ib){k:Nat}(hk:ia+k≤a.size)(hle:∀x∈(a.toList.drop ia).take k,∀y∈b.toList.drop ib,key x≤key y):LI key a b (out++a.extract ia (ia+k)) (ia+k) ib:=by
 refine⟨?_,by rw[Array.size_append,h.2,Array.size_extract];omega⟩;have m:=h.1;have e:a.toList.drop ia=(a.toList.drop ia).take k++a.toList.drop (ia+k):=by rw[←List.drop_drop,List.take_append_drop]
 rw[e] at m;rw[Array.toList_append,ext_m];exact Mg.as m (by rw[←e];exact T.ua.drop) hle
theorem LI.bs (T:Two key G a b)(h:LI key a b out ia ib){k:Nat}(hk:ib+k≤b.size)(hle:∀y∈(b.toList.drop ib).take k,∀x∈a.toList.drop ia,key y≤key x):LI key a b (out++b.extract ib (ib+k)) ia (ib+k):=by
 refine⟨?_,by rw[Array.size_append,h.2,Array.size_extract];omega⟩;have m:=h.1;have e:b.toList.drop ib=(b.toList.drop ib).take k++b.toList.drop (ib+k):=by rw[←List.drop_drop,List.take_append_drop]
 rw[e] at m;rw[Array.toList_append,ext_m];exact(Mg.as m.swap (by rw[←e];exact T.ub.drop) hle).swap
theorem LI.doneB (T:Two key G a b)(h:LI key a b out ia ib)(hb:ib=b.size):Good key a b (out++a.extract ia a.size++b.extract ib b.size):=by
 have m:=h.1;have e:b.toList.drop ib=[]:=List.drop_of_length_le (by rw[Array.length_toList];omega);rw[e] at m;have f:=m.fin T.ua.drop;unfold Good;rw[Array.toList_append,Array.toList_append,ext_l,ext_l,e,List.append_nil];exact f
theorem LI.doneA (T:Two key G a b)(h:LI key a b out ia ib)(hb:ia=a.size):Good key a b (out++a.extract ia a.size++b.extract ib b.size):=by
 have m:=h.1;have e:a.toList.drop ia=[]:=List.drop_of_length_le (by rw[Array.length_toList];omega);rw[e] at m;have f:=m.swap.fin T.ub.drop;unfold Good;rw[Array.toList_append,Array.toList_append,ext_l,ext_l,e,List.append_nil];exact f
theorem LI.last (T:Two key G a b)(h:LI key a b out ia ib)(hb:ia+1=a.size):Good key a b (out++b.extract ib b.size++a.extract ia a.size):=by
 obtain⟨x,e,_⟩:=at_of (a:=a) (i:=ia) (by omega);have hl:=T.last x (by rw[←hb];exact e);have m:=h.1.swap;have e1:a.toList.drop ia=[x]:=by
  rw[drop_at e,List.drop_of_length_le (by rw[Array.length_toList];omega)]
 have u:(b.toList.drop ib++[]).Pairwise (leK key):=by rw[List.append_nil];exact T.ub.drop
 have m2:=Mg.as (XS:=b.toList.drop ib) (RA:=[]) (RB:=a.toList.drop ia) (by rw[List.append_nil];exact m) u fun z hz y hy=>by
  rw[e1] at hy;rw[List.mem_singleton.mp hy];exact hl z (List.mem_of_mem_drop hz)
 have f:=m2.swap.fin T.ua.drop;unfold Good;rw[Array.toList_append,Array.toList_append,ext_l,ext_l];exact f
end
end TS
namespace TS
open PySem PyProof.Rows PySem.W
section
variable {prog:Program}{w:World}{A:Around}{E:Value→Shared→Prop}{s:Shared}{κ:SortKind}{G:Keyed→Prop}{key:Keyed→Int}
def setMG':Nat→StateT SortSt Sem Unit:=sortPriv% PySem.Builtin.setMinGallop
theorem wpS_mg {g:Nat}{st:SortSt}{Q:Unit→SortSt→Prop}(h:∀st',Sm st st'→Q () st'):wpS (model prog w) A E s (setMG' g) Q st:=by
 refine wpS_modify (h _ ⟨rfl,rfl,rfl,rfl⟩)
theorem Sm.trans {a b c:SortSt}(h1:Sm a b)(h2:Sm b c):Sm a c:=⟨h2.kind.trans h1.kind,h2.arr.trans h1.arr,h2.pend.trans h1.pend,h2.fail.trans h1.fail⟩
theorem wpS_ite {α:Type}{c:Prop}[Decidable c]{x y:StateT SortSt Sem α}{Q:α→SortSt→Prop}{st:SortSt}(h1:c→wpS (model prog w) A E s x Q st)(h2:¬c→wpS (model prog w) A E s y Q st):wpS (model prog w) A E s (if c then x else y) Q st:=by
 by_cases h:c
 ·rw[if_pos h];exact h1 h
 ·rw[if_neg h];exact h2 h
theorem seek_in {a:Array Keyed}(hu:a.toList.Pairwise (leK key))(hg:∀x∈a.toList,G x){l:Bool}{k:Keyed}{b n:Nat}(h:b+n≤a.size):Seek key G l k a b n (seekB key l k a b):=
 seek_of (fun i x _ _ e=>hg x (by rw[←Array.getElem?_toList] at e;exact List.mem_of_getElem? e)) (fun i j x y _ hij _ ex ey=>up_at hu hij ex ey) h
theorem mergeLo_ok (hL:LtOk prog w A s κ G key){a b:Array Keyed}(T:Two key G a b){st:SortSt}(hst:kindOf st=κ){Q:Array Keyed→SortSt→Prop}(h:∀r st',Good key a b r→Sm st st'→Q r st') :
  wpS (model prog w) A E s (mergeLo' a b) Q st:=by
 refine wpS_bind (wpS_lift (wpAny_rule ⟨rfl,?_⟩))
 try dsimp only
 obtain⟨y0,e0,_⟩:=at_of (a:=b) (i:=0) (by have:=T.nb;omega);refine wpS_bind (wpS_elem e0 ?_);have l0:LI key a b #[y0] 0 1:=LI.pb (out:=#[]) T ⟨⟨by simp,List.Pairwise.nil,fun x hx=>by cases hx⟩,rfl⟩ e0 (T.first y0 e0);have ta:=T.na;have tb:=T.nb
 by_cases c1:(1==b.size)=true
 ·rw[if_pos c1];exact wpS_pure (h _ st (l0.doneB T (eq_of_beq c1)) (Sm.refl _))
 rw[if_neg c1]
 by_cases c2:(0+1==a.size)=true
 ·rw[if_pos c2];exact wpS_pure (h _ st (l0.last T (eq_of_beq c2)) (Sm.refl _))
 rw[if_neg c2];have c1:1≠b.size:=fun z=>c1 (beq_iff_eq.mpr z)
 have c2:0+1≠a.size:=fun z=>c2 (beq_iff_eq.mpr z)
 refine wpS_bind (wpS_get ?_)
 try dsimp only
 refine wpS_bind (wpS_mono (wpS_forRange
  (I:=fun x c st'=>∃out ia ib mg,c=(none,out,ia,ib,mg)∧LI key a b out ia ib∧ia+1<a.size∧ib<b.size∧x+1≤out.size∧Sm st st')
  (Q:=fun c st'=>∃r,c.1=some r∧Good key a b r∧Sm st st') ?step ?fin ⟨#[y0],0,1,_,rfl,l0,by omega,by omega,Nat.le_refl _,Sm.refl _⟩) ?post)
 case fin=>
  rintro c st' ⟨out,ia,ib,mg,rfl,l,h1,h2,h3,sm⟩;have:=l.2;omega
 case post=>
  rintro ⟨r',rest⟩ st' ⟨r,e,g,sm⟩;have e:r'=some r:=e;subst e;exact wpS_pure (h r st' g sm)
 case step=>
  rintro x c st1 _ hx ⟨out,ia,ib,mg,rfl,l,h1,h2,h3,sm⟩
  try dsimp only
  refine wpS_bind (wpS_mono (wpS_forRange
   (I:=fun x2 c st'=>∃out' ia' ib' ac bc,c=(none,out',ia',ib',ac,bc)∧LI key a b out' ia' ib'∧ia'+1<a.size∧ib'<b.size∧out.size+x2≤out'.size∧st'=st1)
   (Q:=fun c st'=>st'=st1∧((∃r,c.1=some r∧Good key a b r)∨∃out' ia' ib' ac bc,c=(none,out',ia',ib',ac,bc)∧LI key a b out' ia' ib'∧ia'+1<a.size∧ib'<b.size∧out.size+1≤out'.size)) ?step2 ?fin2 ⟨out,ia,ib,0,0,rfl,l,h1,h2,Nat.le_refl _,rfl⟩) ?post2)
  case fin2=>
   rintro c st' ⟨out',ia',ib',ac,bc,rfl,l',g1,g2,g3,rfl⟩;exact⟨rfl,.inr ⟨out',ia',ib',ac,bc,rfl,l',g1,g2,by omega⟩⟩
  case step2=>
   rintro x2 c st' _ hx2 ⟨out',ia',ib',ac,bc,rfl,l',g1,g2,g3,rfl⟩
   try dsimp only
   obtain⟨y,ey,my⟩:=at_of (a:=b) (i:=ib') g2;obtain⟨z,ez,mz⟩:=at_of (a:=a) (i:=ia') (by omega);refine wpS_bind (wpS_elem ey (wpS_bind (wpS_elem ez (wpS_bind (wpS_lt hL (T.gb y my) (T.ga z mz) (sm.kind.trans hst) ?_)))))
   try dsimp only
   by_cases hc:key y<key z
   ·rw[decide_eq_true hc,if_pos rfl];refine wpS_bind (wpS_elem ey ?_)
    try dsimp only
    have l2:=l'.pb T ey fun u hu=>by
     obtain⟨j,ej⟩:=mem_drop hu;have:=up_at T.ua (Nat.le_add_right ia' j) ez ej;omega
    by_cases k1:(ib'+1==b.size)=true
    ·rw[if_pos k1];exact wpS_pure ⟨rfl,.inl ⟨_,rfl,l2.doneB T (eq_of_beq k1)⟩⟩
    rw[if_neg k1];have k1:ib'+1≠b.size:=fun z=>k1 (beq_iff_eq.mpr z)
    by_cases k2:bc+1≥mg
    ·rw[if_pos k2];exact wpS_pure ⟨rfl,.inr ⟨_,_,_,_,_,rfl,l2,g1,by omega,by rw[Array.size_push];omega⟩⟩
    ·rw[if_neg k2];exact wpS_pure ⟨_,_,_,_,_,rfl,l2,g1,by omega,by rw[Array.size_push];omega,rfl⟩
   ·rw[decide_eq_false hc,if_neg Bool.false_ne_true];refine wpS_bind (wpS_elem ez ?_)
    try dsimp only
    have l2:=l'.pa T ez fun u hu=>by
     obtain⟨j,ej⟩:=mem_drop hu;have:=up_at T.ub (Nat.le_add_right ib' j) ey ej;omega
    by_cases k1:(ia'+1+1==a.size)=true
    ·rw[if_pos k1];exact wpS_pure ⟨rfl,.inl ⟨_,rfl,l2.last T (eq_of_beq k1)⟩⟩
    rw[if_neg k1];have k1:ia'+1+1≠a.size:=fun z=>k1 (beq_iff_eq.mpr z)
    by_cases k2:ac+1≥mg
    ·rw[if_pos k2];exact wpS_pure ⟨rfl,.inr ⟨_,_,_,_,_,rfl,l2,by omega,g2,by rw[Array.size_push];omega⟩⟩
    ·rw[if_neg k2];exact wpS_pure ⟨_,_,_,_,_,rfl,l2,by omega,g2,by rw[Array.size_push];omega,rfl⟩
  case post2=>
   rintro c st' ⟨rfl,⟨r,e,g⟩|⟨out',ia',ib',ac,bc,rfl,l',g1,g2,g3⟩⟩
   ·obtain⟨r',rest⟩:=c;have e:r'=some r:=e;subst e;exact wpS_pure ⟨r,rfl,g,sm⟩
   ·dsimp only;refine wpS_bind (wpS_lift (wpAny_rule ⟨rfl,?_⟩))
    try dsimp only
    refine wpS_bind (wpS_mono (wpS_forRange
     (I:=fun x3 c st3=>∃out2 ia2 ib2 mg2 ac2 bc2,c=(none,out2,ia2,ib2,mg2,ac2,bc2)∧LI key a b out2 ia2 ib2∧ia2+1<a.size∧ib2<b.size∧out.size+1≤out2.size∧Sm st st3)
     (Q:=fun c st3=>Sm st st3∧((∃r,c.1=some r∧Good key a b r)∨∃out2 ia2 ib2 mg2 ac2 bc2,c=(none,out2,ia2,ib2,mg2,ac2,bc2)∧LI key a b out2 ia2 ib2∧ia2+1<a.size∧ib2<b.size∧out.size+1≤out2.size)) ?step3 ?fin3 ⟨out',ia',ib',_,ac,bc,rfl,l',g1,g2,g3,sm⟩) ?post3)
    case fin3=>
     rintro c st3 ⟨out2,ia2,ib2,mg2,ac2,bc2,rfl,l2,p1,p2,p3,sm3⟩;exact⟨sm3,.inr ⟨out2,ia2,ib2,mg2,ac2,bc2,rfl,l2,p1,p2,p3⟩⟩
    case post3=>
     rintro c st3 ⟨sm3,⟨r,e,g⟩|⟨out2,ia2,ib2,mg2,ac2,bc2,rfl,l2,p1,p2,p3⟩⟩
     ·obtain⟨r',rest⟩:=c;have e:r'=some r:=e;subst e;exact wpS_pure ⟨r,rfl,g,sm3⟩
     ·try dsimp only
      refine wpS_bind (wpS_mg fun st4 sm4=>wpS_pure ⟨out2,ia2,ib2,_,rfl,l2,p1,p2,by omega,sm3.trans sm4⟩)
    case step3=>
     rintro x3 c st3 _ hx3 ⟨out2,ia2,ib2,mg2,ac2,bc2,rfl,l2,p1,p2,p3,sm3⟩
     try dsimp only
     obtain⟨y,ey,my⟩:=at_of (a:=b) (i:=ib2) p2;refine wpS_ite (fun _=>?_) (fun _=>?_)
     all_goals
      refine wpS_bind (wpS_mg fun st4 sm4=>?_);have sm5:Sm st st4:=sm3.trans sm4;have k4:kindOf st4=κ:=sm5.kind.trans hst;refine wpS_bind (wpS_elem ey (wpS_bind (gallop_ok hL (T.gb y my) (seek_in T.ua T.ga (by omega)) (by omega) k4 fun k fk=>?_)))
      try dsimp only
      obtain⟨f1,f2⟩:=found_r fk;have kle:=fk.1;have hy:∀x∈a.toList.drop (ia2+k),key y≤key x:=fun x hx=>by
       obtain⟨j,ej⟩:=mem_drop hx;have hj:ia2+k+j<a.size:=by rw[←Array.getElem?_toList] at ej;have:=(List.getElem?_eq_some_iff.mp ej).1;rwa [Array.length_toList] at this
       have:=f2 (k+j) x (by omega) (by omega) (by rw[←Nat.add_assoc];exact ej);omega
      apply wpS_ite
      case' h1=>
       intro hk;have l3:=l2.as T (k:=k) (by omega) fun x hx z hz=>by
        obtain⟨j,hj,ej⟩:=mem_take hx;obtain⟨i,ei⟩:=mem_drop hz;have h1:=f1 j x hj ej;have h2:=up_at T.ub (Nat.le_add_right ib2 i) ey ei;omega
       have s3:out2.size≤(out2++a.extract ia2 (ia2+k)).size:=by rw[Array.size_append];omega
       generalize out2++a.extract ia2 (ia2+k)=out3 at *
       by_cases r1:(ia2+k+1==a.size)=true
       ·rw[if_pos r1];exact wpS_pure ⟨sm5,.inl ⟨_,rfl,l3.last T (eq_of_beq r1)⟩⟩
       rw[if_neg r1]
       by_cases r2:(ia2+k==a.size)=true
       ·rw[if_pos r2];exact wpS_pure ⟨sm5,.inl ⟨_,rfl,l3.doneA T (eq_of_beq r2)⟩⟩
       rw[if_neg r2];have r1:ia2+k+1≠a.size:=fun z=>r1 (beq_iff_eq.mpr z)
       have r2:ia2+k≠a.size:=fun z=>r2 (beq_iff_eq.mpr z)
       have q1:ia2+k+1<a.size:=by omega
       generalize ia2+k=ia3 at *
      case' h2=>
       intro hk;have l3:=l2;have q1:=p1;have s3:out2.size≤out2.size:=Nat.le_refl _;rw[show ia2+k=ia2 by omega] at hy;generalize ia2=ia3 at *;generalize out2=out3 at *
      all_goals
       refine wpS_bind (wpS_elem ey ?_)
       try dsimp only
       have l4:=l3.pb T ey hy
       by_cases r3:(ib2+1==b.size)=true
       ·rw[if_pos r3];exact wpS_pure ⟨sm5,.inl ⟨_,rfl,l4.doneB T (eq_of_beq r3)⟩⟩
       rw[if_neg r3];have r3:ib2+1≠b.size:=fun z=>r3 (beq_iff_eq.mpr z)
       obtain⟨z,ez,mz⟩:=at_of (a:=a) (i:=ia3) (by omega);refine wpS_bind (wpS_elem ez (wpS_bind (gallop_ok hL (T.ga z mz) (seek_in T.ub T.gb (by omega)) (by omega) k4 fun k' fk'=>?_)))
       try dsimp only
       obtain⟨f3,f4⟩:=found_l fk';have kle':=fk'.1;have hz:∀x∈b.toList.drop (ib2+1+k'),key z≤key x:=fun x hx=>by
        obtain⟨j,ej⟩:=mem_drop hx;have hj:ib2+1+k'+j<b.size:=by rw[←Array.getElem?_toList] at ej;have:=(List.getElem?_eq_some_iff.mp ej).1;rwa [Array.length_toList] at this
        exact f4 (k'+j) x (by omega) (by omega) (by rw[←Nat.add_assoc];exact ej)
       apply wpS_ite
       case' h1=>
        intro hk';have l5:=l4.bs T (k:=k') (by omega) fun x hx u hu=>by
         obtain⟨j,hj,ej⟩:=mem_take hx;obtain⟨i,ei⟩:=mem_drop hu;have h1:=f3 j x hj ej;have h2:=up_at T.ua (Nat.le_add_right ia3 i) ez ei;omega
        have s5:out3.size≤(out3.push y++b.extract (ib2+1) (ib2+1+k')).size:=by rw[Array.size_append,Array.size_push];omega
        generalize out3.push y++b.extract (ib2+1) (ib2+1+k')=out5 at *
        by_cases r4:(ib2+1+k'==b.size)=true
        ·rw[if_pos r4];exact wpS_pure ⟨sm5,.inl ⟨_,rfl,l5.doneB T (eq_of_beq r4)⟩⟩
        rw[if_neg r4];have r4:ib2+1+k'≠b.size:=fun z=>r4 (beq_iff_eq.mpr z)
        have q2:ib2+1+k'<b.size:=by omega
        generalize ib2+1+k'=ib5 at *
       case' h2=>
        intro hk';have l5:=l4;have q2:ib2+1<b.size:=by omega
        have s5:out3.size≤(out3.push y).size:=by rw[Array.size_push];omega
        rw[show ib2+1+k'=ib2+1 by omega] at hz;generalize out3.push y=out5 at *;generalize ib2+1=ib5 at *
       all_goals
        refine wpS_bind (wpS_elem ez ?_)
        try dsimp only
        have l6:=l5.pa T ez hz
        by_cases r5:(ia3+1+1==a.size)=true
        ·rw[if_pos r5];exact wpS_pure ⟨sm5,.inl ⟨_,rfl,l6.last T (eq_of_beq r5)⟩⟩
        rw[if_neg r5];have r5:ia3+1+1≠a.size:=fun z=>r5 (beq_iff_eq.mpr z)
        refine wpS_ite (fun _=>?_) (fun _=>?_)
        ·exact wpS_pure ⟨sm5,.inr ⟨_,_,_,_,_,_,rfl,l6,by omega,q2,by rw[Array.size_push];omega⟩⟩
        ·exact wpS_pure ⟨_,_,_,_,_,_,rfl,l6,by omega,q2,by rw[Array.size_push];omega,sm5⟩
end
end TS
namespace TS
open PySem PyProof.Rows PySem.W
def geK (key:Keyed→Int)(x y:Keyed):Prop:=key y≤key x
variable{a:Array Keyed}{x:Keyed}
theorem take_at {n:Nat}(h1:1≤n)(h:a[n-1]?=some x):(a.toList.take n).reverse=x::(a.toList.take (n-1)).reverse:=by
 rw[←Array.getElem?_toList] at h;have e:a.toList.take n=a.toList.take (n-1)++[x]:=by
  rw[show n=n-1+1 by omega,List.take_add_one,h];simp
 rw[e,List.reverse_append];rfl
theorem mem_first {n:Nat}(h:x∈a.toList.take n):∃j,j<n∧a[j]?=some x:=by
 obtain⟨j,h1,h2⟩:=mem_take (a:=a) (i:=0) (k:=n) (by rw[List.drop_zero];exact h);rw[Nat.zero_add] at h2;exact⟨j,h1,h2⟩
variable{l:List Keyed}
section
variable {key:Keyed→Int}{G:Keyed→Prop}{a b out:Array Keyed}{na nb:Nat}
theorem down_of (h:l.Pairwise (leK key)):l.reverse.Pairwise (geK key):=List.pairwise_reverse.mpr h
def HI (key:Keyed→Int)(a b out:Array Keyed)(na nb:Nat):Prop:=Mg (geK key) (a.toList++b.toList) out.toList (a.toList.take na).reverse (b.toList.take nb).reverse∧out.size+na+nb=a.size+b.size
theorem HI.pa (T:Two key G a b)(h:HI key a b out na nb)(h1:1≤na)(hx:a[na-1]?=some x)(hle:∀y∈b.toList.take nb,key y≤key x):HI key a b (out.push x) (na-1) nb:=by
 refine⟨?_,by rw[Array.size_push];have:=h.2;omega⟩;have m:=h.1;rw[take_at h1 hx] at m;rw[Array.toList_push];exact Mg.a m (by rw[←take_at h1 hx];exact down_of T.ua.take) fun y hy=>hle y (List.mem_reverse.mp hy)
theorem HI.pb (T:Two key G a b)(h:HI key a b out na nb){y:Keyed}(h1:1≤nb)(hy:b[nb-1]?=some y)(hle:∀x∈a.toList.take na,key x≤key y):HI key a b (out.push y) na (nb-1):=by
 refine⟨?_,by rw[Array.size_push];have:=h.2;omega⟩;have m:=h.1;rw[take_at h1 hy] at m;rw[Array.toList_push];exact(Mg.a m.swap (by rw[←take_at h1 hy];exact down_of T.ub.take) fun y hy=>hle y (List.mem_reverse.mp hy)).swap
theorem take_two (a:Array Keyed){m n:Nat}(h:m≤n):(a.toList.take n).reverse=((a.toList.drop m).take (n-m)).reverse++(a.toList.take m).reverse:=by
 rw[←List.reverse_append];congr 1;have:n=m+(n-m):=by omega
 conv=>lhs;rw[this,List.take_add]
theorem ext_r (a:Array Keyed)(m n:Nat):(a.extract m n).reverse.toList=((a.toList.drop m).take (n-m)).reverse:=by
 rw[Array.toList_reverse,Array.toList_extract,List.extract_eq_drop_take]
theorem HI.as (T:Two key G a b)(h:HI key a b out na nb){m:Nat}(hm:m≤na)(hn:na≤a.size)(hle:∀x∈(a.toList.drop m).take (na-m),∀y∈b.toList.take nb,key y≤key x):HI key a b (out++(a.extract m na).reverse) m nb:=by
 refine⟨?_,by rw[Array.size_append,Array.size_reverse,Array.size_extract];have:=h.2;omega⟩;have t:=h.1;rw[take_two a hm] at t;rw[Array.toList_append,ext_r];exact Mg.as t (by rw[←take_two a hm];exact down_of T.ua.take) fun x hx y hy=>hle x (List.mem_reverse.mp hx) y (List.mem_reverse.mp hy)
theorem HI.bs (T:Two key G a b)(h:HI key a b out na nb){m:Nat}(hm:m≤nb)(hn:nb≤b.size)(hle:∀y∈(b.toList.drop m).take (nb-m),∀x∈a.toList.take na,key x≤key y):HI key a b (out++(b.extract m nb).reverse) na m:=by
 refine⟨?_,by rw[Array.size_append,Array.size_reverse,Array.size_extract];have:=h.2;omega⟩;have t:=h.1;rw[take_two b hm] at t;rw[Array.toList_append,ext_r];exact(Mg.as t.swap (by rw[←take_two b hm];exact down_of T.ub.take) fun x hx y hy=>hle x (List.mem_reverse.mp hx) y (List.mem_reverse.mp hy)).swap
theorem ext_f (a:Array Keyed)(n:Nat):(a.extract 0 n).toList=a.toList.take n:=by
 rw[Array.toList_extract,List.extract_eq_drop_take,List.drop_zero,Nat.sub_zero]
theorem good_rev (h:l.Perm (a.toList++b.toList)∧l.Pairwise (geK key)){r:Array Keyed}(e:r.toList=l.reverse):Good key a b r:=by
 unfold Good;rw[e];exact⟨(List.reverse_perm l).trans h.1,List.pairwise_reverse.mpr h.2⟩
theorem HI.doneA (T:Two key G a b)(h:HI key a b out na nb)(h0:na=0):Good key a b (a.extract 0 na++b.extract 0 nb++out.reverse):=by
 subst h0;have m:=h.1;rw[List.take_zero,List.reverse_nil] at m;refine good_rev (m.swap.fin (down_of T.ub.take)) ?_;rw[Array.toList_append,Array.toList_append,ext_f,ext_f,Array.toList_reverse,List.reverse_append,List.reverse_reverse];rfl
theorem HI.doneB (T:Two key G a b)(h:HI key a b out na nb)(h0:nb=0):Good key a b (a.extract 0 na++b.extract 0 nb++out.reverse):=by
 subst h0;have m:=h.1;rw[List.take_zero,List.reverse_nil] at m;refine good_rev (m.fin (down_of T.ua.take)) ?_;rw[Array.toList_append,Array.toList_append,ext_f,ext_f,Array.toList_reverse,List.reverse_append,List.reverse_reverse,List.take_zero,List.append_nil]
theorem HI.first (T:Two key G a b)(h:HI key a b out na nb)(h0:nb=1):Good key a b (b.extract 0 nb++a.extract 0 na++out.reverse):=by
 subst h0;obtain⟨y,e,_⟩:=at_of (a:=b) (i:=0) (by have:=T.nb;omega);have hl:=T.first y e;have e1:(b.toList.take 1).reverse=[y]:=by
  rw[take_at (Nat.le_refl 1) (by exact e)];simp
 have u:((a.toList.take na).reverse++[]).Pairwise (geK key):=by rw[List.append_nil];exact down_of T.ua.take
 have m2:=Mg.as (XS:=(a.toList.take na).reverse) (RA:=[]) (RB:=(b.toList.take 1).reverse) (by rw[List.append_nil];exact h.1) u fun z hz x hx=>by
  rw[e1] at hx;rw[List.mem_singleton.mp hx];exact hl z (List.mem_of_mem_take (List.mem_reverse.mp hz))
 refine good_rev (m2.swap.fin (down_of T.ub.take)) ?_;rw[Array.toList_append,Array.toList_append,ext_f,ext_f,Array.toList_reverse,List.reverse_append,List.reverse_append,List.reverse_reverse,List.reverse_reverse,List.append_assoc]
end
section
variable {prog:Program}{w:World}{A:Around}{E:Value→Shared→Prop}{s:Shared}{κ:SortKind}{G:Keyed→Prop}{key:Keyed→Int}
theorem mergeHi_ok (hL:LtOk prog w A s κ G key){b:Array Keyed}(T:Two key G a b){st:SortSt}(hst:kindOf st=κ){Q:Array Keyed→SortSt→Prop}(h:∀r st',Good key a b r→Sm st st'→Q r st') :
  wpS (model prog w) A E s (mergeHi' a b) Q st:=by
 refine wpS_bind (wpS_lift (wpAny_rule ⟨rfl,?_⟩))
 try dsimp only
 have ta:=T.na;have tb:=T.nb;obtain⟨x0,e0,m0⟩:=at_of (a:=a) (i:=a.size-1) (by omega);refine wpS_bind (wpS_elem e0 ?_);have l0:HI key a b #[x0] (a.size-1) b.size:=HI.pa (out:=#[]) T (na:=a.size) ⟨⟨by
  rw[List.take_of_length_le (by rw[Array.length_toList];exact Nat.le_refl _),List.take_of_length_le (by rw[Array.length_toList];exact Nat.le_refl _)];exact(List.reverse_perm _).append (List.reverse_perm _),List.Pairwise.nil,fun x hx=>by cases hx⟩,by simp⟩ ta e0 fun y hy=>T.last x0 e0 y (List.mem_of_mem_take hy)
 by_cases c1:(a.size-1==0)=true
 ·rw[if_pos c1];exact wpS_pure (h _ st (l0.doneA T (eq_of_beq c1)) (Sm.refl _))
 rw[if_neg c1]
 by_cases c2:(b.size==1)=true
 ·rw[if_pos c2];exact wpS_pure (h _ st (l0.first T (eq_of_beq c2)) (Sm.refl _))
 rw[if_neg c2];have c1:a.size-1≠0:=fun z=>c1 (beq_iff_eq.mpr z)
 have c2:b.size≠1:=fun z=>c2 (beq_iff_eq.mpr z)
 refine wpS_bind (wpS_get ?_)
 try dsimp only
 refine wpS_bind (wpS_mono (wpS_forRange
  (I:=fun x c st'=>∃na nb out mg,c=(none,na,nb,out,mg)∧HI key a b out na nb∧1≤na∧na≤a.size∧2≤nb∧nb≤b.size∧x+1≤out.size∧Sm st st')
  (Q:=fun c st'=>∃r,c.1=some r∧Good key a b r∧Sm st st') ?step ?fin ⟨_,_,#[x0],_,rfl,l0,by omega,by omega,by omega,by omega,Nat.le_refl _,Sm.refl _⟩) ?post)
 case fin=>
  rintro c st' ⟨na,nb,out,mg,rfl,l,h1,h1',h2,h2',h3,sm⟩;have:=l.2;omega
 case post=>
  rintro ⟨r',rest⟩ st' ⟨r,e,g,sm⟩;have e:r'=some r:=e;subst e;exact wpS_pure (h r st' g sm)
 case step=>
  rintro x c st1 _ hx ⟨na,nb,out,mg,rfl,l,h1,h1',h2,h2',h3,sm⟩
  try dsimp only
  refine wpS_bind (wpS_mono (wpS_forRange
   (I:=fun x2 c st'=>∃na2 nb2 out2 ac bc,c=(none,na2,nb2,out2,ac,bc)∧HI key a b out2 na2 nb2∧1≤na2∧na2≤a.size∧2≤nb2∧nb2≤b.size∧out.size+x2≤out2.size∧st'=st1)
   (Q:=fun c st'=>st'=st1∧((∃r,c.1=some r∧Good key a b r)∨∃na2 nb2 out2 ac bc,c=(none,na2,nb2,out2,ac,bc)∧HI key a b out2 na2 nb2∧1≤na2∧na2≤a.size∧2≤nb2∧nb2≤b.size∧out.size+1≤out2.size)) ?step2 ?fin2 ⟨na,nb,out,0,0,rfl,l,h1,h1',h2,h2',Nat.le_refl _,rfl⟩) ?post2)
  case fin2=>
   rintro c st' ⟨na2,nb2,out2,ac,bc,rfl,l',g1,g1',g2,g2',g3,rfl⟩;exact⟨rfl,.inr ⟨na2,nb2,out2,ac,bc,rfl,l',g1,g1',g2,g2',by omega⟩⟩
  case step2=>
   rintro x2 c st' _ hx2 ⟨na2,nb2,out2,ac,bc,rfl,l',g1,g1',g2,g2',g3,rfl⟩
   try dsimp only
   obtain⟨y,ey,my⟩:=at_of (a:=b) (i:=nb2-1) (by omega);obtain⟨z,ez,mz⟩:=at_of (a:=a) (i:=na2-1) (by omega);refine wpS_bind (wpS_elem ey (wpS_bind (wpS_elem ez (wpS_bind (wpS_lt hL (T.gb y my) (T.ga z mz) (sm.kind.trans hst) ?_)))))
   try dsimp only
   by_cases hc:key y<key z
   ·rw[decide_eq_true hc,if_pos rfl];refine wpS_bind (wpS_elem ez ?_)
    try dsimp only
    have l2:=l'.pa T g1 ez fun u hu=>by
     obtain⟨j,hj,ej⟩:=mem_first hu;have:=up_at T.ub (show j≤nb2-1 by omega) ej ey;omega
    by_cases k1:(na2-1==0)=true
    ·rw[if_pos k1];exact wpS_pure ⟨rfl,.inl ⟨_,rfl,l2.doneA T (eq_of_beq k1)⟩⟩
    rw[if_neg k1];have k1:na2-1≠0:=fun z=>k1 (beq_iff_eq.mpr z)
    refine wpS_ite (fun _=>?_) (fun _=>?_)
    ·exact wpS_pure ⟨rfl,.inr ⟨_,_,_,_,_,rfl,l2,by omega,by omega,g2,g2',by rw[Array.size_push];omega⟩⟩
    ·exact wpS_pure ⟨_,_,_,_,_,rfl,l2,by omega,by omega,g2,g2',by rw[Array.size_push];omega,rfl⟩
   ·rw[decide_eq_false hc,if_neg Bool.false_ne_true];refine wpS_bind (wpS_elem ey ?_)
    try dsimp only
    have l2:=l'.pb T (by omega) ey fun u hu=>by
     obtain⟨j,hj,ej⟩:=mem_first hu;have:=up_at T.ua (show j≤na2-1 by omega) ej ez;omega
    by_cases k1:(nb2-1==1)=true
    ·rw[if_pos k1];exact wpS_pure ⟨rfl,.inl ⟨_,rfl,l2.first T (eq_of_beq k1)⟩⟩
    rw[if_neg k1];have k1:nb2-1≠1:=fun z=>k1 (beq_iff_eq.mpr z)
    refine wpS_ite (fun _=>?_) (fun _=>?_)
    ·exact wpS_pure ⟨rfl,.inr ⟨_,_,_,_,_,rfl,l2,g1,g1',by omega,by omega,by rw[Array.size_push];omega⟩⟩
    ·exact wpS_pure ⟨_,_,_,_,_,rfl,l2,g1,g1',by omega,by omega,by rw[Array.size_push];omega,rfl⟩
  case post2=>
   rintro c st' ⟨rfl,⟨r,e,g⟩|⟨na2,nb2,out2,ac,bc,rfl,l',g1,g1',g2,g2',g3⟩⟩
   ·obtain⟨r',rest⟩:=c;have e:r'=some r:=e;subst e;exact wpS_pure ⟨r,rfl,g,sm⟩
   ·try dsimp only
    refine wpS_bind (wpS_lift (wpAny_rule ⟨rfl,?_⟩))
    try dsimp only
    refine wpS_bind (wpS_mono (wpS_forRange
     (I:=fun x3 c st3=>∃na3 nb3 out3 mg3 ac3 bc3,c=(none,na3,nb3,out3,mg3,ac3,bc3)∧HI key a b out3 na3 nb3∧1≤na3∧na3≤a.size∧2≤nb3∧nb3≤b.size∧out.size+1≤out3.size∧Sm st st3)
     (Q:=fun c st3=>Sm st st3∧((∃r,c.1=some r∧Good key a b r)∨∃na3 nb3 out3 mg3 ac3 bc3,c=(none,na3,nb3,out3,mg3,ac3,bc3)∧HI key a b out3 na3 nb3∧1≤na3∧na3≤a.size∧2≤nb3∧nb3≤b.size∧out.size+1≤out3.size)) ?step3 ?fin3 ⟨na2,nb2,out2,_,ac,bc,rfl,l',g1,g1',g2,g2',g3,sm⟩) ?post3)
    case fin3=>
     rintro c st3 ⟨na3,nb3,out3,mg3,ac3,bc3,rfl,l2,p1,p1',p2,p2',p3,sm3⟩;exact⟨sm3,.inr ⟨na3,nb3,out3,mg3,ac3,bc3,rfl,l2,p1,p1',p2,p2',p3⟩⟩
    case post3=>
     rintro c st3 ⟨sm3,⟨r,e,g⟩|⟨na3,nb3,out3,mg3,ac3,bc3,rfl,l2,p1,p1',p2,p2',p3⟩⟩
     ·obtain⟨r',rest⟩:=c;have e:r'=some r:=e;subst e;exact wpS_pure ⟨r,rfl,g,sm3⟩
     ·try dsimp only
      refine wpS_bind (wpS_mg fun st4 sm4=>wpS_pure ⟨na3,nb3,out3,_,rfl,l2,p1,p1',p2,p2',by omega,sm3.trans sm4⟩)
    case step3=>
     rintro x3 c st3 _ hx3 ⟨na3,nb3,out3,mg3,ac3,bc3,rfl,l2,p1,p1',p2,p2',p3,sm3⟩
     try dsimp only
     obtain⟨y,ey,my⟩:=at_of (a:=b) (i:=nb3-1) (by omega);refine wpS_ite (fun _=>?_) (fun _=>?_)
     all_goals
      refine wpS_bind (wpS_mg fun st4 sm4=>?_);have sm5:Sm st st4:=sm3.trans sm4;have k4:kindOf st4=κ:=sm5.kind.trans hst;refine wpS_bind (wpS_elem ey (wpS_bind (gallop_ok hL (T.gb y my) (seek_in T.ua T.ga (by omega)) (by omega) k4 fun m fk=>?_)))
      try dsimp only
      obtain⟨f1,f2⟩:=found_r fk;have kle:=fk.1;have hy:∀x∈a.toList.take m,key x≤key y:=fun x hx=>by
       obtain⟨j,hj,ej⟩:=mem_first hx;exact f1 j x hj (by rw[Nat.zero_add];exact ej)
      apply wpS_ite
      case' h1=>
       intro hk;have l3:=l2.as T (m:=m) kle p1' fun x hx z hz=>by
        obtain⟨j,hj,ej⟩:=mem_take hx;obtain⟨i,hi,ei⟩:=mem_first hz;have h1:=f2 (m+j) x (by omega) (by omega) (by rw[Nat.zero_add];exact ej);have h2:=up_at T.ub (show i≤nb3-1 by omega) ei ey;omega
       have s3:out3.size≤(out3++(a.extract m na3).reverse).size:=by rw[Array.size_append];omega
       generalize out3++(a.extract m na3).reverse=out4 at *
       by_cases r1:(m==0)=true
       ·rw[if_pos r1];exact wpS_pure ⟨sm5,.inl ⟨_,rfl,l3.doneA T (eq_of_beq r1)⟩⟩
       rw[if_neg r1];have r1:m≠0:=fun z=>r1 (beq_iff_eq.mpr z)
       have q1:1≤m:=by omega
       have q1':m≤a.size:=by omega
       generalize hmm:m=na4 at hy l3 q1 q1' ⊢
      case' h2=>
       intro hk;have l3:=l2;have q1:=p1;have q1':=p1';have s3:out3.size≤out3.size:=Nat.le_refl _;rw[show m=na3 by omega] at hy;generalize hmm:na3=na4 at hy l3 q1 q1' ⊢;generalize out3=out4 at *
      all_goals
       refine wpS_bind (wpS_elem ey ?_)
       try dsimp only
       have l4:=l3.pb T (by omega) ey hy
       by_cases r3:(nb3-1==1)=true
       ·rw[if_pos r3];exact wpS_pure ⟨sm5,.inl ⟨_,rfl,l4.first T (eq_of_beq r3)⟩⟩
       rw[if_neg r3];have r3:nb3-1≠1:=fun z=>r3 (beq_iff_eq.mpr z)
       obtain⟨z,ez,mz⟩:=at_of (a:=a) (i:=na4-1) (by omega);refine wpS_bind (wpS_elem ez (wpS_bind (gallop_ok hL (T.ga z mz) (seek_in T.ub T.gb (by omega)) (by omega) k4 fun m' fk'=>?_)))
       try dsimp only
       obtain⟨f3,f4⟩:=found_l fk';have kle':=fk'.1;have hz:∀x∈b.toList.take m',key x≤key z:=fun x hx=>by
        obtain⟨j,hj,ej⟩:=mem_first hx;have:=f3 j x hj (by rw[Nat.zero_add];exact ej);omega
       apply wpS_ite
       case' h1=>
        intro hk';have l5:=l4.bs T (m:=m') kle' (by omega) fun x hx u hu=>by
         obtain⟨j,hj,ej⟩:=mem_take hx;obtain⟨i,hi,ei⟩:=mem_first hu;have h1:=f4 (m'+j) x (by omega) (by omega) (by rw[Nat.zero_add];exact ej);have h2:=up_at T.ua (show i≤na4-1 by omega) ei ez;omega
        have s5:out4.size≤(out4.push y++(b.extract m' (nb3-1)).reverse).size:=by rw[Array.size_append,Array.size_push];omega
        generalize out4.push y++(b.extract m' (nb3-1)).reverse=out5 at *
        by_cases r4:(m'==1)=true
        ·rw[if_pos r4];exact wpS_pure ⟨sm5,.inl ⟨_,rfl,l5.first T (eq_of_beq r4)⟩⟩
        rw[if_neg r4]
        by_cases r5:(m'==0)=true
        ·rw[if_pos r5];exact wpS_pure ⟨sm5,.inl ⟨_,rfl,l5.doneB T (eq_of_beq r5)⟩⟩
        rw[if_neg r5];have r4:m'≠1:=fun z=>r4 (beq_iff_eq.mpr z)
        have r5:m'≠0:=fun z=>r5 (beq_iff_eq.mpr z)
        have q2:2≤m':=by omega
        have q2':m'≤b.size:=by omega
        generalize hmm2:m'=nb5 at hz l5 q2 q2' ⊢
       case' h2=>
        intro hk';have l5:=l4;have q2:2≤nb3-1:=by omega
        have q2':nb3-1≤b.size:=by omega
        have s5:out4.size≤(out4.push y).size:=by rw[Array.size_push];omega
        rw[show m'=nb3-1 by omega] at hz;generalize out4.push y=out5 at *;generalize hmm2:nb3-1=nb5 at hz l5 q2 q2' ⊢
       all_goals
        refine wpS_bind (wpS_elem ez ?_)
        try dsimp only
        have l6:=l5.pa T (by omega) ez hz
        by_cases r6:(na4-1==0)=true
        ·rw[if_pos r6];exact wpS_pure ⟨sm5,.inl ⟨_,rfl,l6.doneA T (eq_of_beq r6)⟩⟩
        rw[if_neg r6];have r6:na4-1≠0:=fun z=>r6 (beq_iff_eq.mpr z)
        refine wpS_ite (fun _=>?_) (fun _=>?_)
        ·exact wpS_pure ⟨sm5,.inr ⟨_,_,_,_,_,_,rfl,l6,by omega,by omega,q2,q2',by rw[Array.size_push];omega⟩⟩
        ·exact wpS_pure ⟨_,_,_,_,_,_,rfl,l6,by omega,by omega,q2,q2',by rw[Array.size_push];omega,sm5⟩
end
end TS
namespace TS
open PySem PyProof.Rows PySem.W
theorem fold_at {α:Type}(sa:Nat):∀(l:List α) (n:Nat) (a:Array α) (k:Nat),((l.zipIdx n).foldl (fun a (p,j)=>a.setIfInBounds (sa+j) p) a)[k]?=if sa+n≤k∧k<sa+n+l.length∧k<a.size then l[k-(sa+n)]? else a[k]?
 | [],n,a,k=>by
  rw[if_neg (by simp;omega)];rfl
 | x::l,n,a,k=>by
  rw[List.zipIdx_cons,List.foldl_cons,fold_at sa l (n+1)];dsimp only;rw[Array.size_setIfInBounds,Array.getElem?_setIfInBounds,List.length_cons]
  by_cases h1:sa+n=k
  ·subst h1;rw[if_neg (by omega),if_pos rfl]
   by_cases h2:sa+n<a.size
   ·rw[if_pos h2,if_pos ⟨by omega,by omega,h2⟩,Nat.sub_self];rfl
   ·rw[if_neg h2,if_neg (by omega)];exact(Array.getElem?_eq_none (by omega)).symm
  ·rw[if_neg h1]
   by_cases h2:sa+(n+1)≤k∧k<sa+(n+1)+l.length∧k<a.size
   ·rw[if_pos h2,if_pos ⟨by omega,by omega,h2.2.2⟩,show k-(sa+n)=k-(sa+(n+1))+1 by omega,List.getElem?_cons_succ]
   ·rw[if_neg h2,if_neg (by omega)]
theorem fold_list {α:Type}{a:Array α}{m:Array α}{sa:Nat}{P X S:List α}(ha:a.toList=P++(X++S))(hp:P.length=sa)(hx:X.length=m.size):(m.toList.zipIdx.foldl (fun a (p,j)=>a.setIfInBounds (sa+j) p) a).toList=P++(m.toList++S):=by
 have hs:a.size=P.length+(X.length+S.length):=by rw[←Array.length_toList,ha,List.length_append,List.length_append]
 apply List.ext_getElem?;intro k;rw[Array.getElem?_toList,fold_at sa m.toList 0 a k,Nat.add_zero,Array.length_toList,←Array.getElem?_toList,ha]
 by_cases h1:k<sa
 ·rw[if_neg (by omega),List.getElem?_append_left (by omega),List.getElem?_append_left (by omega)]
 ·have e1:(P++(X++S))[k]?=(X++S)[k-sa]?:=by rw[List.getElem?_append_right (by omega),hp]
  have e2:(P++(m.toList++S))[k]?=(m.toList++S)[k-sa]?:=by rw[List.getElem?_append_right (by omega),hp]
  rw[e1,e2]
  by_cases h2:k<sa+m.size
  ·rw[if_pos ⟨by omega,h2,by omega⟩,List.getElem?_append_left (by rw[Array.length_toList];omega)]
  ·have e3:(X++S)[k-sa]?=S[k-sa-m.size]?:=by rw[List.getElem?_append_right (by omega),hx]
   have e4:(m.toList++S)[k-sa]?=S[k-sa-m.size]?:=by rw[List.getElem?_append_right (by rw[Array.length_toList];omega),Array.length_toList]
   rw[if_neg (by omega),e3,e4]
variable{a:Array Keyed}{U:List Keyed}
theorem at_mid {L0 R:List Keyed}(ha:a.toList=L0++(U++R))(i:Nat)(hi:i<U.length):a[L0.length+i]?=U[i]?:=by
 rw[←Array.getElem?_toList,ha,List.getElem?_append_right (by omega),Nat.add_sub_cancel_left,List.getElem?_append_left hi]
theorem ext_mid {L0 R:List Keyed}(ha:a.toList=L0++(U++R)){i j:Nat}(hi:i=L0.length)(hj:j=L0.length+U.length):(a.extract i j).toList=U:=by
 subst hi hj;rw[Array.toList_extract,List.extract_eq_drop_take,ha,List.drop_left,Nat.add_sub_cancel_left,List.take_left]
section
variable {prog:Program}{w:World}{A:Around}{E:Value→Shared→Prop}{s:Shared}{κ:SortKind}{G:Keyed→Prop}{key:Keyed→Int}
theorem wpS_set {st x:SortSt}{Q:PUnit→SortSt→Prop}(h:Q ⟨⟩ x):wpS (model prog w) A E s (set x:StateT SortSt Sem PUnit) Q st:=by
 unfold wpS;rw[StateT.run_set];exact wpAny_pure ⟨rfl,h⟩
theorem wpS_set' {st x:SortSt}{Q:PUnit→SortSt→Prop}(h:∀st2:SortSt,PyProof.Rows.kindOf st2=PyProof.Rows.kindOf x→arrOf st2=arrOf x→pendingOf st2=pendingOf x→failedOf st2=failedOf x→Q ⟨⟩ st2):wpS (model prog w) A E s (set x:StateT SortSt Sem PUnit) Q st:=wpS_set (h x rfl rfl rfl rfl)
theorem seek_mid {L0 R:List Keyed}(ha:a.toList=L0++(U++R))(hu:U.Pairwise (leK key))(hg:∀x∈U,G x){l:Bool}{k:Keyed}{b n:Nat}(hb:b=L0.length)(hn:n=U.length):Seek key G l k a b n (seekB key l k a b):=by
 subst hb hn;have sz:a.size=L0.length+(U.length+R.length):=by rw[←Array.length_toList,ha,List.length_append,List.length_append]
 refine seek_of (fun i x h1 h2 e=>?_) (fun i j x y h1 h2 h3 ex ey=>?_) (by omega)
 ·rw[show i=L0.length+(i-L0.length) by omega,at_mid ha _ (by omega)] at e;exact hg x (List.mem_of_getElem? e)
 ·rw[show i=L0.length+(i-L0.length) by omega,at_mid ha _ (by omega)] at ex;rw[show j=L0.length+(j-L0.length) by omega,at_mid ha _ (by omega)] at ey;obtain⟨hi,ei⟩:=List.getElem?_eq_some_iff.mp ex;obtain⟨hj,ej⟩:=List.getElem?_eq_some_iff.mp ey;rw[←ei,←ej]
  by_cases q:i-L0.length=j-L0.length
  ·simp only[q];exact Int.le_refl _
  ·exact List.pairwise_iff_getElem.mp hu _ _ hi hj (by omega)
theorem mem_t {k:Nat}{x:Keyed}(h:x∈U.take k):∃i,i<k∧U[i]?=some x:=by
 obtain⟨i,hi,e⟩:=List.getElem_of_mem h;rw[List.length_take] at hi;exact⟨i,by omega,by rw[←e,List.getElem_take,List.getElem?_eq_getElem]⟩
theorem mem_d {k:Nat}{x:Keyed}(h:x∈U.drop k):∃i,k≤i∧i<U.length∧U[i]?=some x:=by
 obtain⟨i,hi,e⟩:=List.getElem_of_mem h;rw[List.length_drop] at hi;exact⟨k+i,by omega,by omega,by rw[←e,List.getElem_drop,List.getElem?_eq_getElem]⟩
structure Nx (st st':SortSt)(L:List Keyed)(p:Array (Nat×Nat×Nat)):Prop where
 kind:kindOf st'=kindOf st
 arr:(arrOf st').toList=L
 pend:pendingOf st'=p
 fail:failedOf st'=failedOf st
theorem mergeAt_ok (hL:LtOk prog w A s κ G key){st:SortSt}(hst:kindOf st=κ)(hf:failedOf st=none){i sa na pw sb nb pw2:Nat}{L0 V R:List Keyed}(hp1:(pendingOf st)[i]?=some (sa,na,pw))(hp2:(pendingOf st)[i+1]?=some (sb,nb,pw2))
  (ha:(arrOf st).toList=L0++(U++(V++R))) (h0:sa=L0.length) (h1:na=U.length) (h2:nb=V.length) (h3:sb=sa+na) (hu:U.Pairwise (leK key)) (hv:V.Pairwise (leK key)) (hU:U≠[]) (hV:V≠[]) (gu:∀x∈U,G x) (gv:∀x∈V,G x) {Q:Bool→SortSt→Prop}
  (h:∀Z st',Z.Perm (U++V)→Z.Pairwise (leK key)→Nx st st' (L0++(Z++R)) (((pendingOf st).setIfInBounds i (sa,na+nb,pw)).eraseIdxIfInBounds (i+1))→Q true st'):wpS (model prog w) A E s (mergeAt' i) Q st:=by
 have u1:=List.length_pos_iff.mpr hU;have v1:=List.length_pos_iff.mpr hV;refine wpS_bind (wpS_get ?_);dsimp only;have e1:(sortPriv% PySem.Builtin.SortState.pending) st=pendingOf st:=rfl;rw[hp1,hp2];dsimp only;refine wpS_bind (wpS_set' fun st2 k2 a2 p2 f2=>?_);have k2:kindOf st2=κ:=k2.trans hst;have a2:arrOf st2=arrOf st:=a2;have p2:pendingOf st2=((pendingOf st).setIfInBounds i (sa,na+nb,pw)).eraseIdxIfInBounds (i+1):=p2;have f2:failedOf st2=none:=f2.trans hf;obtain⟨y,ey⟩:∃y,V[0]?=some y:=⟨V[0],List.getElem?_eq_getElem v1⟩;have haV:(arrOf st).toList=(L0++U)++(V++R):=by rw[ha,List.append_assoc]
 have ey2:(arrOf st)[sb]?=some y:=by
  have:=at_mid haV 0 v1;rw[List.length_append,Nat.add_zero] at this;rw[h3,h0,h1,this];exact ey
 refine wpS_bind (wpS_elem ey2 (wpS_bind (gallop_ok (n:=na) (hint:=0) hL (gv y (List.mem_of_getElem? ey)) (seek_mid (L0:=L0) (U:=U) ha hu gu h0 h1) (by omega) k2 fun k fk=>?_)));dsimp only;obtain⟨q1,q2⟩:=found_r fk;have kle:=fk.1;have at1:∀j x,U[j]?=some x→(arrOf st)[sa+j]?=some x:=fun j x e=>by
  rw[h0,at_mid ha j (List.getElem?_eq_some_iff.mp e).1];exact e
 have at2:∀j x,V[j]?=some x→(arrOf st)[sb+j]?=some x:=fun j x e=>by
  have:=at_mid haV j (List.getElem?_eq_some_iff.mp e).1;rw[List.length_append] at this;rw[h3,h0,h1,this];exact e
 have vy:∀v∈V,key y≤key v:=fun v hv'=>by
  cases V with
  | nil=>cases hv'
  | cons v0 V=>
   have:y=v0:=(Option.some.inj ey).symm;subst this;rcases List.mem_cons.mp hv' with rfl|z
   ·exact Int.le_refl _
   ·exact(List.pairwise_cons.mp hv).1 v z
 have lo1:∀u∈U.take k,key u≤key y:=fun u hu'=>by
  obtain⟨j,hj,e⟩:=mem_t hu';exact q1 j u hj (at1 j u e)
 have hi1:∀u∈U.drop k,key y<key u:=fun u hu'=>by
  obtain⟨j,hj,hj2,e⟩:=mem_d hu';exact q2 j u hj (by omega) (at1 j u e)
 have same:(U++V).Pairwise (leK key)→wpS (model prog w) A E s (pure true) Q st2:=fun hs=>wpS_pure (h (U++V) st2 (List.Perm.refl _) hs ⟨by rw[k2,hst],by rw[a2,ha,List.append_assoc],p2,by rw[f2,hf]⟩)
 by_cases z1:(na-k==0)=true
 ·rw[if_pos z1];have z1:=eq_of_beq z1;refine same (List.pairwise_append.mpr ⟨hu,hv,fun u hu' v hv'=>?_⟩);have:=lo1 u (by rw[List.take_of_length_le (by omega)];exact hu');exact Int.le_trans this (vy v hv')
 rw[if_neg z1];have z1:na-k≠0:=fun z=>z1 (beq_iff_eq.mpr z)
 obtain⟨x,ex⟩:∃x,U[na-1]?=some x:=⟨U[na-1]'(by omega),List.getElem?_eq_getElem _⟩;have ex2:(arrOf st)[sa+k+(na-k)-1]?=some x:=by
  rw[show sa+k+(na-k)-1=sa+(na-1) by omega];exact at1 _ x ex
 refine wpS_bind (wpS_elem ex2 (wpS_bind (gallop_ok (n:=nb) (hint:=nb-1) hL (gu x (List.mem_of_getElem? ex)) (seek_mid (L0:=L0++U) (U:=V) haV hv gv (by rw[List.length_append];omega) h2) (by omega) k2 fun k' fk'=>?_)));dsimp only;obtain⟨q3,q4⟩:=found_l fk';have kle':=fk'.1;have ux:∀u∈U,key u≤key x:=fun u hu'=>by
  obtain⟨j,hj,e⟩:=List.getElem_of_mem hu';obtain⟨hn,en⟩:=List.getElem?_eq_some_iff.mp ex;rw[←e,←en]
  by_cases q:j=na-1
  ·simp only[q];exact Int.le_refl _
  ·exact List.pairwise_iff_getElem.mp hu _ _ hj hn (by omega)
 have lo2:∀v∈V.take k',key v<key x:=fun v hv'=>by
  obtain⟨j,hj,e⟩:=mem_t hv';exact q3 j v hj (at2 j v e)
 have hi2:∀v∈V.drop k',key x≤key v:=fun v hv'=>by
  obtain⟨j,hj,hj2,e⟩:=mem_d hv';exact q4 j v hj (by omega) (at2 j v e)
 by_cases z2:(k'==0)=true
 ·rw[if_pos z2];have z2:=eq_of_beq z2;refine same (List.pairwise_append.mpr ⟨hu,hv,fun u hu' v hv'=>?_⟩);subst z2;exact Int.le_trans (ux u hu') (hi2 v (by rw[List.drop_zero];exact hv'))
 rw[if_neg z2];have z2:k'≠0:=fun z=>z2 (beq_iff_eq.mpr z)
 have haX:(arrOf st).toList=(L0++U.take k)++(U.drop k++(V++R)):=by rw[ha,List.append_assoc,←List.append_assoc (U.take k),List.take_append_drop]
 have haY:(arrOf st).toList=(L0++U)++(V.take k'++(V.drop k'++R)):=by rw[haV,←List.append_assoc (V.take k'),List.take_append_drop]
 have lt1:(U.take k).length=k:=by rw[List.length_take];omega
 have lt2:(V.take k').length=k':=by rw[List.length_take];omega
 have ld1:(U.drop k).length=na-k:=by rw[List.length_drop];omega
 have eX:((arrOf st).extract (sa+k) sb).toList=U.drop k:=ext_mid haX (by rw[List.length_append,lt1,h0]) (by rw[List.length_append,lt1,ld1];omega);have eY:((arrOf st).extract sb (sb+k')).toList=V.take k':=ext_mid haY (by rw[List.length_append];omega) (by rw[List.length_append,lt2];omega);generalize hX:(arrOf st).extract (sa+k) sb=XA at *;generalize hY:(arrOf st).extract sb (sb+k')=YA at *;have sX:XA.size=na-k:=by rw[←Array.length_toList,eX,ld1]
 have sY:YA.size=k':=by rw[←Array.length_toList,eY,lt2]
 have T:Two key G XA YA:=by
  refine⟨by rw[eX];exact hu.drop,by rw[eY];exact hv.take,fun x hx=>gu x ?_,fun x hx=>gv x ?_,by omega,by omega,fun y' e x' hx=>?_,fun x' e y' hy=>?_⟩
  ·rw[eX] at hx;exact List.mem_of_mem_drop hx
  ·rw[eY] at hx;exact List.mem_of_mem_take hx
  ·rw[←Array.getElem?_toList,eY,List.getElem?_take,if_pos (by omega),ey] at e;cases e;rw[eX] at hx;exact Int.le_of_lt (hi1 x' hx)
  ·rw[←Array.getElem?_toList,eX,List.getElem?_drop,sX,show k+(na-k-1)=na-1 by omega,ex] at e;cases e;rw[eY] at hy;exact Int.le_of_lt (lo2 y' hy)
 have fin:∀(r:Array Keyed) (st3:SortSt),Good key XA YA r→Sm st2 st3→wpS (model prog w) A E s (do
   modify fun st=>setArr st (r.toList.zipIdx.foldl (fun a (p,j)=>a.setIfInBounds (sa+k+j) p) (arrOf st))
   let st ←get
   pure (failedOf st).isNone) Q st3:=fun r st3 g sm=>by
  obtain⟨gp,gs⟩:=g;rw[eX,eY] at gp;have rl:r.size=(na-k)+k':=by rw[←Array.length_toList,gp.length_eq,List.length_append,ld1,lt2]
  have fl:=fold_list (a:=arrOf st3) (m:=r) (sa:=sa+k) (P:=L0++U.take k) (X:=U.drop k++V.take k') (S:=V.drop k'++R) (by
   rw[sm.arr,a2,haX,List.append_assoc (U.drop k),←List.append_assoc (V.take k'),List.take_append_drop]) (by rw[List.length_append,lt1,h0]) (by rw[List.length_append,ld1,lt2,rl])
  refine wpS_bind (wpS_modify (wpS_bind (wpS_get ?_)));have ff:failedOf st3=none:=by rw[sm.fail,f2]
  show wpS _ _ _ _ (pure (failedOf st3).isNone) Q _;rw[ff];refine wpS_pure (h (U.take k++(r.toList++V.drop k')) _ ?_ ?_ ⟨?_,?_,?_,?_⟩)
  ·refine(List.Perm.append_left _ (List.Perm.append_right _ gp)).trans (.of_eq ?_);rw[List.append_assoc,List.take_append_drop,←List.append_assoc,List.take_append_drop]
  ·rw[List.pairwise_append,List.pairwise_append];refine⟨hu.take,⟨gs,hv.drop,fun c hc v hv'=>?_⟩,fun u hu' c hc=>?_⟩
   ·rcases List.mem_append.mp (gp.subset hc) with z|z
    ·exact Int.le_trans (ux c (List.mem_of_mem_drop z)) (hi2 v hv')
    ·exact Int.le_trans (Int.le_of_lt (lo2 c z)) (hi2 v hv')
   ·rcases List.mem_append.mp hc with z|z
    ·rcases List.mem_append.mp (gp.subset z) with z|z
     ·have:=lo1 u hu';have:=hi1 c z;exact(show key u≤key c by omega)
     ·exact Int.le_trans (lo1 u hu') (vy c (List.mem_of_mem_take z))
    ·exact Int.le_trans (lo1 u hu') (vy c (List.mem_of_mem_drop z))
  ·show kindOf st3=_;rw[sm.kind,k2,hst]
  ·show(r.toList.zipIdx.foldl (fun a (p,j)=>a.setIfInBounds (sa+k+j) p) (arrOf st3)).toList=_;rw[fl,List.append_assoc,List.append_assoc,List.append_assoc]
  ·show pendingOf st3=_;rw[sm.pend,p2]
  ·show failedOf st3=_;rw[ff,hf]
 refine wpS_ite (fun _=>?_) (fun _=>?_)
 ·exact wpS_bind (mergeLo_ok hL T k2 fun r st3 g sm=>fin r st3 g sm)
 ·exact wpS_bind (mergeHi_ok hL T k2 fun r st3 g sm=>fin r st3 g sm)
end
end TS
namespace TS
open PySem PyProof.Rows PySem.W
variable{a:Array Keyed}{D:List Keyed}{y:Keyed}{i:Nat}
theorem at_next {L0 R:List Keyed}(ha:a.toList=L0++(D++y::R))(hi:i=L0.length+D.length):a[i]?=some y:=by
 subst hi;rw[←Array.getElem?_toList,ha,List.getElem?_append_right (by omega),Nat.add_sub_cancel_left,List.getElem?_append_right (Nat.le_refl _),Nat.sub_self];rfl
theorem at_last {L0 R:List Keyed}{z:Keyed}(ha:a.toList=L0++(D++[z]++R))(hi:i=L0.length+D.length):a[i]?=some z:=
 at_next (R:=R) (by rw[ha,List.append_assoc D];rfl) hi
theorem mirror_list {P S R:List Keyed}(ha:a.toList=P++(S++R)){j:Nat}(hi:i=P.length)(hj:j=P.length+S.length):(mirror a i j ((j-i) / 2)).toList=P++(S.reverse++R):=by
 have hs:a.size=P.length+(S.length+R.length):=by rw[←Array.length_toList,ha,List.length_append,List.length_append]
 apply List.ext_getElem?;intro k;rw[Array.getElem?_toList,getElem?_mirror_all (by omega)];subst hi hj
 by_cases h1:P.length≤k∧k<P.length+S.length
 ·rw[if_pos h1,←Array.getElem?_toList,ha,List.getElem?_append_right (by omega),List.getElem?_append_left (by omega)];have e2:(P++(S.reverse++R))[k]?=(S.reverse++R)[k-P.length]?:=List.getElem?_append_right (by omega);rw[e2,List.getElem?_append_left (by rw[List.length_reverse];omega),List.getElem?_reverse (by omega)];congr 1;omega
 ·rw[if_neg h1,←Array.getElem?_toList,ha]
  by_cases h2:k<P.length
  ·rw[List.getElem?_append_left h2,List.getElem?_append_left h2]
  ·have e1:(P++(S++R))[k]?=(S++R)[k-P.length]?:=List.getElem?_append_right (by omega);have e2:(P++(S.reverse++R))[k]?=(S.reverse++R)[k-P.length]?:=List.getElem?_append_right (by omega);rw[e1,e2,List.getElem?_append_right (by omega),List.getElem?_append_right (by rw[List.length_reverse];omega),List.length_reverse]
theorem bubble_list {P X S R:List Keyed}(ha:a.toList=P++(X++(S++y::R))){src d:Nat}(h1:src=P.length+X.length+S.length)(h2:d=S.length):(bubble a src d).toList=P++(X++(y::(S++R))):=by
 have hs:a.size=P.length+(X.length+(S.length+(R.length+1))):=by rw[←Array.length_toList,ha];simp
 have hy:a[src]?=some y:=at_next (L0:=P++X) (D:=S) (R:=R) (by rw[ha,List.append_assoc]) (by rw[List.length_append];omega);apply List.ext_getElem?;intro k;rw[Array.getElem?_toList,getElem?_bubble (by omega) d (by omega) k];have e0:P++(X++(y::(S++R)))=(P++X)++([y]++(S++R)):=by rw[List.append_assoc];rfl
 have e1:P++(X++(S++y::R))=(P++X)++(S++([y]++R)):=by rw[List.append_assoc];rfl
 have lp:(P++X).length=src-d:=by rw[List.length_append];omega
 rw[e0];rw[e1] at ha;generalize P++X=PX at *
 by_cases q1:k=src-d
 ·subst q1;rw[if_pos rfl,hy,List.getElem?_append_right (by omega),lp,Nat.sub_self];rfl
 rw[if_neg q1]
 by_cases q2:src-d<k∧k≤src
 ·rw[if_pos q2,←Array.getElem?_toList,ha];have r1:(PX++(S++([y]++R)))[k-1]?=S[k-1-PX.length]?:=by rw[List.getElem?_append_right (by omega),List.getElem?_append_left (by omega)]
  have r2:(PX++([y]++(S++R)))[k]?=(S++R)[k-PX.length-1]?:=by rw[List.getElem?_append_right (by omega),List.getElem?_append_right (show [y].length≤_ by rw[List.length_singleton];omega),List.length_singleton]
  rw[r1,r2,List.getElem?_append_left (by omega)];congr 1;omega
 ·rw[if_neg q2,←Array.getElem?_toList,ha]
  by_cases q3:k<PX.length
  ·rw[List.getElem?_append_left q3,List.getElem?_append_left q3]
  ·have r1:(PX++(S++([y]++R)))[k]?=R[k-PX.length-S.length-1]?:=by
    rw[List.getElem?_append_right (by omega),List.getElem?_append_right (by omega),List.getElem?_append_right (show [y].length≤_ by rw[List.length_singleton];omega),List.length_singleton]
   have r2:(PX++([y]++(S++R)))[k]?=R[k-PX.length-1-S.length]?:=by
    rw[List.getElem?_append_right (by omega),List.getElem?_append_right (show [y].length≤_ by rw[List.length_singleton];omega),List.length_singleton,List.getElem?_append_right (by omega)]
   rw[r1,r2];congr 1;omega
section
variable {prog:Program}{w:World}{A:Around}{E:Value→Shared→Prop}{s:Shared}{κ:SortKind}{G:Keyed→Prop}{key:Keyed→Int}
theorem wpS_at (hL:LtOk prog w A s κ G key){st:SortSt}(hst:kindOf st=κ){j:Nat}{x:Keyed}(hi:(arrOf st)[i]?=some x)(hj:(arrOf st)[j]?=some y)(hx:G x)(hy:G y){Q:Option Bool→SortSt→Prop}(h:Q (some (decide (key x<key y))) st):wpS (model prog w) A E s (ltAt' i j) Q st:=by
 rw[ltAt'_eq];refine wpS_bind (wpS_get ?_);exact wpS_bind (wpS_elem hi (wpS_bind (wpS_elem hj (wpS_lt hL hx hy hst h))))
theorem up_snoc {z:Keyed}(h:(D++[z]).Pairwise (leK key))(hy:key z≤key y):(D++[z]++[y]).Pairwise (leK key):=by
 rw[List.pairwise_append];refine⟨h,List.pairwise_singleton _ _,fun d hd u hu=>?_⟩;rw[List.mem_singleton.mp hu];rcases List.mem_append.mp hd with q|q
 ·exact Int.le_trans ((List.pairwise_append.mp h).2.2 d q z (List.mem_singleton.mpr rfl)) hy
 ·rw[List.mem_singleton.mp q];exact hy
theorem down_snoc {z:Keyed}(h:(D++[z]).Pairwise (geK key))(hy:key y≤key z):(D++[z]++[y]).Pairwise (geK key):=by
 rw[List.pairwise_append];refine⟨h,List.pairwise_singleton _ _,fun d hd u hu=>?_⟩;rw[List.mem_singleton.mp hu];rcases List.mem_append.mp hd with q|q
 ·exact Int.le_trans hy ((List.pairwise_append.mp h).2.2 d q z (List.mem_singleton.mpr rfl))
 ·rw[List.mem_singleton.mp q];exact hy
def AllEq (key:Keyed→Int)(l:List Keyed):Prop:=∀e∈l,∀f∈l,key e=key f
theorem eq_rev {P Eq:List Keyed}(h:(P++Eq).Pairwise (geK key))(he:AllEq key Eq):(P++Eq.reverse).Pairwise (geK key):=by
 rw[List.pairwise_append] at h ⊢;refine⟨h.1,List.Pairwise.imp_of_mem (R:=fun _ _=>True) (fun {a b} ha hb _=>?_) (List.pairwise_of_forall fun _ _=>trivial),fun a ha b hb=>h.2.2 a ha b (List.mem_reverse.mp hb)⟩;exact Int.le_of_eq (he b (List.mem_reverse.mp hb) a (List.mem_reverse.mp ha))
theorem snoc_of (h:D≠[]):∃D' z,D=D'++[z]:=⟨D.dropLast,D.getLast h,(List.dropLast_concat_getLast h).symm⟩
def Rn (st:SortSt)(L0 R D R':List Keyed)(st':SortSt):Prop:=Nx st st' (L0++(D++R')) (pendingOf st)∧(D++R').Perm R
theorem wpS_rev (hL:LtOk prog w A s κ G key){st st1:SortSt}{L0 R P S R':List Keyed}(hr:Rn st L0 R (P++S) R' st1){j:Nat}(hi:i=L0.length+P.length)(hj:j=L0.length+P.length+S.length){Q:Unit→SortSt→Prop}(h:∀st2,Rn st L0 R (P++S.reverse) R' st2→Q () st2):wpS (model prog w) A E s (reverseSlice' i j) Q st1:=by
 refine wpS_reverse (h _ ⟨⟨hr.1.kind,?_,hr.1.pend,hr.1.fail⟩,?_⟩)
 ·have:=mirror_list (a:=arrOf st1) (P:=L0++P) (S:=S) (R:=R') (by rw[hr.1.arr,List.append_assoc,List.append_assoc]) (i:=i) (j:=j) (by rw[List.length_append];exact hi) (by rw[List.length_append];exact hj);show(mirror (arrOf st1) i j ((j-i) / 2)).toList=_;rw[this,List.append_assoc,List.append_assoc]
 ·refine List.Perm.trans ?_ hr.2;exact List.Perm.append_right _ (List.Perm.append_left _ (List.reverse_perm S))
theorem Rn.mem {st st':SortSt}{L0 R R':List Keyed}(h:Rn st L0 R D R' st'){P:Keyed→Prop}(hP:∀x∈R,P x):∀x∈D++R',P x:=fun x hx=>hP x (h.2.subset hx)
theorem countRun_ok (hL:LtOk prog w A s κ G key){st:SortSt}(hst:kindOf st=κ){L0 R:List Keyed}{lo nrem:Nat}(ha:(arrOf st).toList=L0++R)(hlo:lo=L0.length)(hn:nrem=R.length)(hR:R≠[])(gR:∀x∈R,G x){Q:Option Nat→SortSt→Prop}
  (h:∀D R' st',D≠[]→D.Pairwise (leK key)→Rn st L0 R D R' st'→Q (some D.length) st'):wpS (model prog w) A E s (countRun' lo nrem) Q st:=by
 have R1:=List.length_pos_iff.mpr hR;obtain⟨x0,R0,rfl⟩:∃x0 R0,R=x0::R0:=by
  cases R with
  | nil=>exact absurd rfl hR
  | cons x0 R0=>exact⟨x0,R0,rfl⟩
 have r0:∀D R',D++R'=x0::R0→Rn st L0 (x0::R0) D R' st:=fun D R' e=>⟨⟨rfl,by rw[ha,e],rfl,rfl⟩,by rw[e]⟩
 refine wpS_bind (wpS_mono (wpS_forRange
  (I:=fun x c st2=>st2=st∧∃D R',c=(none,x)∧D.length=x∧D≠[]∧D++R'=x0::R0∧D.Pairwise (leK key))
  (Q:=fun c st2=>st2=st∧∃D R',c=(none,D.length)∧D≠[]∧D++R'=x0::R0∧D.Pairwise (leK key)∧(R'=[]∨∃D2 z y R2,D=D2++[z]∧R'=y::R2∧key y<key z)) ?step ?fin ⟨rfl,[x0],R0,rfl,rfl,by simp,rfl,List.pairwise_singleton _ _⟩) ?post)
 case fin=>
  rintro c st2 ⟨rfl,D,R',rfl,e1,e2,e3,e4⟩;refine⟨rfl,D,R',by rw[e1],e2,e3,e4,.inl ?_⟩;have:=congrArg List.length e3;rw[List.length_append,e1] at this;exact List.length_eq_zero_iff.mp (by omega)
 case step=>
  rintro x c st2 _ hx ⟨rfl,D,R',rfl,e1,e2,e3,e4⟩
  try dsimp only
  cases R' with
  | nil=>
   have:=congrArg List.length e3;rw[List.append_nil,e1] at this;omega
  | cons y R2=>
   obtain⟨D3,z,rfl⟩:=snoc_of e2;have ar:(arrOf st2).toList=L0++(D3++[z]++y::R2):=by rw[ha,e3]
   rw[List.length_append,List.length_singleton] at e1;have gm:∀u∈D3++[z]++y::R2,G u:=fun u hu=>gR u (by rw[←e3];exact hu)
   refine wpS_bind (wpS_at hL hst (at_next ar (by rw[List.length_append,List.length_singleton];omega)) (at_last ar (by omega)) (gm y (List.mem_append_right _ List.mem_cons_self)) (gm z (List.mem_append_left _ (List.mem_append_right _ (List.mem_singleton.mpr rfl)))) ?_)
   try dsimp only
   refine wpS_ite (fun hc=>?_) (fun hc=>?_)
   ·exact wpS_pure ⟨rfl,D3++[z],y::R2,by rw[List.length_append,List.length_singleton,e1],e2,e3,e4,.inr ⟨D3,z,y,R2,rfl,rfl,of_decide_eq_true hc⟩⟩
   ·have hc:¬key y<key z:=fun q=>hc (decide_eq_true q)
    exact wpS_pure ⟨rfl,D3++[z]++[y],R2,rfl,by rw[List.length_append,List.length_append,List.length_singleton,List.length_singleton];omega,by simp,by rw[←e3,List.append_assoc (D3++[z])];rfl,up_snoc e4 (by omega)⟩
 case post=>
  rintro c st2 ⟨rfl,D,R',rfl,e2,e3,e4,e5⟩
  try dsimp only
  have lD:=congrArg List.length e3;rw[List.length_append] at lD;refine wpS_ite (fun _=>wpS_pure (h D R' st2 e2 e4 (r0 D R' e3))) (fun hq=>?_);have hq:D.length≠nrem:=fun q=>hq (beq_iff_eq.mpr q)
  obtain⟨D2,z,y,R2,rfl,rfl,hyz⟩:=e5.resolve_left (fun q=>hq (by rw[q] at lD;rw[hn,←lD];rfl));have one:(D2++[z]).length≥1:=by rw[List.length_append,List.length_singleton];omega
  apply wpS_ite
  case' h1=>
   intro hg;obtain⟨z0,e0⟩:∃z0,(D2++[z])[0]?=some z0:=⟨_,List.getElem?_eq_getElem (by omega)⟩;have ar:(arrOf st2).toList=L0++(D2++[z]++y::R2):=by rw[ha,e3]
   have i0:(arrOf st2)[lo]?=some z0:=by
    have:=at_mid ar 0 (by omega);rw[Nat.add_zero,e0] at this;rw[hlo];exact this
   have iz:(arrOf st2)[lo+(D2++[z]).length-1]?=some z:=at_last ar (by rw[List.length_append,List.length_singleton];omega);have m0:=List.mem_of_getElem? e0;have gm:∀u∈D2++[z]++y::R2,G u:=fun u hu=>gR u (by rw[←e3];exact hu)
   refine wpS_bind (wpS_at hL hst i0 iz (gm z0 (List.mem_append_left _ m0)) (gm z (List.mem_append_left _ (List.mem_append_right _ (List.mem_singleton.mpr rfl)))) ?_)
   try dsimp only
   refine wpS_ite (fun _=>wpS_pure (h _ _ st2 e2 e4 (r0 _ _ e3))) (fun hc=>?_);have hc:¬key z0<key z:=fun q=>hc (decide_eq_true q)
   have kall:∀u∈D2++[z],key u=key z:=fun u hu=>by
    have a1:key u≤key z:=by
     rcases List.mem_append.mp hu with q|q
     ·exact(List.pairwise_append.mp e4).2.2 u q z (List.mem_singleton.mpr rfl)
     ·rw[List.mem_singleton.mp q];exact Int.le_refl _
    have a2:key z0≤key u:=by
     generalize D2++[z]=DD at *;cases DD with
     | nil=>cases hu
     | cons d0 DD=>
      cases e0;rcases List.mem_cons.mp hu with rfl|q
      ·exact Int.le_refl _
      ·exact(List.pairwise_cons.mp e4).1 u q
    omega
   refine wpS_bind (wpS_rev (P:=[]) (S:=D2++[z]) hL (r0 _ _ e3) (by rw[hlo];rfl) (by rw[hlo];rfl) fun st3 hr3=>?_);have tt:∃T:List Keyed,T≠[]∧T.length=(D2++[z]).length∧Rn st2 L0 (x0::R0) T (y::R2) st3∧T.Pairwise (geK key)∧∀t∈T,key y≤key t:=by
    refine⟨(D2++[z]).reverse,by simp,List.length_reverse,hr3,eq_rev (P:=[]) ?_ (fun e he f hf=>by rw[kall e he,kall f hf]),fun t ht=>?_⟩
    ·refine List.Pairwise.imp_of_mem (R:=fun _ _=>True) (fun {p q} hp hq' _=>?_) (List.pairwise_of_forall fun _ _=>trivial);exact Int.le_of_eq ((kall q hq').trans (kall p hp).symm)
    ·rw[kall t (List.mem_reverse.mp ht)];omega
  case' h2=>
   intro hg;have e1:D2=[]:=by
    rw[List.length_append,List.length_singleton] at hg;exact List.length_eq_zero_iff.mp (by omega)
   have tt:∃T:List Keyed,T≠[]∧T.length=(D2++[z]).length∧Rn st2 L0 (x0::R0) T (y::R2) st2∧T.Pairwise (geK key)∧∀t∈T,key y≤key t:=by
    subst e1;exact⟨[z],by simp,rfl,r0 _ _ e3,List.pairwise_singleton _ _,fun t ht=>by rw[List.mem_singleton.mp ht];omega⟩
  all_goals
   obtain⟨T,t1,t2,t3,t4,t5⟩:=tt;refine wpS_bind (wpS_lift (wpAny_rule ⟨rfl,?_⟩));have lT:(T++[y]).length=(D2++[z]).length+1:=by rw[List.length_append,t2,List.length_singleton]
   rw[←lT];have t6:Rn st2 L0 (x0::R0) (T++[y]) R2 _:=⟨⟨t3.1.kind,by rw[t3.1.arr,List.append_assoc T];rfl,t3.1.pend,t3.1.fail⟩,by rw[List.append_assoc];exact t3.2⟩;have t7:(T++[y]).Pairwise (geK key):=by
    rw[List.pairwise_append];exact⟨t4,List.pairwise_singleton _ _,fun d hd u hu=>by rw[List.mem_singleton.mp hu];exact t5 d hd⟩
   clear t1 t2 t3 t4 t5 lT hyz hq e2 e3 e4 e5 lD one hg;refine wpS_bind (wpS_mono (wpS_forRange
    (I:=fun x c st5=>∃P S R2 neq,c=(none,x,neq)∧Rn st2 L0 (x0::R0) (P++S) R2 st5∧(P++S).length=x∧S.length=neq+1∧(P++S).Pairwise (geK key)∧AllEq key S)
    (Q:=fun c st5=>∃P S R2 neq,c=(none,(P++S).length,neq)∧Rn st2 L0 (x0::R0) (P++S) R2 st5∧S.length=neq+1∧(P++S).Pairwise (geK key)∧AllEq key S) ?_ ?_ ⟨T,[y],R2,0,rfl,t6,rfl,rfl,t7,fun e he g hg=>by rw[List.mem_singleton.mp he,List.mem_singleton.mp hg]⟩) ?_)
   ·rintro x c st5 _ hx ⟨P,S,R2,neq,rfl,e1,e2,e3,e4,e5⟩
    try dsimp only
    have ln:(P++S).length+R2.length=(x0::R0).length:=by rw[←List.length_append,e1.2.length_eq]
    cases R2 with
    | nil=>rw[List.length_nil] at ln;omega
    | cons y R2=>
     obtain⟨S',z,rfl⟩:=snoc_of (show S≠[] from fun q=>by rw[q] at e3;simp at e3);have ar:(arrOf st5).toList=L0++((P++S')++[z]++y::R2):=by rw[e1.1.arr];simp only[List.append_assoc]
     have lx:(P++S').length+1=x:=by rw[←e2,←List.append_assoc,List.length_append (as:=P++S')];rfl
     have gm:=e1.mem gR;have gy:=gm y (List.mem_append_right _ List.mem_cons_self);have gz:=gm z (List.mem_append_left _ (List.mem_append_right _ (List.mem_append_right _ (List.mem_singleton.mpr rfl))));have iy:(arrOf st5)[lo+x]?=some y:=at_next ar (by rw[List.length_append (as:=P++S'),List.length_singleton];omega);have iz:(arrOf st5)[lo+x-1]?=some z:=at_last ar (by omega);have nx:∀(T:List Keyed) (st3:SortSt),Rn st2 L0 (x0::R0) T (y::R2) st3→Rn st2 L0 (x0::R0) (T++[y]) R2 st3:=fun T st3 q=>⟨⟨q.1.kind,by rw[q.1.arr,List.append_assoc T];rfl,q.1.pend,q.1.fail⟩,by rw[List.append_assoc];exact q.2⟩
     have one:AllEq key [y]:=fun e he g hg=>by rw[List.mem_singleton.mp he,List.mem_singleton.mp hg]
     have lP:P.length+(S'.length+1)=x:=by rw[←lx,List.length_append];omega
     refine wpS_bind (wpS_at hL (e1.1.kind.trans hst) iy iz gy gz ?_)
     try dsimp only
     refine wpS_ite (fun hc=>?_) (fun hc=>?_)
     ·have hc:=of_decide_eq_true hc;have below:∀d∈P++(S'++[z]),key y≤key d:=fun d hd=>by
       rw[←List.append_assoc] at hd e4;rcases List.mem_append.mp hd with q|q
       ·have:=(List.pairwise_append.mp e4).2.2 d q z (List.mem_singleton.mpr rfl);have this:key z≤key d:=this;omega
       ·rw[List.mem_singleton.mp q];omega
      refine wpS_ite (fun hq=>?_) (fun hq=>?_)
      ·rw[List.length_append,List.length_singleton] at e3;refine wpS_bind (wpS_rev (P:=P) (S:=S'++[z]) hL e1 (by omega) (by rw[List.length_append (as:=S'),List.length_singleton];omega) fun st3 hr3=>wpS_pure ⟨P++(S'++[z]).reverse,[y],R2,0,rfl,nx _ _ hr3,?_,rfl,?_,one⟩)
       ·rw[List.length_append,List.length_append,List.length_reverse,List.length_append,List.length_singleton,List.length_singleton];omega
       ·rw[List.pairwise_append];refine⟨eq_rev e4 e5,List.pairwise_singleton _ _,fun d hd u hu=>?_⟩;rw[List.mem_singleton.mp hu];refine below d ?_;rcases List.mem_append.mp hd with q|q
        ·exact List.mem_append_left _ q
        ·exact List.mem_append_right _ (List.mem_reverse.mp q)
      ·refine wpS_pure ⟨P++(S'++[z]),[y],R2,0,rfl,nx _ _ e1,?_,rfl,?_,one⟩
       ·rw[List.length_append,e2,List.length_singleton]
       ·rw[List.pairwise_append];exact⟨e4,List.pairwise_singleton _ _,fun d hd u hu=>by rw[List.mem_singleton.mp hu];exact below d hd⟩
     ·have hc:¬key y<key z:=fun q=>hc (decide_eq_true q)
      refine wpS_bind (wpS_at hL (e1.1.kind.trans hst) iz iy gz gy ?_)
      try dsimp only
      refine wpS_ite (fun hg=>?_) (fun hg=>?_)
      ·exact wpS_pure ⟨P,S'++[z],y::R2,neq,by rw[e2],e1,e3,e4,e5⟩
      ·have hg:¬key z<key y:=fun q=>hg (decide_eq_true q)
       have eyz:key y=key z:=by omega
       refine wpS_pure ⟨P,S'++[z]++[y],R2,neq+1,rfl,by rw[←List.append_assoc];exact nx _ _ e1,by rw[←List.append_assoc,List.length_append (as:=P++(S'++[z])),e2,List.length_singleton],by rw[List.length_append,e3,List.length_singleton],?_,fun e he g hg'=>?_⟩
       ·have:=down_snoc (D:=P++S') (z:=z) (y:=y) (key:=key) (by rw[List.append_assoc];exact e4) (by omega);rw[List.append_assoc P] at this;rw[←List.append_assoc P];exact this
       ·have kz:∀u∈S'++[z]++[y],key u=key z:=fun u hu=>by
         rcases List.mem_append.mp hu with q|q
         ·exact e5 u q z (List.mem_append_right _ (List.mem_singleton.mpr rfl))
         ·rw[List.mem_singleton.mp q];exact eyz
        rw[kz e he,kz g hg']
   ·rintro c st5 ⟨P,S,R2,neq,rfl,e1,e2,e3,e4,e5⟩;exact⟨P,S,R2,neq,by rw[e2],e1,e3,e4,e5⟩
   ·rintro c st5 ⟨P,S,R2,neq,rfl,e1,e3,e4,e5⟩
    try dsimp only
    have ps:(P++S).length=P.length+(neq+1):=by rw[List.length_append,e3]
    apply wpS_ite
    case' h1=>
     intro hz;refine wpS_bind (wpS_rev (P:=P) (S:=S) hL e1 (by omega) (by omega) fun st6 e6=>?_);have e:(P++S).length=(P++S.reverse).length:=by rw[List.length_append,List.length_append,List.length_reverse]
     have e7:=eq_rev e4 e5;have e8:P++S.reverse≠[]:=fun q=>by rw[q] at e;rw[e] at ps;simp at ps
     rw[e];generalize P++S.reverse=DD at *
    case' h2=>
     intro hz;have e6:=e1;have e7:=e4;have e8:P++S≠[]:=fun q=>by rw[q] at ps;simp at ps
     generalize P++S=DD at *
    all_goals
     refine wpS_bind (wpS_rev (P:=[]) (S:=DD) hL e6 (by rw[hlo];rfl) (by rw[hlo];rfl) fun st7 e9=>?_);have e9:Rn st2 L0 (x0::R0) DD.reverse R2 st7:=e9;have hl:DD.length+R2.length=(x0::R0).length:=by rw[←e9.2.length_eq,List.length_append,List.length_reverse]
     refine wpS_bind (wpS_mono (wpS_forRange
      (I:=fun x c st3=>st3=st7∧∃D2 R3,c=(none,x)∧D2.length=x∧D2≠[]∧D2++R3=DD.reverse++R2∧D2.Pairwise (leK key))
      (Q:=fun c st3=>st3=st7∧∃D2 R3,c=(none,D2.length)∧D2≠[]∧D2++R3=DD.reverse++R2∧D2.Pairwise (leK key)) ?_ ?_ ⟨rfl,DD.reverse,R2,rfl,List.length_reverse,fun z=>e8 (List.reverse_eq_nil_iff.mp z),rfl,List.pairwise_reverse.mpr e7⟩) ?_)
     ·rintro x c st3 _ hx ⟨rfl,D2,R3,rfl,f1,f2,f3,f4⟩
      try dsimp only
      have ln:D2.length+R3.length=DD.length+R2.length:=by rw[←List.length_append,f3,List.length_append,List.length_reverse]
      cases R3 with
      | nil=>rw[List.length_nil] at ln;omega
      | cons y R3=>
       obtain⟨D3,z,rfl⟩:=snoc_of f2;have ar:(arrOf st3).toList=L0++(D3++[z]++y::R3):=by rw[e9.1.arr,f3]
       rw[List.length_append,List.length_singleton] at f1;have gm:=e9.mem gR;rw[←f3] at gm;refine wpS_bind (wpS_at hL (e9.1.kind.trans hst) (at_next ar (by rw[List.length_append,List.length_singleton];omega)) (at_last ar (by omega)) (gm y (List.mem_append_right _ List.mem_cons_self)) (gm z (List.mem_append_left _ (List.mem_append_right _ (List.mem_singleton.mpr rfl)))) ?_)
       try dsimp only
       refine wpS_ite (fun hc=>?_) (fun hc=>?_)
       ·exact wpS_pure ⟨rfl,D3++[z],y::R3,by rw[List.length_append,List.length_singleton,f1],f2,f3,f4⟩
       ·have hc:¬key y<key z:=fun q=>hc (decide_eq_true q)
        exact wpS_pure ⟨rfl,D3++[z]++[y],R3,rfl,by rw[List.length_append,List.length_append,List.length_singleton,List.length_singleton];omega,by simp,by rw[←f3,List.append_assoc (D3++[z])];rfl,up_snoc f4 (by omega)⟩
     ·rintro c st3 ⟨rfl,D2,R3,rfl,f1,f2,f3,f4⟩;exact⟨rfl,D2,R3,by rw[f1],f2,f3,f4⟩
     ·rintro c st3 ⟨rfl,D2,R3,rfl,f2,f3,f4⟩;exact wpS_pure (h D2 R3 st3 f2 f4 ⟨⟨e9.1.kind,by rw[e9.1.arr,f3],e9.1.pend,e9.1.fail⟩,by rw[f3];exact e9.2⟩)
end
end TS
namespace TS
open PySem PyProof.Rows PySem.W
section
variable {prog:Program}{w:World}{A:Around}{E:Value→Shared→Prop}{s:Shared}{κ:SortKind}{G:Keyed→Prop}{key:Keyed→Int}
theorem binarySort_ok (hL:LtOk prog w A s κ G key){st:SortSt}(hst:kindOf st=κ){L0 R:List Keyed}{lo n ok:Nat}(hlo:lo=L0.length)(hn:n≤R.length)(gR:∀x∈R,G x){st1:SortSt}{D R':List Keyed}(hr:Rn st L0 R D R' st1)(hD:D.length=ok)(h1:1≤ok)(hok:ok≤n)(hu:D.Pairwise (leK key)){Q:Bool→SortSt→Prop}
  (h:∀D2 R2 st2,D2.length=n→D2.Pairwise (leK key)→Rn st L0 R D2 R2 st2→Q true st2):wpS (model prog w) A E s (binarySort' lo n ok) Q st1:=by
 refine wpS_bind (wpS_mono (wpS_forRange
  (I:=fun k c st2=>c=(none,())∧∃D2 R2,D2.length=k∧D2.Pairwise (leK key)∧Rn st L0 R D2 R2 st2)
  (Q:=fun c st2=>c=(none,())∧∃D2 R2,D2.length=n∧D2.Pairwise (leK key)∧Rn st L0 R D2 R2 st2) ?_ ?_ ⟨rfl,D,R',by omega,hu,hr⟩) ?_)
 ·rintro k c st2 hk1 hk2 ⟨rfl,D2,R2,l2,u2,r2⟩
  try dsimp only
  have ln:D2.length+R2.length=R.length:=by rw[←List.length_append,r2.2.length_eq]
  cases R2 with
  | nil=>rw[List.length_nil] at ln;omega
  | cons y R2=>
   have gm:=r2.mem gR;have gy:=gm y (List.mem_append_right _ List.mem_cons_self);have iy:(arrOf st2)[lo+k]?=some y:=at_next r2.1.arr (by rw[hlo,l2]);refine wpS_bind (wpS_mono (wpS_forRange
    (I:=fun x c st3=>st3=st2∧∃l r,c=(none,l,r)∧l≤r∧r≤k∧r-l≤k-x∧(∀d∈D2.take l,key d≤key y)∧∀d∈D2.drop r,key y≤key d)
    (Q:=fun c st3=>st3=st2∧∃l r,c=(none,l,r)∧l≤k∧(∀d∈D2.take l,key d≤key y)∧∀d∈D2.drop l,key y≤key d) ?_ ?_ ⟨rfl,0,k,rfl,by omega,by omega,by omega,fun d hd=>by simp at hd,fun d hd=>by rw[List.drop_of_length_le (by omega)] at hd;cases hd⟩) ?_)
   ·rintro x c st3 _ hx ⟨rfl,l,r,rfl,g1,g2,g3,g4,g5⟩
    try dsimp only
    refine wpS_ite (fun hc=>?_) (fun hc=>?_)
    ·exact wpS_pure ⟨rfl,l,r,rfl,by omega,g4,by rw[show l=r by omega];exact g5⟩
    ·obtain⟨z,ez⟩:∃z,D2[(l+r) / 2]?=some z:=⟨D2[(l+r) / 2]'(by omega),List.getElem?_eq_getElem _⟩;have iz:(arrOf st3)[lo+(l+r) / 2]?=some z:=by rw[hlo,at_mid r2.1.arr _ (by omega)];exact ez
     have gz:=gm z (List.mem_append_left _ (List.mem_of_getElem? ez));obtain⟨hz,ezz⟩:=List.getElem?_eq_some_iff.mp ez;refine wpS_bind (wpS_at hL (r2.1.kind.trans hst) iy iz gy gz ?_)
     try dsimp only
     refine wpS_ite (fun hq=>?_) (fun hq=>?_)
     ·have hq:=of_decide_eq_true hq;refine wpS_pure ⟨rfl,_,_,rfl,by omega,by omega,by omega,g4,fun d hd=>?_⟩;obtain⟨i,i1,i2,ei⟩:=mem_d hd;obtain⟨hi,eii⟩:=List.getElem?_eq_some_iff.mp ei;rw[←eii];rw[←ezz] at hq
      by_cases e:i=(l+r) / 2
      ·simp only[e];omega
      ·have:key D2[(l+r) / 2]≤key D2[i]:=List.pairwise_iff_getElem.mp u2 _ _ hz hi (by omega);omega
     ·have hq:¬key y<key z:=fun q=>hq (decide_eq_true q)
      refine wpS_pure ⟨rfl,_,_,rfl,by omega,by omega,by omega,fun d hd=>?_,g5⟩;obtain⟨i,i1,ei⟩:=mem_t hd;obtain⟨hi,eii⟩:=List.getElem?_eq_some_iff.mp ei;rw[←eii];rw[←ezz] at hq
      by_cases e:i=(l+r) / 2
      ·simp only[e];omega
      ·have:key D2[i]≤key D2[(l+r) / 2]:=List.pairwise_iff_getElem.mp u2 _ _ hi hz (by omega);omega
   ·rintro c st3 ⟨rfl,l,r,rfl,g1,g2,g3,g4,g5⟩;rw[show max 0 k=k by omega] at g3;exact⟨rfl,l,r,rfl,by omega,g4,by rw[show l=r by omega];exact g5⟩
   ·rintro c st3 ⟨rfl,l,r,rfl,g1,g4,g5⟩
    try dsimp only
    have lt:(D2.take l).length=l:=by rw[List.length_take];omega
    have ld:(D2.drop l).length=k-l:=by rw[List.length_drop];omega
    have bl:=bubble_list (a:=arrOf st3) (P:=L0) (X:=D2.take l) (S:=D2.drop l) (R:=R2) (y:=y) (by rw[r2.1.arr,←List.append_assoc (D2.take l),List.take_append_drop]) (src:=lo+k) (d:=lo+k-(lo+l)) (by rw[lt,ld];omega) (by rw[ld];omega);refine wpS_bind (m:=moveDown' (lo+k) (lo+l)) (wpS_modify (wpS_pure ⟨rfl,D2.take l++y::D2.drop l,R2,?_,?_,⟨r2.1.kind,?_,r2.1.pend,r2.1.fail⟩,?_⟩))
    ·rw[List.length_append,List.length_cons,lt,ld];omega
    ·rw[List.pairwise_append,List.pairwise_cons];refine⟨u2.take,⟨fun d hd=>g5 d hd,u2.drop⟩,fun a ha b hb=>?_⟩;rcases List.mem_cons.mp hb with rfl|hb
     ·exact g4 a ha
     ·exact Int.le_trans (g4 a ha) (g5 b hb)
    ·show(bubble (arrOf st3) (lo+k) (lo+k-(lo+l))).toList=_;rw[bl,List.append_assoc (D2.take l)];rfl
    ·refine List.Perm.trans ?_ r2.2;rw[List.append_assoc];refine(List.Perm.append_left _ (show(y::D2.drop l++R2).Perm (D2.drop l++y::R2) from List.perm_middle.symm)).trans (.of_eq ?_);rw[←List.append_assoc,List.take_append_drop]
 ·rintro c st2 ⟨rfl,D2,R2,l2,u2,r2⟩;exact⟨rfl,D2,R2,by omega,u2,r2⟩
 ·rintro c st2 ⟨rfl,D2,R2,l2,u2,r2⟩;exact wpS_pure (h D2 R2 st2 l2 u2 r2)
end
def PM (key:Keyed→Int):Nat→List (Nat×Nat×Nat)→List (List Keyed)→Prop
 | _,[],[]=>True
 | b,r::p,R::Rs=>r.1=b∧r.2.1=R.length∧R≠[]∧R.Pairwise (leK key)∧PM key (b+R.length) p Rs
 | _,_,_=>False
section
variable {key:Keyed→Int}
theorem PM.split:∀{q1 q2:List (Nat×Nat×Nat)} {b:Nat} {Rs:List (List Keyed)},PM key b (q1++q2) Rs→∃Rs1 Rs2,Rs=Rs1++Rs2∧PM key b q1 Rs1∧PM key (b+Rs1.flatten.length) q2 Rs2∧Rs1.length=q1.length
 | [],q2,b,Rs,h=>⟨[],Rs,rfl,trivial,h,rfl⟩
 | r::q1,q2,b,[],h=>h.elim
 | r::q1,q2,b,R::Rs,h=>by
  obtain⟨h1,h2,h3,h4,h5⟩:=h;obtain⟨Rs1,Rs2,rfl,g1,g2,g3⟩:=PM.split h5;refine⟨R::Rs1,Rs2,rfl,⟨h1,h2,h3,h4,g1⟩,?_,by rw[List.length_cons,List.length_cons,g3]⟩;rw[List.flatten_cons,List.length_append,←Nat.add_assoc];exact g2
theorem PM.app:∀{q1 q2:List (Nat×Nat×Nat)} {b:Nat} {Rs1 Rs2:List (List Keyed)},PM key b q1 Rs1→PM key (b+Rs1.flatten.length) q2 Rs2→PM key b (q1++q2) (Rs1++Rs2)
 | [],q2,b,[],Rs2,_,h=>h
 | [],q2,b,R::Rs1,Rs2,h,_=>h.elim
 | r::q1,q2,b,[],Rs2,h,_=>h.elim
 | r::q1,q2,b,R::Rs1,Rs2,⟨h1,h2,h3,h4,h5⟩,h=>by
  rw[List.flatten_cons,List.length_append,←Nat.add_assoc] at h;exact⟨h1,h2,h3,h4,h5.app h⟩
theorem PM.len:∀{q:List (Nat×Nat×Nat)} {b:Nat} {Rs:List (List Keyed)},PM key b q Rs→q.length=Rs.length∧q.length≤Rs.flatten.length
 | [],b,[],_=>⟨rfl,Nat.zero_le _⟩
 | [],b,R::Rs,h=>h.elim
 | r::q,b,[],h=>h.elim
 | r::q,b,R::Rs,⟨h1,h2,h3,h4,h5⟩=>by
  obtain⟨g1,g2⟩:=h5.len;have:=List.length_pos_iff.mpr h3;refine⟨by rw[List.length_cons,List.length_cons,g1],?_⟩;rw[List.flatten_cons,List.length_append,List.length_cons];omega
theorem PM.same:∀{q q':List (Nat×Nat×Nat)} {b:Nat} {Rs:List (List Keyed)},PM key b q Rs→q'.map (fun r=>(r.1,r.2.1))=q.map (fun r=>(r.1,r.2.1))→PM key b q' Rs
 | [],[],b,[],_,_=>trivial
 | [],r::q',b,Rs,h,e=>by cases e
 | r::q,[],b,Rs,h,e=>by cases e
 | [],[],b,R::Rs,h,_=>h
 | r::q,r'::q',b,[],h,e=>h.elim
 | r::q,r'::q',b,R::Rs,⟨h1,h2,h3,h4,h5⟩,e=>by
  rw[List.map_cons,List.map_cons] at e;obtain⟨e1,e2⟩:=List.cons.inj e;obtain⟨e3,e4⟩:=Prod.mk.inj e1;exact⟨e3.trans h1,e4.trans h2,h3,h4,h5.same e2⟩
end
structure SI (key:Keyed→Int)(κ:SortKind)(a0:List Keyed)(st:SortSt)(Rs:List (List Keyed))(Rest:List Keyed):Prop where
 kind:kindOf st=κ
 fail:failedOf st=none
 arr:(arrOf st).toList=Rs.flatten++Rest
 perm:(Rs.flatten++Rest).Perm a0
 pm:PM key 0 (pendingOf st).toList Rs
section
variable {prog:Program}{w:World}{A:Around}{E:Value→Shared→Prop}{s:Shared}{κ:SortKind}{G:Keyed→Prop}{key:Keyed→Int}
theorem split_two {α:Type}{q:List α}{i:Nat}(h:i+1<q.length):∃q1 r1 r2 q2,q=q1++r1::r2::q2∧q1.length=i:=by
 refine⟨q.take i,q[i],q[i+1],q.drop (i+2),?_,by rw[List.length_take];omega⟩;rw[←List.drop_eq_getElem_cons h,←List.drop_eq_getElem_cons (by omega),List.take_append_drop]
theorem merge_ok (hL:LtOk prog w A s κ G key){a0:List Keyed}(hG:∀x∈a0,G x){st:SortSt}{Rs:List (List Keyed)}{Rest:List Keyed}(hS:SI key κ a0 st Rs Rest){i:Nat}(hi:i+1<(pendingOf st).size){Q:Bool→SortSt→Prop}
  (h:∀st' Rs',SI key κ a0 st' Rs' Rest→Rs'.flatten.length=Rs.flatten.length→(pendingOf st').size+1=(pendingOf st).size→Q true st'):wpS (model prog w) A E s (mergeAt' i) Q st:=by
 obtain⟨q1,r1,r2,q2,eq,l1⟩:=split_two (q:=(pendingOf st).toList) (i:=i) (by rw[Array.length_toList];exact hi);have pm:=hS.pm;rw[eq] at pm;obtain⟨Rs1,Rs2,rfl,p1,p2,ln⟩:=pm.split
 match Rs2,p2 with
 | [],p2=>exact p2.elim
 | [U],p2=>exact p2.2.2.2.2.elim
 | U::V::Rs2,⟨h1,h2,h3,h4,h5,h6,h7,h8,h9⟩=>
  have i1:(pendingOf st)[i]?=some r1:=by
   rw[←Array.getElem?_toList,eq,List.getElem?_append_right (by omega),l1,Nat.sub_self];rfl
  have i2:(pendingOf st)[i+1]?=some r2:=by
   rw[←Array.getElem?_toList,eq,List.getElem?_append_right (by omega),l1,show i+1-i=1 by omega];rfl
  have ar:=hS.arr;rw[List.flatten_append,List.flatten_cons,List.flatten_cons] at ar;have ar2:(arrOf st).toList=Rs1.flatten++(U++(V++(Rs2.flatten++Rest))):=by rw[ar];simp only[List.append_assoc]
  have pe:=hS.perm;rw[←hS.arr,ar2] at pe;have gA:∀x∈Rs1.flatten++(U++(V++(Rs2.flatten++Rest))),G x:=fun x hx=>hG x (pe.subset hx)
  rw[Nat.zero_add] at h1 h5;obtain⟨a1,b1,c1⟩:=r1;obtain⟨a2,b2,c2⟩:=r2;refine mergeAt_ok hL hS.kind hS.fail i1 i2 ar2 h1 h2 h6 (by
   have h1:a1=Rs1.flatten.length:=h1;have h2:b1=U.length:=h2;have h5:a2=Rs1.flatten.length+U.length:=h5;omega) h4 h8 h3 h7 (fun x hx=>gA x (List.mem_append_right _ (List.mem_append_left _ hx))) (fun x hx=>gA x (List.mem_append_right _ (List.mem_append_right _ (List.mem_append_left _ hx)))) fun Z st' z1 z2 nx=>?_
  have lz:Z.length=U.length+V.length:=by rw[z1.length_eq,List.length_append]
  have ep:(((pendingOf st).setIfInBounds i (a1,b1+b2,c1)).eraseIdxIfInBounds (i+1)).toList=q1++(a1,b1+b2,c1)::q2:=by
   have:i+1<((pendingOf st).setIfInBounds i (a1,b1+b2,c1)).size:=by rw[Array.size_setIfInBounds];exact hi
   rw[Array.eraseIdxIfInBounds,dif_pos this,Array.toList_eraseIdx,Array.toList_setIfInBounds,eq,←l1,List.set_append_right _ _ (Nat.le_refl _),Nat.sub_self,List.set_cons_zero,List.eraseIdx_append_of_length_le (by omega),show q1.length+1-q1.length=1 by omega];rfl
  refine h st' (Rs1++Z::Rs2) ⟨nx.kind.trans hS.kind,nx.fail.trans hS.fail,?_,?_,?_⟩ ?_ ?_
  ·rw[nx.arr,List.flatten_append,List.flatten_cons];simp only[List.append_assoc]
  ·refine List.Perm.trans ?_ pe;rw[List.flatten_append,List.flatten_cons];simp only[List.append_assoc];refine List.Perm.append_left _ ?_;have:=List.Perm.append_right (Rs2.flatten++Rest) z1;simp only[List.append_assoc] at this;exact this
  ·rw[nx.pend,ep];refine p1.app ⟨by rw[Nat.zero_add];exact h1,?_,fun z=>?_,z2,?_⟩
   ·show b1+b2=Z.length;have h2:b1=U.length:=h2;have h6:b2=V.length:=h6;omega
   ·rw[z] at lz;have:=List.length_pos_iff.mpr h3;simp at lz;omega
   ·rw[lz,←Nat.add_assoc];exact h9
  ·rw[List.flatten_append,List.flatten_append,List.flatten_cons,List.flatten_cons,List.flatten_cons];simp only[List.length_append];omega
  ·rw[nx.pend,←Array.length_toList,←Array.length_toList,ep,eq];simp only[List.length_append,List.length_cons];omega
end
end TS
namespace TS
open PySem PyProof.Rows PySem.W
variable{a0:List Keyed}{Rs:List (List Keyed)}
section
variable {prog:Program}{w:World}{A:Around}{E:Value→Shared→Prop}{s:Shared}{κ:SortKind}{G:Keyed→Prop}{key:Keyed→Int}
theorem flat_snoc (Rs:List (List Keyed))(D:List Keyed):(Rs++[D]).flatten.length=Rs.flatten.length+D.length:=by
 rw[List.flatten_append,List.length_append,List.flatten_cons,List.flatten_nil,List.append_nil]
theorem ite_lt {c:Prop}[Decidable c]{a b n:Nat}(h1:a+1<n)(h2:b+1<n):(if c then a else b)+1<n:=by
 split
 ·exact h1
 ·exact h2
theorem wpS_pw {st:SortSt}{pw:Nat}{Q:PUnit→SortSt→Prop}(h:∀st':SortSt,PyProof.Rows.kindOf st'=PyProof.Rows.kindOf st→arrOf st'=arrOf st→failedOf st'=failedOf st→(pendingOf st').toList.map (fun r=>(r.1,r.2.1))=(pendingOf st).toList.map (fun r=>(r.1,r.2.1))→Q ⟨⟩ st') :
  wpS (model prog w) A E s (modify fun s=>setPending s ((pendingOf s).modify ((pendingOf s).size-1) fun x=>(x.1,x.2.1,pw)):StateT SortSt Sem PUnit) Q st:=by
 refine wpS_modify (h _ rfl rfl rfl ?_);show(((pendingOf st).modify ((pendingOf st).size-1) fun x=>(x.1,x.2.1,pw)).toList).map (fun r=>(r.1,r.2.1))=_;apply List.ext_getElem?;intro k;rw[List.getElem?_map,List.getElem?_map,Array.getElem?_toList,Array.getElem?_toList,Array.getElem?_modify];split
 ·cases (pendingOf st)[k]? <;> rfl
 ·rfl
theorem SI.rn {st st':SortSt}{Rest D R':List Keyed}(h:SI key κ a0 st Rs Rest)(r:Rn st Rs.flatten Rest D R' st'):SI key κ a0 st' Rs (D++R'):=
 ⟨r.1.kind.trans h.kind,r.1.fail.trans h.fail,r.1.arr,(List.Perm.append_left _ r.2).trans h.perm,by rw[r.1.pend];exact h.pm⟩
theorem SI.push {st st':SortSt}{D R':List Keyed}(h:SI key κ a0 st Rs (D++R'))(hD:D≠[])(hu:D.Pairwise (leK key)){lo n pw:Nat}(h1:lo=Rs.flatten.length)(h2:n=D.length)(k:kindOf st'=kindOf st)(f:failedOf st'=failedOf st)(a:arrOf st'=arrOf st)(p:(pendingOf st').toList=(pendingOf st).toList++[(lo,n,pw)]):SI key κ a0 st' (Rs++[D]) R':=by
 have e:(Rs++[D]).flatten++R'=Rs.flatten++(D++R'):=by rw[List.flatten_append];simp
 refine⟨k.trans h.kind,f.trans h.fail,by rw[a,h.arr,e],by rw[e];exact h.perm,?_⟩;rw[p];exact h.pm.app ⟨by rw[Nat.zero_add];exact h1,h2,hD,hu,trivial⟩
theorem sortRuns_ok (hL:LtOk prog w A s κ G key)(hG:∀x∈a0,G x){st:SortSt}(hk:kindOf st=κ)(hf:failedOf st=none)(hp:pendingOf st=#[])(ha:(arrOf st).toList=a0){Q:Unit→SortSt→Prop}
  (h:∀st',failedOf st'=none→(arrOf st').toList.Perm a0→(arrOf st').toList.Pairwise (leK key)→Q () st'):wpS (model prog w) A E s sortRuns' Q st:=by
 have sz:(arrOf st).size=a0.length:=by rw[←Array.length_toList,ha]
 have S0:SI key κ a0 st [] a0:=⟨hk,hf,ha,List.Perm.refl _,by rw[hp];trivial⟩;refine wpS_bind (wpS_get ?_)
 try dsimp only
 refine wpS_bind (wpS_mono (wpS_forRange
  (I:=fun x c st'=>∃lo Rs Rest,c=(none,lo)∧SI key κ a0 st' Rs Rest∧Rs.flatten.length=lo∧x≤lo)
  (Q:=fun c st'=>∃lo Rs,c=(none,lo)∧SI key κ a0 st' Rs []) ?_ ?_ ⟨0,[],a0,rfl,S0,rfl,Nat.le_refl _⟩) ?_)
 ·rintro x c st1 _ hx ⟨lo,Rs,Rest,rfl,S1,l1,x1⟩;have tl:Rs.flatten.length+Rest.length=(arrOf st).size:=by rw[sz,←List.length_append,S1.perm.length_eq]
  try dsimp only
  refine wpS_ite (fun hc=>?_) (fun hc=>?_)
  ·have e:Rest=[]:=List.length_eq_zero_iff.mp (by have hc:lo≥(arrOf st).size:=hc;omega);rw[e] at S1;exact wpS_pure ⟨lo,Rs,rfl,S1⟩
  ·have hc:¬lo≥(arrOf st).size:=hc;have gR:∀x∈Rest,G x:=fun x hx=>hG x (S1.perm.subset (List.mem_append_right _ hx))
   refine wpS_bind (countRun_ok hL S1.kind (L0:=Rs.flatten) (R:=Rest) S1.arr l1.symm (show(arrOf st).size-lo=Rest.length by omega) (fun z=>by rw[z,List.length_nil] at tl;omega) gR fun D R' st2 d1 d2 r2=>?_)
   try dsimp only
   have ld:D.length+R'.length=Rest.length:=by rw[←List.length_append,r2.2.length_eq]
   have dp:=List.length_pos_iff.mpr d1;apply wpS_ite
   case' h1=>
    intro hm;refine wpS_bind (wpS_lift (wpAny_rule ⟨rfl,?_⟩));refine wpS_bind (binarySort_ok hL S1.kind l1.symm (Nat.le_trans (Nat.min_le_left _ _) (show(arrOf st).size-lo≤Rest.length by omega)) gR r2 rfl dp (Nat.le_min.mpr ⟨show D.length≤(arrOf st).size-lo by omega,Nat.le_of_lt hm⟩) d2 fun D5 R5 st5 d5 u5 r5=>?_);refine wpS_ite (fun z=>by cases z) (fun _=>?_);have n5:D5≠[]:=fun z=>by
     have q:D.length≤D5.length:=by rw[d5];exact Nat.le_min.mpr ⟨show D.length≤(arrOf st).size-lo by omega,Nat.le_of_lt hm⟩
     rw[z,List.length_nil] at q;omega
    have S5:=S1.rn r5
   case' h2=>
    intro hm;obtain⟨D5,R5,st5,d5,u5,n5,S5⟩:∃D5 R5 st5,D5.length=D.length∧D5.Pairwise (leK key)∧D5≠[]∧SI key κ a0 st5 Rs (D5++R5)∧st5=st2:=⟨D,R',st2,rfl,d2,d1,S1.rn r2,rfl⟩;obtain⟨S5,rfl⟩:=S5
   all_goals
    rw[←d5];have np:=List.length_pos_iff.mpr n5;refine wpS_bind (wpS_get ?_);cases hb:(pendingOf st5).back? with
    | none=>
     try dsimp only
     refine wpS_bind (wpS_modify (wpS_pure ⟨_,Rs++[D5],R5,rfl,S5.push (pw:=0) n5 u5 l1.symm rfl rfl rfl rfl ?_,by rw[flat_snoc,l1],by omega⟩));show((pendingOf st5).push (lo,D5.length,0)).toList=_;rw[Array.toList_push]
    | some r=>
     obtain⟨s1,n1,p1⟩:=r
     try dsimp only
     refine wpS_bind (wpS_mono (wpS_forRange
      (I:=fun _ c st6=>c=(none,())∧∃Rs6,SI key κ a0 st6 Rs6 (D5++R5)∧Rs6.flatten.length=Rs.flatten.length)
      (Q:=fun c st6=>c=(none,())∧∃Rs6,SI key κ a0 st6 Rs6 (D5++R5)∧Rs6.flatten.length=Rs.flatten.length) ?_ (fun _ _ q=>q) ⟨rfl,Rs,S5,rfl⟩) ?_)
     ·rintro x c st6 _ _ ⟨rfl,Rs6,S6,l6⟩;refine wpS_bind (wpS_get ?_)
      by_cases hs:(pendingOf st6).size>1
      ·rw[if_pos hs];obtain⟨r,er⟩:∃r,(pendingOf st6)[(pendingOf st6).size-2]?=some r:=⟨(pendingOf st6)[(pendingOf st6).size-2]'(by omega),getElem?_pos _ _ (by omega)⟩;obtain⟨a1,a2,a3⟩:=r;rw[er]
       try dsimp only
       refine wpS_ite (fun _=>wpS_pure ⟨rfl,Rs6,S6,l6⟩) (fun _=>?_);refine wpS_bind (merge_ok hL hG S6 (show(pendingOf st6).size-2+1<(pendingOf st6).size by omega) fun st7 Rs7 S7 l7 _=>?_);exact wpS_ite (fun z=>by cases z) (fun _=>wpS_pure ⟨rfl,Rs7,S7,l7.trans l6⟩)
      ·rw[if_neg hs];exact wpS_pure ⟨rfl,Rs6,S6,l6⟩
     ·rintro c st6 ⟨rfl,Rs6,S6,l6⟩
      try dsimp only
      refine wpS_bind (wpS_pw fun st7 k7 a7 f7 p7=>?_);have S7:SI key κ a0 st7 Rs6 (D5++R5):=⟨k7.trans S6.kind,f7.trans S6.fail,by rw[a7];exact S6.arr,S6.perm,S6.pm.same p7⟩;refine wpS_bind (wpS_modify (wpS_pure ⟨_,Rs6++[D5],R5,rfl,S7.push (pw:=0) n5 u5 (l6.trans l1).symm rfl rfl rfl rfl Array.toList_push,by rw[flat_snoc,l6,l1],by omega⟩))
 ·rintro c st1 ⟨lo,Rs,Rest,rfl,S1,l1,x1⟩;have tl:Rs.flatten.length+Rest.length=(arrOf st).size:=by rw[sz,←List.length_append,S1.perm.length_eq]
  have x1:max 0 (arrOf st).size≤lo:=x1;have e:Rest=[]:=List.length_eq_zero_iff.mp (by omega);rw[e] at S1;exact⟨lo,Rs,rfl,S1⟩
 ·rintro c st1 ⟨lo,Rs,rfl,S1⟩
  try dsimp only
  have tl:Rs.flatten.length=(arrOf st).size:=by rw[sz,←S1.perm.length_eq,List.append_nil]
  have pl:=S1.pm.len.2;rw[Array.length_toList] at pl;refine wpS_bind (wpS_mono (wpS_forRange
   (I:=fun x c st'=>c=(none,())∧∃Rs,SI key κ a0 st' Rs []∧(pendingOf st').size+x≤(arrOf st).size)
   (Q:=fun c st'=>c=(none,())∧∃Rs,SI key κ a0 st' Rs []∧(pendingOf st').size≤1) ?_ ?_ ⟨rfl,Rs,S1,by omega⟩) ?_)
  ·rintro x c st2 _ hx ⟨rfl,Rs2,S2,l2⟩;refine wpS_bind (wpS_get ?_)
   try dsimp only
   refine wpS_ite (fun hs=>wpS_pure ⟨rfl,Rs2,S2,hs⟩) (fun hs=>?_);have hs:¬(pendingOf st2).size≤1:=hs;refine wpS_bind (merge_ok hL hG S2 ?_ fun st7 Rs7 S7 _ l7=>?_)
   ·exact ite_lt (show(pendingOf st2).size-2-1+1<(pendingOf st2).size by omega) (show(pendingOf st2).size-2+1<(pendingOf st2).size by omega)
   ·exact wpS_ite (fun z=>by cases z) (fun _=>wpS_pure ⟨rfl,Rs7,S7,by omega⟩)
  ·rintro c st2 ⟨rfl,Rs2,S2,l2⟩;have l2:(pendingOf st2).size+max 0 (arrOf st).size≤(arrOf st).size:=l2;exact⟨rfl,Rs2,S2,by omega⟩
  ·rintro c st2 ⟨rfl,Rs2,S2,l2⟩;have pl:=S2.pm.len.1;rw[Array.length_toList] at pl;have pm:=S2.pm;refine wpS_pure (h st2 S2.fail (by rw[S2.arr];exact S2.perm) ?_);rw[S2.arr,List.append_nil]
   match Rs2,pl,pm with
   | [],_,_=>exact List.Pairwise.nil
   | [R],pl,pm=>
    rw[List.flatten_cons,List.flatten_nil,List.append_nil];generalize (pendingOf st2).toList=q at pm
    match q,pm with
    | [],pm=>exact pm.elim
    | r::q,pm=>exact pm.2.2.2.1
   | _::_::_,pl,_=>simp at pl;omega
end
end TS
namespace DL
open PySem PySem.Spec PyProof.Rows PySem.W L2 List
theorem mx {α β:Type}{f:α→β}{l l2:List β}(h:l.Perm l2):∀L:List α,l2=L.map f→∃p:List α,p.Perm L∧l=p.map f:=by
 induction h with
 | nil=>intro L e;exact⟨L,.refl _,e⟩
 | cons x h ih=>
  intro L e;cases L with
  | nil=>cases e
  | cons a L=>
   obtain⟨rfl,e2⟩:=List.cons.inj e;obtain⟨p,hp,rfl⟩:=ih L e2;exact⟨a::p,hp.cons a,rfl⟩
 | swap x y l=>
  intro L e
  match L,e with
  | [],e=>cases e
  | [_],e=>cases e
  | a::b::L,e=>
   obtain⟨rfl,e2⟩:=List.cons.inj e;obtain⟨rfl,rfl⟩:=List.cons.inj e2;exact⟨b::a::L,.swap _ _ _,rfl⟩
 | trans _ _ ih1 ih2=>
  intro L e;obtain⟨p,hp,e2⟩:=ih2 L e;obtain⟨q,hq,e3⟩:=ih1 p e2;exact⟨q,hq.trans hp,e3⟩
abbrev lr (h:Heap)(a:Addr)(vs:List Value):Heap:=((h.update a (Obj.mapSeq fun _=>#[])).push (seqObj "tuple" vs.toArray 0)).push (seqObj "list" #[] 0)
variable{vs:List Value}{zs:List (List Int)}{ns:List Int}
section
variable {prog:Program}{w:World}{A:Around}{E:Value→Shared→Prop}{s:Shared}
theorem lm {a:Addr}{n:Nat}{κ:SortKind}{P:PySem.Fin→Shared→Prop}(tup:Value→List Int)(ho:s.heap.get? a=some (seqObj "list" vs.toArray n))(hz:vs.map tup=zs)(hl:vs.length≤100000)
  (hk:2≤vs.length→∀Q:SortKind→Shared→Prop,Q κ {s with heap:=lr s.heap a vs}→wpAny (model prog w) A (keyKind' vs.toArray) Q E {s with heap:=lr s.heap a vs})
  (hc:∀x∈vs,∀y∈vs,∀C:Bool→Shared→Prop,C (HT.lexLt (tup x) (tup y)) {s with heap:=lr s.heap a vs}→wpAny (model prog w) A (keyLt' κ x y) C (fun _ _=>False) {s with heap:=lr s.heap a vs})
  (h:∀(p:List Nat) (h':Heap) (n':Nat),p.Perm (List.range vs.length)→p.map (fun i=>zs.getD i [])=bg zs→(∀b o,b≠a→s.heap.get? b=some o→h'.get? b=some o)→h'.get? a=some (seqObj "list" (List.toArray (p.map fun i=>vs.getD i Value.none)) n')→P (.done (.ret .none)) {s with heap:=h'}) :
  wpAny (model prog w) A (Builtin.«list.sort» ⟨[.ref a],[]⟩) P E s:=by
 rw[list_sort_plain];have ha:a<s.heap.objs.size:=Heap.lt_size ho;have hsz:vs.toArray.size=vs.length:=by simp
 have le:vs.length≤sizeLine:=by rw[sizeLine_eq];omega
 refine wpAny_bind (listItems_at ho rfl ?_);refine wpAny_bind (listUpdate_at ho rfl ?_ (by rw[size_toArray];exact le) (Nat.zero_le _));obtain⟨e1,ho1⟩:∃e1,(s.heap.update a (Obj.mapSeq fun _=>#[])).get? a=some (seqObj "list" #[] e1):=⟨_,get?_update_seq ho (fun _=>#[])⟩;refine wpAny_bind (seqEpoch_at ho1 rfl ?_);refine wpAny_bind (wpAny_newTuple ?_ (by show vs.length≤_;exact le));refine wpAny_bind (wpAny_newList ?_ (Nat.zero_le _));refine wpAny_holding ?_;have ho6:(lr s.heap a vs).get? a=some (seqObj "list" #[] e1):=by
  rw[Heap.get?_push_ne _ _ _ (by rw[size_push',Heap.size_update];exact Nat.ne_of_lt (Nat.lt_succ_of_lt ha)),Heap.get?_push_ne _ _ _ (by rw[Heap.size_update];exact Nat.ne_of_lt ha)];exact ho1
 have keep:∀(out:Array Value) (b:Addr) (o:Obj),b≠a→s.heap.get? b=some o→((lr s.heap a vs).update a (Obj.mapSeq fun _=>out)).get? b=some o:=fun out b o hb e=>by
  rw[Heap.get?_update_ne _ _ _ _ hb];exact Heap.get?_push_of_some _ (Heap.get?_push_of_some _ (by rw[Heap.get?_update_ne _ _ _ _ hb];exact e))
 have vr:vs=(List.range vs.length).map fun i=>vs.getD i Value.none:=by
  apply ext_getElem
  ·simp
  ·intro i h1 h2;simp[h1]
 have zr:∀p:List Nat,p.Perm (List.range vs.length)→p.map (fun i=>zs.getD i [])=(p.map fun i=>vs.getD i Value.none).map tup:=fun p hp=>by
  rw[map_map];refine map_congr_left fun i hi=>?_
  have hi:=mem_range.mp (hp.subset hi);subst hz;rw[getD_eq_getElem?_getD,getElem?_map,getElem?_eq_getElem hi];show tup vs[i]=tup (vs.getD i Value.none);rw[getD_eq_getElem?_getD,getElem?_eq_getElem hi];rfl
 show wpAny (model prog w) A _ P E {s with heap:=lr s.heap a vs};dsimp only
 by_cases h2:vs.toArray.size<2
 ·rw[if_pos h2,if_pos h2];refine wpAny_bind (wpAny_pure ?_);rw[StateT.run_pure];refine wpAny_bind (wpAny_pure ?_);dsimp only;have e:((vs.toArray.zip vs.toArray).map fun p=>p.2)=List.toArray ((List.range vs.length).map fun i=>vs.getD i Value.none):=by
   match vs,hsz,h2 with
   | [],_,_=>simp
   | [x],_,_=>simp[range_succ]
   | _::_::_,_,h2=>exact absurd h2 (by simp)
  refine wpAny_bind (seqEpoch_at ho6 rfl ?_);refine wpAny_bind (listUpdate_at ho6 rfl ?_ (Nat.zero_le _) (by rw[Array.size_map];show(pairsOf vs).size≤_;rw[pairsOf_size];exact Nat.le_succ_of_le le));simp only[bne_self_eq_false,Bool.false_eq_true,if_false];refine wpAny_pure (h (List.range vs.length) _ _ (.refl _) ?_ (keep _) (by rw[e];exact get?_update_seq ho6 _));rw[zr _ (.refl _),←vr,hz];refine dM (bf zs).symm ?_ (eF zs);have:zs.length<2:=by rw[←hz,length_map];omega
  match zs,this with
  | [],_=>exact .nil
  | [_],_=>exact List.pairwise_singleton _ _
  | _::_::_,q=>exact absurd q (by simp)
 ·rw[if_neg h2,if_neg h2];refine wpAny_bind (hk (by omega) _ ?_);have prs:(vs.toArray.zip vs.toArray).toList=vs.map fun v=>(v,v):=by
   rw[Array.toList_zip];show vs.zip vs=_;clear hz hl hk hc h ho hsz le e1 ho1 ho6 keep vr zr h2
   induction vs with
   | nil=>rfl
   | cons v vs ih=>rw[zip_cons_cons,ih];rfl
  have hL:TS.LtOk prog w A {s with heap:=lr s.heap a vs} κ (fun x=>x.1∈vs∧x=(x.1,x.1)) (fun x=>tZ zs (tup x.1)):=fun x y hx hy C q=>by
   refine hc x.1 hx.1 y.1 hy.1 C ?_;have mz:tup x.1∈zs:=by rw[←hz];exact mem_map.mpr ⟨x.1,hx.1,rfl⟩
   rw[tW mz];exact q
  refine wpAny_bind (wpAny_mono (TS.sortRuns_ok (E:=E) (a0:=vs.map fun v=>(v,v)) hL (fun x hx=>by
   obtain⟨v,hv,rfl⟩:=mem_map.mp hx;exact⟨hv,rfl⟩) (st:=SortSt.mk' κ (vs.toArray.zip vs.toArray) #[] 7 none) rfl rfl rfl prs
   (Q:=fun _ st'=>∃p:List Nat,p.Perm (List.range vs.length)∧p.map (fun i=>zs.getD i [])=bg zs∧failedOf st'=none∧(arrOf st').map (·.2)=List.toArray (p.map fun i=>vs.getD i Value.none)) fun st' f1 f2 f3=>?_) (fun r s' hr=>?_) fun _ _ x=>x)
  ·obtain⟨ws,hw,ew⟩:=mx f2 vs rfl;obtain⟨p,hp,ep⟩:=mx hw (List.range vs.length) vr;refine⟨p,hp,?_,f1,?_⟩
   ·rw[zr p hp,←ep];refine dM ((hw.map tup).trans (.trans (.of_eq hz) (bf zs).symm)) ?_ (eF zs);rw[ew,List.pairwise_map] at f3;rw[List.pairwise_map];refine f3.imp_of_mem fun {x y} hx hy le=>?_
    have mz:tup y∈zs:=by rw[←hz];exact mem_map.mpr ⟨y,hw.subset hy,rfl⟩
    rw[tW mz];exact decide_eq_false (Int.not_lt.mpr le)
   ·apply Array.toList_inj.mp;rw[Array.toList_map,ew,map_map,←ep];exact map_id _
  ·obtain⟨⟨⟩,st'⟩:=r;obtain⟨rfl,p,p1,p2,p3,p4⟩:=hr;dsimp only at p3 p4 ⊢;rw[p4];refine wpAny_bind (seqEpoch_at ho6 rfl ?_);refine wpAny_bind (listUpdate_at ho6 rfl ?_ (Nat.zero_le _) (by rw[size_toArray,length_map,p1.length_eq,length_range];exact Nat.le_succ_of_le le));rw[p3];simp only[bne_self_eq_false,Bool.false_eq_true,if_false];exact wpAny_pure (h p _ _ p1 p2 (keep _) (get?_update_seq ho6 _))
theorem j8 {x:Value}{κ:SortKind}{Q:Value→Shared→Prop}(tup:Heap→Value→List Int)(hz:vs.map (tup s.heap)=zs)(hl:vs.length≤100000)
  (hcol:∀R:List Value→Shared→Prop,(∀(h':Heap) (tk:Nat),(∀b o,s.heap.get? b=some o→h'.get? b=some o)→s.heap.objs.size≤h'.objs.size→R vs {s with heap:=h',toks:=tk})→wpAny (model prog w) A.in1 (collect x) R E s)
  (hk:2≤vs.length→∀(s':Shared),(∀b o,s.heap.get? b=some o→s'.heap.get? b=some o)→∀Q:SortKind→Shared→Prop,Q κ s'→∀E,wpAny (model prog w) A.in1.in1 (keyKind' vs.toArray) Q E s')
  (hc:∀x∈vs,∀y∈vs,∀(s':Shared),(∀b o,s.heap.get? b=some o→s'.heap.get? b=some o)→∀C:Bool→Shared→Prop,C (HT.lexLt (tup s.heap x) (tup s.heap y)) s'→wpAny (model prog w) A.in1.in1 (keyLt' κ x y) C (fun _ _=>False) s')
  (h:∀(p:List Nat) (h':Heap) (tk l n':Nat),p.Perm (List.range vs.length)→p.map (fun i=>zs.getD i [])=bg zs→(∀b o,s.heap.get? b=some o→h'.get? b=some o)→s.heap.objs.size≤l→h'.get? l=some (seqObj "list" (List.toArray (p.map fun i=>vs.getD i Value.none)) n')→Q (.ref l) {s with heap:=h',toks:=tk}) :
  wpAny (model prog w) A (call (.builtin "sorted") [x]) Q E s:=by
 refine Calls.call_function_entry kind_sorted plain_sorted entry_sorted (args_sorted1 _) ?_;unfold Builtin.«sorted»;refine wpAny_bind (m:=checkCount "sorted" 1 1 _) (wpAny_pure ?_);refine wpAny_bind (hcol _ fun h1 tk keep1 hs1=>?_);refine wpAny_bind (wpAny_newList ?_ (by rw[sizeLine_eq];omega));have hoL:(h1.push (seqObj "list" vs.toArray 0)).get? h1.objs.size=some (seqObj "list" vs.toArray 0):=Heap.get?_push_size _ rfl;have keep2:∀b o,s.heap.get? b=some o→(h1.push (seqObj "list" vs.toArray 0)).get? b=some o:=fun b o e=>Heap.get?_push_of_some _ (keep1 b o e)
 have ne:∀b o,s.heap.get? b=some o→b≠h1.objs.size:=fun b o e=>Nat.ne_of_lt (Heap.lt_size (keep1 b o e))
 have keep3:∀b o,s.heap.get? b=some o→(lr (h1.push (seqObj "list" vs.toArray 0)) h1.objs.size vs).get? b=some o:=fun b o e=>
  Heap.get?_push_of_some _ (Heap.get?_push_of_some _ (by rw[Heap.get?_update_ne _ _ _ _ (ne b o e)];exact keep2 b o e))
 refine wpAny_bind (wpAny_holding (wpAny_call_entry slot_list_sort ⟨_,hoL,rfl⟩ entry_list_sort (lm (zs:=zs) (κ:=κ) (tup s.heap) hoL hz hl (fun h2 Q q=>hk h2 _ keep3 Q q _) (fun x hx y hy C q=>hc x hx y hy _ keep3 C q) fun p h3 n3 p1 p2 k3 g3=>⟨_,rfl,?_⟩) (args_list_sort _)));exact wpAny_pure ⟨_,rfl,h p h3 tk h1.objs.size n3 p1 p2 (fun b o e=>k3 b o (ne b o e) (keep2 b o e)) hs1 g3⟩
theorem mY {T:String}{r d:Addr}{n:Nat}{Pv:Nat→Value→Prop}{OK:Heap→Prop}{R:List Value→Shared→Prop}(K:KdlSrc prog w T r d n Pv OK)(hh:A.handled=none)(hok:OK s.heap)(hn:n≤sizeLine)
  (h:∀(h':Heap) (tk:Nat) (acc:Array Value),(∀b o,s.heap.get? b=some o→h'.get? b=some o)→s.heap.objs.size≤h'.objs.size→ItemsOf Pv acc n→R acc.toList {s with heap:=h',toks:=tk}) :
  wpAny (model prog w) A (collect (.ref r)) R E s:=by
 have hlt:=K.there _ hok;unfold collect;refine wpAny_bind (wpAny_runValue (codeAny_builtin entry_proto_collect' ?_));rw[Around.under_plainId PySem.F.plain_proto_collect _];show wpAny _ A.in1 (newList [] >>= fun l=>again (.builtin "list.__iadd__" ⟨[l,.ref r],[]⟩)) _ _ s;refine wpAny_bind (wpAny_newObj_type ?_);refine wpAny_pure ⟨plainId_quiet PySem.F.plain_list_iadd _,codeAny_builtin entry_list_iadd' ?_⟩;rw[Around.under_plainId PySem.F.plain_list_iadd _];have hS₁:(s.heap.push {cls:=.type "list",data:=.seq ([]:List Value).toArray}).get? s.heap.objs.size=some {cls:=.type "list",data:=.seq #[]}:=Heap.get?_push_size _ rfl;show wpAny _ A.in1 (Builtin.List.listExtendWith (.ref s.heap.objs.size) (.ref r) (.ref s.heap.objs.size)) _ _ _;have key:=kdl_extend (A:=A) (s:={s with heap:=s.heap.push {cls:=.type "list",data:=.seq ([]:List Value).toArray}})
  (R:=fun(q:Result) (s':Shared)=>∃(h':Heap) (tk:Nat) (acc':Array Value) (c':Nat),q=.ok (.ret (.ref s.heap.objs.size))∧s'={s with heap:=h',toks:=tk}∧
   (∀b o,s.heap.get? b=some o→h'.get? b=some o)∧h'.get? s.heap.objs.size=some {cls:=.type "list",dict:=none,data:=.seq acc' c',slots:=#[]}∧ItemsOf Pv acc' n)
  K hh (K.keep _ _ hok fun b _ o e=>Heap.get?_push_of_some _ e) s.heap.objs.size (Nat.ne_of_gt hlt.1) (Nat.ne_of_gt hlt.2) (.ref s.heap.objs.size) 0 hS₁
  (fun h' tk acc' c' hk hS' hacc=>⟨h',tk,acc',c',rfl,rfl,fun b o e=>hk b o (Nat.ne_of_lt (Heap.lt_size e)) (Heap.get?_push_of_some _ e),hS',hacc⟩) hn
 refine wpAny_mono key (fun fin s' x=>?_) fun e s' x=>?_
 ·cases fin with
  | done f=>
   obtain⟨h',tk,acc',c',e,rfl,hk,hS',hacc⟩:=x;cases e;show wpAny _ A (load s.heap.objs.size >>= _) _ _ _;exact wpAny_bind (wpAny_load hS' (wpAny_pure (h h' tk acc' hk (Nat.le_of_lt (Heap.lt_size hS')) hacc)))
  | again c₁=>
   refine⟨x.1,codeAny_mono x.2 fun q s₂ y=>?_⟩;obtain⟨h',tk,acc',c',rfl,rfl,hk,hS',hacc⟩:=y;show wpAny _ A (load s.heap.objs.size >>= _) _ _ _;exact wpAny_bind (wpAny_load hS' (wpAny_pure (h h' tk acc' hk (Nat.le_of_lt (Heap.lt_size hS')) hacc)))
 ·obtain⟨_,_,_,_,e',_⟩:=x;cases e'
def mn (h:Heap):Value→List Int
 | .int n _=>[n]
 | .ref b=>match h.get? b with
  | some o=>match o.data with
   | .seq xs _=>xs.toList.map numOf
   | _=>[]
  | none=>[]
 | _=>[]
theorem sK (h:IntsAre vs ns):vs.map numOf=ns:=by
 induction h with
 | nil=>rfl
 | cons n t h ih=>rw[map_cons,ih];rfl
theorem gV.tup {h:Heap}:∀{vs:List Value} {zs:List (List Int)},gV h vs zs→vs.map (mn h)=zs
 | [],[],_=>rfl
 | [],_::_,t=>t.elim
 | _::_,[],t=>t.elim
 | v::vs,z::zs,⟨⟨b,o,xs,k,e,g,c,d,r,_⟩,t⟩=>by
  rw[map_cons,t.tup];congr 1;subst e;show(match h.get? b with|some o=>(match o.data with | .seq xs _=>xs.toList.map numOf|_=>[])|none=>[])=z;rw[g];dsimp only;rw[d];exact sK r
theorem gV.mem {h:Heap}:∀{vs:List Value} {zs:List (List Int)} {v:Value},gV h vs zs→v∈vs→∃b o xs k,v=.ref b∧h.get? b=some o∧o.cls=.type "tuple"∧o.data=.seq xs k∧IntsAre xs.toList (mn h v)
 | [],_,v,_,q=>by cases q
 | _::_,[],_,t,_=>t.elim
 | u::vs,z::zs,v,t,q=>by
  rcases mem_cons.mp q with rfl|q
  ·have e:=gV.tup (vs:=[v]) (zs:=[z]) ⟨t.1,trivial⟩;obtain⟨⟨b,o,xs,k,e1,g,c,d,r,_⟩,_⟩:=t;have e:mn h v=z:=(List.cons.inj e).1;exact⟨b,o,xs,k,e1,g,c,d,by rw[e];exact r⟩
  ·exact t.2.mem q
theorem lN {x:Value}{Q:Value→Shared→Prop}(t:gV s.heap vs zs)(hl:vs.length≤100000)
  (hcol:∀R:List Value→Shared→Prop,(∀(h':Heap) (tk:Nat),(∀b o,s.heap.get? b=some o→h'.get? b=some o)→s.heap.objs.size≤h'.objs.size→R vs {s with heap:=h',toks:=tk})→wpAny (model prog w) A.in1 (collect x) R E s)
  (h:∀(p:List Nat) (h':Heap) (tk l n':Nat),p.Perm (List.range vs.length)→p.map (fun i=>zs.getD i [])=bg zs→(∀b o,s.heap.get? b=some o→h'.get? b=some o)→s.heap.objs.size≤l→h'.get? l=some (seqObj "list" (List.toArray (p.map fun i=>vs.getD i Value.none)) n')→Q (.ref l) {s with heap:=h',toks:=tk}) :
  wpAny (model prog w) A (call (.builtin "sorted") [x]) Q E s:=by
 refine j8 (κ:=tuples' true) mn t.tup hl hcol (fun h2 s' keep Q q E=>?_) (fun x hx y hy s' keep C q=>?_) h
 ·obtain⟨fs,kt,kl,kf⟩:=(t.keep keep).firsts;refine kat_kind (T:=.type "int") kt (by omega) (fun v hv=>?_) rfl q;obtain⟨m,tk,rfl⟩:=kf v hv;exact .now
 ·obtain⟨b,o,xs,k,rfl,g1,c1,d1,r1⟩:=t.mem hx;obtain⟨c,o2,ys,k2,rfl,g2,c2,d2,r2⟩:=t.mem hy;exact kat_lt (keep _ _ g1) d1 (keep _ _ g2) d2 (mF 0 r1 r2 (by rw[←r1.length,←r2.length];simp) q)
theorem gD {x:Value}{Q:Value→Shared→Prop}(t:IntsAre vs ns)(hl:vs.length≤100000)
  (hcol:∀R:List Value→Shared→Prop,(∀(h':Heap) (tk:Nat),(∀b o,s.heap.get? b=some o→h'.get? b=some o)→s.heap.objs.size≤h'.objs.size→R vs {s with heap:=h',toks:=tk})→wpAny (model prog w) A.in1 (collect x) R E s)
  (h:∀(p:List Nat) (h':Heap) (tk l n':Nat),p.Perm (List.range vs.length)→p.map (fun i=>(ns.map fun n=>[n]).getD i [])=bg (ns.map fun n=>[n])→(∀b o,s.heap.get? b=some o→h'.get? b=some o)→s.heap.objs.size≤l→h'.get? l=some (seqObj "list" (List.toArray (p.map fun i=>vs.getD i Value.none)) n')→Q (.ref l) {s with heap:=h',toks:=tk}) :
  wpAny (model prog w) A (call (.builtin "sorted") [x]) Q E s:=by
 have all:∀{vs:List Value} {ns:List Int},IntsAre vs ns→(∀v∈vs,∃n t,v=Value.int n t)∧vs.map (mn s.heap)=ns.map fun n=>[n]:=fun t=>by
  induction t with
  | nil=>exact⟨fun v hv=>(by cases hv),rfl⟩
  | cons n u t ih=>
   refine⟨fun v hv=>?_,by rw[map_cons,ih.2];rfl⟩;rcases mem_cons.mp hv with rfl|hv
   ·exact⟨n,u,rfl⟩
   ·exact ih.1 v hv
 obtain⟨a1,a2⟩:=all t;refine j8 (κ:=oneType') mn a2 hl hcol (fun h2 s' keep Q q E=>?_) (fun x hx y hy s' keep C q=>?_) h
 ·refine kas_kind (T:=.type "int") h2 (fun v hv=>?_) rfl rfl q;obtain⟨m,tk,rfl⟩:=a1 v hv;exact .now
 ·obtain⟨m,tk,rfl⟩:=a1 x hx;obtain⟨m2,tk2,rfl⟩:=a1 y hy;have e:HT.lexLt (mn s.heap (.int m tk)) (mn s.heap (.int m2 tk2))=decide (m<m2):=by
   show HT.lexLt [m] [m2]=_;rw[HT.lexLt_cons]
   by_cases z:m=m2
   ·rw[if_pos z,decide_eq_false (by omega)];rfl
   ·rw[if_neg z]
  rw[e] at q;rw[keyLt'_oneType];exact oneLt_int q
end
variable{us:List Value}
section
variable {prog:Program}{w:World}{A:Around}{E:Value→Shared→Prop}{s:Shared}
theorem mJ (h:IntsAre us ns):us.length=ns.length:=by
 induction h with
 | nil=>rfl
 | cons n t h ih=>rw[length_cons,length_cons,ih]
theorem kZ {d:Addr}{ep:Nat}{ws:List (bH×Value)}{Q:Value→Shared→Prop}(lo:(d==sysModules)=false)(hh:A.handled=none)(hm:s.heap.DictAt (aE prog w) d ws ep)(hk:ws.map (·.1)=ns.map Sum.inl)(hl:ns.length≤100000)
  (h:∀(vs:List Value),IntsAre vs ns→∀(p:List Nat) (h':Heap) (tk l n':Nat),p.Perm (List.range ns.length)→p.map (fun i=>(ns.map fun n=>[n]).getD i [])=bg (ns.map fun n=>[n])→(∀b o,s.heap.get? b=some o→h'.get? b=some o)→s.heap.objs.size≤l→h'.get? l=some (seqObj "list" (List.toArray (p.map fun i=>vs.getD i Value.none)) n')→Q (.ref l) {s with heap:=h',toks:=tk}) :
  wpAny (model prog w) A (call (.builtin "sorted") [.ref d]) Q E s:=by
 obtain⟨o,es,ho,hx,hd,hks,hpr,hn⟩:=hm;have el:∀{es:List DictEntry} {ws:List (bH×Value)} {ns:List Int},Pairs (aE prog w) es ws→ws.map (·.1)=ns.map Sum.inl→IntsAre (es.map (·.key)) ns:=by
  intro es ws ns q
  induction q generalizing ns with
  | nil=>intro e;cases ns with
   | nil=>exact .nil
   | cons _ _=>cases e
  | cons hq hv t ih=>
   intro e;cases ns with
   | nil=>cases e
   | cons n ns=>
    rw[map_cons,map_cons] at e;obtain⟨e1,e2⟩:=List.cons.inj e;rw[e1] at hq;rcases aM (show ii (Sum.inl n) _=true from hq) with⟨i,t',ei,ek⟩|⟨_,_,ex,_⟩
    ·cases ei;rw[map_cons,ek];exact .cons _ _ (ih e2)
    ·cases ex
 have ia:=el hpr hk;have li:=mJ ia;rw[length_map,Array.length_toList] at li;have raw:i5 s.heap d es ep:=⟨o,ho,hx,hd⟩;refine gD ia (by rw[length_map,Array.length_toList,li];exact hl) (fun R q=>mY (vn lo) hh raw (by rw[li,sizeLine_eq];omega) fun h' tk acc k1 k2 hacc=>?_) fun p h' tk l n' p1 p2=>h _ ia p h' tk l n' (by rw[length_map,Array.length_toList,li] at p1;exact p1) p2
 have e:acc.toList=es.toList.map (·.key):=by
  apply ext_getElem?;intro j;rw[Array.getElem?_toList,getElem?_map,Array.getElem?_toList]
  by_cases hj:j<acc.size
  ·obtain⟨e',he,hv⟩:=hacc.2 j _ (Array.getElem?_eq_getElem hj);rw[Array.getElem?_eq_getElem hj,hv,he];rfl
  ·rw[Array.getElem?_eq_none (by omega),Array.getElem?_eq_none (by rw[←hacc.1];omega)];rfl
 rw[e];exact q h' tk k1 k2
end
def bq (ns:List Int):List Int:=(bg (ns.map fun n=>[n])).map fun z=>z.headD 0
def kq {α:Type}:List (bH×α)→Option (List Int)
 | []=>some []
 | (.inl n,_)::r=>(kq r).map (n::·)
 | _=>none
def cZ:FD:=fun ds M=>match ds with
 | [.mr i]=>match M[i]? with
  | some (.dK kvs)=>match kq kvs with
   | some ns=>if ns.length≤100000 then .ok (.lst ((bq ns).map D.int)) M else .bad
   | none=>.bad
  | some (.lst xs)=>match kK xs with
   | some ns=>if ns.length≤100000 then .ok (.lst ((bq ns).map D.int)) M else .bad
   | none=>match fz xs with
    | some zs=>if zs.length≤100000 then .ok (.lst ((bg zs).map ax)) M else .bad
    | none=>.bad
  | _=>.bad
 | [.lst xs]=>match kK xs with
  | some ns=>if ns.length≤100000 then .ok (.lst ((bq ns).map D.int)) M else .bad
  | none=>match fz xs with
   | some zs=>if zs.length≤100000 then .ok (.lst ((bg zs).map ax)) M else .bad
   | none=>.bad
 | _=>.bad
def wu (xs:List D)(M:aq):aN D:=match kK xs with
 | some ns=>if ns.length≤100000 then .ok (.lst ((bq ns).map D.int)) M else .bad
 | none=>match fz xs with
  | some zs=>if zs.length≤100000 then .ok (.lst ((bg zs).map ax)) M else .bad
  | none=>.bad
section
variable {X:Cx}{aa:List (Addr×Obj)}{σ:L2.St}{H:Hp}{s:Shared}{θ:List Addr}
theorem jI:∀{ns:List Int} {us:List Value},aC (ns.map V.int) us→IntsAre us ns
 | [],_,r=>by rw[map_nil] at r;cases r;exact .nil
 | n::ns,_,r=>by
  rw[map_cons] at r;cases r with
  | cons h t=>
   obtain⟨tk,rfl⟩:=(show∃t,_=Value.int n t from h);exact .cons n tk (jI t)
theorem o4 (h:IntsAre us ns):∀i,i<ns.length→RelV (V.int (ns.getD i 0)) (us.getD i Value.none):=by
 induction h with
 | nil=>intro i hi;cases hi
 | cons n t h ih=>
  intro i hi;cases i with
  | zero=>exact⟨t,rfl⟩
  | succ i=>exact ih i (by simpa using hi)
theorem fZ {p:List Nat}(hp:p.Perm (List.range ns.length))(e:p.map (fun i=>(ns.map fun n=>[n]).getD i [])=bg (ns.map fun n=>[n])):p.map (fun i=>ns.getD i 0)=bq ns:=by
 unfold bq;rw[←e,map_map];refine map_congr_left fun i hi=>?_
 have hi:=mem_range.mp (hp.subset hi);show ns.getD i 0=((ns.map fun n=>[n]).getD i []).headD 0;rw[getD_eq_getElem?_getD,getD_eq_getElem?_getD,getElem?_map,getElem?_eq_getElem hi];rfl
theorem fH {Q:VK}{M:aq}{h':Heap}{tk l n':Nat}{vs:List V}{out:List Value}{ds:List D}(I:L2.Inv X aa σ H s)(hw:Wr X.K θ H M)(hk:∀b o,s.heap.get? b=some o→h'.get? b=some o)(hl:s.heap.objs.size≤l)(hg:h'.get? l=some (seqObj "list" (List.toArray out) n'))(hv:aC vs out)(hz:vs.length≤sizeLine)(hd:isDs X.K θ H ds vs)
  (h:aA X θ H Q (.ok (.lst ds) M)):∃x H',L2.Inv X aa σ H' {s with heap:=h',toks:=tk}∧RelV x (.ref l)∧Q x H':=by
 have fr:=I.hok.fresh hl;exact⟨.ref l,_,I.laid (t':=tk) hk hl (show aV X.prog X.w _ _ _ (.lst vs) from⟨hz,out,n',hv,hg⟩),rfl,h _ θ _ (bX hw fr) (dP hw fr hd)⟩
theorem jG {Q:VK}{M:aq}{a:Addr}{ys:List D}{vs:List V}{u:Value}(I:L2.Inv X aa σ H s)(hw:Wr X.K θ H M)(ta:H a=some (.lst vs))(ra:isDs X.K θ H ys vs)(hu:u=.ref a)(h:aA X θ H Q (wu ys M)) :
  wpAny (model X.prog X.w) X.A (call (.builtin "sorted") [u]) (fun v s'=>∃x H',L2.Inv X aa σ H' s'∧RelV x v∧Q x H') X.xe s:=by
 subst hu;obtain⟨its,r',pl,hz⟩:=I.list (show gT X.K H a vs from .inl (.inl ta));have col:∀(A:Around) (E:Value→Shared→Prop) (R:List Value→Shared→Prop),(∀(h':Heap) (tk:Nat),(∀b o,s.heap.get? b=some o→h'.get? b=some o)→s.heap.objs.size≤h'.objs.size→R its {s with heap:=h',toks:=tk})→wpAny (model X.prog X.w) A (collect (.ref a)) R E s:=fun A E R q=>by
  refine collect_list pl.isList (q _ s.toks (fun b o e=>?_) (by rw[Heap.size_update,size_push'];exact Nat.le_succ _)) (by rw[←r'.length];exact hz);have hb:b≠s.heap.objs.size:=Nat.ne_of_lt (Heap.lt_size e);rw[Heap.get?_update_ne _ _ _ _ hb];exact Heap.get?_push_of_some _ e
 unfold wu at h;split at h
 ·rename_i ns qn;split at h
  ·rename_i hl;have ev:=qU qn ra;subst ev;have ia:=jI r';have li:=mJ ia;refine gD ia (by rw[li];exact hl) (col _ _) fun p h' tk l n' p1 p2 k hll g=>?_
   rw[li] at p1;have inR:∀i∈p,i<ns.length:=fun i hi=>mem_range.mp (p1.subset hi)
   refine fH (vs:=(bq ns).map V.int) I hw k hll g ?_ (by rw[←fZ p1 p2,length_map,length_map,p1.length_eq,length_range,sizeLine_eq];omega) (fe _) h;rw[←fZ p1 p2,map_map];exact fh _ fun i hi=>o4 ia i (inR i hi)
  ·exact h.elim
 ·split at h
  ·rename_i zs qz;split at h
   ·rename_i hl;obtain⟨T,lz,f⟩:=mZ I qz ra r';refine lN T (by rw[lz];exact hl) (col _ _) fun p h' tk l n' p1 p2 k hll g=>?_
    rw[lz] at p1;have inR:∀i∈p,i<zs.length:=fun i hi=>mem_range.mp (p1.subset hi)
    refine fH (vs:=p.map fun i=>vs.getD i V.non) I hw k hll g (fh _ fun i hi=>(f i (inR i hi)).2) (by rw[length_map,p1.length_eq,length_range,sizeLine_eq];omega) ?_ h;rw[←p2,map_map];exact j9 _ fun i hi=>(f i (inR i hi)).1
   ·exact h.elim
  ·exact h.elim
theorem kB {K:W.Frag}{κ:Type}:∀{kvs:List (κ×D)} {vs:List (κ×V)},isKs K θ H kvs vs→kvs.map (·.1)=vs.map (·.1)
 | [],vs,r=>by
  have e:vs=[]:=r;subst e;rfl
 | (k,d)::kvs,vs,r=>by
  obtain⟨v,r',e,_,h2⟩:=r;subst e;rw[map_cons,map_cons,kB h2]
theorem rA {kvs:List (bH×D)}:∀{ns:List Int},kq kvs=some ns→kvs.map (·.1)=ns.map Sum.inl:=by
 induction kvs with
 | nil=>intro ns e;cases e;rfl
 | cons p r ih=>
  intro ns e;obtain⟨k,d⟩:=p;cases k with
  | inl n=>
   obtain⟨ms,e1,rfl⟩:=Option.map_eq_some_iff.mp (show(kq r).map (n::·)=some ns from e);rw[map_cons,ih e1];rfl
  | inr x=>cases e
theorem rQ (hc:X.calm=true):cb X (.builtin "sorted") (rC X cZ):=by
 intro aa s σ H xs us Q I r h;obtain⟨θ,M,ds,hw,rd,h⟩:=h;unfold cZ at h;split at h
 ·rename_i i;obtain⟨v,e,a,ea,ta⟩:=fR rd;subst e ea;obtain⟨u,rfl,rx⟩:=jE r;have rx:u=.ref a:=rx;split at h
  ·rename_i kvs qm;split at h
   ·rename_i ns qn;split at h
    ·rename_i hl;subst rx;obtain⟨vs,hv,ra⟩:=hw.at_ i a _ ta qm;obtain⟨z,lo,ws,rel,hd⟩:=(show aV X.prog X.w H s.heap a (.dK vs) from I.hok a _ hv);obtain⟨ep,hat⟩:=hd.dictAt;have kk:ws.map (·.1)=ns.map Sum.inl:=by rw[←rel.keys,←kB ra];exact rA qn
     have lw:ws.length=ns.length:=by rw[←length_map (f:=(·.1)),kk,length_map]
     refine wpAny_mono (kZ lo (show X.A.handled=none from I.ok.hd hc) hat kk (by omega) fun vs2 ia p h' tk l n' p1 p2 k hll g=>?_) (fun _ _ x=>x) (fun _ _ x=>x);have inR:∀i∈p,i<ns.length:=fun i hi=>mem_range.mp (p1.subset hi)
     refine fH (vs:=(bq ns).map V.int) I hw k hll g ?_ (by rw[←fZ p1 p2,length_map,length_map,p1.length_eq,length_range,sizeLine_eq];omega) (fe _) h;rw[←fZ p1 p2,map_map];exact fh _ fun i hi=>o4 ia i (inR i hi)
    ·exact h.elim
   ·exact h.elim
  ·rename_i ys qm;obtain⟨vs,hv,ra⟩:=hw.at_ i a _ ta qm;exact jG I hw hv ra rx h
  ·exact h.elim
 ·rename_i ys;obtain⟨v,e,a,vs,ea,ta,ra⟩:=fR rd;subst e ea;obtain⟨u,rfl,rx⟩:=jE r;exact jG I hw ta.1 ra rx h
 ·exact h.elim
theorem vN (hc:X.calm=true):QC X (.builtin "sorted") cZ:=⟨rQ hc⟩
end
end DL
namespace DL
open PySem PySem.Spec PyProof.Rows L2 List
def CA (d:Addr)(o:Obj)(vs:List (bH×V)):It:=
 ⟨fun i H=>H d=some (.frz o (.dK vs))∧i<vs.length,fun i H x H'=>∃p k v,H p=none∧vs[i]?=some (k,v)∧H'=bi H p (.tup [kV k,v])∧x=.ref p,fun i H=>H d=some (.frz o (.dK vs))∧vs.length≤i⟩
section
variable {X:Cx}{aa:List (Addr×Obj)}{σ:L2.St}{H:Hp}{s:Shared}
theorem vY {d:Addr}{vs:List (bH×V)}{o:Obj}(I:L2.Inv X aa σ H s)(h:H d=some (.dK vs))(ho:s.heap.get? d=some o):L2.Inv X aa σ (bi H d (.frz o (.dK vs))) s:=by
 have nd:∀{b:Addr} {u:HO},H b=some u→(∀ws,u≠.dK ws)→b≠d:=fun {b u} e n z=>by
  rw[z,h] at e;cases e;exact n _ rfl
 refine I.un (h':=s.heap) (t':=s.toks) ⟨fun b o q _ _ _=>q,fun b o q _ _ _=>⟨o.slots,q⟩,fun b o q n _=>?_,fun b o q _=>⟨o,q⟩,fun b xs e=>?_,fun b o u e=>?_,fun b ps e=>⟨#[],?_⟩⟩ fun a u e=>?_
 ·rw[aj (fun z=>by rw[z,h] at n;cases n)];exact n
 ·rw[aj (nd e (by intro _ z;cases z))];exact e
 ·rw[aj (nd e (by intro _ z;cases z))];exact e
 ·rw[aj (nd e (by intro _ z;cases z)),e];simp
 ·by_cases z:a=d
  ·subst z;rw[aT] at e;cases e;exact⟨ho,(show aV X.prog X.w H s.heap a (.dK vs) from I.hok a _ h)⟩
  ·rw[aj z] at e;refine(I.hok a u e).stay (fun c v _ q=>q) (fun c q=>?_) fun c xs q=>?_
   ·rw[aj (nd q (by intro _ z;cases z))];exact q
   ·rw[aj (nd q (by intro _ z;cases z))];exact q
end
theorem yz {kvs:List (bH×V)}{ws:List (bH×Value)}(r:KV kvs ws):∀{i:Nat} {k:bH} {v:V},kvs[i]?=some (k,v)→∃u,ws[i]?=some (k,u)∧RelV v u:=by
 unfold KV at r
 induction r with
 | nil=>intro i k v e;cases e
 | @cons p q ps qs h t ih=>
  intro i k v e;cases i with
  | zero=>
   cases e;obtain⟨k',u⟩:=q;obtain⟨h1,h2⟩:=h;have h1:k=k':=h1;subst h1;exact⟨u,rfl,h2⟩
  | succ i=>exact ih e
theorem vZ {prog:Program}{w:World}{k:bH}{u:Value}(h:(aE prog w).is k u=true):RelV (kV k) u:=by
 rcases aM (show ii k u=true from h) with⟨i,t,rfl,rfl⟩|⟨x,t,rfl,rfl⟩
 ·exact⟨t,rfl⟩
 ·exact⟨t,rfl⟩
variable{es:List Expr}
theorem nN {P:Program}{w:World}{K:W.Frag}{kt:Nat}{pos:Pos}(d it:Addr)(o:Obj)(vs:List (bH×V))(ents:Array DictEntry)(ep:Nat)(hne:d≠it)(ho:o.data=.dict ents ep) :
  TurnF P w K (.Tuple es kt pos) (CA d o vs) [it] it (fun i h=>∃ok ov,IsItemIter h it d i vs.length ep ok ov) where
 mem:=by simp
 obj:=fun i h st c hc=>by
  obtain⟨ok,ov,he⟩:=st;rw[mem_singleton.mp hc];exact⟨_,he,fun v z=>by cases z⟩
 keep:=fun i h h' st k=>st.imp fun ok x=>x.imp fun ov he=>k it (by simp) _ he
 item:=by
  intro X hP hw hK hc i aa s σ H E I hf st hg;subst hP hw hK;obtain⟨ok,ov,he⟩:=st;obtain⟨hd,hi⟩:=hg;obtain⟨g,z,lo,ws,rel,o2,es2,ep2,h2,h3,h4,h5,h6,h7⟩:=(show aV X.prog X.w H s.heap d (.frz o (.dK vs)) from I.hok d _ hd);rw[g] at h2;cases h2;rw[ho] at h4;cases h4;have hat:s.heap.DictAt (aE X.prog X.w) d ws ep:=⟨o,ents,g,h3,ho,h5,h6,h7⟩;obtain⟨k,v,hx⟩:∃k v,vs[i]?=some (k,v):=⟨_,_,getElem?_eq_getElem hi⟩;obtain⟨u,hu,ru⟩:=yz rel hx;have hel:it<s.heap.objs.size:=Heap.lt_size he;have he':IsItemIter s.heap it d i ws.length ep ok ov:=by rw[←rel.length];exact he
  refine wpAny_pyNext_items_item he' hat hu fun key h' hkey hout hT hsz hk=>⟨_,rfl,?_⟩
  refine wpAny_letOwnedTupleGo_items hout fun h2 he2 hs2=>?_
  have hT2:h2.get? s.heap.objs.size=some {cls:=.type "tuple",data:=.seq #[key,u]}:=(hs2.2 _ (Nat.ne_of_gt hel)).trans hT;have fr:H s.heap.objs.size=none:=I.hok.fresh (Nat.le_refl _);have new:aV X.prog X.w (bi H s.heap.objs.size (.tup [kV k,v])) h2 s.heap.objs.size (.tup [kV k,v]):=
   ⟨Nat.le_trans (by decide:2≤1000) (by rw[sizeLine_eq];decide),[key,u],.cons (vZ hkey) (.cons ru .nil),⟨_,hT2,rfl,_,rfl⟩⟩
  have I2:=lI (t':=s.toks) I hf (fun c o hc q=>(hs2.2 c (fun z=>hc (by simp[z]))).trans (hk c o (fun z=>hc (by simp[z])) q)) (Nat.le_refl _) new;refine⟨.ref s.heap.objs.size,_,I2,rfl,⟨_,k,v,fr,hx,rfl,rfl⟩,⟨key,u,by rw[rel.length];exact he2⟩,fun c hc=>?_⟩;rw[mem_singleton.mp hc,aj (Nat.ne_of_lt hel)];exact(hf it (by simp)).1
 done:=by
  intro X hP hw hK hc i aa s σ H E I hf st hg;subst hP hw hK;obtain⟨ok,ov,he⟩:=st;obtain⟨hd,hi⟩:=hg;obtain⟨g,z,lo,ws,rel,o2,es2,ep2,h2,h3,h4,h5,h6,h7⟩:=(show aV X.prog X.w H s.heap d (.frz o (.dK vs)) from I.hok d _ hd);rw[g] at h2;cases h2;rw[ho] at h4;cases h4;have hat:s.heap.DictAt (aE X.prog X.w) d ws ep:=⟨o,ents,g,h3,ho,h5,h6,h7⟩;have he':IsItemIter s.heap it d i ws.length ep ok ov:=by rw[←rel.length];exact he
  exact wpAny_pyNext_items_end (show X.A.handled=none from I.ok.hd hc) he' hat (getElem?_eq_none (by rw[←rel.length];exact hi)) fun h' hb=>
   ⟨rfl,qA (t':=s.toks) I hf fun c o hc q=>hb c o (fun z=>hc (by simp[z])) q⟩
variable{X:Cx}{e:Expr}
theorem sH {es:List Expr}{kt:Nat}{tp:Pos}{te:TE}{apos cpos:Pos}(he:PE X e te)(hbase:attributeBase e "items" X.env (eval e X.env)=eval e X.env:=by rfl)(hline:(apos.endLine==cpos.line)=true:=by rfl) :
  An X (.Tuple es kt tp) (.Call (.Attribute e "items" apos) [] [] cpos) (fun σ H R=>te σ H fun x H1=>∃d vs,x=.ref d∧H1 d=some (.dK vs)∧∀o,R (CA d o vs) (bi H1 d (.frz o (.dK vs)))):=by
 intro aa s σ H R I h;refine wpAny_Call_method0_late hbase hline (b8 (he aa s σ H _ I h) fun v s1 hxx=>?_);obtain⟨x,H1,I1,r1,d,vs,rfl,hd,q1⟩:=hxx;have r1:v=.ref d:=r1;subst r1;obtain⟨z,lo,ws,rel,hof⟩:=(show aV X.prog X.w H1 s1.heap d (.dK vs) from I1.hok d _ hd);obtain⟨o,ents,ep,g,h3,h4,h5,h6,h7⟩:=id hof;refine⟨"dict","dict.items",PySem.F.plainAttrs_dict,PySem.F.slot_dict_items,PySem.F.type_dict_items,hof.typeIs,fun b eb=>by cases eb;exact⟨o,g,h3.2.1⟩,Calls.callWith_builtin rfl (PySem.evalArgs_none ?_)⟩;refine call_meetsIn PySem.F.slot_dict_items hof.typeIs PySem.F.entry_dict_items (PySem.F.args_dict_items_1 _) (meets_dict_items (aE X.prog X.w) d lo) ⟨⟨ws,hof⟩,?_⟩;have hat:(s1.heap.push {cls:=.type "dict_items",data:=.fields #[.ref d]}).DictAt (aE X.prog X.w) d ws ep:=Heap.DictAt.push ⟨o,ents,g,h3,h4,h5,h6,h7⟩ _;refine wpAny_pyIter_items (s:={s1 with heap:=s1.heap.push {cls:=.type "dict_items",data:=.fields #[.ref d]}}) ⟨_,Heap.get?_push_size _ rfl,rfl,rfl⟩ hat ?_;have I2:=vY I1 hd g;have hlt:d<s1.heap.objs.size:=Heap.lt_size g;have I3:=I2.kept (h':=(s1.heap.push {cls:=.type "dict_items",data:=.fields #[.ref d]}).push {cls:=.type "dict_itemiterator",data:=.fields #[.none,.bool false,.ref d,.int 0 0,.int ws.length 0,.int ep 0,.none,.none]}) (t':=s1.toks) fun b u e=>Heap.get?_push_of_some _ (Heap.get?_push_of_some _ e)
 have sz:(s1.heap.push {cls:=.type "dict_items",data:=.fields #[.ref d]}).objs.size=s1.heap.objs.size+1:=Heap.size_push ..;refine⟨_,[_],_,_,_,rfl,I3,nN d _ o vs ents ep (by rw[sz];exact Nat.ne_of_lt (Nat.lt_succ_of_lt hlt)) h4,⟨.none,.none,by rw[rel.length];exact Heap.get?_push_size _ rfl⟩,fun b hb=>?_,q1 o⟩;have hb:b=(s1.heap.push {cls:=.type "dict_items",data:=.fields #[.ref d]}).objs.size:=mem_singleton.mp hb;have le:s1.heap.objs.size≤b:=by rw[hb,sz];exact Nat.le_succ _
 exact I2.fpOk le (I2.hok.fresh le)
def qp:D→D
 | .mr j=>.mr (j-1)
 | d=>d
def Ce (i:Nat):D→Bool
 | .mr j=>decide (i<j)
 | d=>aJ 30 d
def BG (kvs:List (bH×D)):List D:=kvs.map fun p=>.tup [xr p.1,qp p.2]
def xp (n:Nat)(x:D)(M:aq):aN jP:=match x with
 | .mr i=>match M[i]? with
  | some (.dK kvs)=>if n≤i∧(M.take i).all (nX i)=true∧(M.drop (i+1)).all cf=true∧kvs.all (fun p=>Ce i p.2)=true then .ok ⟨BG kvs,none⟩ (M.eraseIdx i) else .bad
  | _=>.bad
 | _=>.bad
def iX (g:GE):GI:=fun ρ M=>(g ρ M).bind (xp M.length)
variable{b:Addr}
section
variable {K:W.Frag}{θ:List Addr}{H:Hp}{M:aq}{i:Nat}{a:Addr}{o:Obj}{ws:List (bH×V)}
theorem jr {l:List Addr}(hn:l.Nodup){i:Nat}{a:Addr}(h:l[i]?=some a):a∉l.eraseIdx i:=fun z=>by
 obtain⟨j,hj,e⟩:=getElem_of_mem z;have e2:(l.eraseIdx i)[j]?=some a:=by rw[getElem?_eq_getElem hj,e]
 rw[List.getElem?_eraseIdx] at e2;obtain⟨hi,ei⟩:=List.getElem?_eq_some_iff.mp h;split at e2
 ·obtain⟨h1,e1⟩:=List.getElem?_eq_some_iff.mp e2;have:=(getElem_inj hn).mp (e1.trans ei.symm);omega
 ·obtain⟨h1,e1⟩:=List.getElem?_eq_some_iff.mp e2;have:=(getElem_inj hn).mp (e1.trans ei.symm);omega
structure iE (θ:List Addr)(H:Hp)(i:Nat)(a:Addr)(o:Obj)(ws:List (bH×V)):Prop where
 at_:θ[i]?=some a
 dict:H a=some (.dK ws)
theorem iE.ne (p:iE θ H i a o ws){u:HO}(e:H b=some u)(n:∀ws,u≠.dK ws):bi H a (.frz o (.dK ws)) b=some u:=by
 rw[aj (fun z=>by rw[z,p.dict] at e;cases e;exact n _ rfl)];exact e
theorem iE.nin (p:iE θ H i a o ws)(n:b∉θ):b∉θ.eraseIdx i:=fun z=>n (List.mem_of_mem_eraseIdx z)
theorem iE.ro (p:iE θ H i a o ws){xs:List V}(h:jz K θ H b xs):jz K (θ.eraseIdx i) (bi H a (.frz o (.dK ws))) b xs:=by
 rcases h with⟨h|⟨o',h⟩,n⟩|h
 ·exact .inl ⟨.inl (p.ne h (by intro _ z;cases z)),p.nin n⟩
 ·exact .inl ⟨.inr ⟨o',p.ne h (by intro _ z;cases z)⟩,p.nin n⟩
 ·exact .inr h
theorem iE.isD (p:iE θ H i a o ws):∀(f:Nat) (d:D) (v:V),dw i f d=true→isD K θ H d v→isD K (θ.eraseIdx i) (bi H a (.frz o (.dK ws))) d v
 | 0,d,v,hb,_=>by cases hb
 | f+1,d,v,hb,h=>by
  have all:∀(ds:List D) (vs:List V),ds.all (dw i f)=true→isDs K θ H ds vs→isDs K (θ.eraseIdx i) (bi H a (.frz o (.dK ws))) ds vs:=fun ds=>by
   induction ds with
   | nil=>intro vs _ h;exact h
   | cons d ds ih=>
    intro vs hb h;rw[all_cons,Bool.and_eq_true] at hb;obtain⟨v,r,e,h1,h2⟩:=h;exact⟨v,r,e,p.isD f d v hb.1 h1,ih r hb.2 h2⟩
  cases d with
  | tup ds=>
   obtain⟨b,vs,e,t,r⟩:=h;exact⟨b,vs,e,⟨p.ne t.1 (by intro _ z;cases z),p.nin t.2⟩,all ds vs hb r⟩
  | lst ds=>
   obtain⟨b,vs,e,t,r⟩:=h;exact⟨b,vs,e,⟨p.ne t.1 (by intro _ z;cases z),p.nin t.2⟩,all ds vs hb r⟩
  | ro ds=>
   obtain⟨b,vs,e,t,r⟩:=h;exact⟨b,vs,e,p.ro t,all ds vs hb r⟩
  | mr j=>
   obtain⟨b,e,t⟩:=h;have hj:j<i:=of_decide_eq_true hb;exact⟨b,e,by rw[List.getElem?_eraseIdx,if_pos hj];exact t⟩
  | exc c=>
   obtain⟨b,C,e,k,t,n⟩:=h;exact⟨b,C,e,k,p.ne t (by intro _ z;cases z),p.nin n⟩
  | _=>exact h
theorem iE.isDs (p:iE θ H i a o ws):∀(ds:List D) (vs:List V),ds.all (dw i 30)=true→isDs K θ H ds vs→isDs K (θ.eraseIdx i) (bi H a (.frz o (.dK ws))) ds vs
 | [],vs,_,h=>h
 | d::ds,vs,hb,h=>by
  rw[all_cons,Bool.and_eq_true] at hb;obtain⟨v,r,e,h1,h2⟩:=h;exact⟨v,r,e,p.isD 30 d v hb.1 h1,p.isDs ds r hb.2 h2⟩
theorem iE.isKs {κ:Type}(p:iE θ H i a o ws):∀{ds:List (κ×D)} {vs:List (κ×V)},ds.all (fun q=>dw i 30 q.2)=true→isKs K θ H ds vs→isKs K (θ.eraseIdx i) (bi H a (.frz o (.dK ws))) ds vs
 | [],vs,_,h=>h
 | (k,d)::ds,vs,hb,h=>by
  rw[all_cons,Bool.and_eq_true] at hb;obtain⟨v,r,e,h1,h2⟩:=h;exact⟨v,r,e,p.isD 30 d v hb.1 h1,p.isKs hb.2 h2⟩
theorem iE.isFs (p:iE θ H i a o ws):∀{ds:List (Str×D)} {vs:List (Str×V)},ds.all (fun q=>dw i 30 q.2)=true→isFs K θ H ds vs→isFs K (θ.eraseIdx i) (bi H a (.frz o (.dK ws))) ds vs
 | [],vs,_,h=>h
 | (k,d)::ds,vs,hb,h=>by
  rw[all_cons,Bool.and_eq_true] at hb;obtain⟨v,r,e,h1,h2⟩:=h;exact⟨v,r,e,p.isD 30 d v hb.1 h1,p.isFs hb.2 h2⟩
theorem iE.mo (p:iE θ H i a o ws){m:MO}(hb:nX i m=true)(hn:b≠a)(h:iJ K θ H m b):iJ K (θ.eraseIdx i) (bi H a (.frz o (.dK ws))) m b:=by
 cases m with
 | lst ds=>
  obtain⟨vs,e,r⟩:=h;exact⟨vs,by rw[aj hn];exact e,p.isDs ds vs hb r⟩
 | obj c fs=>
  obtain⟨C,dx,vs,k,e,r⟩:=h;exact⟨C,dx,vs,k,by rw[aj hn];exact e,p.isFs hb r⟩
 | dK kvs=>
  obtain⟨vs,e,r⟩:=h;exact⟨vs,by rw[aj hn];exact e,p.isKs hb r⟩
 | dT kvs=>
  obtain⟨vs,e,r⟩:=h;exact⟨vs,by rw[aj hn];exact e,p.isKs hb r⟩
theorem iE.wr (p:iE θ H i a o ws)(w:Wr K θ H M)(h1:(M.take i).all (nX i)=true)(h2:(M.drop (i+1)).all cf=true):Wr K (θ.eraseIdx i) (bi H a (.frz o (.dK ws))) (M.eraseIdx i):=by
 have hi:i<θ.length:=(List.getElem?_eq_some_iff.mp p.at_).1;have hm:i<M.length:=by rw[←w.len];exact hi
 refine⟨by rw[List.length_eraseIdx,List.length_eraseIdx,if_pos hi,if_pos hm,w.len],w.nd.eraseIdx i,fun j b m e1 e2=>?_,w.tb.at_ p.dict rfl⟩;have hb:b≠a:=fun z=>jr w.nd p.at_ (by rw[←z];exact mem_of_getElem? e1)
 rw[List.getElem?_eraseIdx] at e1 e2
 by_cases hj:j<i
 ·rw[if_pos hj] at e1 e2;refine p.mo (all_eq_true.mp h1 m (mem_of_getElem? (i:=j) ?_)) hb (w.at_ j b m e1 e2);rw[getElem?_take,if_pos hj];exact e2
 ·rw[if_neg hj] at e1 e2;refine p.mo (gQ (all_eq_true.mp h2 m (mem_of_getElem? (i:=j-i) ?_))) hb (w.at_ (j+1) b m e1 e2);rw[getElem?_drop,show i+1+(j-i)=j+1 by omega];exact e2
theorem iE.go {θ0:List Addr}{H0:Hp}(p:iE θ H i a o ws)(g:Go K θ0 H0 θ H M)(hn:θ0.length≤i)(h1:(M.take i).all (nX i)=true)(h2:(M.drop (i+1)).all cf=true):Go K θ0 H0 (θ.eraseIdx i) (bi H a (.frz o (.dK ws))) (M.eraseIdx i):=by
 obtain⟨more,e,hm⟩:=g.ext;have am:a∈more:=by
  have:=p.at_;rw[e,getElem?_append_right hn] at this;exact mem_of_getElem? this
 refine⟨⟨⟨more.eraseIdx (i-θ0.length),by rw[e,List.eraseIdx_append_of_length_le hn],fun b hb=>hm b (List.mem_of_mem_eraseIdx hb)⟩,fun b u h n t=>?_,fun b ps h=>?_⟩,p.wr g.wr h1 h2⟩
 ·rw[aj (fun z=>by rw[z,hm a am] at h;cases h)];exact g.keep b u h n t
 ·obtain⟨ps',h'⟩:=g.tkeep b ps h;exact⟨ps',p.ne h' (by intro _ z;cases z)⟩
theorem mG {κ:Type}:∀{kvs:List (κ×D)} {vs:List (κ×V)},isKs K θ H kvs vs→∀{j:Nat} {k:κ} {d:D},kvs[j]?=some (k,d)→∃v,vs[j]?=some (k,v)∧isD K θ H d v
 | [],vs,_,j,k,d,e=>by cases e
 | (k0,d0)::kvs,vs,h,j,k,d,e=>by
  obtain⟨v,r,e1,h1,h2⟩:=h;subst e1;cases j with
  | zero=>cases e;exact⟨v,rfl,h1⟩
  | succ j=>exact mG h2 e
theorem iE.val (p:iE θ H i a o ws){d:D}{v:V}(ho:Ce i d=true)(h:DL.isD K θ H d v):DL.isD K (θ.eraseIdx i) (bi H a (.frz o (.dK ws))) (qp d) v:=by
 have rest:aJ 30 d=true→qp d=d→DL.isD K (θ.eraseIdx i) (bi H a (.frz o (.dK ws))) (qp d) v:=fun hp e=>by
  rw[e];exact p.isD 30 d v (cw 30 d hp) h
 cases d with
 | mr j=>
  have hj:i<j:=of_decide_eq_true ho;obtain⟨b,e,t⟩:=h;exact⟨b,e,by rw[List.getElem?_eraseIdx,if_neg (by omega),show j-1+1=j by omega];exact t⟩
 | _=>exact rest ho rfl
theorem iE.itd (p:iE θ H i a o ws)(w:Wr K θ H M){kvs:List (bH×D)}(r:DL.isKs K θ H kvs ws)(ho:kvs.all (fun q=>Ce i q.2)=true):wN K (CA a o ws) (θ.eraseIdx i) (bi H a (.frz o (.dK ws))) ⟨BG kvs,none⟩:=by
 intro θ1 H1 M1 g _ j;have hz:H1 a=some (.frz o (.dK ws)):=g.keep a _ aT (jr w.nd p.at_) (by intro _ z;cases z);refine⟨fun dd e=>?_,fun hl=>⟨hz,by rw[←dn r];unfold BG at hl;rw[length_map] at hl;exact hl⟩⟩;have e:(kvs.map fun q=>D.tup [xr q.1,qp q.2])[j]?=some dd:=e;rw[getElem?_map] at e;obtain⟨⟨k,d⟩,ek,rfl⟩:=Option.map_eq_some_iff.mp e;obtain⟨v,ev,rv⟩:=mG r ek;have rv':=(p.val (all_eq_true.mp ho _ (mem_of_getElem? ek)) rv).go g;refine⟨⟨hz,(List.getElem?_eq_some_iff.mp ev).1⟩,fun x H2 y=>?_⟩;obtain⟨q,k',v',np,e2,eH,ex⟩:=y;rw[ev] at e2;cases e2;subst eH ex;exact⟨bX g.wr np,dZ (ds:=[xr k,qp d]) g.wr np ⟨_,_,rfl,by cases k <;> exact rfl,_,_,rfl,rv',rfl⟩⟩
end
theorem rY {es:List Expr}{kt:Nat}{tp:Pos}{g:GE}{apos cpos:Pos}(he:PE X e (tE X g))(hbase:attributeBase e "items" X.env (eval e X.env)=eval e X.env:=by rfl)(hline:(apos.endLine==cpos.line)=true:=by rfl) :
  An X (.Tuple es kt tp) (.Call (.Attribute e "items" apos) [] [] cpos) (tI X (iX g)):=by
 intro aa s σ H R I h;refine sH he hbase hline aa s σ H R I ?_;obtain⟨ρ,θ,M,hd,hw,h⟩:=h;refine bp hd hw (tB X θ H R) (fun c M' h=>h) (fun h=>h) h fun d M1 v θ1 H1 g1 r1 h1=>?_
 unfold xp at h1;split at h1
 ·rename_i i;split at h1
  ·rename_i kvs qm;split at h1
   ·rename_i hc;obtain⟨c1,c2,c3,c4⟩:=hc;obtain⟨a,e,ta⟩:=r1;obtain⟨vs,hv,ra⟩:=g1.wr.at_ i a _ ta qm;refine⟨a,vs,e,hv,fun o=>?_⟩;have p:iE θ1 H1 i a o vs:=⟨ta,hv⟩;exact h1 _ _ _ (p.go g1 (by rw[hw.len];exact c1) c2 c3) (p.itd g1.wr ra c4)
   ·exact h1.elim
  ·exact h1.elim
 ·exact h1.elim
def jK (g:GE)(s:GG)(body:GS):GS:=fE (iX g) s body
theorem uK {kt:Nat}{tp pos:Pos}{g:GE}{sg:GG}{gB:GS}{body:List Stmt}{apos cpos:Pos}(hp:PassesOwn (model X.prog X.w) X.A X.env X.xe)(he:QE X e g)(hg:QG X (.Tuple es kt tp) sg)(hb:QB X body gB)(hc:X.calm=true:=by rfl)
  (hbase:attributeBase e "items" X.env (eval e X.env)=eval e X.env:=by rfl) (hline:(apos.endLine==cpos.line)=true:=by rfl) (hs:∀x,foldedSetIterable (.Call (.Attribute e "items" apos) [] [] cpos) X.env x=pure x:=by intro _;rfl) :
  QS X (.For (.Tuple es kt tp) (.Call (.Attribute e "items" apos) [] [] cpos) body [] pos) (jK g sg gB):=⟨o3 hp hc (rY he.h hbase hline) hg.h hb.h hs⟩
def dL:F2:=fun x y M=>match x with
 | .mr i=>match M[i]? with
  | some (.dK kvs)=>match cY y with
   | some k=>match cQ kvs k with
    | some r=>.ok r M
    | none=>.bad
   | none=>.bad
  | _=>.bad
 | _=>.bad
theorem rW {pos:Pos}{o i:Expr}{go gi:GE}(hu:X.A.units+1<cLine)(ho:PE X o (tE X go))(hi:PE X i (tE X gi))(hs:uy i):PE X (.Subscript o i pos) (tE X (g2 dL go gi)):=(um hu ho hi hs).of fun σ H Q hxx=>by
 obtain⟨ρ,θ,M,hd,hw,h⟩:=hxx;refine bp hd hw (aA X θ H Q) (fun c M' h=>h) (fun h=>h) h fun d1 M1 v1 θ1 H1 g1 r1 h1=>?_
 have h1:=aA.go g1 h1;refine bp (hd.go g1) g1.wr (aA X θ1 H1 Q) (fun c M' h=>h) (fun h=>h) h1 fun d2 M2 v2 θ2 H2 g2 r2 h2=>?_
 have h2:=aA.go g2 h2;have r1:=r1.go g2;unfold dL at h2;cases d1 with
 | mr i=>
  obtain⟨a,ea,ta⟩:=r1;dsimp only at h2;cases q:M2[i]? with
  | none=>rw[q] at h2;exact h2.elim
  | some mo=>
   rw[q] at h2;cases mo with
   | dK kvs=>
    dsimp only at h2;obtain⟨vs,hv,ra⟩:=g2.wr.at_ i a _ ta q;cases qk:cY d2 with
    | none=>rw[qk] at h2;exact h2.elim
    | some k=>
     rw[qk] at h2;dsimp only at h2;have ek:=qT qk r2;cases qg:cQ kvs k with
     | none=>rw[qg] at h2;exact h2.elim
     | some r=>
      rw[qg] at h2;obtain⟨v,ev,rv⟩:=(gF k ra).1 r qg;refine⟨a,v,ea,?_,h2 v θ2 H2 (.refl g2.wr) rv⟩;rw[ek,←ev];exact nj.k hv
   | _=>exact h2.elim
 | _=>exact h2.elim
theorem qR {pos:Pos}{o i:Expr}{go gi:GE}{k:Nat}(hr:bA k X.A)(ho:QE X o go)(hi:QE X i gi)(hs:uy i:=by intro _ _;rfl):QE X (.Subscript o i pos) (g2 dL go gi):=⟨rW (wq hr) ho.h hi.h hs⟩
end DL
namespace Hd
open PySem PySem.W PySem.Calls PyProof.Rows
def topRunT (tb:String→Option Builtin)(p:Program)(w:World)(n0:Nat)(ann:Option Value):Nat→SharedT→Thread→Option SharedT
 | 0,_,_=>none
 | n+1,s,t=>match through t with
  | true=>some s
  | false=>match stepOk n0 ann t with
   | false=>none
   | true=>match stepT (denote tb) p w s t with
    | some (s',t')=>topRunT tb p w n0 ann n s' t'
    | none=>none
theorem kA {tb:String→Option Builtin}{p:Program}{w:World}{n0:Nat}{ann:Option Value}:∀{n:Nat} {s s':SharedT} {t:Thread},topRunT tb p w n0 ann n s t=some s'→topRun tb p w n0 ann n s.abs t=some s'.abs
 | 0,_,_,_,h=>by cases h
 | n+1,s,s',t,h=>by
  unfold topRunT at h;unfold topRun;cases he:through t with
  | true=>rw[he] at h;cases h;rfl
  | false=>
   rw[he] at h;cases hk:stepOk n0 ann t with
   | false=>rw[hk] at h;cases h
   | true=>
    rw[hk] at h;cases hs:stepT (denote tb) p w s t with
    | none=>rw[hs] at h;cases h
    | some r=>obtain⟨s2,t2⟩:=r;rw[hs] at h;rw[stepT_spec hs];exact kA h
def grow:List Obj→BT→Nat→BT
 | [],t,_=>t
 | o::r,t,n=>grow r (t.ins n o) (n+1)
def wx:List Obj→BT→Nat→Bool
 | [],_,_=>true
 | o::r,t,n=>((t.ins n o).get n).isSome&&wx r (t.ins n o) (n+1)
theorem m8 (life:Life):∀(l:List Obj) (t:BT) (n:Nat),wx l t n=true→absHeap (grow l t n) (n+l.length) life=⟨(absHeap t n life).objs++l.toArray,life⟩
 | [],t,n,_=>by simp[grow,absHeap]
 | o::r,t,n,h=>by
  obtain⟨h1,h2⟩:=Bool.and_eq_true_iff.mp h;have e:=m8 life r (t.ins n o) (n+1) h2;have e2:absHeap (t.ins n o) (n+1) life=(absHeap t n life).push o:=absHeap_ins h1;show absHeap (grow r (t.ins n o) (n+1)) (n+(r.length+1)) life=_;rw[show n+(r.length+1)=n+1+r.length by omega,e,e2];simp[Heap.push]
variable{Xt:Shared→Bool}{N:Nat}
theorem nZ {p q:Program}{loose:List Str}{A:Type}{Yf:Shared→A}{Ya:World→A}{g0:Bool}{H:Params→Heap}{gs:Array GenState}{d:Drawn}{k:Nat}{m:Nat}{ann:Option Value}{T:Params→BT}{lf:Life}
  (open_:∀w:World,(fencedOpening treeTable p w N).map (fun s=>(s.heap,s.gens,s.drawn,s.toks))=some (H w.params,gs,d,k))
  (size:∀w:World,((H w.params).isNs mainGlobals&&gs.size==0,(H w.params).objs.size,(H w.params).nsMap mainGlobals "__annotations__")=(true,m,ann))
  (tree:∀P,H P=absHeap (T P) m lf)
  (run:∀(w:World) (os:OsState),(topRunT treeTable p w m ann N ⟨T w.params,m,lf,gs,d,k,os⟩ (topStub p)).map (fun s=>
    ((staticsOk (importedModules p.main.body) (H w.params) s.abs.heap&&namesBound p s.abs.heap&&gensDone s.abs&&laidKept (H w.params) s.abs.heap),
    openSeen q loose (importedModules p.main.body) Xt g0 s.abs,Yf s.abs))=some (true,openGood q loose,Ya w)):LeftO p q loose Xt Yf Ya N g0:=fun w=>by
 obtain⟨⟨h,gs',d',k',os⟩,e,e'⟩:=Option.map_eq_some_iff.mp (open_ w);obtain⟨rfl,rfl,rfl,rfl⟩:h=H w.params∧gs'=gs∧d'=d∧k'=k:=by simpa using e'
 obtain⟨z1,z2,z3⟩:_∧_∧_:=by simpa only[Prod.mk.injEq] using size w
 obtain⟨s,r1,r2⟩:=Option.map_eq_some_iff.mp (run w os);obtain⟨l1,l2,l3⟩:_∧_∧_:=by simpa only[Prod.mk.injEq] using r2
 have r:=kA r1;have ea:SharedT.abs ⟨T w.params,m,lf,gs',d',k',os⟩=⟨H w.params,gs',d',k',os⟩:=by rw[tree];rfl
 rw[ea] at r;have t:topFrom treeTable p w N ⟨H w.params,gs',d',k',os⟩=some s.abs:=by
  unfold topFrom;dsimp only;rw[z1,z2,z3,r];show(match staticsOk (importedModules p.main.body) (H w.params) s.abs.heap&&namesBound p s.abs.heap&&gensDone s.abs&&laidKept (H w.params) s.abs.heap with|true=>_|false=>_)=_;rw[l1]
 unfold openEnds;rw[e];show(topFrom treeTable p w N _).map _=_;rw[t];exact congrArg some (Prod.ext l2 l3)
noncomputable def bootT (P:Params):BT:=grow (boot_heap P).objs.toList .nil 0
lay_quick Hd.topRunT W.topStub
theorem qx (P:Params):boot_heap P=absHeap (bootT P) 11 {}:=by
 have h:=m8 {} (boot_heap P).objs.toList .nil 0 (by kernel_rfl);exact h.symm
noncomputable def RT (p:Program) (w:World) (N:Nat) (os:OsState):Option SharedT:=topRunT treeTable p w 11 (some (Value.ref 6)) N ⟨bootT w.params,11,{},Array.mk [],boot_drawn,boot_toks,os⟩ (topStub p)
noncomputable def pA (p:Program) (P:Params) (s:Shared):Bool:=staticsOk (importedModules p.main.body) (boot_heap P) s.heap&&namesBound p s.heap&&gensDone s&&laidKept (boot_heap P) s.heap
def pB (q:Program)(mods:List Str)(Xt:Shared→Bool)(s:Shared):Bool:=(s.heap.keysOk (looseW q []) ((recsOf q).map (·.name)) ((litsOf q).map (·.1)) ((clssOf q (looseW q [])).map (·.name))&&s.heap.accountedOkI mods&&s.heap.isNs mainGlobals&&s.heap.isNs builtinsNs&&tablesOk q s.heap&&Xt s&&(if true then s.gens.size==0 else !leftWithCleanup s.gens))&&tabsOk q s
def pC (q:Program)(s:Shared):=(seen ((recsOf q).map (·.name)) (ownsOf q) [] {s with gens:=#[]},s.heap.bltView,wideSeen q s)
def pD (q:Program)(s:Shared):=(pinSeenD q (drecsOf q) s,plainSeenE q (looseW q []) s,plainSeenD q [] s,clsSeenW q [] s)
lay_quick Hd.pB
lay_quick Hd.pC
lay_quick Hd.pD
theorem kM {α A B:Type}{x:Option α}{f:α→A}{g:α→B}{a:A}{b:B}(h1:x.map f=some a)(h2:x.map g=some b):x.map (fun s=>(f s,g s))=some (a,b):=by
 cases x with
 | none=>cases h1
 | some s=>exact congrArg some (Prod.ext (Option.some.inj h1) (Option.some.inj h2))
theorem n6 {p q:Program}{A:Type}{Yf:Shared→A}{Ya:World→A}
  (open_:∀w:World,(fencedOpening treeTable p w N).map (fun s=>(s.heap,s.gens,s.drawn,s.toks))=some (boot_heap w.params,Array.mk [],boot_drawn,boot_toks))
  (size:∀w:World,((boot_heap w.params).isNs mainGlobals&&(Array.mk ([]:List GenState)).size==0,(boot_heap w.params).objs.size,(boot_heap w.params).nsMap mainGlobals "__annotations__")=(true,11,some (Value.ref 6)))
  (r1:∀(w:World) (os:OsState),(RT p w N os).map (fun s=>pA p w.params s.abs&&pB q (importedModules p.main.body) Xt s.abs)=some true)
  (r2:∀(w:World) (os:OsState),(RT p w N os).map (fun s=>pC q s.abs)=some (expectedOf q,bltViewBooted,wideGood q))
  (r3:∀(w:World) (os:OsState),(RT p w N os).map (fun s=>pD q s.abs)=some (pinGoodD (drecsOf q),plainGoodE q (looseW q []),plainGoodD q [],clsGoodW q []))
  (r4:∀(w:World) (os:OsState),(RT p w N os).map (fun s=>Yf s.abs)=some (Ya w)):LeftO p q [] Xt Yf Ya N true:=
 nZ open_ size qx fun w os=>by
  show(RT p w N os).map _=_;have h:=kM (kM (r1 w os) (r2 w os)) (kM (r3 w os) (r4 w os));cases e:RT p w N os with
  | none=>rw[e] at h;cases h
  | some s=>
   rw[e] at h;obtain⟨h1,h2⟩:=Prod.mk.inj (Option.some.inj h);obtain⟨h1,h3⟩:=Prod.mk.inj h1;obtain⟨h4,h5⟩:=Prod.mk.inj h2;obtain⟨a,b⟩:=Bool.and_eq_true_iff.mp h1;obtain⟨b,c⟩:=Bool.and_eq_true_iff.mp b;obtain⟨c1,c2⟩:=Prod.mk.inj h3;obtain⟨c2,c3⟩:=Prod.mk.inj c2;obtain⟨d1,d2⟩:=Prod.mk.inj h4;obtain⟨d2,d3⟩:=Prod.mk.inj d2;obtain⟨d3,d4⟩:=Prod.mk.inj d3;exact congrArg some (Prod.ext a (Prod.ext (Prod.ext c1 (Prod.ext c2 (Prod.ext b (Prod.ext c (Prod.ext d1 (Prod.ext d2 (Prod.ext d3 (Prod.ext c3 d4)))))))) h5))
def lk (s:SharedT)(a:Nat):Option Obj:=match Nat.blt a s.n with
 | true=>(match s.tree.get a with
  | some o=>alive o
  | none=>none)
 | false=>none
theorem Av {s:SharedT}{a:Nat}{o:Obj}(h:lk s a=some o):s.abs.heap.get? a=some o:=by
 unfold lk at h;cases b:Nat.blt a s.n with
 | false=>rw[b] at h;cases h
 | true=>
  rw[b] at h;cases g:s.tree.get a with
  | none=>rw[g] at h;cases h
  | some x=>rw[g] at h;exact(abs_get (Nat.blt_eq.mp b) g).trans h
theorem nL {s:SharedT}{β:Type}{f:β→Obj}:∀{as:List Nat} {l:List β},as.map (lk s)=l.map (fun p=>some (f p))→as.map s.abs.heap.get?=l.map (fun p=>some (f p))
 | [],[],_=>rfl
 | [],_::_,h=>by cases h
 | _::_,[],h=>by cases h
 | a::as,p::l,h=>by
  obtain⟨x,y⟩:=List.cons.inj h;show s.abs.heap.get? a::as.map s.abs.heap.get?=_;rw[Av x,nL y];rfl
theorem left_km {p q:Program}{K:Params→Frag}{as:List Addr}{e:∀P,as=(K P).map (·.1)}{ts:List Addr}
  (open_:∀w:World,(fencedOpening treeTable p w N).map (fun s=>(s.heap,s.gens,s.drawn,s.toks))=some (boot_heap w.params,Array.mk [],boot_drawn,boot_toks))
  (size:∀w:World,((boot_heap w.params).isNs mainGlobals&&(Array.mk ([]:List GenState)).size==0,(boot_heap w.params).objs.size,(boot_heap w.params).nsMap mainGlobals "__annotations__")=(true,11,some (Value.ref 6)))
  (r1:∀(w:World) (os:OsState),(RT p w N os).map (fun s=>pA p w.params s.abs&&pB q (importedModules p.main.body) Xt s.abs)=some true)
  (r2:∀(w:World) (os:OsState),(RT p w N os).map (fun s=>pC q s.abs)=some (expectedOf q,bltViewBooted,wideGood q))
  (r3:∀(w:World) (os:OsState),(RT p w N os).map (fun s=>pD q s.abs)=some (pinGoodD (drecsOf q),plainGoodE q (looseW q []),plainGoodD q [],clsGoodW q []))
  (r4:∀(w:World) (os:OsState),(RT p w N os).map (fun s=>(as.map (lk s),ts.map (lk s)))=some ((K w.params).map (fun p=>some p.2),ts.map fun _=>some (tabObj #[]))) :
  LeftO p q [] Xt (kmHook K as e ts).obs (kmHook K as e ts).val N true:=
 n6 open_ size r1 r2 r3 fun w os=>by
  obtain⟨s,h1,h2⟩:=Option.map_eq_some_iff.mp (r4 w os);obtain⟨a,b⟩:=Prod.mk.inj h2;rw[h1];exact congrArg some (Prod.ext (nL a) (nL b))
end Hd
namespace K15
open PySem PySem.Spec PyProof.Rows L2 DL List
noncomputable def top (i:Nat):Stmt:=PySem.Challenge.pw_glowrow_k15_windows.main.body.getD i (.Pass ⟨0,0,0,0⟩)
noncomputable abbrev wt:Stmt:=top 26
noncomputable abbrev TX:=Tx (("_law_draw",top 19,["tape","many"])::("_law_size",top 20,["tape","most"])::("_law_wishes",top 22,["tape","high","inks"])::("_law_sound",top 23,["wishes"])::("_law_windows",top 24,["pots","wishes"])::("_law_word",top 21,["error"])::("hues_by_ink",top 13,["wishes"])::("windows",top 14,["pots","wishes"])::("table_for",top 15,["high","room","pots","wishes"])::("_law_tried",top 25,["way","high","pots","wishes"])::[])
 ([])
 []
 ("ValueError"::"isinstance"::"len"::"list"::"max"::"min"::"range"::"sorted"::"tuple"::[]) ["Clash"]
 (("Clash",[("Clash",true)])::("GlowError",[("Clash",true)])::("NoDeed",[("Clash",false)])::("NoFilm",[("Clash",false)])::("NoFrame",[("Clash",false)])::("NoRow",[("Clash",false)])::("NoScore",[("Clash",false)])::("NoStand",[("Clash",false)])::("NoText",[("Clash",false)])::("NoTick",[("Clash",false)])::("Over",[("Clash",false)])::[]) [("Clash",true)]
 ([]) [] []
set_option hygiene false
local macro_rules | `(tactic| walk_at "o") => `(tactic| first | with_reducible exact A8 | with_reducible exact yr | with_reducible exact Ae | with_reducible exact Ah | with_reducible exact xJ | with_reducible exact Bd | with_reducible exact AA | with_reducible exact Cb | with_reducible exact q_le | with_reducible exact Cq | with_reducible exact B9 | with_reducible exact Cr | with_reducible exact q_isnot | with_reducible exact q_in | with_reducible exact q_notin | with_reducible exact q_mulT | with_reducible exact q_inA | ((with_reducible show Q2 _ _ (vH _)); first | exact q_inG hr | exact tF hr) | ((with_reducible show Q2 _ _ (dIn _)); first | exact q_din hr | exact q_dnotin hr) | ((with_reducible show Q2 _ (compareOp .Eq) _); exact Cu hr) | exact CB hr)
local macro_rules | `(tactic| walk_at "c") => `(tactic| first | ((with_reducible refine q_lenT)) | ((with_reducible refine Bx)) | ((with_reducible refine q_listT ?_); rfl) | ((with_reducible refine q_listM)) | ((with_reducible refine yi)) | ((with_reducible refine q_max ?_); rfl) | ((with_reducible refine A1 ?_); rfl) | ((with_reducible refine q_sorted)) | ((with_reducible refine wa)))
local macro_rules | `(tactic| walk_at "b") => `(tactic| with_reducible first | exact Boot.«ValueError» | exact Boot.«isinstance» | exact Boot.«len» | exact Boot.«list» | exact Boot.«max» | exact Boot.«min» | exact Boot.«range» | exact Boot.«sorted» | exact Boot.«tuple»)
local macro_rules | `(tactic| walk_at "E") => `(tactic| first
  | ((with_reducible show QE _ _ (af _));exact qv _)
  | ((with_reducible show QE _ _ (gC _));first|exact yx|exact xF|exact zb|exact A9)
  | ((with_reducible show QE _ _ (g2 dGet _ _));refine qe_dget hr ?_ ?_)
  | ((with_reducible show QE _ _ (g2 dL _ _));refine qR hr ?_ ?_)
  | ((with_reducible show QE _ _ (bt cZ _));refine wF (vN rfl) (T.z _ (by decide +kernel)) (by walk_at "b") ?_)
  | ((with_reducible show QE _ _ (g2 bG _ _));refine Bk ?_ ?_)
  | ((with_reducible show QE _ _ (g2 _ _ _));first|refine BA (by walk_at "o") ?_ ?_|refine yB (by walk_at "o") ?_ ?_|refine qe_cmpI (by walk_at "o") ?_ ?_)
  | ((with_reducible show QE _ _ (au _ _ _));refine Ao (by assumption) hr ?_)
  | ((with_reducible show QE _ _ (bx _));refine xS ?_)
  | ((with_reducible show QE _ _ (bt fA _));refine wy (yA (k:=0) (hr.mono (by decide))) (by rfl) (T.z _ (by decide +kernel)) (by walk_at "b") ?_)
  | ((with_reducible show QE _ _ (bt _ _));first|refine wF (by walk_at "c") (T.z _ (by decide +kernel)) (by walk_at "b") ?_|refine A6 (by walk_at "c") (by rfl) (T.z _ (by decide +kernel)) (by walk_at "b") ?_)
  | ((with_reducible show QE _ _ (cC _));refine ze ?_)
  | ((with_reducible show QE _ _ (gq _));refine xN ?_)
  | ((with_reducible show QE _ _ (uc _ _ _));refine sA ?_ ?_ ?_)
  | ((with_reducible show QE _ _ (bS _ _ _ _));first|refine qe_compR (by assumption) (by kernel_rfl) (by first|exact .inl rfl|exact .inr rfl) ?_ ?_ ?_|refine sD (by kernel_rfl) (by first|exact .inl rfl|exact .inr rfl) ?_ ?_ ?_)
  | ((with_reducible show QE _ _ (fK _ _));refine qj ?_ ?_)
  | ((with_reducible show QE _ _ (d8 indexG _ _));refine qe_indexG hr ?_ ?_)
  | ((with_reducible show QE _ _ (d8 _ _ _));first|refine rN ?_ ?_|refine sC ?_ ?_)
  | ((with_reducible show QE _ _ (cJ _ _ _));refine pL hr ?_ ?_ ?_)
  | ((with_reducible show QE _ _ (jm));exact uC)
  | ((with_reducible show QE _ _ (sk));exact xT)
  | ((with_reducible show QE _ _ (dg _ _));first|refine uE (wo T.r rfl) (T.z _ (by decide +kernel)) ?_|refine tX T.b (T.z _ (by decide +kernel)) (T.z _ (by decide +kernel)) ?_ (by kernel_rfl) (by walk_at "b"))
  | ((with_reducible show QE _ _ (gM _));refine xB ?_)
  | ((with_reducible show QE _ _ (du _ _));refine ug ?_))
local macro_rules | `(tactic| walk_at "S") => `(tactic| first
  | ((with_reducible show QS _ _ (bY _));refine yV ?_)
  | ((with_reducible show QS _ _ (dQ _ _ _));refine zV ?_ ?_ ?_)
  | ((with_reducible show QS _ _ (av _ (bS _ _ _ _)));first|refine qs_setCompR (by assumption) (by kernel_rfl) (by first|exact .inl rfl|exact .inr rfl) nd ?_ ?_ ?_|refine qs_setCompN (by kernel_rfl) (by first|exact .inl rfl|exact .inr rfl) nd ?_ ?_ ?_|refine vG _ nd ?_)
  | ((with_reducible show QS _ _ (av _ _));refine wU _ nd ?_)
  | ((with_reducible show QS _ _ (jK _ _ _));refine uK PassesOwn.leaving ?_ ?_ ?_)
  | ((with_reducible show QS _ _ (fE _ _ _));refine xX PassesOwn.leaving ?_ ?_ ?_)
  | ((with_reducible show QS _ _ (cS _));refine vM ?_)
  | ((with_reducible show QS _ _ (fm _ _ _));refine xE ?_ ?_ ?_)
  | ((with_reducible show QS _ _ (aU));first|exact qs_pass|exact qs_doc)
  | ((with_reducible show QS _ _ (cU _ _));refine pK (T.e _ (by decide +kernel)) ?_)
  | ((with_reducible show QS _ _ (iw _ _ _ _));refine vA (wo T.r rfl) nd ?_ ?_))
local macro_rules | `(tactic| walk_at "Q") => `(tactic| first
  | ((with_reducible show QE _ _ _);first|walk_at "E"|refine qe_one ?_|refine qe_and ?_ ?_|refine qe_or ?_ ?_|refine qe_fstr1 ?_)
  | ((with_reducible show QA _ _ _);first|exact zl|refine CD ?_ ?_)
  | ((with_reducible show QT _ _ _);first
  | ((with_reducible show QT _ _ (aK _));first|refine xj (by walk_at "o") ?_ ?_|refine v7 (by walk_at "o") ?_ ?_)
  | ((with_reducible show QT _ _ (ik _));refine yf ?_)
  | ((with_reducible show QT _ _ (kS _));refine zc ?_)
  | ((with_reducible show QT _ _ (dm _ _));refine Bu ?_)
  | ((with_reducible show QT _ _ (iI _ _));refine Bu ?_))
  | ((with_reducible show QB _ _ _);first|exact yW|refine xM ?_|refine vI ?_ ?_)
  | ((with_reducible show QS _ _ _);walk_at "S")
  | ((with_reducible show QW _ _ _);first|refine xY ?_ ?_|refine Bn ?_ ?_|refine v5 ?_|refine zd ?_)
  | ((with_reducible show QI _ _ _ _);first|((with_reducible show QI _ _ _ (dh _));refine AO (by rfl) (T.z _ (by decide +kernel)) ?_)|((with_reducible show QI _ _ _ (gRng2 _));refine qi_r2 (by rfl) (T.z _ (by decide +kernel)) ?_)|((with_reducible show QI _ _ _ (gEnum _));refine qi_enum (by rfl) (T.z _ (by decide +kernel)) (by walk_at "b") ?_)|((with_reducible show QI _ _ _ (gEz _));refine qi_ez (by rfl) (T.z _ (by decide +kernel)) (by walk_at "b") (by rfl) (T.z _ (by decide +kernel)) (by walk_at "b") ?_)|refine xm ?_)
  | ((with_reducible show QG _ _ _);first|exact qn _ nd|exact qnT _ (by kernel_rfl) |refine wX ?_|refine qg_tupG ?_)
  | ((with_reducible show Bc _ _ _);first|exact va|refine Af ?_ ?_)
  | ((with_reducible show QGG _ _ _);first|exact qgg_nil|refine qgg_c ?_ ?_)
  | ((with_reducible show QP _ _ _);first|exact vP|refine ur ?_)
  | ((with_reducible show AU _ _ _ _ _ _);first|exact pp|refine pv ?_)
  | ((with_reducible show QO _ _);first|exact qo_one _ _|exact qo_tup _|refine qo_tupG ?_)
  | ((with_reducible show QOs _ _);first|exact qos_nil|refine qos_c ?_ ?_)
  | ((with_reducible show QF _ _ _);first|exact zh|refine CH ?_ ?_)
  | ((with_reducible show QD _ _ _ _ _);first|exact qd_nil|refine qd_c ?_)
  | intro _)
section
variable {P:Program}{w:World}{K:W.Frag}{mg:Str→Option Value}{base:Heap}
noncomputable def dq:GS:=(ao (av 2 (gC (.int 2305843009213693951))) (ao (dQ (aK (g2 pT (g2 bG (af 0) (gC (.int 2))) (af 1))) (ao (av 3 (gC (.int 0))) (ao (dQ (aK (g2 vF (bt fT (ae (g2 bG (af 0) (gC (.int 0))) ah)) (gC (.int 0)))) (av 3 (g2 bG (g2 bG (af 0) (gC (.int 0))) (g2 dG (g2 bG (af 0) (gC (.int 1))) (bt fT (ae (g2 bG (af 0) (gC (.int 0))) ah))))) aU) (ao (dQ (iI (aK (g2 wk (g2 bG (af 0) (gC (.int 1))) (bt fT (ae (g2 bG (af 0) (gC (.int 0))) ah)))) (aK (g2 pT (af 3) (g2 jS (gC (.int 10)) (gC (.int 18)))))) (ao (av 3 (g2 dG (g2 bP (af 3) (g2 cP (gC (.int 1000003)) (g2 bG (af 0) (gC (.int 1))))) (af 2))) (ao (av 3 (g2 dG (g2 bP (g2 bP (g2 cP (af 3) (af 3)) (g2 cP (gC (.int 1181783497276652981)) (af 3))) (gC (.int 2049848353892358983))) (af 2))) (av 3 (g2 dG (g2 bP (g2 cP (af 3) (af 3)) (gC (.int 1442695040888963407))) (af 2))))) aU) (ao (fm (af 0) (gC (.int 1)) (g2 bP (g2 bG (af 0) (gC (.int 1))) (gC (.int 1)))) (fm (af 0) (gC (.int 2)) (af 3)))))) aU) (ao (av 4 (g2 dG (g2 bG (af 0) (gC (.int 2))) (af 1))) (ao (fm (af 0) (gC (.int 2)) (g2 ce (g2 bG (af 0) (gC (.int 2))) (af 1))) (bY (af 4))))))
noncomputable def al:FD:=cO 3 dq
theorem d7 (T:TX P w K mg base):Ok P w K mg base "_law_draw" 1 2 al:=jX (jR T.f 0 rfl) ["tape","many","prime","cell","found"] eD rfl fun f _ A _ s H E nd hr=>by delta dq;repeat' walk_at "Q"
noncomputable def eQ:GS:=(bY (g2 bP (gC (.int 1)) (g2 bG (cC (ae (au 2 al (ae (af 0) (ae (bt nT (ae (af 1) (ae (gC (.int 6)) ah))) ah))) (ae (au 2 al (ae (af 0) (ae (af 1) ah))) (ae (g2 jd (af 1) (gC (.int 1))) ah)))) (g2 ce (g2 cP (au 2 al (ae (af 0) (ae (gC (.int 8)) ah))) (gC (.int 3))) (gC (.int 10))))))
noncomputable def cx:FD:=cO 0 eQ
theorem kR (T:TX P w K mg base):Ok P w K mg base "_law_size" 2 2 cx:=jX (jR T.f 1 rfl) ["tape","most"] eD rfl fun f _ A _ s H E nd hr=>by have:=d7 T;delta eQ;repeat' walk_at "Q"
noncomputable def bK:GS:=(ao (av 5 (g2 bG (cC (ae (au 2 al (ae (af 0) (ae (gC (.int 3)) ah))) (ae (au 2 al (ae (af 0) (ae (gC (.int 64)) ah))) ah))) (g2 ce (au 2 al (ae (af 0) (ae (gC (.int 4)) ah))) (gC (.int 3))))) (cS (fK (af 3) (bx (ae (au 2 al (ae (af 0) (ae (af 1) ah))) (ae (au 2 al (ae (af 0) (ae (af 2) ah))) (ae (af 5) ah)))))))
noncomputable def bB:GS:=(ao (av 3 (gq ah)) (ao (fE (dh (ae (g2 bG (cC (ae (au 2 al (ae (af 0) (ae (gC (.int 14)) ah))) (ae (au 2 al (ae (af 0) (ae (gC (.int 201)) ah))) ah))) (g2 ce (au 2 al (ae (af 0) (ae (gC (.int 3)) ah))) (gC (.int 2)))) ah)) (dA 4) bK) (bY (af 3))))
noncomputable def cp:FD:=fun ds M=>d9 M.length (cO 3 bB ds M)
theorem jj (T:TX P w K mg base):Ok P w K mg base "_law_wishes" 2 3 cp:=ja (F:=cO 3 bB) <| jX (jR T.f 2 rfl) ["tape","high","inks","found","k","hue"] eD rfl fun f _ A _ s H E nd hr=>by have:=d7 T;delta bB bK;repeat' walk_at "Q"
noncomputable def cn:GE:=(af 0)
noncomputable def bU:GT:=(dm (aK (g2 (aS false) (uc (af 0) dr (iq (gC (.int 2)))) (bx (ae (af 3) (ae (af 4) ah))))) (aK (g2 (aS true) (g2 bG (af 0) (gC (.int 2))) (af 5))))
noncomputable def bD:GS:=(dQ (aK (g2 (aS false) (bS (cF (af 1)) bU cn aW) (cC ah))) (cS (fK (af 1) (bx (ae (af 2) (ae (af 3) (ae (af 4) ah)))))) aU)
noncomputable def bO:GS:=(ao (av 1 (gq ah)) (ao (fE (cF (af 0)) (df [2,3,4]) bD) (bY (af 1))))
noncomputable def bQ:FD:=fun ds M=>d9 M.length (cO 4 bO ds M)
theorem jZ (T:TX P w K mg base):Ok P w K mg base "_law_sound" 1 1 bQ:=ja (F:=cO 4 bO) <| jX (jR T.f 3 rfl) ["wishes","found","row","ink","hue"] eD rfl fun f _ A _ s H E nd hr=>by delta bO cn bU bD;repeat' walk_at "Q"
noncomputable def bw:GE:=(g2 bG (af 0) (gC (.int 0)))
noncomputable def aZ:GT:=(dm (aK (g2 (aS false) (g2 bG (af 0) (gC (.int 1))) (af 5))) (aK (g2 pT (g2 bG (af 0) (gC (.int 0))) (af 4))))
noncomputable def aY:GE:=(g2 bG (af 0) (gC (.int 2)))
noncomputable def aR:GT:=(aK (g2 (aS false) (uc (af 0) dr (iq (gC (.int 2)))) (bx (ae (bt fA (ae (af 7) ah)) (ae (af 5) ah)))))
noncomputable def a4:GS:=(ao (av 6 (bS (cF (af 1)) aZ bw aW)) (ao (av 7 (gC (.int 0))) (ao (av 8 (g2 bG (af 0) (af 4))) (ao (dQ (aK (g2 (aS true) (af 6) (cC ah))) (ao (av 7 (g2 bP (bt fA (ae (af 6) ah)) (gC (.int 1)))) (av 8 (g2 bG (bS (cF (af 1)) aR aY aW) (gC (.int 0))))) aU) (dQ (dm (aK (g2 (aS true) (af 8) (af 5))) (aK (g2 (vH true) (bx (ae (af 7) (ae (af 3) (ae (af 4) (ae (af 5) ah))))) (af 2)))) (cS (fK (af 2) (bx (ae (af 7) (ae (af 3) (ae (af 4) (ae (af 5) ah))))))) aU)))))
noncomputable def br:GS:=(ao (av 2 (gq ah)) (ao (fE (cF (af 1)) (df [3,4,5]) a4) (bY (bt cZ (ae (af 2) ah)))))
noncomputable def cV:FD:=fun ds M=>d9 M.length (cO 7 br ds M)
theorem iH (T:TX P w K mg base):Ok P w K mg base "_law_windows" 2 2 cV:=ja (F:=cO 7 br) <| jX (jR T.f 4 rfl) ["pots","wishes","found","row","ink","hue","ahead","first","old"] eD rfl fun f _ A _ s H E nd hr=>by delta br bw aZ aY aR a4;repeat' walk_at "Q"
noncomputable def cu:GS:=(ao (av 1 (gq (ae (dg (mM [("Clash",false)]) (af 0)) (ae (dg (mM [("Clash",false)]) (af 0)) (ae (dg (mM [("Clash",false)]) (af 0)) ah))))) (ao (av 1 (g2 mL (af 1) (cC (ae (dg (mM [("Clash",false)]) (af 0)) (ae (dg (mM [("Clash",false)]) (af 0)) (ae (dg (mM [("Clash",false)]) (af 0)) ah)))))) (ao (av 1 (g2 mL (af 1) (cC (ae (dg (mM [("Clash",true)]) (af 0)) (ae (dg (mM [("Clash",false)]) (af 0)) (ae (dg (mM [("Clash",false)]) (af 0)) ah)))))) (ao (cS (fK (af 1) (dg (mM [("Clash",false)]) (af 0)))) (ao (dQ (iI (ik (kS (dg (mM [("Clash",true)]) (af 0)))) (aK (g2 (aS true) (d8 eE (af 1) (gC (.bl true))) (gC (.int 1))))) (bY (bx (ae (gC (.str "another")) ah))) aU) (ao (av 2 (cC (ae (gC (.str "frame")) (ae (gC (.str "stand")) (ae (gC (.str "tick")) (ae (gC (.str "deed")) (ae (gC (.str "over")) (ae (gC (.str "score")) (ae (gC (.str "clash")) (ae (gC (.str "text")) (ae (gC (.str "film")) (ae (gC (.str "row")) ah)))))))))))) (bY (bx (ae (g2 bG (af 2) (d8 eT (af 1) (gC (.bl true)))) ah)))))))))
noncomputable def cq:FD:=fun ds M=>d9 M.length (cO 2 cu ds M)
theorem lj (T:TX P w K mg base):Ok P w K mg base "_law_word" 1 1 cq:=ja (F:=cO 2 cu) <| jX (jR T.f 5 rfl) ["error","kinds","words"] eD rfl fun f _ A _ s H E nd hr=>by delta cu;repeat' walk_at "Q"
noncomputable def aw:GS:=(ao (av 5 (cJ (af 1) (af 3) jm)) (dQ (aK (g2 (aS true) (cJ (af 5) (af 2) (af 4)) (af 4))) (cU "Clash" (du [(gC (.str "ink ")),(gM (af 3)),(gC (.str " shall have two hues on row ")),(gM (af 2))] Str.empty)) aU))
noncomputable def bC:GS:=(ao (av 1 jm) (ao (fE (cF (af 0)) (df [2,3,4]) aw) (bY (af 1))))
noncomputable def aL:FD:=cO 5 bC
theorem jJ (T:TX P w K mg base):Ok P w K mg base "hues_by_ink" 1 1 aL:=jX (jR T.f 6 rfl) ["wishes","told","row","ink","hue","hues"] eD rfl fun f _ A _ s H E nd hr=>by delta bC aw;repeat' walk_at "Q"
noncomputable def bJ:GS:=(ao (dQ (aK (g2 (aS true) (g2 dL (af 4) (af 7)) (af 6))) (cS (fK (af 2) (bx (ae (af 5) (ae (af 7) (ae (af 3) (ae (g2 dL (af 4) (af 7)) ah))))))) aU) (ao (av 5 (g2 bP (af 7) (gC (.int 1)))) (av 6 (g2 dL (af 4) (af 7)))))
noncomputable def bM:GS:=(ao (av 5 (gC (.int 0))) (ao (av 6 (g2 bG (af 0) (af 3))) (fE (cF (bt cZ (ae (af 4) ah))) (dA 7) bJ)))
noncomputable def cj:GS:=(ao (av 2 (gq ah)) (ao (jK (au 1 aL (ae (af 1) ah)) (df [3,4]) bM) (bY (bt cZ (ae (af 2) ah)))))
noncomputable def aX:FD:=fun ds M=>d9 M.length (cO 6 cj ds M)
theorem jk (T:TX P w K mg base):Ok P w K mg base "windows" 2 2 aX:=ja (F:=cO 6 cj) <| jX (jR T.f 7 rfl) ["pots","wishes","told","ink","hues","first","hue","row"] eD rfl fun f _ A _ s H E nd hr=>by have:=jJ T;delta cj bJ bM;repeat' walk_at "Q"
noncomputable def dt:GS:=(ao (av 4 (au 2 aX (ae (af 2) (ae (af 3) ah)))) (ao (av 5 sk) (ao (dQ (aK (g2 (lL false) (af 5) (gC .non))) (bY sk) aU) (bY (bx (ae (gC (.str "table")) (ae (af 5) ah)))))))
noncomputable def b7:FD:=cO 2 dt
theorem lA (T:TX P w K mg base):Ok P w K mg base "table_for" 3 4 b7:=jX (jR T.f 8 rfl) ["high","room","pots","wishes","needed","table"] eD rfl fun f _ A _ s H E nd hr=>by have:=jk T;delta dt;repeat' walk_at "Q"
noncomputable def cH:GS:=(ao (av 4 (gC .non)) (ao (av 5 (gC .non)) (ao (iw 6 (List.contains ["Clash"]) (dQ (aK (g2 (aS false) (af 0) (gC (.int 0)))) (av 5 (au 2 aX (ae (af 2) (ae (af 3) ah)))) (av 5 (g2 bG (au 4 b7 (ae (af 1) (ae (g2 jd (af 0) (gC (.int 1))) (ae (af 2) (ae (af 3) ah))))) (gC (.int 0))))) (av 4 (af 6))) (ao (dQ (aK (g2 (lL false) (af 4) (gC .non))) (bY (af 5)) aU) (bY (au 1 cq (ae (af 4) ah)))))))
noncomputable def bv:FD:=cO 3 cH
theorem jV (T:TX P w K mg base):Ok P w K mg base "_law_tried" 4 4 bv:=jX (jR T.f 9 rfl) ["way","high","pots","wishes","error","found","e"] eD rfl fun f _ A _ s H E nd hr=>by have:=lj T;have:=jk T;have:=lA T;delta cH;repeat' walk_at "Q"
noncomputable def eU:GE:=(g2 bG (cC (ae (au 2 al (ae (af 2) (ae (gC (.int 3)) ah))) (ae (au 2 al (ae (af 2) (ae (gC (.int 64)) ah))) ah))) (au 2 al (ae (af 2) (ae (gC (.int 2)) ah))))
noncomputable def iV:GS:=(ao (av 3 (au 2 cx (ae (af 1) (ae (gC (.int 40)) ah)))) (ao (av 4 (bt eG (ae (bS (dh (ae (gC (.int 16)) ah)) lC eU aW) ah))) (ao (av 5 (au 3 cp (ae (af 1) (ae (af 3) (ae (g2 bP (gC (.int 1)) (au 2 al (ae (af 1) (ae (gC (.int 16)) ah)))) ah))))) (ao (av 6 (au 1 bQ (ae (af 5) ah))) (ao (av 7 (g2 bG (cC (ae (af 6) (ae (af 5) ah))) (au 2 al (ae (af 1) (ae (gC (.int 2)) ah))))) (ao (av 8 (bt gN (ae (af 7) ah))) (ao (av 9 (g2 (aS true) (au 1 bQ (ae (af 7) ah)) (af 7))) (ao (av 10 (bx (ae (gC (.str "clash")) ah))) (ao (dQ (ik (kS (af 9))) (av 10 (au 2 cV (ae (af 4) (ae (af 7) ah)))) aU) (ao (dQ (iI (aK (g2 (aS true) (au 4 bv (ae (gC (.int 0)) (ae (af 3) (ae (af 4) (ae (af 8) ah))))) (af 10))) (aK (g2 (aS true) (af 8) (af 7)))) (bY (gC (.bl false))) aU) (dQ (dm (kS (af 9)) (aK (g2 (aS true) (au 4 bv (ae (g2 bP (gC (.int 1)) (au 2 al (ae (af 1) (ae (gC (.int 17)) ah)))) (ae (af 3) (ae (af 4) (ae (af 8) ah))))) (af 10)))) (bY (gC (.bl false))) aU)))))))))))
noncomputable def oW:GS:=(ao (av 1 (gq (ae (bt gN (ae (af 0) ah)) (ae (gC (.int 0)) (ae (gC (.int 0)) ah))))) (ao (fE (dh (ae (gC (.int 3)) ah)) (dA 2) iV) (bY (gC (.bl true)))))
noncomputable def ow:FD:=cO 10 oW
theorem xl (T:TX P w K mg base){f:Addr}{fd:FuncData}(F:Fn K mg "law" wt f fd ["script"]):dC P w K mg base (io P w) 5 f fd ["script"] (nV K 1 ow):=AI F.F (N:=["script","tape","turn","high","pots","wishes","sound","some","handed","clash","due"]) eD rfl fun _ A _ s H E hr=>by
 have nd:(["script","tape","turn","high","pots","wishes","sound","some","handed","clash","due"]:List Str).Nodup:=by decide +kernel
 have:=d7 T;have:=kR T;have:=jj T;have:=jZ T;have:=iH T;have:=jV T;delta oW eU iV;repeat' walk_at "Q"
end
end K15
section
open PySem PySem.W PyProof.Rows
noncomputable abbrev K15.VV:Program:=(view PySem.Challenge.pw_glowrow_k15_windows [1,2,3,4,5,6,7,8,9,10,11,13,14,15,16,17,19,20,21,22,23,24,25,26])
set_option maxHeartbeats 0 in
theorem K15.h1:∀(w:World) (os:OsState),(Hd.RT (OpenLaw.row PySem.Challenge.rw_glowrow_k15_windows).prog w 5606 os).map (fun s=>Hd.pA (OpenLaw.row PySem.Challenge.rw_glowrow_k15_windows).prog w.params s.abs&&Hd.pB K15.VV (importedModules (OpenLaw.row PySem.Challenge.rw_glowrow_k15_windows).prog.main.body) (fun s=>xlAt K15.VV [] s&&recOk (RowW.records (OpenRow.toRowW (OpenLaw.row PySem.Challenge.rw_glowrow_k15_windows))) s) s.abs)=some true:=by
 intro w os;unfold Hd.RT;rw[W.Fast.te15732481512506401174,W.Fast.te2530740449226627131,W.Fast.te13930993214811372802];kernel_rfl
set_option maxHeartbeats 0 in
theorem K15.h2:∀(w:World) (os:OsState),(Hd.RT (OpenLaw.row PySem.Challenge.rw_glowrow_k15_windows).prog w 5606 os).map (fun s=>Hd.pC K15.VV s.abs)=some (expectedOf K15.VV,bltViewBooted,wideGood K15.VV):=by
 intro w os;unfold Hd.RT;rw[W.Fast.te15732481512506401174,W.Fast.te2530740449226627131,W.Fast.te7338995916957470747];kernel_rfl
set_option maxHeartbeats 0 in
theorem K15.h3:∀(w:World) (os:OsState),(Hd.RT (OpenLaw.row PySem.Challenge.rw_glowrow_k15_windows).prog w 5606 os).map (fun s=>Hd.pD K15.VV s.abs)=some (pinGoodD (drecsOf K15.VV),plainGoodE K15.VV (looseW K15.VV []),plainGoodD K15.VV [],clsGoodW K15.VV []):=by
 intro w os;unfold Hd.RT;rw[W.Fast.te15732481512506401174,W.Fast.te2530740449226627131,W.Fast.te4913325751328045840];kernel_rfl
local macro_rules | `(tactic| o_head $H) => `(tactic| (
 refine holds_open (q:=K15.VV) (loose:=[]) (Xt:=(fun s=>xlAt K15.VV [] s&&recOk (RowW.records (OpenRow.toRowW (OpenLaw.row PySem.Challenge.rw_glowrow_k15_windows))) s)) (XP:=XL K15.VV []) (Yf:=Hook.obs $H) (Ya:=Hook.val $H) (YP:=Hook.says $H) (N:=5606) ?hl (Hook.of $H) (Hook.keeps $H) (fun s e=>xl_of s (Bool.and_eq_true_iff.mp e).1) XL.keeps (by rfl) (by rfl) (by rfl) (fun s e=>recFacts_of (Bool.and_eq_true_iff.mp e).2) (by rfl) (by first|assumption|decide +kernel) (by decide +kernel) ⟨rfl,rfl,rfl,rfl,rfl,by decide +kernel⟩ ?hw ?hc;
 (case hl=>
  refine Hd.left_km (boot_open (by kernel_rfl) rfl (fun s=>by kernel_rfl)) (fun w=>by kernel_rfl) K15.h1 K15.h2 K15.h3 ?_;intro w os;unfold Hd.RT;rw[W.Fast.te15732481512506401174,W.Fast.te2530740449226627131];kernel_rfl)))
set_option hygiene false
local macro_rules | `(tactic| walk_at "us") => `(tactic| first | rfl | (exfalso; simp at hl; done) | (cases us with | nil => (first | rfl | cases hl) | cons _ us => walk_at "us"))
local macro_rules | `(tactic| walk_at "kc") => `(tactic| refine' DL.kc_mk KX G ?y0 ?y1 ?y2 ?y3 ?y4 ?y5 ?y6; (case y0 => k_is); (case y1 => k_is); (case y2 => k_is); (case y3 => k_is); (case y4 => k_is); (case y5 => k_is); (case y6 => k_is))
local macro_rules | `(tactic| walk_at "ec") => `(tactic| refine' DL.A3 KX G ?w0 ?w1 ?w2 ?w3 ?w4 ?w5 ?w6 ?w7 ?w8 ?w9 ?w10 ?w11; (case w0 => k_is); (case w1 => k_is); (case w2 => k_is); (case w3 => k_is); (case w4 => k_is); (case w5 => k_is); (case w6 => k_is); (case w7 => k_is); (case w8 => k_is); (case w9 => k_exc); (case w10 => k_is); (case w11 => k_is))
local macro_rules | `(tactic| walk_at "ff") => `(tactic| (refine' DL.AV KX G ?x0 ?x1 ?x2 ?x3 ?x4; (case x0 => k_is); (case x1 => k_is); (case x2 => k_is); (case x3 => k_is); (case x4 => (intro _ _ _ _ _ _ us hl; walk_at "us"))))
local macro_rules | `(tactic| walk_at "mf") => `(tactic| (refine' DL.mf_mk ?x0 ?x1 ?x2 ?x3 ?x4 ?x5 ?x6; (case x0 => walk_at "kc"); (case x1 => k_is); (case x2 => k_is); (case x3 => k_is); (case x4 => k_is); (case x5 => k_is); (case x6 => (intro _ _ _ _ _ _ us hl; walk_at "us"))))
local macro_rules | `(tactic| walk_at "im") => `(tactic| (refine' DL.Bb ?v0 ?v1; (case v0 => walk_at "ec"); (case v1 => k_is)))
set_option maxRecDepth 100000 in
set_option maxHeartbeats 0 in
theorem K15.pre (ht:∀ns:List Int,ns.length≤63→∃M',K15.ow [.ro (ns.map DL.D.int)] []=.ok (.bl true) M'):PySem.Challenge.rw_glowrow_k15_windows.Holds:=by
 w_on;o_law;k_head;(case hw=>w_witness2)
 k_fill
 refine DL.wb (l:=PySem.Challenge.rw_glowrow_k15_windows) (n:=63) (k:=5) (x:="script") (F:=K15.ow) rfl (by decide) rfl ⟨rfl,by decide,by decide⟩ (fun w h Y=>W.km_in_of Y) ?F ?T ht
 case F=>
  intro w mg fa h KX G hmg;refine DL.yn (st:=K15.wt) hmg ?L (fun base f fd L=>K15.xl ?TT L) (fun _ _ _ _ _ _ _=>rfl)
  (case TT=>
   refine DL.Tx.mk ?q0 ?q1 ?q2 ?q3 ?q4 ?q5 ?q6 ?q7 ?q8 ?q9
   (case q0=>((repeat (refine' DL.Ls.cons ?x ?_;(case x=>(walk_at "ff"))));exact DL.Ls.nil))
   (case q1=>((repeat (refine' DL.Ls.cons ?x ?_;(case x=>(walk_at "mf"))));exact DL.Ls.nil))
   (case q2=>((repeat (refine' DL.Ls.cons ?x ?_;(case x=>(walk_at "lf"))));exact DL.Ls.nil))
   (case q3=>((repeat (refine' DL.Ls.cons ?x ?_;(case x=>(refine' DL.Cd KX G ?x0;(case x0=>k_is)))));exact DL.Ls.nil))
   (case q4=>((repeat (refine' DL.Ls.cons ?x ?_;(case x=>(refine' DL.AE ?x0;(case x0=>walk_at "ec")))));exact DL.Ls.nil))
   (case q5=>((repeat (refine' DL.Ls.cons ?x ?_;(case x=>(refine' DL.Al ?u0 ?u1;(case u0=>walk_at "ec");(case u1=>((repeat (refine' DL.Ls.cons ?u2 ?_;(case u2=>walk_at "im")));exact DL.Ls.nil))))));exact DL.Ls.nil))
   (case q6=>((repeat (refine' DL.Ls.cons ?x ?_;(case x=>(walk_at "im"))));exact DL.Ls.nil))
   (case q7=>((repeat (refine' DL.Ls.cons ?x ?_;(case x=>(refine' DL.A0 ?x0 ?x1;(case x0=>walk_at "kc");(case x1=>k_is)))));exact DL.Ls.nil))
   (case q8=>((repeat (refine' DL.Ls.cons ?x ?_;(case x=>(refine' DL.Bo (u:=PySem.Value.str _) KX G ?x0;(case x0=>k_is)))));exact DL.Ls.nil))
   (case q9=>((repeat (refine' DL.Ls.cons ?x ?_;(case x=>(refine' DL.Bo (u:=PySem.Value.int _) KX G ?x0;(case x0=>k_is)))));exact DL.Ls.nil)))
  (case L=>walk_at "ff")
 case T=>
  intro w;refine' DL.v8 (DL.p5 (x:="table_within") ?jo (DL.xK ?iA ?iB ?iC ?iF ?iG) ?jC DL.sT) (DL.tD (.inl ?e_ink_shown) (.inr ⟨_,.head _,rfl⟩) (.inl ?e_slots_given) (.inl ?e_cast_on_slots)) ?bm ?bl
  (case jo=>rfl)
  (case iA=>k_is)
  (case iB=>k_is)
  (case iC=>rfl)
  (case iF=>k_is)
  (case iG=>rfl)
  (case jC=>kernel_rfl)
  (case e_ink_shown=>k_is)
  (case e_slots_given=>k_is)
  (case e_cast_on_slots=>k_is)
  (case bm=>k_is)
  (case bl=>kernel_rfl)
end
namespace K15
open PySem PySem.Spec PyProof.Rows L2 DL List
local macro_rules | `(tactic| simp_arith [$args,*] $[$loc]?) => `(tactic| first | (dsimp only [aN.bind, ao, av, dQ, bY, fm, cS, aU, af, gC, DL.g2, au, bt, ae, ah, aK, Aj, kS, uX, iI, dm, ik, bx, cC, gq, jL, aW, dk, xy, bL, cO, jQ, qt, bP, jd, cP, ce, dG, jS, pT, vF, wk, bG, bj, fT, nT, gN, eG, cF, oZ, dh, dA, df, ji, iq, dr, uc, jq, cR, lL, zL, lC, cU, dg, mM, gM, mH, du, d8, eE, eT, eL, qw, fK, mL, iw, qD, lR] $[$loc]?; simp [ao, av, dQ, bY, fm, cS, aU, af, gC, DL.g2, au, bt, ae, ah, aK, Aj, kS, uX, iI, dm, ik, bx, cC, gq, jL, aW, dk, xy, bL, cO, jQ, qt, bP, jd, cP, ce, dG, jS, pT, vF, wk, bG, bj, fT, nT, gN, eG, cF, oZ, dh, dA, df, ji, iq, dr, uc, jq, cR, lL, zL, lC, cU, dg, mM, gM, mH, du, d8, eE, eT, eL, qw, fK, mL, iw, qD, lR, $args,*] $[$loc]?) | simp [ao, av, dQ, bY, fm, cS, aU, af, gC, DL.g2, au, bt, ae, ah, aK, Aj, kS, uX, iI, dm, ik, bx, cC, gq, jL, aW, dk, xy, bL, cO, jQ, qt, bP, jd, cP, ce, dG, jS, pT, vF, wk, bG, bj, fT, nT, gN, eG, cF, oZ, dh, dA, df, ji, iq, dr, uc, jq, cR, lL, zL, lC, cU, dg, mM, gM, mH, du, d8, eE, eT, eL, qw, fK, mL, iw, qD, lR, $args,*] $[$loc]?)
noncomputable abbrev W3:=Int×Int×Int
noncomputable def wD (w:W3):D:=.tup [.int w.1,.int w.2.1,.int w.2.2]
noncomputable def cD (W:List W3):Prop:=∀a,a∈W→∀b,b∈W→a.1=b.1→a.2.1=b.2.1→a.2.2=b.2.2
noncomputable def j4 (w o:W3):Bool:=(decide (o.1=w.1)&&decide (o.2.1=w.2.1))&&!decide (o.2.2=w.2.2)
noncomputable def dJ (acc:List W3)(w:W3):List W3:=if acc.filter (j4 w)=[] then acc++[w] else acc
noncomputable def cA (W:List W3):List W3:=W.foldl dJ []
variable{w:W3}
theorem mV {o:W3}:j4 w o=true↔o.1=w.1∧o.2.1=w.2.1∧o.2.2≠w.2.2:=by
 unfold j4;simp[and_assoc]
variable{acc:List W3}
theorem nA (h:cD acc):cD (dJ acc w):=by
 unfold dJ
 by_cases q:acc.filter (j4 w)=[]
 ·rw[if_pos q];have no:∀o,o∈acc→o.1=w.1→o.2.1=w.2.1→o.2.2=w.2.2:=fun o ho e1 e2=>by
   have:=List.filter_eq_nil_iff.mp q o ho;rw[mV] at this;exact Classical.byContradiction fun z=>this ⟨e1,e2,z⟩
  intro a ha b hb e1 e2;rcases mem_append.mp ha with xa|xa <;> rcases mem_append.mp hb with xb|xb
  ·exact h a xa b xb e1 e2
  ·obtain rfl:=mem_singleton.mp xb;exact no a xa e1 e2
  ·obtain rfl:=mem_singleton.mp xa;exact(no b xb e1.symm e2.symm).symm
  ·rw[mem_singleton.mp xa,mem_singleton.mp xb]
 ·rw[if_neg q];exact h
theorem jh:∀(W acc:List W3),cD acc→cD (W.foldl dJ acc)
 | [],_,h=>h
 | w::W,acc,h=>jh W (dJ acc w) (nA h)
theorem ml:∀(W acc:List W3),cD (acc++W)→W.foldl dJ acc=acc++W
 | [],acc,_=>(append_nil acc).symm
 | w::W,acc,h=>by
  have e:dJ acc w=acc++[w]:=by
   unfold dJ;refine if_pos (List.filter_eq_nil_iff.mpr fun o ho z=>?_);obtain⟨e1,e2,e3⟩:=mV.mp z;exact e3 (h o (mem_append_left _ ho) w (mem_append_right _ mem_cons_self) e1 e2)
  rw[foldl_cons,e,ml W (acc++[w]) (by rw[append_assoc];exact h),append_assoc];rfl
variable{W:List W3}
theorem oK :cA W=W↔cD W:=by
 constructor
 ·intro h;rw[←h];exact jh W [] (fun a ha=>by cases ha)
 ·intro h;exact ml W [] h
theorem mQ:∀(W acc:List W3),(∀x,x∈W.foldl dJ acc→x∈acc∨x∈W)∧(W.foldl dJ acc).length≤acc.length+W.length
 | [],acc=>⟨fun x h=>.inl h,Nat.le_refl _⟩
 | w::W,acc=>by
  obtain⟨h1,h2⟩:=mQ W (dJ acc w);have a:(∀x,x∈dJ acc w→x∈acc∨x=w)∧(dJ acc w).length≤acc.length+1:=by
   unfold dJ;split
   ·exact⟨fun x hx=>(mem_append.mp hx).imp id mem_singleton.mp,by simp⟩
   ·exact⟨fun x hx=>.inl hx,by omega⟩
  refine⟨fun x hx=>?_,?_⟩
  ·rcases h1 x hx with z|z
   ·rcases a.1 x z with z|z
    ·exact .inl z
    ·exact .inr (by rw[z];exact mem_cons_self)
   ·exact .inr (mem_cons_of_mem _ z)
  ·rw[foldl_cons,length_cons];have:=a.2;omega
theorem oo :(∀x,x∈cA W→x∈W)∧(cA W).length≤W.length:=by
 obtain⟨h1,h2⟩:=mQ W [];refine⟨fun x hx=>(h1 x hx).resolve_left (by simp),?_⟩;have h2:(cA W).length≤0+W.length:=h2;omega
noncomputable def AL (pot:Int→Int)(W:List W3)(w:W3)(first old:Int):Prop:=
 ((∀o,o∈W→o.2.1=w.2.1→¬o.1<w.1)∧first=0∧old=pot w.2.1)∨
 ∃o,o∈W∧o.2.1=w.2.1∧o.1<w.1∧(∀p,p∈W→p.2.1=w.2.1→p.1<w.1→p.1≤o.1)∧first=o.1+1∧old=o.2.2
variable{pot:Int→Int}
theorem fV {f o f' o':Int}(ha:cD W)(h:AL pot W w f o)(h':AL pot W w f' o'):f=f'∧o=o':=by
 rcases h with⟨n,rfl,rfl⟩|⟨p,hp,e1,e2,e3,rfl,rfl⟩ <;> rcases h' with⟨n',rfl,rfl⟩|⟨q,hq,g1,g2,g3,rfl,rfl⟩
 ·exact⟨rfl,rfl⟩
 ·exact absurd g2 (n q hq g1)
 ·exact absurd e2 (n' p hp e1)
 ·have a:=e3 q hq g1 g2;have b:=g3 p hp e1 e2;have e:p.1=q.1:=by omega
  exact⟨by omega,ha p hp q hq e (by omega)⟩
noncomputable def tU (pot:Int→Int)(W:List W3)(ok:W3→Prop)(z:List Int):Prop:=∃w f o,w∈W∧ok w∧AL pot W w f o∧o≠w.2.2∧z=[f,w.1,w.2.1,w.2.2]
theorem pJ {a b:List (List Int)}(ha:a.Nodup)(hb:b.Nodup)(h:∀z,z∈a↔z∈b):bg a=bg b:=
 dM ((bf a).trans (((List.perm_ext_iff_of_nodup ha hb).mpr h).trans (bf b).symm)) (eF a) (eF b)
noncomputable abbrev En:=Int×Nat×List (Int×Int)
noncomputable def ue (e:En):bH×D:=(.inl e.1,.mr e.2.1)
noncomputable def jY (p:Int×Int):bH×D:=(.inl p.1,.int p.2)
structure fI (M N:aq)(told:List En):Prop where
 at_:∃R,N=M++.dK (told.map ue)::R∧R.all cf=true
 ent:∀e,e∈told→M.length<e.2.1∧N[e.2.1]?=some (.dK (e.2.2.map jY))
 ndi:(told.map fun e=>e.1).Nodup
 ndj:(told.map fun e=>e.2.1).Nodup
structure pz (P:List W3)(told:List En):Prop where
 nd:∀e,e∈told→(e.2.2.map fun p=>p.1).Nodup
 mem:∀e,e∈told→∀r h,(r,h)∈e.2.2↔(r,e.1,h)∈P
 cov:∀w,w∈P→∃e,e∈told∧e.1=w.2.1
noncomputable def ud (k l:Nat)(told:List En):Prop:=told.length≤k∧∀e,e∈told→e.2.2.length≤l∧0≤e.1∧e.1<16
theorem jD {α β:Type}{f:α→β}:∀{l:List α},(l.map f).Nodup→∀{a b:α},a∈l→b∈l→f a=f b→a=b
 | [],_,_,_,h,_,_=>by cases h
 | x::l,hn,a,b,ha,hb,e=>by
  rw[map_cons,nodup_cons] at hn;rcases mem_cons.mp ha with xa|xa <;> rcases mem_cons.mp hb with xb|xb
  ·rw[xa,xb]
  ·exact absurd (mem_map.mpr ⟨b,xb,by rw[←e,xa]⟩) hn.1
  ·exact absurd (mem_map.mpr ⟨a,xa,by rw[e,xb]⟩) hn.1
  ·exact jD hn.2 xa xb e
variable{d:D}
theorem gY {α κ:Type}[DecidableEq κ]{f:α→κ×D}{l:List α}{k:κ}(h:cQ (l.map f) k=some d):∃a,a∈l∧(f a).1=k∧(f a).2=d:=by
 unfold cQ at h;obtain⟨kv,e1,e2⟩:=Option.map_eq_some_iff.mp h;obtain⟨a,ha,rfl⟩:=mem_map.mp (List.mem_of_find?_eq_some e1);have:=List.find?_some e1;exact⟨a,ha,of_decide_eq_true this,e2⟩
theorem gX {α κ:Type}[DecidableEq κ]{f:α→κ×D}{l:List α}{k:κ}(h:cQ (l.map f) k=none):∀a,a∈l→(f a).1≠k:=by
 unfold cQ at h;intro a ha e;have:=List.find?_eq_none.mp (Option.map_eq_none_iff.mp h) (f a) (mem_map.mpr ⟨a,ha,rfl⟩);rw[decide_eq_true e] at this;exact this rfl
variable{ρ:bF}{M:aq}
theorem jv {go gy gz:GE}{M1:aq}{i:Nat}{y z:D}(h1:go ρ M=.ok (.mr i) M)(h2:i6 M[i]?=true)(h3:gy ρ M=.ok y M)(h4:gz ρ M=.ok z M1):cJ go gy gz ρ M=de i y z M1:=by
 unfold cJ;rw[h1,ai];dsimp only;rw[if_pos h2,h3,ai,h4,ai]
theorem vL (hs:List (Int×Int)):cf (.dK (hs.map jY))=true:=by
 show((hs.map jY).all fun p=>aJ 30 p.2)=true;refine all_eq_true.mpr fun x hx=>?_
 obtain⟨p,_,rfl⟩:=mem_map.mp hx;rfl
variable{N:aq}{told:List En}
theorem fI.get (R:fI M N told):N[M.length]?=some (.dK (told.map ue)):=by
 obtain⟨r,e,_⟩:=R.at_;rw[e];simp
theorem fI.lt (R:fI M N told):M.length<N.length:=(List.getElem?_eq_some_iff.mp R.get).1
variable{P:List W3}{k:Nat}{i:Int}
theorem CJ {l:Nat}(R:fI M N told)(H:pz P told)(L:ud k l told)(hk:k<100000)(hi:0≤i∧i<16)(h1:ρ[1]?=some (some (.mr M.length)))(h3:ρ[3]?=some (some (.int i))) :
  ∃N1 told1 j hs,cJ (af 1) (af 3) jm ρ N=.ok (.mr j) N1∧fI M N1 told1∧pz P told1∧ud (k+1) l told1∧(i,j,hs)∈told1:=by
 have gv:∀(n:Nat) (d:D) (N:aq),ρ[n]?=some (some d)→af n ρ N=.ok d N:=fun n d N h=>by unfold af;rw[h]
 have e0:=jv (gy:=af 3) (gz:=jm) (M1:=N++[.dK []]) (z:=.mr N.length) (gv 1 _ N h1) (by rw[R.get];rfl) (gv 3 _ N h3) rfl;obtain⟨r,eN,pr⟩:=id R.at_;have eN2:N++[.dK []]=M++.dK (told.map ue)::(r++[.dK []]):=by rw[eN];simp
 have pr2:(r++[MO.dK []]).all cf=true:=by rw[all_append,pr];rfl
 have gl:∀j o,N[j]?=some o→(N++[MO.dK []])[j]?=some o:=fun j o h=>by rw[getElem?_append_left (List.getElem?_eq_some_iff.mp h).1];exact h
 cases q:cQ (told.map ue) (.inl i) with
 | some d=>
  obtain⟨e,he,e1,e2⟩:=gY q;have e1:e.1=i:=by injection e1
  have e2:D.mr e.2.1=d:=e2;refine⟨N++[.dK []],told,e.2.1,e.2.2,?_,⟨⟨_,eN2,pr2⟩,fun e he=>⟨(R.ent e he).1,gl _ _ (R.ent e he).2⟩,R.ndi,R.ndj⟩,H,⟨Nat.le_succ_of_le L.1,L.2⟩,by rw[←e1];exact he⟩;rw[e0,hZ (gl _ _ R.get) (show cY (.int i)=some (.inl i) from rfl) q,e2]
 | none=>
  have no:=gX q;have no:∀e,e∈told→e.1≠i:=fun e he z=>no e he (by unfold ue;rw[z])
  refine⟨(N++[MO.dK []]).set M.length (MO.dK (told.map ue++[(Sum.inl i,D.mr N.length)])),told++[(i,N.length,[])],N.length,[],?_,⟨⟨r++[.dK []],?_,pr2⟩,fun e he=>?_,?_,?_⟩,⟨fun e he=>?_,fun e he=>?_,fun w hw=>?_⟩,⟨by rw[length_append];exact Nat.add_le_add_right L.1 1,fun e he=>?_⟩,mem_append_right _ mem_cons_self⟩
  ·rw[e0];exact ir (gl _ _ R.get) (show cY (.int i)=some (.inl i) from rfl) q (by rw[length_map];have:=L.1;omega)
  ·rw[eN2,set_append_right _ _ (Nat.le_refl _),Nat.sub_self,map_append];rfl
  ·have hl:=R.lt;rcases mem_append.mp he with he|he
   ·obtain⟨a,b⟩:=R.ent e he;refine⟨a,?_⟩;rw[getElem?_set_ne (by omega)];exact gl _ _ b
   ·obtain rfl:=mem_singleton.mp he;refine⟨hl,?_⟩;show((N++[MO.dK []]).set M.length _)[N.length]?=_;rw[getElem?_set_ne (by omega)];simp
  ·rw[map_append,nodup_append];refine⟨R.ndi,by simp,fun a ha b hb=>?_⟩;obtain⟨e,he,rfl⟩:=mem_map.mp ha;obtain rfl:=mem_singleton.mp hb;exact no e he
  ·rw[map_append,nodup_append];refine⟨R.ndj,by simp,fun a ha b hb=>?_⟩;obtain⟨e,he,rfl⟩:=mem_map.mp ha;obtain rfl:=mem_singleton.mp hb;have:=(List.getElem?_eq_some_iff.mp (R.ent e he).2).1;show e.2.1≠N.length;omega
  ·rcases mem_append.mp he with he|he
   ·exact H.nd e he
   ·obtain rfl:=mem_singleton.mp he;simp
  ·rcases mem_append.mp he with he|he
   ·exact H.mem e he
   ·obtain rfl:=mem_singleton.mp he;intro r h;refine⟨fun z=>(by cases z),fun z=>?_⟩;obtain⟨e,he,e1⟩:=H.cov _ z;exact absurd e1 (no e he)
  ·obtain⟨e,he,e1⟩:=H.cov w hw;exact⟨e,mem_append_left _ he,e1⟩
  ·rcases mem_append.mp he with he|he
   ·exact L.2 e he
   ·obtain rfl:=mem_singleton.mp he;exact⟨Nat.zero_le _,hi⟩
noncomputable def pY (i r h:Int)(e:En):En:=if e.1=i then(e.1,e.2.1,e.2.2++[(r,h)]) else e
theorem js (i r h:Int)(e:En):(pY i r h e).1=e.1∧(pY i r h e).2.1=e.2.1:=by
 unfold pY;split <;> exact⟨rfl,rfl⟩
theorem kJ {r h:Int}{e:En}(q:e.1=i):pY i r h e=(e.1,e.2.1,e.2.2++[(r,h)]):=if_pos q
theorem jb {r h:Int}{e:En}(q:e.1≠i):pY i r h e=e:=if_neg q
variable{hs:List (Int×Int)}
theorem B8 {l j:Nat}{r h:Int}(R:fI M N told)(H:pz P told)(L:ud k l told)(hk:l<100000)(he:(i,j,hs)∈told) :
  (∃h',(r,i,h')∈P∧de j (.int r) (.int h) N=.ok (.int h') N∧(h'=h→pz (P++[(r,i,h)]) told))∨
  ∃N1 told1,de j (.int r) (.int h) N=.ok (.int h) N1∧fI M N1 told1∧pz (P++[(r,i,h)]) told1∧ud k (l+1) told1:=by
 obtain⟨hj,gj⟩:=R.ent _ he;have hj:M.length<j:=hj;have gj:N[j]?=some (.dK (hs.map jY)):=gj;cases q:cQ (hs.map jY) (.inl r) with
 | some d=>
  obtain⟨p,hp,e1,e2⟩:=gY q;have e1:p.1=r:=by injection e1
  have e2:D.int p.2=d:=e2;have hP:(r,i,p.2)∈P:=(H.mem _ he r p.2).mp (by rw[←e1];exact hp);refine .inl ⟨p.2,hP,by rw[hZ gj (show cY (.int r)=some (.inl r) from rfl) q,e2],fun z=>⟨H.nd,fun e he r' h'=>?_,fun w hw=>?_⟩⟩
  ·rw[H.mem e he,mem_append,mem_singleton];refine⟨.inl,fun x=>x.elim id fun x=>?_⟩;rw[x,←z];exact hP
  ·rcases mem_append.mp hw with hw|hw
   ·exact H.cov w hw
   ·obtain rfl:=mem_singleton.mp hw;exact⟨_,he,rfl⟩
 | none=>
  have no:=gX q;have no:∀p,p∈hs→p.1≠r:=fun p hp z=>no p hp (by unfold jY;rw[z])
  have uq:∀e,e∈told→e.1=i→e=(i,j,hs):=fun e h1 h2=>jD R.ndi h1 he h2
  have uj:∀e,e∈told→e.1≠i→e.2.1≠j:=fun e h1 h2 z=>h2 (by rw[jD R.ndj h1 he z])
  have ki:(told.map (pY i r h)).map (fun e=>e.1)=told.map fun e=>e.1:=by
   rw[map_map];exact map_congr_left fun e _=>(js i r h e).1
  have kj:(told.map (pY i r h)).map (fun e=>e.2.1)=told.map fun e=>e.2.1:=by
   rw[map_map];exact map_congr_left fun e _=>(js i r h e).2
  have kk:(told.map (pY i r h)).map ue=told.map ue:=by
   rw[map_map];exact map_congr_left fun e _=>by show(Sum.inl (pY i r h e).1,D.mr (pY i r h e).2.1)=_;rw[(js i r h e).1,(js i r h e).2];rfl
  obtain⟨rr,eN,pr⟩:=id R.at_;refine .inr ⟨N.set j (.dK ((hs++[(r,h)]).map jY)),told.map (pY i r h),?_,⟨⟨rr.set (j-M.length-1) (.dK ((hs++[(r,h)]).map jY)),?_,?_⟩,fun e hm=>?_,by rw[ki];exact R.ndi,by rw[kj];exact R.ndj⟩,⟨fun e hm=>?_,fun e hm r' h'=>?_,fun w hw=>?_⟩,⟨by rw[length_map];exact L.1,fun e hm=>?_⟩⟩
  ·rw[ir gj (show cY (.int r)=some (.inl r) from rfl) q (by rw[length_map];have:hs.length≤l:=(L.2 _ he).1;omega),map_append];rfl
  ·rw[kk,eN,set_append_right _ _ (by omega),show j-M.length=(j-M.length-1)+1 by omega];rfl
  ·refine all_eq_true.mpr fun x hx=>?_
   rcases List.mem_or_eq_of_mem_set hx with hx|rfl
   ·exact all_eq_true.mp pr x hx
   ·exact vL _
  ·obtain⟨e0,h0,rfl⟩:=mem_map.mp hm;obtain⟨a,b⟩:=R.ent e0 h0
   by_cases z:e0.1=i
   ·rw[kJ z,uq e0 h0 z];exact⟨hj,by rw[getElem?_set_self (List.getElem?_eq_some_iff.mp gj).1]⟩
   ·rw[jb z];exact⟨a,by rw[getElem?_set_ne (fun x=>uj e0 h0 z x.symm)];exact b⟩
  ·obtain⟨e0,h0,rfl⟩:=mem_map.mp hm
   by_cases z:e0.1=i
   ·have n0:=H.nd e0 h0;rw[kJ z];rw[uq e0 h0 z] at n0 ⊢;show((hs++[(r,h)]).map fun p=>p.1).Nodup;rw[map_append,nodup_append];refine⟨n0,by simp,fun a ha b hb=>?_⟩;obtain⟨p,hp,rfl⟩:=mem_map.mp ha;obtain rfl:=mem_singleton.mp hb;exact no p hp
   ·rw[jb z];exact H.nd e0 h0
  ·obtain⟨e0,h0,rfl⟩:=mem_map.mp hm;have m0:=H.mem e0 h0 r' h'
   by_cases z:e0.1=i
   ·rw[kJ z];show(r',h')∈e0.2.2++[(r,h)]↔(r',e0.1,h')∈P++[(r,i,h)];rw[mem_append,mem_append,m0,mem_singleton,mem_singleton,z];simp
   ·rw[jb z,m0,mem_append,mem_singleton];refine⟨.inl,fun x=>x.elim id fun x=>absurd ?_ z⟩;rw[Prod.mk.injEq,Prod.mk.injEq] at x;exact x.2.1
  ·have mk:∀e0,e0∈told→∃e,e∈told.map (pY i r h)∧e.1=e0.1:=fun e0 h0=>⟨_,mem_map.mpr ⟨e0,h0,rfl⟩,(js i r h e0).1⟩
   rcases mem_append.mp hw with hw|hw
   ·obtain⟨e0,h0,e1⟩:=H.cov w hw;obtain⟨e,a,b⟩:=mk e0 h0;exact⟨e,a,b.trans e1⟩
   ·obtain rfl:=mem_singleton.mp hw;exact mk _ he
  ·obtain⟨e0,h0,rfl⟩:=mem_map.mp hm;have:=L.2 e0 h0;unfold pY;split
   ·refine⟨?_,this.2⟩;show(e0.2.2++[(r,h)]).length≤_;rw[length_append];exact Nat.add_le_add_right this.1 1
   ·exact⟨Nat.le_succ_of_le this.1,this.2⟩
noncomputable def eA (w:W3):Prop:=(0≤w.1∧w.1<40)∧0≤w.2.1∧w.2.1<16
theorem uI:∀n:Fin 40,((toString ((n.val:Nat):Int):Str)).length≤10:=by decide +kernel
variable{g:GE}
theorem ko {a:Int}(h0:0≤a)(h1:a<40)(hg:g ρ M=.ok (.int a) M):∃x:Str,gM g ρ M=.ok (.str x) M∧x.length≤10:=by
 obtain⟨n,rfl⟩:=Int.eq_ofNat_of_zero_le h0;have hn:n<40:=by omega
 have l:((n:Int)).natAbs.log2<1920:=by
  have h2:((n:Int)).natAbs<2 ^ 20:=by omega
  by_cases z:((n:Int)).natAbs=0
  ·rw[z];decide
  ·have:=(Nat.log2_lt z).mpr h2;omega
 refine⟨_,?_,uI ⟨n,hn⟩⟩;unfold gM;rw[hg,ai];unfold mH;dsimp only;rw[if_pos l]
theorem mm {ρ:bF}{M:aq}:∀(gs:List GE) (acc:Str),(∀g,g∈gs→∃y:Str,g ρ M=.ok (.str y) M∧y.length≤100)→acc.length+100*gs.length≤10000→∃x,du gs acc ρ M=.ok (.str x) M
 | [],acc,_,_=>⟨acc,rfl⟩
 | g::gs,acc,h,hl=>by
  obtain⟨y,ey,ly⟩:=h g mem_cons_self;rw[length_cons] at hl;have l2:(acc++y).length≤acc.length+100:=by rw[Str.length_append];omega
  obtain⟨x,ex⟩:=mm gs (acc++y) (fun g hg=>h g (mem_cons_of_mem _ hg)) (by omega);refine⟨x,?_⟩;show((g ρ M).bind fun d M1=>match d with | .str y=>if(acc++y).length≤sizeLine then du gs (acc++y) ρ M1 else .bad|_=>.bad)=_;rw[ey,ai];dsimp only;rw[if_pos (bW (by omega)),ex]
theorem yJ {r:Int}(hr:0≤r∧r<40)(hi:0≤i∧i<16)(h2:ρ[2]?=some (some (.int r)))(h3:ρ[3]?=some (some (.int i))) :
  ∃x,(du [(gC (.str "ink ")),(gM (af 3)),(gC (.str " shall have two hues on row ")),(gM (af 2))] Str.empty) ρ M=.ok (.str x) M:=by
 have gv:∀(n:Nat) (d:D) (N:aq),ρ[n]?=some (some d)→af n ρ N=.ok d N:=fun n d N h=>by unfold af;rw[h]
 obtain⟨x,ex,lx⟩:=ko (g:=af 3) (ρ:=ρ) (M:=M) hi.1 (by omega) (gv 3 _ M h3);obtain⟨y,ey,ly⟩:=ko (g:=af 2) (ρ:=ρ) (M:=M) hr.1 (by omega) (gv 2 _ M h2);have s1:("ink ":Str).length≤100:=by decide
 have s2:(" shall have two hues on row ":Str).length≤100:=by decide
 have s0:(Str.empty).length=0:=by decide
 refine mm _ _ (fun g hg=>?_) (by rw[s0];decide);simp only[mem_cons,not_mem_nil,or_false] at hg;rcases hg with rfl|rfl|rfl|rfl
 ·exact⟨_,rfl,s1⟩
 ·exact⟨x,ex,by omega⟩
 ·exact⟨_,rfl,s2⟩
 ·exact⟨y,ey,by omega⟩
theorem u3 {a x:Option D}(R:fI M N told)(H:pz P told)(L:ud k k told)(hk:k<10000)(hw:eA w) :
  (∃E h',aw [a,some (.mr M.length),some (.int w.1),some (.int w.2.1),some (.int w.2.2),x] N=.err "Clash" (M++E)∧(w.1,w.2.1,h')∈P∧h'≠w.2.2)∨
  ∃N1 told1 y,aw [a,some (.mr M.length),some (.int w.1),some (.int w.2.1),some (.int w.2.2),x] N=.ok (.nx [a,some (.mr M.length),some (.int w.1),some (.int w.2.1),some (.int w.2.2),y]) N1∧fI M N1 told1∧pz (P++[w]) told1∧ud (k+1) (k+1) told1:=by
 obtain⟨N1,told1,j,hs,e1,R1,H1,L1,he⟩:=CJ (ρ:=[a,some (.mr M.length),some (.int w.1),some (.int w.2.1),some (.int w.2.2),x]) (i:=w.2.1) R H L (by omega) hw.2 rfl rfl;have dj:i6 N1[j]?=true:=by rw[(R1.ent _ he).2];rfl
 have e2:=jv (ρ:=[a,some (.mr M.length),some (.int w.1),some (.int w.2.1),some (.int w.2.2),some (.mr j)]) (M:=N1) (go:=af 5) (gy:=af 2) (gz:=af 4) (y:=.int w.1) (z:=.int w.2.2) rfl dj rfl rfl;have body:∀v N2,de j (.int w.1) (.int w.2.2) N1=.ok (.int v) N2→aw [a,some (.mr M.length),some (.int w.1),some (.int w.2.1),some (.int w.2.2),x] N=dQ (fun _ M=>.ok (!decide (v=w.2.2)) M) (cU "Clash" (du [(gC (.str "ink ")),(gM (af 3)),(gC (.str " shall have two hues on row ")),(gM (af 2))] Str.empty)) aU [a,some (.mr M.length),some (.int w.1),some (.int w.2.1),some (.int w.2.2),some (.mr j)] N2:=fun v N2 e=>by
  unfold aw;refine(aB (aD e1)).trans ?_;have t:aK (g2 (aS true) (cJ (af 5) (af 2) (af 4)) (af 4)) [a,some (.mr M.length),some (.int w.1),some (.int w.2.1),some (.int w.2.2),some (.mr j)] N1=.ok (!decide (v=w.2.2)) N2:=bb (az (e2.trans e) rfl (oN _ _ _));show dQ _ _ _ [a,some (.mr M.length),some (.int w.1),some (.int w.2.1),some (.int w.2.2),some (.mr j)] N1=_;cases q:(!decide (v=w.2.2)) with
  | true=>rw[gU (t.trans (by rw[q])),gU rfl]
  | false=>rw[eK (t.trans (by rw[q])),eK rfl]
 rcases B8 (r:=w.1) (h:=w.2.2) R1 H1 L1 (by omega) he with⟨h',hP,e,hH⟩|⟨N2,told2,e,R2,H2,L2⟩
 ·by_cases z:h'=w.2.2
  ·refine .inr ⟨N1,told1,some (.mr j),?_,R1,hH z,⟨L1.1,fun e he=>⟨Nat.le_trans (L1.2 e he).1 (by omega),(L1.2 e he).2⟩⟩⟩;rw[body _ _ e,decide_eq_true z];rfl
  ·obtain⟨m,em⟩:=yJ (ρ:=[a,some (.mr M.length),some (.int w.1),some (.int w.2.1),some (.int w.2.2),some (.mr j)]) (M:=N1) hw.1 hw.2 rfl rfl;obtain⟨r,eN,_⟩:=R1.at_;refine .inl ⟨.dK (told1.map ue)::r,h',?_,hP,z⟩;rw[body _ _ e,decide_eq_false z];show cU "Clash" _ _ N1=_;unfold cU;rw[em,ai,eN]
 ·refine .inr ⟨N2,told2,some (.mr j),?_,R2,H2,L2⟩;rw[body _ _ e,decide_eq_true rfl];rfl
theorem oV {M:aq}{a:Option D}{ds0:List D}:∀(Q P:List W3) (k:Nat) (N:aq) (told:List En) (x2 x3 x4 x5:Option D),fI M N told→pz P told→ud k k told→k+Q.length<10000→(∀w,w∈Q→eA w)→
  (∃E,a8 ⟨ds0,none⟩ (df [2,3,4]) aw (Q.map wD) [a,some (.mr M.length),x2,x3,x4,x5] N=.err "Clash" (M++E)∧¬cD (P++Q))∨
  ∃N1 told1 y2 y3 y4 y5,a8 ⟨ds0,none⟩ (df [2,3,4]) aw (Q.map wD) [a,some (.mr M.length),x2,x3,x4,x5] N=.ok (.nx [a,some (.mr M.length),y2,y3,y4,y5]) N1∧fI M N1 told1∧pz (P++Q) told1∧ud (k+Q.length) (k+Q.length) told1
 | [],P,k,N,told,x2,x3,x4,x5,R,H,L,_,_=>.inr ⟨N,told,x2,x3,x4,x5,rfl,R,by rw[append_nil];exact H,L⟩
 | w::Q,P,k,N,told,x2,x3,x4,x5,R,H,L,hk,hs=>by
  rw[length_cons] at hk;have st:∀o,aw [a,some (.mr M.length),some (.int w.1),some (.int w.2.1),some (.int w.2.2),x5] N=o→a8 ⟨ds0,none⟩ (df [2,3,4]) aw ((w::Q).map wD) [a,some (.mr M.length),x2,x3,x4,x5] N=o.bind fun f M1=>match f with
    | .nx ρ2=>a8 ⟨ds0,none⟩ (df [2,3,4]) aw (Q.map wD) ρ2 M1
    | .ct ρ2=>a8 ⟨ds0,none⟩ (df [2,3,4]) aw (Q.map wD) ρ2 M1
    | .bk ρ2=>.ok (.nx ρ2) M1
    | .rt d=>.ok (.rt d) M1:=fun o e=>by
   rw[←e,map_cons,a8,if_pos dX];rfl
  have ap:P++w::Q=P++[w]++Q:=by rw[append_assoc];rfl
  rcases u3 (a:=a) (x:=x5) R H L (by omega) (hs w mem_cons_self) with⟨E,h',e,hP,ne⟩|⟨N1,told1,y,e,R1,H1,L1⟩
  ·refine .inl ⟨E,st _ e,fun z=>ne ?_⟩;exact z _ (mem_append_left _ hP) w (mem_append_right _ mem_cons_self) rfl rfl
  ·rw[st _ e,ap];have e2:k+(w::Q).length=k+1+Q.length:=by rw[length_cons];omega
   rw[e2];exact oV Q (P++[w]) (k+1) N1 told1 _ _ _ _ R1 H1 L1 (by omega) fun v hv=>hs v (mem_cons_of_mem _ hv)
theorem j7 (H:pz P told):cD P:=fun a ha b hb e1 e2=>by
 obtain⟨e,he,ei⟩:=H.cov a ha;have m1:(a.1,a.2.2)∈e.2.2:=(H.mem e he a.1 a.2.2).mpr (by rw[ei];exact ha);have m2:(b.1,b.2.2)∈e.2.2:=(H.mem e he b.1 b.2.2).mpr (by rw[ei,e2];exact hb);have:=jD (H.nd e he) m1 m2 e1;injection this
theorem uD (hs:∀w,w∈W→eA w)(hl:W.length≤200) :
  (∃E,aL [.lst (W.map wD)] M=.err "Clash" (M++E)∧¬cD W)∨∃N told,aL [.lst (W.map wD)] M=.ok (.mr M.length) N∧fI M N told∧pz W told∧ud 200 200 told:=by
 have R0:fI M (M++[.dK []]) []:=⟨⟨[],rfl,rfl⟩,(fun e he=>by cases he),.nil,.nil⟩;have H0:pz [] []:=⟨(fun e he=>by cases he),(fun e he=>by cases he),(fun w hw=>by cases hw)⟩;have g:∀o,a8 ⟨W.map wD,none⟩ (df [2,3,4]) aw (W.map wD) [some (.lst (W.map wD)),some (.mr M.length),none,none,none,none] (M++[.dK []])=o→bC [some (.lst (W.map wD)),none,none,none,none,none] M=ao (fun _ _=>o) (bY (af 1)) [some (.lst (W.map wD)),some (.mr M.length),none,none,none,none] (M++[.dK []]):=fun o e=>by
  unfold bC;refine(aB (aD (d:=.mr M.length) (M1:=M++[.dK []]) rfl)).trans ?_;show ao _ _ [some (.lst (W.map wD)),some (.mr M.length),none,none,none,none] _=_;unfold ao;rw[fL (gw (xs:=W.map wD) rfl) e]
 show(∃E,bL (bC [some (.lst (W.map wD)),none,none,none,none,none] M)=.err "Clash" (M++E)∧_)∨∃N told,bL (bC [some (.lst (W.map wD)),none,none,none,none,none] M)=_∧_;rcases oV (M:=M) (a:=some (.lst (W.map wD))) (ds0:=W.map wD) W [] 0 (M++[.dK []]) [] none none none none R0 H0 ⟨Nat.le_refl _,fun e he=>by cases he⟩ (by omega) hs with⟨E,e,na⟩|⟨N1,told1,y2,y3,y4,y5,e,R1,H1,L1⟩
 ·exact .inl ⟨E,by rw[g _ e];rfl,na⟩
 ·exact .inr ⟨N1,told1,by rw[g _ e];rfl,R1,H1,⟨Nat.le_trans L1.1 (by omega),fun e he=>⟨Nat.le_trans (L1.2 e he).1 (by omega),(L1.2 e he).2⟩⟩⟩
theorem jF:∀l:List Int,fW (l.map D.int)=some l
 | []=>rfl
 | a::l=>by
  show(fW (l.map D.int)).map (a::·)=_;rw[jF l];rfl
theorem jy:∀zs:List (List Int),(∀z,z∈zs→z≠[])→fz (zs.map ax)=some zs
 | [],_=>rfl
 | z::zs,h=>by
  have ih:=jy zs fun y hy=>h y (mem_cons_of_mem _ hy)
  cases z with
  | nil=>exact absurd rfl (h [] mem_cons_self)
  | cons i z=>
   rw[map_cons,fz,show tP (ax (i::z))=some (i::z) from jF (i::z),ih]
variable{zs:List (List Int)}
theorem jM (hk:M[k]?=some (.lst (zs.map ax)))(hz:∀z,z∈zs→z≠[])(hl:zs.length≤100000):cZ [.mr k] M=.ok (.lst ((bg zs).map ax)) M:=by
 cases zs with
 | nil=>
  have e:bg []=[]:=List.Perm.eq_nil (bf []);have e2:bq []=[]:=by
   show(bg []).map _=[];rw[e];rfl
  unfold cZ;dsimp only;rw[hk,e];show(if(0:Nat)≤100000 then aN.ok (D.lst ((bq []).map D.int)) M else .bad)=_;rw[e2,if_pos (Nat.zero_le _)];rfl
 | cons z zs=>
  unfold cZ;dsimp only;rw[hk];dsimp only;rw[show kK ((z::zs).map ax)=none from rfl];dsimp only;rw[jy _ hz];dsimp only;rw[if_pos hl]
theorem mU:∀hs:List (Int×Int),kq (hs.map jY)=some (hs.map fun p=>p.1)
 | []=>rfl
 | p::hs=>by
  show(kq (hs.map jY)).map (p.1::·)=_;rw[mU hs];rfl
theorem nY (hk:M[k]?=some (.dK (hs.map jY)))(hl:hs.length≤100000):cZ [.mr k] M=.ok (.lst ((bq (hs.map fun p=>p.1)).map D.int)) M:=by
 unfold cZ;dsimp only;rw[hk];dsimp only;rw[mU];dsimp only;rw[if_pos (by rw[length_map];exact hl)]
variable{ns:List Int}
theorem fc {x:Int}:x∈bq ns↔x∈ns:=by
 unfold bq;have p:((bg (ns.map fun n=>[n])).map fun z=>z.headD 0).Perm ((ns.map fun n=>[n]).map fun z=>z.headD 0):=(bf _).map _;rw[p.mem_iff,map_map];show x∈ns.map (fun n=>n)↔_;rw[map_id']
theorem mK (hn:ns.Nodup):(bq ns).Pairwise (·<·):=by
 have p:(bq ns).Perm ns:=by
  unfold bq;refine((bf _).map _).trans ?_;rw[map_map];show(ns.map fun n=>n).Perm ns;rw[map_id']
 have nd:(bq ns).Pairwise (·≠·):=p.nodup_iff.mpr hn;have le:(bq ns).Pairwise (·≤·):=by
  unfold bq;rw[List.pairwise_map];have up:=eF (ns.map fun n=>[n]);refine List.Pairwise.imp_of_mem (fun {a b} ha hb h=>?_) up;obtain⟨x,_,rfl⟩:=mem_map.mp ((bf _).mem_iff.mp ha);obtain⟨y,_,rfl⟩:=mem_map.mp ((bf _).mem_iff.mp hb);show x≤y;refine Int.not_lt.mp fun z=>?_
  have:HT.lexLt [y] [x]=true:=by
   simp[HT.lexLt,z];omega
  rw[this] at h;cases h
 exact(List.Pairwise.and le nd).imp fun {a b} h=>by have:=h.1;have:=h.2;omega
noncomputable def zW (e:En):D:=.tup [.int e.1,.mr (e.2.1-1)]
theorem oS {R:aq}{x:MO}{p:Nat}:(M++x::R)[M.length+1+p]?=R[p]?:=by
 rw[getElem?_append_right (by omega),show M.length+1+p-M.length=p+1 by omega,List.getElem?_cons_succ]
theorem rp {x:MO}(R:fI (M++[x]) N told)(hM:M.all cf=true)(hx:cf x=true)(e:g ρ (M++[x])=.ok (.mr (M++[x]).length) N) :
  ∃R',iX g ρ (M++[x])=.ok ⟨told.map zW,none⟩ (M++x::R')∧∀e,e∈told→∃p,e.2.1-1=M.length+1+p∧R'[p]?=some (.dK (e.2.2.map jY)):=by
 obtain⟨r,eN,pr⟩:=R.at_;have pM:(M++[x]).all cf=true:=by rw[all_append,hM];simp[hx]
 refine⟨r,?_,fun e he=>?_⟩
 ·unfold iX;rw[e,ai];unfold xp;dsimp only;rw[R.get];dsimp only;rw[if_pos ?_]
  ·have e1:N.eraseIdx (M++[x]).length=M++x::r:=by
    rw[eN,List.eraseIdx_append_of_length_le (Nat.le_refl _),Nat.sub_self];simp
   rw[e1];unfold BG;rw[map_map];rfl
  ·refine⟨Nat.le_refl _,?_,?_,?_⟩
   ·rw[eN,take_left];exact all_eq_true.mpr fun y hy=>gQ (all_eq_true.mp pM y hy)
   ·rw[eN,show(M++[x]).length+1=(M++[x]).length+1 from rfl,List.drop_append];simp;exact⟨fun y hy=>all_eq_true.mp pM y (mem_of_mem_drop hy),fun y hy=>all_eq_true.mp pr y hy⟩
   ·refine all_eq_true.mpr fun y hy=>?_
    obtain⟨e,he,rfl⟩:=mem_map.mp hy;exact decide_eq_true (R.ent e he).1
 ·obtain⟨a,b⟩:=R.ent e he;rw[length_append] at a;have a:M.length+1<e.2.1:=a;refine⟨e.2.1-1-(M.length+1),by omega,?_⟩;rw[eN,getElem?_append_right (by rw[length_append];show M.length+1≤_;omega),length_append] at b;have b:(MO.dK (told.map ue)::r)[e.2.1-(M.length+1)]?=_:=b;rw[show e.2.1-(M.length+1)=e.2.1-1-(M.length+1)+1 by omega,List.getElem?_cons_succ] at b;exact b
theorem rT {r h:Int}(hn:(hs.map fun p=>p.1).Nodup)(hm:(r,h)∈hs):cQ (hs.map jY) (.inl r)=some (.int h):=by
 cases q:cQ (hs.map jY) (.inl r) with
 | none=>exact absurd rfl (gX q (r,h) hm)
 | some d=>
  obtain⟨p,hp,e1,e2⟩:=gY q;have e1:p.1=r:=by injection e1
  have:p=(r,h):=jD hn hp hm e1;rw[this] at e2;rw[←e2];rfl
theorem uu {r h:Int}{j:Nat}(hn:(hs.map fun p=>p.1).Nodup)(hm:(r,h)∈hs)(hj:N[j]?=some (.dK (hs.map jY))):dL (.mr j) (.int r) N=.ok (.int h) N:=by
 unfold dL;dsimp only;rw[hj];dsimp only;rw[show cY (.int r)=some (.inl r) from rfl];dsimp only;rw[rT hn hm]
structure BC (pot:Int→Int)(W:List W3)(ink:Int)(zs0:List (List Int))(pre:List Int)(zs:List (List Int)):Prop where
 nd:zs.Nodup
 mem:∀z,z∈zs↔z∈zs0∨tU pot W (fun w=>w.2.1=ink∧w.1∈pre) z
 len:zs.length≤zs0.length+pre.length
theorem oA {pot:Int→Int}{W:List W3}{ink:Int}{zs0:List (List Int)}{rs:List Int}{hs:List (Int×Int)}{M R:aq}{p:Nat}{ds0:List D}{a0 a1:Option D}(ag:cD W)
  (hz0:∀z,z∈zs0→tU pot W (fun w=>w.2.1≠ink) z) (hlt:rs.Pairwise (·<·)) (hmem:∀r,r∈rs→∃h,(r,h)∈hs) (hcov:∀w,w∈W→w.2.1=ink→w.1∈rs) (hnd:(hs.map fun p=>p.1).Nodup) (hW:∀r h,(r,h)∈hs→(r,ink,h)∈W) (hp:R[p]?=some (.dK (hs.map jY))) (hl:zs0.length+rs.length<100000) :
  ∀(suf pre:List Int) (zs:List (List Int)) (first hue:Int) (x7:Option D),rs=pre++suf→BC pot W ink zs0 pre zs→(∀r t h,suf=r::t→(r,ink,h)∈W→AL pot W (r,ink,h) first hue)→
   ∃zs' f' h' y7,a8 ⟨ds0,none⟩ (dA 7) bJ (suf.map D.int) [a0,a1,some (.mr M.length),some (.int ink),some (.mr (M.length+1+p)),some (.int first),some (.int hue),x7] (M++.lst (zs.map ax)::R)=.ok (.nx [a0,a1,some (.mr M.length),some (.int ink),some (.mr (M.length+1+p)),some (.int f'),some (.int h'),y7]) (M++.lst (zs'.map ax)::R)∧BC pot W ink zs0 rs zs'
 | [],pre,zs,first,hue,x7,e,I,_=>⟨zs,first,hue,x7,rfl,by rw[e,append_nil];exact I⟩
 | r::t,pre,zs,first,hue,x7,e,I,hpre=>by
  obtain⟨h,hh⟩:=hmem r (by rw[e];exact mem_append_right _ mem_cons_self);have hw:=hW r h hh;have P:=hpre r t h rfl hw;have lt0:=hlt;rw[e] at lt0;obtain⟨_,lt2,lt3⟩:=List.pairwise_append.mp lt0;have npre:r∉pre:=fun z=>by have:=lt3 r z r mem_cons_self;omega
  have uniq:∀w,w∈W→w.2.1=ink→w.1=r→w.2.2=h:=fun w hw' e1 e2=>ag w hw' _ hw e2 e1
  have gd:∀(N:aq) (z:Option D) (f u:Int),N[M.length+1+p]?=some (.dK (hs.map jY))→g2 dL (af 4) (af 7) [a0,a1,some (.mr M.length),some (.int ink),some (.mr (M.length+1+p)),some (.int f),some (.int u),some (.int r)] N=.ok (.int h) N:=fun N z f u hN=>az rfl rfl (uu hnd hh hN)
  have at0:∀zs:List (List Int),(M++MO.lst (zs.map ax)::R)[M.length+1+p]?=some (.dK (hs.map jY)):=fun zs=>oS.trans hp
  have atn:∀zs:List (List Int),(M++MO.lst (zs.map ax)::R)[M.length]?=some (.lst (zs.map ax)):=fun zs=>by simp
  have tail:∀zs:List (List Int),(ao (av 5 (g2 bP (af 7) (gC (.int 1)))) (av 6 (g2 dL (af 4) (af 7)))) [a0,a1,some (.mr M.length),some (.int ink),some (.mr (M.length+1+p)),some (.int first),some (.int hue),some (.int r)] (M++.lst (zs.map ax)::R)=.ok (.nx [a0,a1,some (.mr M.length),some (.int ink),some (.mr (M.length+1+p)),some (.int (r+1)),some (.int h),some (.int r)]) (M++.lst (zs.map ax)::R):=fun zs=>
   (aB (aD (d:=.int (r+1)) (az rfl rfl rfl))).trans (aD (gd _ none (r+1) hue (at0 zs)))
  have next:∀zs1,BC pot W ink zs0 (pre++[r]) zs1→bJ [a0,a1,some (.mr M.length),some (.int ink),some (.mr (M.length+1+p)),some (.int first),some (.int hue),some (.int r)] (M++.lst (zs.map ax)::R)=.ok (.nx [a0,a1,some (.mr M.length),some (.int ink),some (.mr (M.length+1+p)),some (.int (r+1)),some (.int h),some (.int r)]) (M++.lst (zs1.map ax)::R)→
    ∃zs' f' h' y7,a8 ⟨ds0,none⟩ (dA 7) bJ ((r::t).map D.int) [a0,a1,some (.mr M.length),some (.int ink),some (.mr (M.length+1+p)),some (.int first),some (.int hue),x7] (M++.lst (zs.map ax)::R)=.ok (.nx [a0,a1,some (.mr M.length),some (.int ink),some (.mr (M.length+1+p)),some (.int f'),some (.int h'),y7]) (M++.lst (zs'.map ax)::R)∧BC pot W ink zs0 rs zs':=fun zs1 I1 eb=>by
   obtain⟨zs',f',h',y7,ef,I2⟩:=oA (ds0:=ds0) (a0:=a0) (a1:=a1) (M:=M) ag hz0 hlt hmem hcov hnd hW hp hl t (pre++[r]) zs1 (r+1) h (some (.int r)) (by rw[e,append_assoc];rfl) I1 fun r2 t2 h2 et hw2=>by
    subst et;have a12:r<r2:=(List.pairwise_cons.mp lt2).1 r2 mem_cons_self;refine .inr ⟨(r,ink,h),hw,rfl,a12,fun o ho e1 e2=>?_,rfl,rfl⟩;have e2:o.1<r2:=e2;show o.1≤r;have hm:=hcov o ho e1;rw[e] at hm;rcases mem_append.mp hm with hm|hm
    ·have:=lt3 _ hm r mem_cons_self;omega
    ·rcases mem_cons.mp hm with z|hm
     ·omega
     ·rcases mem_cons.mp hm with z|hm
      ·omega
      ·have:=(List.pairwise_cons.mp (List.pairwise_cons.mp lt2).2).1 _ hm;omega
   refine⟨zs',f',h',y7,?_,I2⟩;rw[map_cons,a8,if_pos dX];show(bJ [a0,a1,some (.mr M.length),some (.int ink),some (.mr (M.length+1+p)),some (.int first),some (.int hue),some (.int r)] (M++.lst (zs.map ax)::R)).bind _=_;rw[eb,ai];exact ef
  have test:aK (g2 (aS true) (g2 dL (af 4) (af 7)) (af 6)) [a0,a1,some (.mr M.length),some (.int ink),some (.mr (M.length+1+p)),some (.int first),some (.int hue),some (.int r)] (M++.lst (zs.map ax)::R)=.ok (!decide (h=hue)) (M++.lst (zs.map ax)::R):=bb (az (gd _ none first hue (at0 zs)) rfl (oN _ _ _))
  by_cases q:h=hue
  ·refine next zs ⟨I.nd,fun z=>?_,?_⟩ ?_
   ·rw[I.mem];refine⟨fun x=>x.imp id fun⟨w,f,o,h1,h2,h3⟩=>⟨w,f,o,h1,⟨h2.1,mem_append_left _ h2.2⟩,h3⟩,fun x=>x.imp id fun⟨w,f,o,h1,h2,h3,h4,h5⟩=>?_⟩;rcases mem_append.mp h2.2 with y|y
    ·exact⟨w,f,o,h1,⟨h2.1,y⟩,h3,h4,h5⟩
    ·have y:=mem_singleton.mp y;have eh:=uniq w h1 h2.1 y;have ew:w=(r,ink,h):=by rw[←y,←eh,←h2.1]
     rw[ew] at h3 h4;exact absurd ((fV ag h3 P).2.trans q.symm) h4
   ·rw[length_append];have:=I.len;omega
   ·unfold bJ;exact(aB ((eK (test.trans (by rw[decide_eq_true q];rfl))).trans rfl)).trans (tail zs)
  ·have znot:[first,r,ink,h]∉zs:=fun x=>by
    rcases(I.mem _).mp x with x|x
    ·obtain⟨w,f,o,h1,h2,h3,h4,h5⟩:=hz0 _ x;injection h5 with _ h5
     injection h5 with _ h5
     injection h5 with h5 _
     exact h2 h5.symm
    ·obtain⟨w,f,o,h1,h2,h3,h4,h5⟩:=x;injection h5 with _ h5
     injection h5 with h5 _
     exact npre (by rw[h5];exact h2.2)
   refine next (zs++[[first,r,ink,h]]) ⟨?_,fun z=>?_,?_⟩ ?_
   ·rw[nodup_append];refine⟨I.nd,by simp,fun a ha b hb=>?_⟩;obtain rfl:=mem_singleton.mp hb;exact fun z=>znot (by rw[←z];exact ha)
   ·rw[mem_append,I.mem,mem_singleton];constructor
    ·rintro ((x|⟨w,f,o,h1,h2,h3⟩)|rfl)
     ·exact .inl x
     ·exact .inr ⟨w,f,o,h1,⟨h2.1,mem_append_left _ h2.2⟩,h3⟩
     ·exact .inr ⟨(r,ink,h),first,hue,hw,⟨rfl,mem_append_right _ mem_cons_self⟩,P,fun z=>q z.symm,rfl⟩
    ·rintro (x|⟨w,f,o,h1,h2,h3,h4,h5⟩)
     ·exact .inl (.inl x)
     ·rcases mem_append.mp h2.2 with y|y
      ·exact .inl (.inr ⟨w,f,o,h1,⟨h2.1,y⟩,h3,h4,h5⟩)
      ·have y:=mem_singleton.mp y;have eh:=uniq w h1 h2.1 y;have ew:w=(r,ink,h):=by rw[←y,←eh,←h2.1]
       rw[ew] at h3 h5;rw[(fV ag h3 P).1] at h5;exact .inr h5
   ·rw[length_append,length_append];have:=I.len;show zs.length+1≤zs0.length+(pre.length+1);omega
   ·unfold bJ;have hlen:zs.length<1000000:=by
     have:=I.len;have:pre.length≤rs.length:=by rw[e,length_append];omega
     omega
    have ea:cS (fK (af 2) (bx (ae (af 5) (ae (af 7) (ae (af 3) (ae (g2 dL (af 4) (af 7)) ah)))))) [a0,a1,some (.mr M.length),some (.int ink),some (.mr (M.length+1+p)),some (.int first),some (.int hue),some (.int r)] (M++.lst (zs.map ax)::R)=.ok (.nx [a0,a1,some (.mr M.length),some (.int ink),some (.mr (M.length+1+p)),some (.int first),some (.int hue),some (.int r)]) (M++.lst ((zs++[[first,r,ink,h]]).map ax)::R):=by
     refine iK (d:=.non) ((lE (k:=M.length) (d:=ax [first,r,ink,h]) rfl (atn zs) (fQ (ds:=[.int first,.int r,.int ink,.int h]) (cB rfl (cB rfl (cB rfl (cB (gd _ none first hue (at0 zs)) rfl))))) (atn zs) (by rw[length_map];exact hlen)).trans ?_);rw[set_append_right _ _ (Nat.le_refl _),Nat.sub_self,map_append];rfl
    exact(aB ((gU (test.trans (by rw[decide_eq_false q];rfl))).trans ea)).trans (tail _)
structure zq (pot:Int→Int)(W:List W3)(pre:List En)(zs:List (List Int)):Prop where
 nd:zs.Nodup
 mem:∀z,z∈zs↔tU pot W (fun w=>∃e,e∈pre∧e.1=w.2.1) z
 len:zs.length≤200*pre.length
variable{xs:List D}
theorem u4 {M1:aq}(h:g ρ M=.ok (.lst xs) M1):cF g ρ M=.ok ⟨xs,none⟩ M1:=by
 unfold cF;rw[h,ai];rfl
noncomputable def cr (pl:List Int)(i:Int):Int:=pl.getD i.toNat 0
variable{pl:List Int}
theorem sj (h0:0≤i)(h1:i<pl.length):bG (.tup (pl.map D.int)) (.int i) M=.ok (.int (cr pl i)) M:=by
 obtain⟨n,rfl⟩:=Int.eq_ofNat_of_zero_le h0;have hn:n<pl.length:=by omega
 refine oz (k:=n) ?_;unfold cr;rw[getElem?_map,getElem?_eq_getElem hn];show some (D.int pl[n])=some (D.int (pl.getD n 0));rw[List.getD,getElem?_eq_getElem hn];rfl
theorem mW {W:List W3}{pl:List Int}{told:List En}{M R:aq}{ds0:List D}{a1:Option D}(hp:pl.length=16)(H:pz W told)(L:ud 200 200 told)(hni:(told.map fun e=>e.1).Nodup)(hR:∀e,e∈told→∃p,e.2.1-1=M.length+1+p∧R[p]?=some (.dK (e.2.2.map jY))) :
  ∀(suf pre:List En) (zs:List (List Int)) (x3 x4 x5 x6 x7:Option D),told=pre++suf→zq (cr pl) W pre zs→
   ∃zs' y3 y4 y5 y6 y7,a8 ⟨ds0,none⟩ (df [3,4]) bM (suf.map zW) [some (.tup (pl.map D.int)),a1,some (.mr M.length),x3,x4,x5,x6,x7] (M++.lst (zs.map ax)::R)=.ok (.nx [some (.tup (pl.map D.int)),a1,some (.mr M.length),y3,y4,y5,y6,y7]) (M++.lst (zs'.map ax)::R)∧zq (cr pl) W told zs'
 | [],pre,zs,x3,x4,x5,x6,x7,e,I=>⟨zs,x3,x4,x5,x6,x7,rfl,by rw[e,append_nil];exact I⟩
 | en::t,pre,zs,x3,x4,x5,x6,x7,e,I=>by
  have he:en∈told:=by rw[e];exact mem_append_right _ mem_cons_self
  obtain⟨ink,j,hs⟩:=en;obtain⟨p,ej,hp2⟩:=hR _ he;have ej:j-1=M.length+1+p:=ej;have hp2:R[p]?=some (.dK (hs.map jY)):=hp2;obtain⟨hl,hi0,hi1⟩:=L.2 _ he;have hl:hs.length≤200:=hl;have ln:told.length=pre.length+(t.length+1):=by rw[e,length_append];rfl
  have lt:=L.1;have lenz:=I.len;have ntop:∀e',e'∈pre→e'.1≠ink:=fun e' h' z=>by
   rw[e,map_append,nodup_append] at hni;exact hni.2.2 e'.1 (mem_map.mpr ⟨e',h',rfl⟩) ink (mem_map.mpr ⟨_,mem_cons_self,rfl⟩) z
  have rl:(bq (hs.map fun p=>p.1)).length≤200:=by
   have:(bq (hs.map fun p=>p.1)).length=hs.length:=by
    unfold bq;rw[length_map,(bf _).length_eq,length_map,length_map]
   omega
  have I0:BC (cr pl) W ink zs [] zs:=⟨I.nd,fun z=>⟨.inl,fun x=>x.elim id fun⟨w,f,o,h1,h2,h3⟩=>by cases h2.2⟩,Nat.le_refl _⟩;obtain⟨zs1,f1,h1,y7,ef,I1⟩:=oA (pot:=cr pl) (W:=W) (ink:=ink) (zs0:=zs) (rs:=bq (hs.map fun p=>p.1)) (hs:=hs) (M:=M) (R:=R) (p:=p) (ds0:=(bq (hs.map fun p=>p.1)).map D.int) (a0:=some (.tup (pl.map D.int))) (a1:=a1) (j7 H)
   (fun z hz=>by
    obtain⟨w,f,o,g1,⟨e',g2,g3⟩,g4⟩:=(I.mem z).mp hz;exact⟨w,f,o,g1,(by show w.2.1≠ink;rw[←g3];exact ntop e' g2),g4⟩)
   (mK (H.nd _ he)) (fun r hr=>by
    obtain⟨q,hq,e1⟩:=mem_map.mp (fc.mp hr);exact⟨q.2,by rw[←e1];exact hq⟩)
   (fun w hw e1=>fc.mpr (mem_map.mpr ⟨(w.1,w.2.2),(H.mem _ he w.1 w.2.2).mpr (by show(w.1,ink,w.2.2)∈W;rw[←e1];exact hw),rfl⟩))
   (H.nd _ he) (fun r h hh=>(H.mem _ he r h).mp hh) hp2 (by omega) (bq (hs.map fun p=>p.1)) [] zs 0 (cr pl ink) x7 rfl I0 (fun r t2 h et hw=>by
    refine .inl ⟨fun o ho e1 e2=>?_,rfl,rfl⟩;have e1:o.2.1=ink:=e1;have e2:o.1<r:=e2;have hm:o.1∈bq (hs.map fun p=>p.1):=fc.mpr (mem_map.mpr ⟨(o.1,o.2.2),(H.mem _ he o.1 o.2.2).mpr (by show(o.1,ink,o.2.2)∈W;rw[←e1];exact ho),rfl⟩);have lt:=mK (H.nd _ he);have lt:(bq (hs.map fun p=>p.1)).Pairwise (·<·):=lt;rw[et] at hm lt;rcases mem_cons.mp hm with z|z
    ·omega
    ·have:=(List.pairwise_cons.mp lt).1 _ z;omega)
  have I2:zq (cr pl) W (pre++[(ink,j,hs)]) zs1:=by
   refine⟨I1.nd,fun z=>?_,?_⟩
   ·rw[I1.mem,I.mem];constructor
    ·rintro (⟨w,f,o,g1,⟨e',g2,g3⟩,g4⟩|⟨w,f,o,g1,⟨g2,g3⟩,g4⟩)
     ·exact⟨w,f,o,g1,⟨e',mem_append_left _ g2,g3⟩,g4⟩
     ·exact⟨w,f,o,g1,⟨_,mem_append_right _ mem_cons_self,g2.symm⟩,g4⟩
    ·rintro ⟨w,f,o,g1,⟨e',g2,g3⟩,g4⟩;rcases mem_append.mp g2 with g2|g2
     ·exact .inl ⟨w,f,o,g1,⟨e',g2,g3⟩,g4⟩
     ·obtain rfl:=mem_singleton.mp g2;refine .inr ⟨w,f,o,g1,⟨g3.symm,fc.mpr (mem_map.mpr ⟨(w.1,w.2.2),(H.mem _ he w.1 w.2.2).mpr ?_,rfl⟩)⟩,g4⟩;have g3:ink=w.2.1:=g3;show(w.1,ink,w.2.2)∈W;rw[g3];exact g1
   ·have:=I1.len;rw[length_append];show zs1.length≤200*(pre.length+1);omega
  obtain⟨zs',y3,y4,y5,y6,y7',eo,I3⟩:=mW (ds0:=ds0) (a1:=a1) (M:=M) hp H L hni hR t (pre++[(ink,j,hs)]) zs1 (some (.int ink)) (some (.mr (M.length+1+p))) (some (.int f1)) (some (.int h1)) y7 (by rw[e,append_assoc];rfl) I2;refine⟨zs',y3,y4,y5,y6,y7',?_,I3⟩;have hd:(M++MO.lst (zs.map ax)::R)[M.length+1+p]?=some (.dK (hs.map jY)):=oS.trans hp2;have eb:bM [some (.tup (pl.map D.int)),a1,some (.mr M.length),some (.int ink),some (.mr (M.length+1+p)),x5,x6,x7] (M++.lst (zs.map ax)::R)=.ok (.nx [some (.tup (pl.map D.int)),a1,some (.mr M.length),some (.int ink),some (.mr (M.length+1+p)),some (.int f1),some (.int h1),y7]) (M++.lst (zs1.map ax)::R):=by
   unfold bM;refine(aB (aD (d:=.int 0) rfl)).trans ((aB (aD (d:=.int (cr pl ink)) (az rfl rfl (sj hi0 (by rw[hp];exact hi1))))).trans ?_);exact fL (u4 (lY rfl (nY hd (by omega)))) ef
  rw[map_cons,a8,if_pos dX];have et:df [3,4] (zW (ink,j,hs)) [some (.tup (pl.map D.int)),a1,some (.mr M.length),x3,x4,x5,x6,x7]=some [some (.tup (pl.map D.int)),a1,some (.mr M.length),some (.int ink),some (.mr (M.length+1+p)),x5,x6,x7]:=by
   unfold zW;show some [some (D.tup (pl.map D.int)),a1,some (.mr M.length),some (.int ink),some (.mr (j-1)),x5,x6,x7]=_;rw[ej]
  rw[et];dsimp only;rw[eb,ai];exact eo
theorem gZ:∀(zs:List (List Int)) (n:Nat),(zs.map ax).all (aJ (n+2))=true
 | [],_=>rfl
 | z::zs,n=>by
  rw[map_cons,all_cons,gZ zs n,Bool.and_true];show(z.map D.int).all (aJ (n+1))=true;refine all_eq_true.mpr fun x hx=>?_
  obtain⟨i,_,rfl⟩:=mem_map.mp hx;rfl
variable{z:List Int}
theorem sO {ok:W3→Prop}(h:tU pot W ok z):z≠[]:=by
 obtain⟨w,f,o,_,_,_,_,rfl⟩:=h;exact fun x=>by cases x
theorem jN (hM:M.all cf=true)(hp:pl.length=16)(hs:∀w,w∈W→eA w)(hl:W.length≤200) :
  (aX [.tup (pl.map D.int),.lst (W.map wD)] M=.err "Clash" M∧¬cD W)∨
  ∃zs,aX [.tup (pl.map D.int),.lst (W.map wD)] M=.ok (.lst ((bg zs).map ax)) M∧cD W∧zs.Nodup∧∀z,z∈zs↔tU (cr pl) W (fun _=>True) z:=by
 have sh:=jT.pure hM;show(d9 M.length (bL (cj [some (.tup (pl.map D.int)),some (.lst (W.map wD)),none,none,none,none,none,none] M))=_∧_)∨∃zs,d9 M.length (bL (cj [some (.tup (pl.map D.int)),some (.lst (W.map wD)),none,none,none,none,none,none] M))=_∧_;have g0:∀o,jK (au 1 aL (ae (af 1) ah)) (df [3,4]) bM [some (.tup (pl.map D.int)),some (.lst (W.map wD)),some (.mr M.length),none,none,none,none,none] (M++[.lst []])=o→cj [some (.tup (pl.map D.int)),some (.lst (W.map wD)),none,none,none,none,none,none] M=ao (fun _ _=>o) (bY (bt cZ (ae (af 2) ah))) [some (.tup (pl.map D.int)),some (.lst (W.map wD)),some (.mr M.length),none,none,none,none,none] (M++[.lst []]):=fun o e=>by
  unfold cj;refine(aB (aD iN)).trans ?_;show ao _ _ [some (.tup (pl.map D.int)),some (.lst (W.map wD)),some (.mr M.length),none,none,none,none,none] _=_;unfold ao;rw[e]
 rcases uD (M:=M++[.lst []]) hs hl with⟨E,e,na⟩|⟨N,told,e,R,H,L⟩
 ·refine .inl ⟨?_,na⟩;have ef:jK (au 1 aL (ae (af 1) ah)) (df [3,4]) bM [some (.tup (pl.map D.int)),some (.lst (W.map wD)),some (.mr M.length),none,none,none,none,none] (M++[.lst []])=.err "Clash" (M++([.lst []]++E)):=by
   unfold jK fE iX;rw[lZ (F:=aL) (x:=.lst (W.map wD)) rfl e,append_assoc];rfl
  rw[g0 _ ef];exact uY sh
 ·obtain⟨R',ei,hR⟩:=rp (g:=au 1 aL (ae (af 1) ah)) (ρ:=[some (.tup (pl.map D.int)),some (.lst (W.map wD)),some (.mr M.length),none,none,none,none,none]) R hM rfl (lZ (x:=.lst (W.map wD)) rfl e);obtain⟨zs,y3,y4,y5,y6,y7,eo,I⟩:=mW (ds0:=told.map zW) (a1:=some (.lst (W.map wD))) (M:=M) (R:=R') hp H L R.ndi hR told [] [] none none none none none rfl ⟨.nil,(fun z=>⟨(fun x=>by cases x),(fun⟨w,f,o,_,⟨e,x,_⟩,_⟩=>by cases x)⟩),Nat.zero_le _⟩;have ef:jK (au 1 aL (ae (af 1) ah)) (df [3,4]) bM [some (.tup (pl.map D.int)),some (.lst (W.map wD)),some (.mr M.length),none,none,none,none,none] (M++[.lst []])=_:=fL ei eo;have mem:∀z,z∈zs↔tU (cr pl) W (fun _=>True) z:=fun z=>by
   rw[I.mem];refine⟨fun⟨w,f,o,h1,_,h3⟩=>⟨w,f,o,h1,trivial,h3⟩,fun⟨w,f,o,h1,_,h3⟩=>?_⟩;obtain⟨e',h4,h5⟩:=H.cov w h1;exact⟨w,f,o,h1,⟨e',h4,h5⟩,h3⟩
  have len:zs.length≤100000:=by have:=I.len;have:=L.1;omega
  refine .inr ⟨zs,?_,j7 H,I.nd,mem⟩;have er:bY (bt cZ (ae (af 2) ah)) [some (.tup (pl.map D.int)),some (.lst (W.map wD)),some (.mr M.length),y3,y4,y5,y6,y7] (M++.lst (zs.map ax)::R')=.ok (.rt (.lst ((bg zs).map ax))) (M++.lst (zs.map ax)::R'):=fM (lY rfl (jM (by simp) (fun z hz=>sO ((mem z).mp hz)) len));rw[g0 _ ef];have es:ao (fun _ _=>aN.ok (Fl.nx [some (.tup (pl.map D.int)),some (.lst (W.map wD)),some (.mr M.length),y3,y4,y5,y6,y7]) (M++.lst (zs.map ax)::R')) (bY (bt cZ (ae (af 2) ah))) [some (.tup (pl.map D.int)),some (.lst (W.map wD)),some (.mr M.length),none,none,none,none,none] (M++[.lst []])=.ok (.rt (.lst ((bg zs).map ax))) (M++.lst (zs.map ax)::R'):=(aB rfl).trans er;rw[es];exact ll (gZ _ 27) sh
theorem lh (n:Nat):∀T:List W3,aH (n+1) (T.map wD)=true
 | []=>rfl
 | _::T=>lh n T
theorem jw (n:Nat):∀T:List Int,aH (n+1) (T.map D.int)=true
 | []=>rfl
 | _::T=>jw n T
theorem eq_nil {neg:Bool}(hc:aH 39 xs=true):aS neg (.lst xs) (.lst []) M=.ok (.bl (decide (xs=[]) != neg)) M:=by
 unfold aS;show(if(aH 39 xs&&true)=true then aN.ok (D.bl (cG xs [] != neg)) M else .bad)=_;rw[hc];cases xs with
 | nil=>rfl
 | cons x xs=>rfl
theorem AJ {a b c d:Int}:aS false (.tup [.int a,.int b]) (.tup [.int c,.int d]) M=.ok (.bl (decide (a=c)&&decide (b=d))) M:=by
 show aN.ok (D.bl (((a==c)&&((b==d)&&true)) != false)) M=_;rw[Bool.and_true,Bool.bne_false];rfl
theorem qZ {a b c:D}(h:g ρ M=.ok (.tup [a,b,c]) M):uc g dr (iq (gC (.int 2))) ρ M=.ok (.tup [a,b]) M:=by
 unfold uc;rw[h,ai];rfl
theorem gG {α:Type}{f g:α→D}{b:α→Bool}{gc:GT}{ge:GE}{ρ:bF}{M:aq}{t:jP}(ht:t.ok M=true):∀l:List α,(∀a,a∈l→gc (some (f a)::ρ) M=.ok (b a) M∧(b a=true→ge (some (f a)::ρ) M=.ok (g a) M))→cg t gc ge (l.map f) ρ M=.ok ((l.filter b).map g) M
 | [],_=>by
  show(if t.ok M=true then aN.ok [] M else .bad)=_;rw[if_pos ht];rfl
 | a::l,h=>by
  obtain⟨h1,h2⟩:=h a mem_cons_self;have ih:=gG (t:=t) ht l fun b hb=>h b (mem_cons_of_mem _ hb)
  rw[map_cons,cg,if_pos ht,h1];cases q:b a with
  | true=>
   rw[filter_cons_of_pos q,map_cons];show(match ge (some (f a)::ρ) M with | .ok e M2=>(cg t gc ge (l.map f) ρ M2).bind fun es M3=>.ok (e::es) M3|_=>.bad)=_;rw[h2 q];dsimp only;rw[ih,ai]
  | false=>
   rw[filter_cons_of_neg (by rw[q];exact Bool.false_ne_true)];exact ih
theorem eJ {gi:GI}{gc:GT}{ge:GE}{es:List D}{M2:aq}{t:jP}(hi:gi ρ M=.ok t M)(he:cg t gc ge t.ds ρ M=.ok es M2)(hl:es.length≤1000000):bS gi gc ge aW ρ M=.ok (.lst es) M2:=by
 unfold bS;rw[hi,ai];rw[he,ai];unfold aW;rw[if_pos (bW hl)]
theorem qS (h:g ρ M=.ok (wD w) M)(hk:[D.int w.1,.int w.2.1,.int w.2.2][k]?=some d):g2 bG g (gC (.int k)) ρ M=.ok d M:=az h rfl (oz hk)
theorem rK {a:Option D}(hl:acc.length<1000):bD [a,some (.mr M.length),some (.int w.1),some (.int w.2.1),some (.int w.2.2)] (M++[.lst (acc.map wD)])=.ok (.nx [a,some (.mr M.length),some (.int w.1),some (.int w.2.1),some (.int w.2.2)]) (M++[.lst ((dJ acc w).map wD)]):=by
 have at_:=tM M (acc.map wD);have hi:cF (af 1) [a,some (.mr M.length),some (.int w.1),some (.int w.2.1),some (.int w.2.2)] (M++[.lst (acc.map wD)])=.ok ⟨acc.map wD,some M.length⟩ (M++[.lst (acc.map wD)]):=by
  unfold cF;show(match (M++[MO.lst (acc.map wD)])[M.length]? with|some (.lst ds)=>aN.ok (jP.mk ds (some M.length)) (M++[MO.lst (acc.map wD)])|_=>.bad)=_;rw[at_]
 have ht:jP.ok ⟨acc.map wD,some M.length⟩ (M++[.lst (acc.map wD)])=true:=by
  show(match (M++[MO.lst (acc.map wD)])[M.length]? with|some (.lst xs)=>fw xs (acc.map wD)|_=>false)=true;rw[at_];exact cW _
 have c:=gG (f:=wD) (g:=wD) (b:=j4 w) (gc:=bU) (ge:=cn) (ρ:=[a,some (.mr M.length),some (.int w.1),some (.int w.2.1),some (.int w.2.2)]) (M:=M++[.lst (acc.map wD)]) ht acc fun o _=>⟨by
  unfold bU;exact lb (bb (az (qZ (g:=af 0) (a:=.int o.1) (b:=.int o.2.1) (c:=.int o.2.2) rfl) (fQ (ds:=[.int w.1,.int w.2.1]) rfl) AJ)) fun _=>bb (az (qS (w:=o) (k:=2) rfl rfl) rfl (oN _ _ _)),fun _=>rfl⟩
 have gc:=eJ hi c (by rw[length_map];have:=length_filter_le (j4 w) acc;omega);have t:aK (g2 (aS false) (bS (cF (af 1)) bU cn aW) (cC ah)) [a,some (.mr M.length),some (.int w.1),some (.int w.2.1),some (.int w.2.2)] (M++[.lst (acc.map wD)])=.ok (decide ((acc.filter (j4 w)).map wD=[]) != false) (M++[.lst (acc.map wD)]):=bb (az gc (jg rfl) (eq_nil (lh 38 _)));have em:((acc.filter (j4 w)).map wD=[])↔acc.filter (j4 w)=[]:=map_eq_nil_iff;unfold bD dJ
 by_cases q:acc.filter (j4 w)=[]
 ·rw[if_pos q];refine(gU (t.trans (by rw[decide_eq_true (em.mpr q)];rfl))).trans ?_;refine iK (d:=.non) ((lE (k:=M.length) (d:=wD w) rfl at_ (fQ (ds:=[.int w.1,.int w.2.1,.int w.2.2]) rfl) at_ (by rw[length_map];omega)).trans ?_);rw[rm,map_append];rfl
 ·rw[if_neg q];exact(eK (t.trans (by rw[decide_eq_false fun z=>q (em.mp z)];rfl))).trans rfl
theorem mw {M:aq}{a:Option D}{ds0:List D}:∀(Q acc:List W3) (x2 x3 x4:Option D),acc.length+Q.length<1000→∃y2 y3 y4,a8 ⟨ds0,none⟩ (df [2,3,4]) bD (Q.map wD) [a,some (.mr M.length),x2,x3,x4] (M++[.lst (acc.map wD)])=.ok (.nx [a,some (.mr M.length),y2,y3,y4]) (M++[.lst ((Q.foldl dJ acc).map wD)])
 | [],acc,x2,x3,x4,_=>⟨x2,x3,x4,rfl⟩
 | w::Q,acc,x2,x3,x4,hl=>by
  rw[length_cons] at hl;have la:(dJ acc w).length≤acc.length+1:=by
   unfold dJ;split
   ·rw[length_append];exact Nat.le_refl _
   ·omega
  obtain⟨y2,y3,y4,e⟩:=mw (M:=M) (a:=a) (ds0:=ds0) Q (dJ acc w) (some (.int w.1)) (some (.int w.2.1)) (some (.int w.2.2)) (by omega);refine⟨y2,y3,y4,?_⟩;rw[map_cons,a8,if_pos dX];show(bD [a,some (.mr M.length),some (.int w.1),some (.int w.2.1),some (.int w.2.2)] (M++[.lst (acc.map wD)])).bind _=_;rw[rK (by omega),ai];exact e
theorem lJ (n:Nat):∀T:List W3,(T.map wD).all (aJ (n+2))=true
 | []=>rfl
 | _::T=>lJ n T
theorem mj (hM:M.all cf=true)(hl:W.length≤200):bQ [.lst (W.map wD)] M=.ok (.lst ((cA W).map wD)) M:=by
 obtain⟨y2,y3,y4,e⟩:=mw (M:=M) (a:=some (.lst (W.map wD))) (ds0:=W.map wD) W [] none none none (by show 0+_<_;omega);have eg:bO [some (.lst (W.map wD)),none,none,none,none] M=.ok (.rt (.mr M.length)) (M++[.lst ((cA W).map wD)]):=by
  unfold bO;refine(aB (aD iN)).trans ?_;show ao _ _ [some (.lst (W.map wD)),some (.mr M.length),none,none,none] _=_;exact(aB (fL (gw (xs:=W.map wD) rfl) e)).trans (fM rfl)
 show d9 M.length (bL (bO [some (.lst (W.map wD)),none,none,none,none] M))=_;rw[eg];exact mO (lJ 27 _) (jT.pure hM)
theorem je:∀(l:List Int) (b:Int),cT (l.map D.int) b=some (l.foldl max b)
 | [],b=>rfl
 | a::l,b=>by
  show(if b<a then cT (l.map D.int) a else cT (l.map D.int) b)=_;rw[foldl_cons]
  by_cases h:b<a
  ·rw[if_pos h,je l a,show max b a=a by omega]
  ·rw[if_neg h,je l b,show max b a=b by omega]
theorem wK:∀(l:List Int) (b T:Int),l.foldl max b≤T↔b≤T∧∀x∈l,x≤T
 | [],b,T=>by simp
 | a::l,b,T=>by
  rw[foldl_cons,wK l];constructor
  ·rintro ⟨h1,h2⟩;refine⟨by omega,fun x hx=>?_⟩;rcases mem_cons.mp hx with rfl|hx
   ·omega
   ·exact h2 x hx
  ·rintro ⟨h1,h2⟩;have:=h2 a mem_cons_self;exact⟨by omega,fun x hx=>h2 x (mem_cons_of_mem _ hx)⟩
noncomputable def oi (W:List W3)(w:W3):List W3:=W.filter fun o=>decide (o.2.1=w.2.1)&&decide (o.1<w.1)
theorem oC:∀(l:List Int) (b:Int),l.foldl max b=b∨l.foldl max b∈l
 | [],b=>.inl rfl
 | a::l,b=>by
  rw[foldl_cons];rcases oC l (max b a) with h|h
  ·by_cases z:b≤a
   ·exact .inr (by rw[h,show max b a=a by omega];exact mem_cons_self)
   ·exact .inl (by rw[h];omega)
  ·exact .inr (mem_cons_of_mem _ h)
structure BQ (pot:Int→Int)(W:List W3)(P:List W3)(zs:List (List Int)):Prop where
 nd:zs.Nodup
 mem:∀z,z∈zs↔tU pot W (fun w=>w∈P) z
 len:zs.length≤P.length
theorem oM (z:List Int):∀y:List Int,cG (y.map D.int) (z.map D.int)=decide (y=z):=by
 induction z with
 | nil=>
  intro y;cases y with
  | nil=>rfl
  | cons a y=>rfl
 | cons b z ih=>
  intro y;cases y with
  | nil=>rfl
  | cons a y=>
   show((a==b)&&cG (y.map D.int) (z.map D.int))=_;rw[ih]
   by_cases q:a=b
   ·subst q;simp
   ·simp[q]
theorem mh (n:Nat):∀zs:List (List Int),(zs.map ax).all (aP (n+3))=true
 | []=>rfl
 | z::zs=>by
  rw[map_cons,all_cons,mh n zs,Bool.and_true];exact jw (n+1) z
theorem lX (z:List Int):∀zs:List (List Int),((zs.map ax).any fun y=>iu y (ax z))=decide (z∈zs)
 | []=>rfl
 | y::zs=>by
  rw[map_cons,any_cons,lX z zs,show iu (ax y) (ax z)=decide (y=z) from oM z y]
  by_cases q:y=z
  ·subst q;simp
  ·have q':z≠y:=fun x=>q x.symm
   simp[q,q']
theorem xu (hk:M[k]?=some (.lst (zs.map ax))):vH true (ax z) (.mr k) M=.ok (.bl (!decide (z∈zs))) M:=by
 unfold vH;have e:bj (.mr k) M=some (zs.map ax):=by
  show(match M[k]? with|some (.lst xs)=>some xs|_=>none)=_;rw[hk]
 rw[e];dsimp only;rw[show aP 40 (ax z)=true from jw 38 z,mh 37 zs,Bool.and_self,if_pos rfl];rw[lX];cases decide (z∈zs) <;> rfl
variable{l:List Int}
theorem vX (h:l≠[]):∃m,fA [.lst (l.map D.int)] M=.ok (.int m) M∧m∈l∧∀x,x∈l→x≤m:=by
 cases l with
 | nil=>exact absurd rfl h
 | cons a l=>
  refine⟨l.foldl max a,?_,?_,?_⟩
  ·show(match cT (l.map D.int) a with|some d=>aN.ok (D.int d) M|none=>.bad)=_;rw[je]
  ·rcases oC l a with e|e
   ·rw[e];exact mem_cons_self
   ·exact mem_cons_of_mem _ e
  ·have:=(wK l a (l.foldl max a)).mp (Int.le_refl _);intro x hx;rcases mem_cons.mp hx with rfl|hx
   ·exact this.1
   ·exact this.2 x hx
theorem yo {x6 x7 x8:Option D}{b:GS}(hw:w.2.1<16∧0≤w.2.1)(hp:pl.length=16)(hl:W.length≤200) :
  ∃first old ad,AL (cr pl) W w first old∧(ao (av 6 (bS (cF (af 1)) aZ bw aW)) (ao (av 7 (gC (.int 0))) (ao (av 8 (g2 bG (af 0) (af 4))) (ao (dQ (aK (g2 (aS true) (af 6) (cC ah))) (ao (av 7 (g2 bP (bt fA (ae (af 6) ah)) (gC (.int 1)))) (av 8 (g2 bG (bS (cF (af 1)) aR aY aW) (gC (.int 0))))) aU) b)))) [some (.tup (pl.map D.int)),some (.lst (W.map wD)),some (.mr k),some (.int w.1),some (.int w.2.1),some (.int w.2.2),x6,x7,x8] M=b [some (.tup (pl.map D.int)),some (.lst (W.map wD)),some (.mr k),some (.int w.1),some (.int w.2.1),some (.int w.2.2),ad,some (.int first),some (.int old)] M:=by
 have fl:∀q:W3→Bool,(W.filter q).length≤1000000:=fun q=>Nat.le_trans (length_filter_le _ _) (by omega)
 have c1:=gG (f:=wD) (g:=fun o:W3=>D.int o.1) (b:=fun o=>decide (o.2.1=w.2.1)&&decide (o.1<w.1)) (gc:=aZ) (ge:=bw) (ρ:=[some (.tup (pl.map D.int)),some (.lst (W.map wD)),some (.mr k),some (.int w.1),some (.int w.2.1),some (.int w.2.2),x6,x7,x8]) (M:=M) (t:=⟨W.map wD,none⟩) dX W fun o _=>⟨by
  unfold aZ;exact lb (bb (az (qS (w:=o) (k:=1) rfl rfl) rfl (wJ _ _ _))) fun _=>bb (az (qS (w:=o) (k:=0) rfl rfl) rfl rfl),fun _=>qS (w:=o) (k:=0) rfl rfl⟩
 have c1:=eJ (gw (i:=1) (ρ:=[some (.tup (pl.map D.int)),some (.lst (W.map wD)),some (.mr k),some (.int w.1),some (.int w.2.1),some (.int w.2.2),x6,x7,x8]) rfl) c1 (by rw[length_map];exact fl _);have ea:(W.filter fun o=>decide (o.2.1=w.2.1)&&decide (o.1<w.1)).map (fun o:W3=>D.int o.1)=((oi W w).map fun o=>o.1).map D.int:=by rw[map_map];rfl
 rw[ea] at c1;have am:∀o,o∈oi W w↔o∈W∧o.2.1=w.2.1∧o.1<w.1:=fun o=>by
  unfold oi;rw[mem_filter];simp
 have k1:∀first old,(dQ (aK (g2 (aS true) (af 6) (cC ah))) (ao (av 7 (g2 bP (bt fA (ae (af 6) ah)) (gC (.int 1)))) (av 8 (g2 bG (bS (cF (af 1)) aR aY aW) (gC (.int 0))))) aU) [some (.tup (pl.map D.int)),some (.lst (W.map wD)),some (.mr k),some (.int w.1),some (.int w.2.1),some (.int w.2.2),some (.lst (((oi W w).map fun o=>o.1).map D.int)),some (.int 0),some (.int (cr pl w.2.1))] M=.ok (.nx [some (.tup (pl.map D.int)),some (.lst (W.map wD)),some (.mr k),some (.int w.1),some (.int w.2.1),some (.int w.2.2),some (.lst (((oi W w).map fun o=>o.1).map D.int)),some (.int first),some (.int old)]) M→(ao (av 6 (bS (cF (af 1)) aZ bw aW)) (ao (av 7 (gC (.int 0))) (ao (av 8 (g2 bG (af 0) (af 4))) (ao (dQ (aK (g2 (aS true) (af 6) (cC ah))) (ao (av 7 (g2 bP (bt fA (ae (af 6) ah)) (gC (.int 1)))) (av 8 (g2 bG (bS (cF (af 1)) aR aY aW) (gC (.int 0))))) aU) b)))) [some (.tup (pl.map D.int)),some (.lst (W.map wD)),some (.mr k),some (.int w.1),some (.int w.2.1),some (.int w.2.2),x6,x7,x8] M=b [some (.tup (pl.map D.int)),some (.lst (W.map wD)),some (.mr k),some (.int w.1),some (.int w.2.1),some (.int w.2.2),some (.lst (((oi W w).map fun o=>o.1).map D.int)),some (.int first),some (.int old)] M:=fun first old e=>
  (aB (aD c1)).trans ((aB (aD (d:=.int 0) rfl)).trans ((aB (aD (d:=.int (cr pl w.2.1)) (az rfl rfl (sj hw.2 (by rw[hp];exact hw.1))))).trans (aB e)))
 have t:aK (g2 (aS true) (af 6) (cC ah)) [some (.tup (pl.map D.int)),some (.lst (W.map wD)),some (.mr k),some (.int w.1),some (.int w.2.1),some (.int w.2.2),some (.lst (((oi W w).map fun o=>o.1).map D.int)),some (.int 0),some (.int (cr pl w.2.1))] M=.ok (decide (((oi W w).map fun o=>o.1).map D.int=[]) != true) M:=bb (az rfl (jg rfl) (eq_nil (jw 38 _)));have em:(((oi W w).map fun o=>o.1).map D.int=[])↔oi W w=[]:=by rw[map_eq_nil_iff,map_eq_nil_iff]
 by_cases q:oi W w=[]
 ·refine⟨0,cr pl w.2.1,_,.inl ⟨fun o ho e1 e2=>?_,rfl,rfl⟩,k1 _ _ ((eK (t.trans (by rw[decide_eq_true (em.mpr q)];rfl))).trans rfl)⟩;have:=(am o).mpr ⟨ho,e1,e2⟩;rw[q] at this;cases this
 ·have q1:(oi W w).map (fun o=>o.1)≠[]:=fun z=>q (map_eq_nil_iff.mp z)
  obtain⟨m,e2,hm,hx⟩:=vX (M:=M) q1;obtain⟨o0,ho0,em0⟩:=mem_map.mp hm;obtain⟨ho1,ho2,ho3⟩:=(am o0).mp ho0;have c2:=gG (f:=wD) (g:=fun o:W3=>D.int o.2.2) (b:=fun o=>decide (o.1=m)&&decide (o.2.1=w.2.1)) (gc:=aR) (ge:=aY) (ρ:=[some (.tup (pl.map D.int)),some (.lst (W.map wD)),some (.mr k),some (.int w.1),some (.int w.2.1),some (.int w.2.2),some (.lst (((oi W w).map fun o=>o.1).map D.int)),some (.int (m+1)),some (.int (cr pl w.2.1))]) (M:=M) (t:=⟨W.map wD,none⟩) dX W fun o _=>⟨by
   unfold aR;exact bb (az (qZ (g:=af 0) (a:=.int o.1) (b:=.int o.2.1) (c:=.int o.2.2) rfl) (fQ (ds:=[.int m,.int w.2.1]) (cB (lY rfl e2) rfl)) AJ),fun _=>qS (w:=o) (k:=2) rfl rfl⟩
  have c2:=eJ (gw (i:=1) (ρ:=[some (.tup (pl.map D.int)),some (.lst (W.map wD)),some (.mr k),some (.int w.1),some (.int w.2.1),some (.int w.2.2),some (.lst (((oi W w).map fun o=>o.1).map D.int)),some (.int (m+1)),some (.int (cr pl w.2.1))]) rfl) c2 (by rw[length_map];exact fl _);have f0:o0∈W.filter fun o=>decide (o.1=m)&&decide (o.2.1=w.2.1):=by
   rw[mem_filter];exact⟨ho1,by rw[decide_eq_true em0,decide_eq_true ho2];rfl⟩
  generalize hf:(W.filter fun o=>decide (o.1=m)&&decide (o.2.1=w.2.1))=F at c2 f0;cases F with
  | nil=>cases f0
  | cons o1 F=>
   have h1:o1∈W.filter fun o=>decide (o.1=m)&&decide (o.2.1=w.2.1):=by rw[hf];exact mem_cons_self
   rw[mem_filter] at h1;have h2:=h1.2;simp at h2;refine⟨m+1,o1.2.2,_,.inr ⟨o1,h1.1,h2.2,by have:o0.1<w.1:=ho3;omega,fun p p1 p2 p3=>?_,by omega,rfl⟩,k1 _ _ ((gU (t.trans (by rw[decide_eq_false fun z=>q (em.mp z)];rfl))).trans ((aB (aD (d:=.int (m+1)) (az (lY rfl e2) rfl rfl))).trans (aD (az c2 rfl (nF (k:=0) rfl)))))⟩;have:=hx p.1 (mem_map.mpr ⟨p,(am p).mpr ⟨p1,p2,p3⟩,rfl⟩);omega
theorem wl {x6 x7 x8:Option D}(ag:cD W)(hm:w∈W)(hw:eA w)(hp:pl.length=16)(hl:W.length≤200)(hP:P.length≤1000)(I:BQ (cr pl) W P zs) :
  ∃zs1 y6 y7 y8,BQ (cr pl) W (P++[w]) zs1∧a4 [some (.tup (pl.map D.int)),some (.lst (W.map wD)),some (.mr M.length),some (.int w.1),some (.int w.2.1),some (.int w.2.2),x6,x7,x8] (M++[.lst (zs.map ax)])=.ok (.nx [some (.tup (pl.map D.int)),some (.lst (W.map wD)),some (.mr M.length),some (.int w.1),some (.int w.2.1),some (.int w.2.2),y6,y7,y8]) (M++[.lst (zs1.map ax)]):=by
 have at_:=tM M (zs.map ax);obtain⟨first,old,ad,Pr,e⟩:=yo (W:=W) (w:=w) (pl:=pl) (M:=M++[.lst (zs.map ax)]) (k:=M.length) (x6:=x6) (x7:=x7) (x8:=x8) (b:=dQ (dm (aK (g2 (aS true) (af 8) (af 5))) (aK (g2 (vH true) (bx (ae (af 7) (ae (af 3) (ae (af 4) (ae (af 5) ah))))) (af 2)))) (cS (fK (af 2) (bx (ae (af 7) (ae (af 3) (ae (af 4) (ae (af 5) ah))))))) aU) ⟨hw.2.2,hw.2.1⟩ hp hl;have e:a4 [some (.tup (pl.map D.int)),some (.lst (W.map wD)),some (.mr M.length),some (.int w.1),some (.int w.2.1),some (.int w.2.2),x6,x7,x8] (M++[.lst (zs.map ax)])=_:=e;have et:(bx (ae (af 7) (ae (af 3) (ae (af 4) (ae (af 5) ah))))) [some (.tup (pl.map D.int)),some (.lst (W.map wD)),some (.mr M.length),some (.int w.1),some (.int w.2.1),some (.int w.2.2),ad,some (.int first),some (.int old)] (M++[.lst (zs.map ax)])=.ok (ax [first,w.1,w.2.1,w.2.2]) (M++[.lst (zs.map ax)]):=fQ (ds:=[.int first,.int w.1,.int w.2.1,.int w.2.2]) rfl;have t:=lb (a:=aK (g2 (aS true) (af 8) (af 5))) (b:=aK (g2 (vH true) (bx (ae (af 7) (ae (af 3) (ae (af 4) (ae (af 5) ah))))) (af 2))) (ρ:=[some (.tup (pl.map D.int)),some (.lst (W.map wD)),some (.mr M.length),some (.int w.1),some (.int w.2.1),some (.int w.2.2),ad,some (.int first),some (.int old)]) (M:=M++[.lst (zs.map ax)]) (bb (az rfl rfl (oN old w.2.2 _))) fun _=>bb (az et rfl (xu at_))
 have same:∀w',w'∈[w]→w'=w:=fun w' h=>mem_singleton.mp h
 have old_in:∀z,tU (cr pl) W (fun w=>w∈P) z→tU (cr pl) W (fun v=>v∈P++[w]) z:=fun z ⟨v,f,o,h1,h2,h3⟩=>⟨v,f,o,h1,mem_append_left _ h2,h3⟩
 by_cases q1:old=w.2.2
 ·refine⟨zs,ad,some (.int first),some (.int old),⟨I.nd,fun z=>?_,by rw[length_append];have:=I.len;omega⟩,e.trans ((eK (t.trans (by rw[decide_eq_true q1];rfl))).trans rfl)⟩;rw[I.mem];refine⟨old_in z,fun⟨v,f,o,h1,h2,h3,h4,h5⟩=>?_⟩;rcases mem_append.mp h2 with y|y
  ·exact⟨v,f,o,h1,y,h3,h4,h5⟩
  ·obtain rfl:=same v y;exact absurd ((fV ag h3 Pr).2.trans q1) h4
 ·by_cases q2:[first,w.1,w.2.1,w.2.2]∈zs
  ·refine⟨zs,ad,some (.int first),some (.int old),⟨I.nd,fun z=>?_,by rw[length_append];have:=I.len;omega⟩,e.trans ((eK (t.trans (by rw[decide_eq_true q2,Bool.not_true,Bool.and_false]))).trans rfl)⟩;constructor
   ·exact fun h=>old_in z ((I.mem z).mp h)
   ·rintro ⟨v,f,o,h1,h2,h3,h4,h5⟩;rcases mem_append.mp h2 with y|y
    ·exact(I.mem z).mpr ⟨v,f,o,h1,y,h3,h4,h5⟩
    ·obtain rfl:=same v y;rw[h5,(fV ag h3 Pr).1];exact q2
  ·refine⟨zs++[[first,w.1,w.2.1,w.2.2]],ad,some (.int first),some (.int old),⟨?_,fun z=>?_,by rw[length_append,length_append];exact Nat.add_le_add_right I.len 1⟩,e.trans ((gU (t.trans (by rw[decide_eq_false q1,decide_eq_false q2];rfl))).trans (iK (d:=.non) ((lE (k:=M.length) rfl at_ et at_ (by rw[length_map];have:=I.len;omega)).trans ?_)))⟩
   ·rw[nodup_append];refine⟨I.nd,by simp,fun a ha b hb=>?_⟩;obtain rfl:=mem_singleton.mp hb;exact fun z=>q2 (by rw[←z];exact ha)
   ·rw[mem_append,mem_singleton];constructor
    ·rintro (h|rfl)
     ·exact old_in z ((I.mem z).mp h)
     ·exact⟨w,first,old,hm,mem_append_right _ mem_cons_self,Pr,q1,rfl⟩
    ·rintro ⟨v,f,o,h1,h2,h3,h4,h5⟩;rcases mem_append.mp h2 with y|y
     ·exact .inl ((I.mem z).mpr ⟨v,f,o,h1,y,h3,h4,h5⟩)
     ·obtain rfl:=same v y;rw[h5,(fV ag h3 Pr).1];exact .inr rfl
   ·rw[rm,map_append];rfl
theorem ol {W:List W3}{pl:List Int}{M:aq}{ds0:List D}(ag:cD W)(hs:∀w,w∈W→eA w)(hp:pl.length=16)(hl:W.length≤200):∀(Q P:List W3) (zs:List (List Int)) (x3 x4 x5 x6 x7 x8:Option D),W=P++Q→BQ (cr pl) W P zs→
  ∃zs1 y3 y4 y5 y6 y7 y8,BQ (cr pl) W W zs1∧a8 ⟨ds0,none⟩ (df [3,4,5]) a4 (Q.map wD) [some (.tup (pl.map D.int)),some (.lst (W.map wD)),some (.mr M.length),x3,x4,x5,x6,x7,x8] (M++[.lst (zs.map ax)])=.ok (.nx [some (.tup (pl.map D.int)),some (.lst (W.map wD)),some (.mr M.length),y3,y4,y5,y6,y7,y8]) (M++[.lst (zs1.map ax)])
 | [],P,zs,x3,x4,x5,x6,x7,x8,e,I=>⟨zs,x3,x4,x5,x6,x7,x8,by rw[e,append_nil] at *;exact I,rfl⟩
 | w::Q,P,zs,x3,x4,x5,x6,x7,x8,e,I=>by
  have hm:w∈W:=by rw[e];exact mem_append_right _ mem_cons_self
  have lP:P.length≤1000:=by
   have:W.length=P.length+(Q.length+1):=by rw[e,length_append];rfl
   omega
  obtain⟨zs1,y6,y7,y8,I1,e1⟩:=wl (M:=M) (x6:=x6) (x7:=x7) (x8:=x8) ag hm (hs w hm) hp hl lP I;obtain⟨zs2,z3,z4,z5,z6,z7,z8,I2,e2⟩:=ol (M:=M) (ds0:=ds0) ag hs hp hl Q (P++[w]) zs1 (some (.int w.1)) (some (.int w.2.1)) (some (.int w.2.2)) y6 y7 y8 (by rw[append_assoc];exact e) I1;refine⟨zs2,z3,z4,z5,z6,z7,z8,I2,?_⟩;rw[map_cons,a8,if_pos dX];show(a4 [some (.tup (pl.map D.int)),some (.lst (W.map wD)),some (.mr M.length),some (.int w.1),some (.int w.2.1),some (.int w.2.2),x6,x7,x8] (M++[.lst (zs.map ax)])).bind _=_;rw[e1,ai];exact e2
theorem p0 (ag:cD W)(hM:M.all cf=true)(hp:pl.length=16)(hs:∀w,w∈W→eA w)(hl:W.length≤200) :
  ∃zs,cV [.tup (pl.map D.int),.lst (W.map wD)] M=.ok (.lst ((bg zs).map ax)) M∧zs.Nodup∧∀z,z∈zs↔tU (cr pl) W (fun _=>True) z:=by
 obtain⟨zs,y3,y4,y5,y6,y7,y8,I,e⟩:=ol (M:=M) (ds0:=W.map wD) ag hs hp hl W [] [] none none none none none none rfl ⟨.nil,(fun z=>⟨(fun x=>by cases x),(fun⟨w,f,o,_,x,_⟩=>by cases x)⟩),Nat.zero_le _⟩;have mem:∀z,z∈zs↔tU (cr pl) W (fun _=>True) z:=fun z=>by
  rw[I.mem];exact⟨fun⟨w,f,o,h1,_,h3⟩=>⟨w,f,o,h1,trivial,h3⟩,fun⟨w,f,o,h1,_,h3⟩=>⟨w,f,o,h1,h1,h3⟩⟩
 refine⟨zs,?_,I.nd,mem⟩;have eg:br [some (.tup (pl.map D.int)),some (.lst (W.map wD)),none,none,none,none,none,none,none] M=.ok (.rt (.lst ((bg zs).map ax))) (M++[.lst (zs.map ax)]):=by
  unfold br;refine(aB (aD iN)).trans ?_;show ao _ _ [some (.tup (pl.map D.int)),some (.lst (W.map wD)),some (.mr M.length),none,none,none,none,none,none] _=_;exact(aB (fL (gw (xs:=W.map wD) rfl) e)).trans (fM (lY rfl (jM (tM M _) (fun z hz=>sO ((mem z).mp hz)) (by have:=I.len;omega))))
 show d9 M.length (bL (br [some (.tup (pl.map D.int)),some (.lst (W.map wD)),none,none,none,none,none,none,none] M))=_;rw[eg];exact ll (gZ _ 27) (jT.pure hM)
noncomputable def tp (l:List Int)(i c:Int):MO:=.lst [.lst (l.map D.int),.int i,.int c]
noncomputable def cK (l:List Int)(rest:aq)(M:aq):Prop:=∃i c,0≤i∧M=tp l i c::rest
theorem sP {k:Int}(h0:0≤k)(h1:k<l.length):∃v,n8 (l.map D.int) k=some (.int v):=by
 obtain⟨n,rfl⟩:=Int.eq_ofNat_of_zero_le h0;have hn:n<l.length:=by omega
 exact⟨l[n],lQ (by simp[hn])⟩
noncomputable def Cg:GS:=ao (av 4 (g2 dG (g2 bG (af 0) (gC (.int 2))) (af 1))) (ao (fm (af 0) (gC (.int 2)) (g2 ce (g2 bG (af 0) (gC (.int 2))) (af 1))) (bY (af 4)))
noncomputable def BN:GS:=ao (av 3 (g2 dG (g2 bP (af 3) (g2 cP (gC (.int 1000003)) (g2 bG (af 0) (gC (.int 1))))) (af 2))) (ao (av 3 (g2 dG (g2 bP (g2 bP (g2 cP (af 3) (af 3)) (g2 cP (gC (.int 1181783497276652981)) (af 3))) (gC (.int 2049848353892358983))) (af 2))) (av 3 (g2 dG (g2 bP (g2 cP (af 3) (af 3)) (gC (.int 1442695040888963407))) (af 2))))
noncomputable def CF:GS:=dQ (aK (g2 vF (bt fT (ae (g2 bG (af 0) (gC (.int 0))) ah)) (gC (.int 0)))) (av 3 (g2 bG (g2 bG (af 0) (gC (.int 0))) (g2 dG (g2 bG (af 0) (gC (.int 1))) (bt fT (ae (g2 bG (af 0) (gC (.int 0))) ah))))) aU
noncomputable def C7:GT:=iI (aK (g2 wk (g2 bG (af 0) (gC (.int 1))) (bt fT (ae (g2 bG (af 0) (gC (.int 0))) ah)))) (aK (g2 pT (af 3) (g2 jS (gC (.int 10)) (gC (.int 18)))))
noncomputable def B4:GS:=ao (av 3 (gC (.int 0))) (ao CF (ao (dQ C7 BN aU) (ao (fm (af 0) (gC (.int 1)) (g2 bP (g2 bG (af 0) (gC (.int 1))) (gC (.int 1)))) (fm (af 0) (gC (.int 2)) (af 3)))))
theorem zO (ρ:bF)(M:aq):dq ρ M=ao (av 2 (gC (.int 2305843009213693951))) (ao (dQ (aK (g2 pT (g2 bG (af 0) (gC (.int 2))) (af 1))) B4 aU) Cg) ρ M:=rfl
theorem lO {j:Int}(h:0<j)(M:aq):dG (.int i) (.int j) M=.ok (.int (i % j)) M:=by
 unfold dG;dsimp only;rw[if_pos h]
theorem iL {j:Int}(h:-18446744073709551616<i∧i<18446744073709551616)(M:aq):cP (.int i) (.int j) M=.ok (.int (i*j)) M:=by
 unfold cP;dsimp only;rw[if_pos (.inl ⟨Int.lt_of_le_of_lt (by decide) h.1,Int.lt_of_lt_of_le h.2 (by decide)⟩)]
theorem kT {go gi:GE}{M1:aq}{x:D}(h:g ρ M=.ok x M)(h2:(go ρ M).bind (fun o M2=>(gi ρ M2).bind fun i M3=>(qt o i x M3).bind fun _ M4=>.ok (Fl.nx ρ) M4)=.ok (Fl.nx ρ) M1):fm go gi g ρ M=.ok (.nx ρ) M1:=by
 unfold fm;rw[h,ai,h2]
variable{rest:aq}{many:Int}
theorem iT (hm:0<many)(hlog:many.natAbs.log2<9000)(h:cK l rest M) :
  ∃f M',0≤f∧f<many∧cK l rest M'∧al [.mr 0,.int many] M=.ok (.int f) M':=by
 obtain⟨i,c,hi,rfl⟩:=h;have i0:∀(i c:Int) (x1 x2 x3 x4:Option D),g2 bG (af 0) (gC (.int 0)) [some (.mr 0),x1,x2,x3,x4] (tp l i c::rest)=.ok (.lst (l.map D.int)) (tp l i c::rest):=fun _ _ _ _ _ _=>rfl
 have i1:∀(i c:Int) (x1 x2 x3 x4:Option D),g2 bG (af 0) (gC (.int 1)) [some (.mr 0),x1,x2,x3,x4] (tp l i c::rest)=.ok (.int i) (tp l i c::rest):=fun _ _ _ _ _ _=>rfl
 have i2:∀(i c:Int) (x1 x2 x3 x4:Option D),g2 bG (af 0) (gC (.int 2)) [some (.mr 0),x1,x2,x3,x4] (tp l i c::rest)=.ok (.int c) (tp l i c::rest):=fun _ _ _ _ _ _=>rfl
 have ln:∀(i c:Int) (x1 x2 x3 x4:Option D),bt fT (ae (g2 bG (af 0) (gC (.int 0))) ah) [some (.mr 0),x1,x2,x3,x4] (tp l i c::rest)=.ok (.int (l.length:Int)) (tp l i c::rest):=fun i c x1 x2 x3 x4=>by
  refine lY (i0 i c x1 x2 x3 x4) ?_;show aN.ok (D.int ((l.map D.int).length:Int)) _=_;rw[length_map]
 have tail:∀(c i:Int) (x2 x3 x4:Option D),0≤i→∃f M',0≤f∧f<many∧cK l rest M'∧bL (Cg [some (.mr 0),some (.int many),x2,x3,x4] (tp l i c::rest))=.ok (.int f) M':=fun c i x2 x3 x4 hi=>by
  refine⟨c % many,tp l i (c / many)::rest,Int.emod_nonneg _ (by omega),Int.emod_lt_of_pos _ hm,⟨i,c / many,hi,rfl⟩,?_⟩;unfold Cg;rw[aB (aD (az (i2 i c (some (.int many)) x2 x3 x4) (b:=af 1) (y:=.int many) rfl (lO hm _)))];have fd:ce (.int c) (.int many) (tp l i c::rest)=.ok (.int (c / many)) (tp l i c::rest):=by
   unfold ce;dsimp only;rw[if_pos ⟨hm,hlog⟩]
  have k:fm (af 0) (gC (.int 2)) (g2 ce (g2 bG (af 0) (gC (.int 2))) (af 1)) [some (.mr 0),some (.int many),x2,x3,some (.int (c % many))] (tp l i c::rest)=.ok (.nx [some (.mr 0),some (.int many),x2,x3,some (.int (c % many))]) (tp l i (c / many)::rest):=
   kT (az (i2 i c (some (.int many)) x2 x3 _) (b:=af 1) (y:=.int many) rfl fd) rfl
  exact(congrArg bL (aB k)).trans rfl
 show∃f M',_∧_∧_∧bL (dq [some (.mr 0),some (.int many),none,none,none] (tp l i c::rest))=_;rw[zO];have e0:∀b:GS,ao (av 2 (gC (.int 2305843009213693951))) b [some (.mr 0),some (.int many),none,none,none] (tp l i c::rest)=b [some (.mr 0),some (.int many),some (.int 2305843009213693951),none,none] (tp l i c::rest):=fun b=>aB rfl
 rw[e0];have tst:aK (g2 pT (g2 bG (af 0) (gC (.int 2))) (af 1)) [some (.mr 0),some (.int many),some (.int 2305843009213693951),none,none] (tp l i c::rest)=.ok (decide (c<many)) (tp l i c::rest):=bb (az (i2 i c _ _ _ _) (b:=af 1) (y:=.int many) rfl rfl)
 by_cases h1:c<many
 ·rw[decide_eq_true h1] at tst;obtain⟨v,ev⟩:∃v:Int,CF [some (.mr 0),some (.int many),some (.int 2305843009213693951),some (.int 0),none] (tp l i c::rest)=.ok (.nx [some (.mr 0),some (.int many),some (.int 2305843009213693951),some (.int v),none]) (tp l i c::rest):=by
   unfold CF;have t0:aK (g2 vF (bt fT (ae (g2 bG (af 0) (gC (.int 0))) ah)) (gC (.int 0))) [some (.mr 0),some (.int many),some (.int 2305843009213693951),some (.int 0),none] (tp l i c::rest)=.ok (decide ((l.length:Int)>0)) (tp l i c::rest):=bb (az (ln i c _ _ _ _) (b:=gC (.int 0)) (y:=.int 0) rfl rfl)
   by_cases hl:(l.length:Int)>0
   ·rw[decide_eq_true hl] at t0;obtain⟨v,hv⟩:=sP (l:=l) (k:=i % l.length) (Int.emod_nonneg _ (by omega)) (Int.emod_lt_of_pos _ hl);refine⟨v,(gU t0).trans (aD (az (f:=bG) (i0 i c _ _ _ _) (az (i1 i c _ _ _ _) (ln i c _ _ _ _) (lO hl _)) ?_))⟩;show(match n8 (l.map D.int) (i % (l.length:Int)) with|some d=>aN.ok d (tp l i c::rest)|none=>.bad)=_;rw[hv]
   ·rw[decide_eq_false hl] at t0;exact⟨0,(eK t0).trans rfl⟩
  have bd:∀x:Int,-18446744073709551616<x % 2305843009213693951∧x % 2305843009213693951<18446744073709551616:=fun x=>by
   have h0:=Int.emod_nonneg x (show(2305843009213693951:Int)≠0 by decide);have h1:=Int.emod_lt_of_pos x (show(0:Int)<2305843009213693951 by decide);omega
  have md:∀x:Int,∀M,dG (.int x) (.int 2305843009213693951) M=.ok (.int (x % 2305843009213693951)) M:=fun x M=>lO (by decide) M
  obtain⟨u,eu⟩:∃u:Int,dQ C7 BN aU [some (.mr 0),some (.int many),some (.int 2305843009213693951),some (.int v),none] (tp l i c::rest)=.ok (.nx [some (.mr 0),some (.int many),some (.int 2305843009213693951),some (.int u),none]) (tp l i c::rest):=by
   have po:∀ρ,g2 jS (gC (.int 10)) (gC (.int 18)) ρ (tp l i c::rest)=.ok (.int (10 ^ 18)) (tp l i c::rest):=fun ρ=>by
    refine az (x:=.int 10) (y:=.int 18) rfl rfl ?_;unfold jS;dsimp only;rw[if_pos (by decide)];rfl
   have to:=nP (bb (az (f:=wk) (i1 i c (some (.int many)) (some (.int 2305843009213693951)) (some (.int v)) none) (ln i c _ _ _ _) rfl)) fun _=>bb (az (f:=pT) (a:=af 3) (x:=.int v) rfl (po _) rfl)
   generalize (decide (i≥(l.length:Int))||decide (v<10 ^ 18))=b at to;cases b with
   | false=>exact⟨v,(eK to).trans rfl⟩
   | true=>
    suffices hs:∃u:Int,BN [some (.mr 0),some (.int many),some (.int 2305843009213693951),some (.int v),none] (tp l i c::rest)=.ok (.nx [some (.mr 0),some (.int many),some (.int 2305843009213693951),some (.int u),none]) (tp l i c::rest) from hs.elim fun u e=>⟨u,(gU to).trans e⟩
    unfold BN;rw[aB (aD (az (az (f:=bP) (a:=af 3) (x:=.int v) rfl (az (f:=cP) (a:=gC (.int 1000003)) (x:=.int 1000003) rfl (i1 i c _ _ _ _) (iL (by decide) _)) rfl) (b:=af 2) (y:=.int 2305843009213693951) rfl (md _ _)))];generalize hz:(v+1000003*i) % 2305843009213693951=z;have bz:=hz▸bd (v+1000003*i);have k2:av 3 (g2 dG (g2 bP (g2 bP (g2 cP (af 3) (af 3)) (g2 cP (gC (.int 1181783497276652981)) (af 3))) (gC (.int 2049848353892358983))) (af 2)) [some (.mr 0),some (.int many),some (.int 2305843009213693951),some (.int z),none] (tp l i c::rest)=.ok (.nx [some (.mr 0),some (.int many),some (.int 2305843009213693951),some (.int ((z*z+1181783497276652981*z+2049848353892358983) % 2305843009213693951)),none]) (tp l i c::rest):=
     aD (az (az (f:=bP) (az (f:=bP) (az (f:=cP) (a:=af 3) (x:=.int z) rfl (b:=af 3) (y:=.int z) rfl (iL bz _)) (az (f:=cP) (a:=gC (.int 1181783497276652981)) (x:=.int 1181783497276652981) rfl (b:=af 3) (y:=.int z) rfl (iL (by decide) _)) rfl) (b:=gC (.int 2049848353892358983)) (y:=.int 2049848353892358983) rfl rfl) (b:=af 2) (y:=.int 2305843009213693951) rfl (md _ _))
    refine Exists.imp (fun u e=>(aB k2).trans e) ?_;generalize hy:(z*z+1181783497276652981*z+2049848353892358983) % 2305843009213693951=y;have byy:=hy▸bd (z*z+1181783497276652981*z+2049848353892358983);exact⟨_,aD (az (az (f:=bP) (az (f:=cP) (a:=af 3) (x:=.int y) rfl (b:=af 3) (y:=.int y) rfl (iL byy _)) (b:=gC (.int 1442695040888963407)) (y:=.int 1442695040888963407) rfl rfl) (b:=af 2) (y:=.int 2305843009213693951) rfl (md _ _))⟩
  have kb:B4 [some (.mr 0),some (.int many),some (.int 2305843009213693951),none,none] (tp l i c::rest)=.ok (.nx [some (.mr 0),some (.int many),some (.int 2305843009213693951),some (.int u),none]) (tp l (i+1) u::rest):=by
   unfold B4;have e3:∀b:GS,ao (av 3 (gC (.int 0))) b [some (.mr 0),some (.int many),some (.int 2305843009213693951),none,none] (tp l i c::rest)=b [some (.mr 0),some (.int many),some (.int 2305843009213693951),some (.int 0),none] (tp l i c::rest):=fun b=>aB rfl
   rw[e3,aB ev,aB eu];have k1:fm (af 0) (gC (.int 1)) (g2 bP (g2 bG (af 0) (gC (.int 1))) (gC (.int 1))) [some (.mr 0),some (.int many),some (.int 2305843009213693951),some (.int u),none] (tp l i c::rest)=.ok (.nx [some (.mr 0),some (.int many),some (.int 2305843009213693951),some (.int u),none]) (tp l (i+1) c::rest):=
    kT (az (i1 i c _ _ _ _) (b:=gC (.int 1)) (y:=.int 1) rfl rfl) rfl
   rw[aB k1];exact kT (x:=.int u) rfl rfl
  rw[aB ((gU tst).trans kb)];exact tail u (i+1) _ _ _ (by omega)
 ·rw[decide_eq_false h1] at tst;rw[aB ((eK tst).trans rfl)];exact tail c i _ _ _ hi
theorem bo {x:Int}(h0:0<x)(h1:x≤1000000):x.natAbs.log2<9000:=by
 have h2:x.natAbs<2 ^ 20:=by omega
 have h3:x.natAbs≠0:=by omega
 have:=(Nat.log2_lt h3).mpr h2;omega
theorem uN {most:Int}(hm:1≤most)(hm2:most≤1000)(h:cK l rest M) :
  ∃f M',1≤f∧f≤most∧cK l rest M'∧cx [.mr 0,.int most] M=.ok (.int f) M':=by
 have lg:∀x:Int,0<x→x≤1000→x.natAbs.log2<9000:=fun x h0 h1=>by
  have h2:x.natAbs<2 ^ 10:=by omega
  have h3:x.natAbs≠0:=by omega
  have:=(Nat.log2_lt h3).mpr h2;omega
 have hmin:0<(if 6<most then 6 else most)∧(if 6<most then 6 else most)≤most∧(if 6<most then(6:Int) else most)≤1000:=by split <;> omega
 obtain⟨f1,M1,a1,b1,t1,e1⟩:=iT hmin.1 (lg _ hmin.1 hmin.2.2) h;obtain⟨f2,M2,a2,b2,t2,e2⟩:=iT (many:=most) (by omega) (lg _ (by omega) hm2) t1;obtain⟨f3,M3,a3,b3,t3,e3⟩:=iT (many:=8) (by decide) (lg _ (by decide) (by decide)) t2;have l3:(3:Nat)≤sizeLine:=bW (by decide);have hix:0≤f3*3 / 10∧f3*3 / 10<3:=by omega
 have c3:Nat.log2 10<9000:=by decide
 have c4:-18446744073709551616<f3∧f3<18446744073709551616:=by omega
 have pick:∃f,1≤f∧f≤most∧∃y,f=1+y∧n8 [D.int f1,D.int f2,D.int (most-1)] (f3*3 / 10)=some (.int y):=by
  have:f3*3 / 10=0∨f3*3 / 10=1∨f3*3 / 10=2:=by omega
  rcases this with q|q|q <;> rw[q]
  ·exact⟨1+f1,by omega,by omega,f1,rfl,rfl⟩
  ·exact⟨1+f2,by omega,by omega,f2,rfl,rfl⟩
  ·exact⟨1+(most-1),by omega,by omega,most-1,rfl,rfl⟩
 obtain⟨f,hf1,hf2,y,ey,ha⟩:=pick;refine⟨f,M3,hf1,hf2,t3,?_⟩;unfold cx eQ;simp_arith [e1,e2,e3,l3,c3,c4,ha,ey]
theorem nM {ds0:List D}{s:GG}{body:GS}{W:Nat→bF→aq→Prop}:∀(ds:List D) (i:Nat),(∀j d,ds[j]?=some d→∀ρ M,W (i+j) ρ M→∃ρ1 ρ2 M2,s d ρ=some ρ1∧body ρ1 M=.ok (.nx ρ2) M2∧W (i+j+1) ρ2 M2)→∀ρ M,W i ρ M→
  ∃ρ' M',W (i+ds.length) ρ' M'∧a8 ⟨ds0,none⟩ s body ds ρ M=.ok (.nx ρ') M'
 | [],i,h,ρ,M,hW=>⟨ρ,M,hW,rfl⟩
 | d::ds,i,h,ρ,M,hW=>by
  obtain⟨ρ1,ρ2,M2,e1,e2,h2⟩:=h 0 d rfl ρ M hW;obtain⟨ρ',M',h3,e3⟩:=nM (ds0:=ds0) (s:=s) (body:=body) (W:=W) ds (i+1) (fun j d' hd ρ M hW=>by
   have e:i+1+j=i+(j+1):=by omega
   rw[e] at hW ⊢;exact h (j+1) d' hd ρ M hW) ρ2 M2 h2
  refine⟨ρ',M',?_,by simp[a8,dX,e1,e2,e3]⟩;have e:i+(d::ds).length=i+1+ds.length:=by simp;omega
  rw[e];exact h3
theorem nK {lo:Int}{n j:Nat}(h:(ba lo n)[j]?=some d):j<n∧d=.int (lo+j):=by
 unfold ba at h;rw[getElem?_map] at h;cases q:(List.range n)[j]? with
 | none=>rw[q] at h;cases h
 | some k=>
  rw[q] at h;obtain⟨hj,ek⟩:=List.getElem?_eq_some_iff.mp q;rw[length_range] at hj;rw[getElem_range] at ek;subst ek;cases h;exact⟨hj,rfl⟩
theorem nz {a b:D}{f:Int}(h0:0≤f)(h1:f<2):∃v,(v=a∨v=b)∧∀M,bG (.lst [a,b]) (.int f) M=.ok v M:=by
 have:f=0∨f=1:=by omega
 rcases this with rfl|rfl
 ·exact⟨a,.inl rfl,fun M=>nF (k:=0) rfl⟩
 ·exact⟨b,.inr rfl,fun M=>nF (k:=1) rfl⟩
theorem qK {i:Nat}(t:cK l rest N)(hi:ρ[i]?=some (some (.mr 0)))(h0:0<many)(h1:many.natAbs.log2<9000):∃f N1,0≤f∧f<many∧cK l rest N1∧∀g:GE,g ρ N=.ok (.int many) N→au 2 al (ae (af i) (ae g ah)) ρ N=.ok (.int f) N1:=by
 obtain⟨f,N1,a,b,t1,e⟩:=iT h0 h1 t;exact⟨f,N1,a,b,t1,fun g hg=>ke (a:=af i) (by unfold af;rw[hi]) hg e⟩
theorem fg (h:cK ns rest M)(hr:rest.all cf=true):M.all cf=true:=by
 obtain⟨i,c,_,rfl⟩:=h;rw[all_cons,hr,Bool.and_true];show(D.lst (ns.map D.int)::[D.int i,D.int c]).all (aJ 30)=true;have:=pU 28 ns;simp[pG,this]
theorem mI (h:cK ns (rest++[.lst xs]) M):M[rest.length+1]?=some (.lst xs)∧cK ns (rest++[.lst (xs++[d])]) (M.set (rest.length+1) (.lst (xs++[d]))):=by
 obtain⟨i,c,hi,rfl⟩:=h;exact⟨by simp,i,c,hi,by simp⟩
theorem zo {a:GE}{N1:aq}{f j:Int}(e:a ρ N=.ok (.int f) N1)(h0:0<j)(h1:j≤1000):g2 ce a (gC (.int j)) ρ N=.ok (.int (f / j)) N1:=az e rfl (uO h0 (by omega) N1)
theorem j6 {m1 m2 m3 dv:Int}(t:cK l rest M){iv:Nat}(hi:ρ[iv]?=some (some (.mr 0)))(h1:0<m1∧m1≤1000)(h2:0<m2∧m2≤1000)(h3:0<m3∧m3≤1000)(hd:0<dv∧dv≤1000)(h4:m3-1<2*dv)(h5:m1≤m2) :
  ∃(v:Nat) (M':aq),(v:Int)<m2∧cK l rest M'∧g2 bG (cC (ae (au 2 al (ae (af iv) (ae (gC (.int m1)) ah))) (ae (au 2 al (ae (af iv) (ae (gC (.int m2)) ah))) ah))) (g2 ce (au 2 al (ae (af iv) (ae (gC (.int m3)) ah))) (gC (.int dv))) ρ M=.ok (.int (v:Int)) M':=by
 obtain⟨f1,N1,a1,b1,t1,e1⟩:=qK (ρ:=ρ) (i:=iv) (many:=m1) t hi h1.1 (bo h1.1 (by omega));obtain⟨f2,N2,a2,b2,t2,e2⟩:=qK (ρ:=ρ) (i:=iv) (many:=m2) t1 hi h2.1 (bo h2.1 (by omega));obtain⟨f3,N3,a3,b3,t3,e3⟩:=qK (ρ:=ρ) (i:=iv) (many:=m3) t2 hi h3.1 (bo h3.1 (by omega));have q0:0≤f3 / dv:=Int.ediv_nonneg a3 (by omega);have q1:f3 / dv<2:=Int.ediv_lt_of_lt_mul hd.1 (by omega);obtain⟨v,hv,ev⟩:=nz (a:=.int f1) (b:=.int f2) q0 q1;obtain⟨n,hn,hn2⟩:∃n:Nat,v=.int n∧(n:Int)<m2:=by
  rcases hv with h|h
  ·obtain⟨n,rfl⟩:=Int.eq_ofNat_of_zero_le a1;exact⟨n,h,by omega⟩
  ·obtain⟨n,rfl⟩:=Int.eq_ofNat_of_zero_le a2;exact⟨n,h,by omega⟩
 subst hn;exact⟨n,N3,hn2,t3,az (f:=bG) (jg (ds:=[.int f1,.int f2]) (cB (e1 _ rfl) (cB (e2 _ rfl) rfl))) (zo (e3 _ rfl) hd.1 (by omega)) (ev N3)⟩
theorem rM {gi:GI}{gc:GT}{ge:GE}{ds es:List D}{M1 M2:aq}(hi:gi ρ M=.ok ⟨ds,none⟩ M1)(he:cg ⟨ds,none⟩ gc ge ds ρ M1=.ok es M2)(hl:es.length≤1000000):bS gi gc ge aW ρ M=.ok (.lst es) M2:=by
 unfold bS;rw[hi,ai];dsimp only;rw[he,ai];unfold aW;rw[if_pos (bW hl)]
theorem nG (hM:M.all cf=true):cq [.exc "Clash"] M=.ok (.tup [.str "clash"]) M:=by
 have l3:(3:Nat)≤sizeLine:=bW (by decide);have l6:(6:Nat)≤sizeLine:=bW (by decide);have l9:(9:Nat)<sizeLine:=by rw[sizeLine_eq];decide
 have l9':(9:Nat)≤sizeLine:=bW (by decide);have l10:(10:Nat)≤sizeLine:=bW (by decide);have l1:(1:Nat)≤sizeLine:=bW (by decide);have e:∃E,cO 2 cu [.exc "Clash"] M=.ok (.tup [.str "clash"]) (M++E):=by
  unfold cu;have at6:∀a b c d e f g h i j:D,n8 [a,b,c,d,e,f,g,h,i,j] 6=some g:=fun _ _ _ _ _ _ _ _ _ _=>rfl
  simp_arith [l3,l6,l9,l9',l10,l1,List.lookup,aS,List.findIdx?_cons,at6]
 obtain⟨E,e⟩:=e;unfold cq;rw[e];exact ll rfl (jT.pure hM)
noncomputable def zC:GS:=(iw 6 (List.contains ["Clash"]) (dQ (aK (g2 (aS false) (af 0) (gC (.int 0)))) (av 5 (au 2 aX (ae (af 2) (ae (af 3) ah)))) (av 5 (g2 bG (au 4 b7 (ae (af 1) (ae (g2 jd (af 0) (gC (.int 1))) (ae (af 2) (ae (af 3) ah))))) (gC (.int 0))))) (av 4 (af 6)))
noncomputable def C6:GS:=(ao (dQ (aK (g2 (lL false) (af 4) (gC .non))) (bY (af 5)) aU) (bY (au 1 cq (ae (af 4) ah))))
theorem Aw (ρ:bF)(M:aq):cH ρ M=ao (av 4 (gC .non)) (ao (av 5 (gC .non)) (ao zC C6)) ρ M:=rfl
theorem ig {a b c:D}:bv [a,b,c,d] M=bL (ao zC C6 [some a,some b,some c,some d,some .non,some .non,none] M):=by
 show bL (cH [some a,some b,some c,some d,none,none,none] M)=_;rw[Aw];rfl
theorem tj {h p w:D}(e:aX [p,w] M=.ok (.lst xs) M):bv [.int 0,h,p,w] M=.ok (.lst xs) M:=by
 have t:zC [some (.int 0),some h,some p,some w,some .non,some .non,none] M=.ok (.nx [some (.int 0),some h,some p,some w,some .non,some (.lst xs),none]) M:=by
  unfold zC iw;rw[show(dQ (aK (g2 (aS false) (af 0) (gC (.int 0)))) (av 5 (au 2 aX (ae (af 2) (ae (af 3) ah)))) (av 5 (g2 bG (au 4 b7 (ae (af 1) (ae (g2 jd (af 0) (gC (.int 1))) (ae (af 2) (ae (af 3) ah))))) (gC (.int 0))))) [some (.int 0),some h,some p,some w,some .non,some .non,none] M=.ok (.nx [some (.int 0),some h,some p,some w,some .non,some (.lst xs),none]) M from(gU (M1:=M) rfl).trans (aD (ke rfl rfl e))]
 rw[ig];exact congrArg bL ((aB t).trans (Be ((gU (M1:=M) rfl).trans (fM rfl))))
theorem m7 {v:Int}{h p w:D}(hM:M.all cf=true)(e:aX [p,w] M=.err "Clash" M):bv [.int v,h,p,w] M=.ok (.tup [.str "clash"]) M:=by
 have et:∀r:D,b7 [h,r,p,w] M=.err "Clash" M:=fun r=>by
  show bL (dt [some h,some r,some p,some w,none,none] M)=_;unfold dt;rw[Bs (c:="Clash") (M1:=M) (show(av 4 (au 2 aX (ae (af 2) (ae (af 3) ah)))) [some h,some r,some p,some w,none,none] M=.err "Clash" M by
   unfold av;rw[ke (x:=p) (y:=w) (M1:=M) (M2:=M) rfl rfl e];rfl)]
  rfl
 have b:(dQ (aK (g2 (aS false) (af 0) (gC (.int 0)))) (av 5 (au 2 aX (ae (af 2) (ae (af 3) ah)))) (av 5 (g2 bG (au 4 b7 (ae (af 1) (ae (g2 jd (af 0) (gC (.int 1))) (ae (af 2) (ae (af 3) ah))))) (gC (.int 0))))) [some (.int v),some h,some p,some w,some .non,some .non,none] M=.err "Clash" M:=by
  have t:aK (g2 (aS false) (af 0) (gC (.int 0))) [some (.int v),some h,some p,some w,some .non,some .non,none] M=.ok (decide (v=0)) M:=bb (az rfl rfl (wJ _ _ _));cases q:decide (v=0) with
  | true=>
   rw[gU (t.trans (by rw[q]))];unfold av;rw[ke (x:=p) (y:=w) (M1:=M) (M2:=M) rfl rfl e];rfl
  | false=>
   rw[eK (t.trans (by rw[q]))];unfold av DL.g2;rw[oE (x:=h) (y:=.int (v-1)) (z:=p) (u:=w) (M1:=M) (M2:=M) (M3:=M) (M4:=M) rfl rfl rfl rfl (et _)];rfl
 have t:zC [some (.int v),some h,some p,some w,some .non,some .non,none] M=.ok (.nx [none,none,none,none,some (.exc "Clash"),none,none]) M:=by
  unfold zC iw;rw[b];rfl
 rw[ig];refine congrArg bL ((aB t).trans ((aB ((eK (M1:=M) rfl).trans rfl)).trans (fM (d:=.tup [.str "clash"]) (lZ rfl (nG hM)))))
theorem wv:∀A B:List W3,cG (A.map wD) (B.map wD)=decide (A=B)
 | [],[]=>rfl
 | [],_::_=>rfl
 | _::_,[]=>rfl
 | a::A,b::B=>by
  show(((a.1==b.1)&&((a.2.1==b.2.1)&&((a.2.2==b.2.2)&&true)))&&cG (A.map wD) (B.map wD))=_;rw[wv A B];obtain⟨a1,a2,a3⟩:=a;obtain⟨b1,b2,b3⟩:=b
  by_cases q:(a1,a2,a3)=(b1,b2,b3)
  ·injection q with q1 q
   injection q with q2 q3
   subst q1 q2 q3;simp
  ·have:((a1==b1)&&((a2==b2)&&((a3==b3)&&true)))=false:=by
    cases z:((a1==b1)&&((a2==b2)&&((a3==b3)&&true))) with
    | false=>rfl
    | true=>
     simp at z;exact absurd (by rw[z.1,z.2.1,z.2.2]) q
   rw[this];have:¬((a1,a2,a3)::A=(b1,b2,b3)::B):=fun z=>q (by injection z)
   simp[this]
theorem nw {A B:List W3}:aS true (.lst (A.map wD)) (.lst (B.map wD)) M=.ok (.bl (!decide (A=B))) M:=by
 show(if(aH 39 (A.map wD)&&aH 39 (B.map wD))=true then aN.ok (D.bl (cG (A.map wD) (B.map wD) != true)) M else .bad)=_;rw[lh 38,lh 38,wv];cases decide (A=B) <;> rfl
theorem qN:∀zs:List (List Int),cG (zs.map ax) (zs.map ax)=true
 | []=>rfl
 | z::zs=>by
  show(iu (ax z) (ax z)&&cG (zs.map ax) (zs.map ax))=true;rw[qN zs,show iu (ax z) (ax z)=decide (z=z) from oM z z,decide_eq_true rfl];rfl
theorem oP (n:Nat):∀zs:List (List Int),aH (n+3) (zs.map ax)=true
 | []=>rfl
 | z::zs=>by
  show(aP (n+3) (ax z)&&aH (n+3) (zs.map ax))=true;rw[oP n zs,show aP (n+3) (ax z)=true from jw (n+1) z];rfl
theorem vU :aS true (.lst (zs.map ax)) (.lst (zs.map ax)) M=.ok (.bl false) M:=by
 show(if(aH 39 (zs.map ax)&&aH 39 (zs.map ax))=true then aN.ok (D.bl (cG (zs.map ax) (zs.map ax) != true)) M else .bad)=_;rw[oP 36,qN];rfl
theorem ph {high inks:Int}{x4 x5:Option D}(hh:1≤high∧high≤40)(hi:1≤inks∧inks≤16)(hl:acc.length<1000)(t:cK l [.lst (acc.map wD)] M) :
  ∃w y5 M',eA w∧cK l [.lst ((acc++[w]).map wD)] M'∧bK [some (.mr 0),some (.int high),some (.int inks),some (.mr 1),x4,x5] M=.ok (.nx [some (.mr 0),some (.int high),some (.int inks),some (.mr 1),x4,y5]) M':=by
 obtain⟨hue,N1,bh,t1,e1⟩:=j6 (ρ:=[some (.mr 0),some (.int high),some (.int inks),some (.mr 1),x4,x5]) (iv:=0) (m1:=3) (m2:=64) (m3:=4) (dv:=3) t rfl (by decide) (by decide) (by decide) (by decide) (by decide) (by decide);obtain⟨r,N2,a2,b2,t2,e2⟩:=qK (ρ:=[some (.mr 0),some (.int high),some (.int inks),some (.mr 1),x4,some (.int (hue:Int))]) (i:=0) (many:=high) t1 rfl (by omega) (bo (by omega) (by omega));obtain⟨i,N3,a3,b3,t3,e3⟩:=qK (ρ:=[some (.mr 0),some (.int high),some (.int inks),some (.mr 1),x4,some (.int (hue:Int))]) (i:=0) (many:=inks) t2 rfl (by omega) (bo (by omega) (by omega));obtain⟨m1,_⟩:=mI (rest:=[]) (d:=.non) t1;obtain⟨m3,t4⟩:=mI (rest:=[]) (d:=wD (r,i,(hue:Int))) t3;refine⟨(r,i,(hue:Int)),some (.int (hue:Int)),_,⟨⟨a2,(show r<40 by omega)⟩,a3,(show i<16 by omega)⟩,by rw[map_append];exact t4,?_⟩;unfold bK;exact(aB (aD e1)).trans (iK (d:=.non) (lE (k:=1) (d:=wD (r,i,(hue:Int))) rfl m1 (fQ (ds:=[.int r,.int i,.int (hue:Int)]) (cB (e2 (af 1) rfl) (cB (e3 (af 2) rfl) rfl))) m3 (by rw[length_map];omega)))
theorem pN {high inks:Int}(hh:1≤high∧high≤40)(hi:1≤inks∧inks≤16)(t:cK l [] M) :
  ∃(W:List W3) (M':aq),W.length≤200∧(∀w,w∈W→eA w)∧cK l [] M'∧cp [.mr 0,.int high,.int inks] M=.ok (.lst (W.map wD)) M':=by
 obtain⟨i0,c0,hi0,eM⟩:=id t;have t0:cK l [.lst []] (M++[.lst []]):=by rw[eM];exact⟨i0,c0,hi0,rfl⟩
 have lM:M.length=1:=by rw[eM];rfl
 obtain⟨n,N1,bn,t1,e1⟩:=j6 (ρ:=[some (.mr 0),some (.int high),some (.int inks),some (.mr 1),none,none]) (iv:=0) (m1:=14) (m2:=201) (m3:=3) (dv:=2) t0 rfl (by decide) (by decide) (by decide) (by decide) (by decide) (by decide);obtain⟨ρ',N2,⟨acc,y4,y5,la,sm,rfl,t2⟩,e2⟩:=nM (ds0:=ba 0 n) (s:=dA 4) (body:=bK) (W:=fun j ρ N=>∃acc:List W3,∃x4 x5,acc.length=j∧(∀w,w∈acc→eA w)∧ρ=[some (.mr 0),some (.int high),some (.int inks),some (.mr 1),x4,x5]∧cK l [.lst (acc.map wD)] N) (ba 0 n) 0 (fun j d hd ρ N hW=>by
  obtain⟨acc,x4,x5,la,sm,rfl,tt⟩:=hW;have hj:=(nK hd).1;obtain⟨w,y5,N',sw,t',e⟩:=ph (x4:=some d) (x5:=x5) hh hi (by omega) tt;refine⟨_,_,N',rfl,e,acc++[w],some d,y5,by rw[length_append,la];rfl,fun v hv=>?_,rfl,t'⟩;rcases mem_append.mp hv with hv|hv
  ·exact sm v hv
  ·obtain rfl:=mem_singleton.mp hv;exact sw) [some (.mr 0),some (.int high),some (.int inks),some (.mr 1),none,none] N1 ⟨[],none,none,rfl,(fun v hv=>by cases hv),rfl,t1⟩
 have ln:(ba 0 n).length=n:=by unfold ba;simp
 obtain⟨i2,c2,hi2,eN⟩:=id t2;have eg:bB [some (.mr 0),some (.int high),some (.int inks),none,none,none] M=.ok (.rt (.mr 1)) N2:=by
  unfold bB;refine(aB (aD (d:=.mr 1) (M1:=M++[.lst []]) (by rw[iN,lM]))).trans ?_;show ao _ _ [some (.mr 0),some (.int high),some (.int inks),some (.mr 1),none,none] _=_;exact(aB (fL (kN (cB e1 rfl) (by omega)) e2)).trans (fM rfl)
 refine⟨acc,[tp l i2 c2],by omega,sm,⟨i2,c2,hi2,rfl⟩,?_⟩;show d9 M.length (bL (bB [some (.mr 0),some (.int high),some (.int inks),none,none,none] M))=_;rw[eg,lM,eN];exact mO (M:=[tp l i2 c2]) (lJ 27 _) (jT.pure (fg (rest:=[]) ⟨i2,c2,hi2,rfl⟩ rfl))
theorem ox {l:List Int}{x0 x2 x3 x4 x5 x6 x7 x8 x9 x10:Option D}{ds0:List D}:∀(ds:List D) (M:aq),cK l [] M→∃(pl:List Int) (M':aq),pl.length=ds.length∧cK l [] M'∧cg ⟨ds0,none⟩ lC eU ds [x0,some (.mr 0),x2,x3,x4,x5,x6,x7,x8,x9,x10] M=.ok (pl.map D.int) M'
 | [],M,t=>⟨[],M,rfl,t,rfl⟩
 | d::ds,M,t=>by
  obtain⟨f1,N1,a1,b1,t1,e1⟩:=qK (ρ:=[some d,x0,some (.mr 0),x2,x3,x4,x5,x6,x7,x8,x9,x10]) (i:=2) (many:=3) t rfl (by decide) (bo (by decide) (by decide));obtain⟨f2,N2,a2,b2,t2,e2⟩:=qK (ρ:=[some d,x0,some (.mr 0),x2,x3,x4,x5,x6,x7,x8,x9,x10]) (i:=2) (many:=64) t1 rfl (by decide) (bo (by decide) (by decide));obtain⟨f3,N3,a3,b3,t3,e3⟩:=qK (ρ:=[some d,x0,some (.mr 0),x2,x3,x4,x5,x6,x7,x8,x9,x10]) (i:=2) (many:=2) t2 rfl (by decide) (bo (by decide) (by decide));obtain⟨v,hv,ev⟩:=nz (a:=.int f1) (b:=.int f2) a3 b3;obtain⟨p,hp⟩:∃p:Int,v=.int p:=hv.elim (fun h=>⟨_,h⟩) fun h=>⟨_,h⟩
  have ee:eU [some d,x0,some (.mr 0),x2,x3,x4,x5,x6,x7,x8,x9,x10] M=.ok (.int p) N3:=by
   unfold eU;rw[←hp];exact az (jg (ds:=[.int f1,.int f2]) (cB (e1 _ rfl) (cB (e2 _ rfl) rfl))) (e3 _ rfl) (ev N3)
  obtain⟨pl,M',lp,t',e'⟩:=ox (ds0:=ds0) ds N3 t3;refine⟨p::pl,M',by rw[length_cons,length_cons,lp],t',?_⟩;rw[cg,if_pos dX];show(match eU [some d,x0,some (.mr 0),x2,x3,x4,x5,x6,x7,x8,x9,x10] M with | .ok e M2=>(cg ⟨ds0,none⟩ lC eU ds [x0,some (.mr 0),x2,x3,x4,x5,x6,x7,x8,x9,x10] M2).bind fun es M3=>.ok (e::es) M3|_=>.bad)=_;rw[ee];dsimp only;rw[e',ai];rfl
theorem rL {x0 x2 x3 x4 x5 x6 x7 x8 x9 x10:Option D}(t:cK l [] M) :
  ∃y3 y4 y5 y6 y7 y8 y9 y10 M',cK l [] M'∧iV [x0,some (.mr 0),x2,x3,x4,x5,x6,x7,x8,x9,x10] M=.ok (.nx [x0,some (.mr 0),x2,y3,y4,y5,y6,y7,y8,y9,y10]) M':=by
 obtain⟨high,N1,h1,h2,t1,e1⟩:=uN (most:=40) (by decide) (by decide) t;obtain⟨pl,N2,lp,t2,e2⟩:=ox (l:=l) (x0:=x0) (x2:=x2) (x3:=some (.int high)) (x4:=x4) (x5:=x5) (x6:=x6) (x7:=x7) (x8:=x8) (x9:=x9) (x10:=x10) (ds0:=ba 0 16) (ba 0 16) N1 t1;have lp:pl.length=16:=lp.trans (by unfold ba;simp);have e2:=rM (gi:=dh (ae (gC (.int 16)) ah)) (M:=N1) (kN (n:=16) rfl (by decide)) e2 (by rw[length_map,lp];decide);obtain⟨f3,N3,a3,b3,t3,e3⟩:=qK (ρ:=[x0,some (.mr 0),x2,some (.int high),some (.tup (pl.map D.int)),x5,x6,x7,x8,x9,x10]) (i:=1) (many:=16) t2 rfl (by decide) (bo (by decide) (by decide));obtain⟨W,N4,lW,sW,t4,e4⟩:=pN (high:=high) (inks:=1+f3) ⟨h1,h2⟩ ⟨by omega,by omega⟩ t3;have p4:=fg t4 rfl;have e5:=mj p4 lW;obtain⟨f6,N6,a6,b6,t6,e6⟩:=qK (ρ:=[x0,some (.mr 0),x2,some (.int high),some (.tup (pl.map D.int)),some (.lst (W.map wD)),some (.lst ((cA W).map wD)),x7,x8,x9,x10]) (i:=1) (many:=2) t4 rfl (by decide) (bo (by decide) (by decide));obtain⟨v,hv,ev⟩:=nz (a:=.lst ((cA W).map wD)) (b:=.lst (W.map wD)) a6 b6;obtain⟨S,eS,lS,sS⟩:∃S:List W3,v=.lst (S.map wD)∧S.length≤200∧∀w,w∈S→eA w:=by
  rcases hv with h|h
  ·exact⟨cA W,h,Nat.le_trans oo.2 lW,fun w hw=>sW w (oo.1 w hw)⟩
  ·exact⟨W,h,lW,sW⟩
 subst eS;have p6:=fg t6 rfl;have e7:=mj p6 lS;have k1:∀b:GS,ao (av 3 (au 2 cx (ae (af 1) (ae (gC (.int 40)) ah)))) b [x0,some (.mr 0),x2,x3,x4,x5,x6,x7,x8,x9,x10] M=b [x0,some (.mr 0),x2,some (.int high),x4,x5,x6,x7,x8,x9,x10] N1:=fun b=>aB (aD (ke rfl rfl e1))
 have k2:∀b:GS,ao (av 4 (bt eG (ae (bS (dh (ae (gC (.int 16)) ah)) lC eU aW) ah))) b [x0,some (.mr 0),x2,some (.int high),x4,x5,x6,x7,x8,x9,x10] N1=b [x0,some (.mr 0),x2,some (.int high),some (.tup (pl.map D.int)),x5,x6,x7,x8,x9,x10] N2:=fun b=>aB (aD (lY e2 rfl))
 have k3:∀b:GS,ao (av 5 (au 3 cp (ae (af 1) (ae (af 3) (ae (g2 bP (gC (.int 1)) (au 2 al (ae (af 1) (ae (gC (.int 16)) ah)))) ah))))) b [x0,some (.mr 0),x2,some (.int high),some (.tup (pl.map D.int)),x5,x6,x7,x8,x9,x10] N2=b [x0,some (.mr 0),x2,some (.int high),some (.tup (pl.map D.int)),some (.lst (W.map wD)),x6,x7,x8,x9,x10] N4:=fun b=>aB (aD (AQ (z:=.int (1+f3)) rfl rfl (az rfl (e3 _ rfl) rfl) e4))
 have k4:∀b:GS,ao (av 6 (au 1 bQ (ae (af 5) ah))) b [x0,some (.mr 0),x2,some (.int high),some (.tup (pl.map D.int)),some (.lst (W.map wD)),x6,x7,x8,x9,x10] N4=b [x0,some (.mr 0),x2,some (.int high),some (.tup (pl.map D.int)),some (.lst (W.map wD)),some (.lst ((cA W).map wD)),x7,x8,x9,x10] N4:=fun b=>aB (aD (lZ rfl e5))
 have k5:∀b:GS,ao (av 7 (g2 bG (cC (ae (af 6) (ae (af 5) ah))) (au 2 al (ae (af 1) (ae (gC (.int 2)) ah))))) b [x0,some (.mr 0),x2,some (.int high),some (.tup (pl.map D.int)),some (.lst (W.map wD)),some (.lst ((cA W).map wD)),x7,x8,x9,x10] N4=b [x0,some (.mr 0),x2,some (.int high),some (.tup (pl.map D.int)),some (.lst (W.map wD)),some (.lst ((cA W).map wD)),some (.lst (S.map wD)),x8,x9,x10] N6:=fun b=>aB (aD (az (jg (ds:=[.lst ((cA W).map wD),.lst (W.map wD)]) rfl) (e6 _ rfl) (ev N6)))
 have k6:∀b:GS,ao (av 8 (bt gN (ae (af 7) ah))) b [x0,some (.mr 0),x2,some (.int high),some (.tup (pl.map D.int)),some (.lst (W.map wD)),some (.lst ((cA W).map wD)),some (.lst (S.map wD)),x8,x9,x10] N6=b [x0,some (.mr 0),x2,some (.int high),some (.tup (pl.map D.int)),some (.lst (W.map wD)),some (.lst ((cA W).map wD)),some (.lst (S.map wD)),some (.lst (S.map wD)),x9,x10] N6:=fun b=>aB (aD (lY rfl rfl))
 have k7:∀b:GS,ao (av 9 (g2 (aS true) (au 1 bQ (ae (af 7) ah)) (af 7))) b [x0,some (.mr 0),x2,some (.int high),some (.tup (pl.map D.int)),some (.lst (W.map wD)),some (.lst ((cA W).map wD)),some (.lst (S.map wD)),some (.lst (S.map wD)),x9,x10] N6=b [x0,some (.mr 0),x2,some (.int high),some (.tup (pl.map D.int)),some (.lst (W.map wD)),some (.lst ((cA W).map wD)),some (.lst (S.map wD)),some (.lst (S.map wD)),some (.bl (!decide (cA S=S))),x10] N6:=fun b=>aB (aD (az (lZ rfl e7) rfl nw))
 have k8:∀b:GS,ao (av 10 (bx (ae (gC (.str "clash")) ah))) b [x0,some (.mr 0),x2,some (.int high),some (.tup (pl.map D.int)),some (.lst (W.map wD)),some (.lst ((cA W).map wD)),some (.lst (S.map wD)),some (.lst (S.map wD)),some (.bl (!decide (cA S=S))),x10] N6=b [x0,some (.mr 0),x2,some (.int high),some (.tup (pl.map D.int)),some (.lst (W.map wD)),some (.lst ((cA W).map wD)),some (.lst (S.map wD)),some (.lst (S.map wD)),some (.bl (!decide (cA S=S))),some (.tup [.str "clash"])] N6:=fun b=>aB (aD (fQ (ds:=[.str "clash"]) rfl))
 have se:∀N:aq,aS true (.tup [.str "clash"]) (.tup [.str "clash"]) N=.ok (.bl false) N:=fun N=>v6 (d:=.tup [.str "clash"]) (by decide +kernel) (by decide +kernel) (fun _=>rfl) N
 unfold iV;rw[k1,k2,k3,k4,k5,k6,k7,k8];rcases jN (pl:=pl) (W:=S) p6 lp sS lS with⟨ew,na⟩|⟨zs,ew,ag,nd,mem⟩
 ·have ns:cA S≠S:=fun z=>na (oK.mp z)
  obtain⟨f9,N9,a9,b9,t9,e9⟩:=qK (ρ:=[x0,some (.mr 0),x2,some (.int high),some (.tup (pl.map D.int)),some (.lst (W.map wD)),some (.lst ((cA W).map wD)),some (.lst (S.map wD)),some (.lst (S.map wD)),some (.bl true),some (.tup [.str "clash"])]) (i:=1) (many:=17) t6 rfl (by decide) (bo (by decide) (by decide));have p9:=fg t9 rfl;have ew9:aX [.tup (pl.map D.int),.lst (S.map wD)] N9=.err "Clash" N9:=by
   rcases jN (pl:=pl) (W:=S) p9 lp sS lS with⟨ew,_⟩|⟨_,_,ag,_⟩
   ·exact ew
   ·exact absurd ag na
  rw[decide_eq_false ns];refine⟨_,_,_,_,_,_,_,_,N9,t9,(aB ((eK (M1:=N6) rfl).trans rfl)).trans ((aB ((eK (M1:=N6) ?_).trans rfl)).trans ((eK (M1:=N9) ?_).trans rfl))⟩
  ·exact nP (bb (az (oE rfl rfl rfl rfl (m7 p6 ew)) rfl (se _))) fun _=>bb ((az rfl rfl nw).trans (by rw[decide_eq_true rfl];rfl))
  ·unfold dm;show(aK (g2 (aS true) (au 4 bv (ae (g2 bP (gC (.int 1)) (au 2 al (ae (af 1) (ae (gC (.int 17)) ah)))) (ae (af 3) (ae (af 4) (ae (af 8) ah))))) (af 10))) _ N6=_;exact bb (az (oE (x:=.int (1+f9)) (az rfl (e9 _ rfl) rfl) rfl rfl rfl (m7 p9 ew9)) rfl (se _))
 ·have ns:cA S=S:=oK.mpr ag;obtain⟨zs2,el,nd2,mem2⟩:=p0 (pl:=pl) ag p6 lp sS lS;have same:bg zs=bg zs2:=pJ nd nd2 fun z=>(mem z).trans (mem2 z).symm
  rw[decide_eq_true ns];rw[same] at ew;refine⟨_,_,_,_,_,_,_,_,N6,t6,(aB ((gU (M1:=N6) rfl).trans (aD (ke rfl rfl el)))).trans ((aB ((eK (M1:=N6) ?_).trans rfl)).trans ((eK (M1:=N6) rfl).trans rfl))⟩;exact nP (bb (az (oE rfl rfl rfl rfl (tj ew)) rfl vU)) fun _=>bb ((az rfl rfl nw).trans (by rw[decide_eq_true rfl];rfl))
theorem law_true (ns:List Int)(_:ns.length≤63):∃M',ow [.ro (ns.map D.int)] []=.ok (.bl true) M':=by
 have t0:cK ns [] [tp ns 0 0]:=⟨0,0,Int.le_refl _,rfl⟩;obtain⟨ρ',M',⟨y2,y3,y4,y5,y6,y7,y8,y9,y10,rfl,t'⟩,e⟩:=nM (ds0:=ba 0 3) (s:=dA 2) (body:=iV) (W:=fun _ ρ M=>∃x2 x3 x4 x5 x6 x7 x8 x9 x10,ρ=[some (.ro (ns.map D.int)),some (.mr 0),x2,x3,x4,x5,x6,x7,x8,x9,x10]∧cK ns [] M) (ba 0 3) 0 (fun j d hd ρ M hW=>by
  obtain⟨x2,x3,x4,x5,x6,x7,x8,x9,x10,rfl,tt⟩:=hW;obtain⟨y3,y4,y5,y6,y7,y8,y9,y10,M',t',e⟩:=rL (x0:=some (.ro (ns.map D.int))) (x2:=some d) (x3:=x3) (x4:=x4) (x5:=x5) (x6:=x6) (x7:=x7) (x8:=x8) (x9:=x9) (x10:=x10) tt;exact⟨_,_,M',rfl,e,some d,y3,y4,y5,y6,y7,y8,y9,y10,rfl,t'⟩) [some (.ro (ns.map D.int)),some (.mr 0),none,none,none,none,none,none,none,none,none] [tp ns 0 0] ⟨none,none,none,none,none,none,none,none,none,rfl,t0⟩
 refine⟨M',?_⟩;show bL (oW [some (.ro (ns.map D.int)),none,none,none,none,none,none,none,none,none,none] [])=_;unfold oW;refine congrArg bL ((aB (ρ1:=[some (.ro (ns.map D.int)),some (.mr 0),none,none,none,none,none,none,none,none,none]) (M1:=[tp ns 0 0]) ?_).trans ((aB (fL (kN (n:=3) rfl (by decide)) e)).trans (fM rfl)));refine aD (d:=.mr 0) ?_;unfold gq;rfl
end K15
theorem PySem.Challenge.cw_glowrow_k15_windows_holds : PySem.Challenge.rw_glowrow_k15_windows.Holds :=
 K15.pre K15.law_true
