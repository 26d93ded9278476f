import PyProof.Rows.All
import Wide.All
import KE.KNestM
import OpenK.KOwn
import OpenK.KRaise
import KE.KIsAll
import KE.KTypeName
import Wide.FinOn
import Lean
import PyProof.EqAt
import PyProof.EqKinds
import PyProof.TupleCall
import PyProof.Draws
import PyProof.EnumMake
import KE.KLam
import KE.KMinKey
import PyProof.StrCalls2
import PyProof.Rows.StrIndexOr
import PyProof.CollectIter
import PyProof.ListStr
import KE.KDictLaws
import PyProof.P3Eq
import KE.KSortTup
import KE.KDictList
import PyProof.ZipIter
import PyProof.Rows.ZipGen
import PySem.Challenge.RW_glowrow_k37_whole_lone_pots
set_option Elab.async false
set_option linter.all false
set_option maxRecDepth 100000
set_option maxHeartbeats 4000000
namespace L2
open PySem PySem.Spec PyProof.Rows List
abbrev nU:=Sum Int Str
def Al:nU→Value→Bool
 | .inl k,v=>Value.isInt k v
 | .inr x,v=>Value.isStrOf x v
def Gu (w:World):nU→Int
 | .inl k=>hashInt k
 | .inr x=>hashStr w x
theorem bY:∀{k:nU} {v:Value},Al k v=true→(∃i t,k=Sum.inl i∧v=Value.int i t)∨(∃x t,k=Sum.inr x∧v=Value.str x t)
 | .inl i,v,h=>by
  obtain⟨t,e⟩:=Value.isInt_shape (k:=i) (v:=v) h;exact .inl ⟨i,t,rfl,e⟩
 | .inr x,v,h=>by
  obtain⟨t,e⟩:=Value.isStrOf_shape (x:=x) (v:=v) h;exact .inr ⟨x,t,rfl,e⟩
theorem Cq (a b:Int):decide ((Sum.inl a:nU)=Sum.inl b)=(a==b):=by
 by_cases e:a=b
 ·subst e;simp
 ·have h:¬(Sum.inl a:nU)=Sum.inl b:=fun q=>e (Sum.inl.inj q)
  rw[decide_eq_false h];exact(beq_eq_false_iff_ne.mpr e).symm
theorem Cw (a b:Str):decide ((Sum.inr a:nU)=Sum.inr b)=decide (a=b):=by
 by_cases e:a=b
 ·subst e;simp
 ·have h:¬(Sum.inr a:nU)=Sum.inr b:=fun q=>e (Sum.inr.inj q)
  rw[decide_eq_false h,decide_eq_false e]
theorem A8 (a:Int)(b:Str):decide ((Sum.inl a:nU)=Sum.inr b)=false:=decide_eq_false (fun q=>nomatch q)
theorem Bg (a:Str)(b:Int):decide ((Sum.inr a:nU)=Sum.inl b)=false:=decide_eq_false (fun q=>nomatch q)
def oN (prog:Program)(w:World):PySem.KeyKind prog w nU where
 is:=Al
 hash:=Gu w
 inj:=fun v a b ha hb=>by
  rcases bY ha with⟨i,t,rfl,rfl⟩|⟨x,t,rfl,rfl⟩
  ·rcases bY hb with⟨j,u,rfl,e⟩|⟨y,u,rfl,e⟩
   ·injection e with e1 _;rw[e1]
   ·exact nomatch e
  ·rcases bY hb with⟨j,u,rfl,e⟩|⟨y,u,rfl,e⟩
   ·exact nomatch e
   ·injection e with e1 _;rw[e1]
 byValue:=fun k v h=>by
  rcases bY h with⟨i,t,rfl,rfl⟩|⟨x,t,rfl,rfl⟩ <;> rfl
 pyHash:=fun hv h=>by
  rcases bY hv with⟨i,t,rfl,rfl⟩|⟨x,t,rfl,rfl⟩
  ·exact wpAny_pyHash_int h
  ·exact wpAny_pyHash_str h
 eqBool:=fun hu hv h=>by
  rcases bY hu with⟨i,t,rfl,rfl⟩|⟨x,t,rfl,rfl⟩
  ·rcases bY hv with⟨j,u,rfl,rfl⟩|⟨y,u,rfl,rfl⟩
   ·rw[Cq] at h;exact wpAny_eqBool_int h
   ·rw[A8] at h;exact SeqAt.EqAt.int_str i t y u _ _ _ _ h
  ·rcases bY hv with⟨j,u,rfl,rfl⟩|⟨y,u,rfl,rfl⟩
   ·rw[Bg] at h;exact SeqAt.EqAt.str_int x t j u _ _ _ _ h
   ·rw[Cw] at h;exact wpAny_eqBool_str h
 «strs»:=fun k x t v h=>by
  rcases bY h with⟨i,u,rfl,e⟩|⟨y,u,rfl,e⟩
  ·exact nomatch e
  ·injection e with e1 _
   subst e1;cases v <;> rfl
inductive V where
 | non|bl (b:Bool)|int (i:Int)|str (x:Str)|byt (b:Array UInt8)|flt (b:UInt64)|ref (a:Addr)|ty (n:String)
 deriving DecidableEq
def bi:V→Value→Prop
 | .non,u=>u=Value.none
 | .bl b,u=>u=Value.bool b
 | .int i,u=>∃t,u=Value.int i t
 | .str x,u=>∃t,u=Value.str x t
 | .byt b,u=>∃t,u=Value.bytes b t
 | .flt b,u=>∃t,u=Value.float b t
 | .ref a,u=>u=Value.ref a
 | .ty n,u=>u=Value.type n
abbrev aQ:List V→List Value→Prop:=Paired bi
theorem aQ.length {xs:List V}{us:List Value}(r:aQ xs us):xs.length=us.length:=Paired.length r
theorem aQ.get:∀{xs:List V} {us:List Value} {i:Nat} {x:V},aQ xs us→xs[i]?=some x→∃u,us[i]?=some u∧bi x u
 | _,_,_,_,.nil,e=>by simp at e
 | _,_,0,_,.cons r _,e=>by simp at e;subst e;exact⟨_,rfl,r⟩
 | _,_,i+1,x,.cons _ t,e=>by
  obtain⟨u,h1,h2⟩:=aQ.get (i:=i) (x:=x) t (by simpa using e);exact⟨u,by simpa using h1,h2⟩
theorem aQ.set {x:V}{u:Value}(r:bi x u):∀{xs:List V} {us:List Value} (i:Nat),aQ xs us→aQ (xs.set i x) (us.set i u)
 | _,_,_,.nil=>.nil
 | _,_,0,.cons _ t=>.cons r t
 | _,_,i+1,.cons q t=>.cons q (aQ.set r i t)
theorem aQ.append:∀{xs ys:List V} {us ws:List Value},aQ xs us→aQ ys ws→aQ (xs++ys) (us++ws)
 | _,_,_,_,.nil,s=>s
 | _,_,_,_,.cons r t,s=>.cons r (aQ.append t s)
theorem aQ.take:∀{xs:List V} {us:List Value} (n:Nat),aQ xs us→aQ (xs.take n) (us.take n)
 | _,_,0,_=>.nil
 | _,_,_+1,.nil=>.nil
 | _,_,n+1,.cons r t=>.cons r (aQ.take n t)
theorem aQ.drop:∀{xs:List V} {us:List Value} (n:Nat),aQ xs us→aQ (xs.drop n) (us.drop n)
 | _,_,0,r=>r
 | _,_,_+1,.nil=>.nil
 | _,_,n+1,.cons _ t=>aQ.drop n t
def E3:Option V→Option Value→Prop
 | some v,some u=>bi v u
 | none,none=>True
 | _,_=>False
def KV {κ:Type}:List (κ×V)→List (κ×Value)→Prop:=Paired fun(p:κ×V) (q:κ×Value)=>p.1=q.1∧bi p.2 q.2
def kV:nU→V
 | .inl i=>.int i
 | .inr x=>.str x
inductive HO where
 | lst (xs:List V)
 | tup (xs:List V)
 | dK (kvs:List (nU×V))|dT (kvs:List (List nU×V))
 | set (S:Int→Bool) (n:Nat)
 | ins (C dx:Addr) (fs:List (Str×V))
 | own (x:Addr)
 | xd (fs:List (Str×V))
 | met (f x:Addr)
 | rng (lo hi:Int)
 | frz (o:Obj) (u:HO)
 | tbl (ps:Array Value)
 | ext (φ:Heap→Prop)
abbrev Hp:=Addr→Option HO
def bS (H:Hp)(a:Addr)(o:HO):Hp:=fun b=>if b=a then some o else H b
theorem bZ {H:Hp}{a:Addr}{o:HO}:bS H a o a=some o:=by unfold bS;rw[if_pos rfl]
theorem au {H:Hp}{a b:Addr}{o:HO}(h:b≠a):bS H a o b=H b:=by unfold bS;rw[if_neg h]
theorem sJ {H:Hp}{a b:Addr}{o u:HO}(h:H a=some o)(h':H b=some u)(d:o≠u):a≠b:=by
 intro e;subst e;rw[h] at h';exact d (Option.some.inj h')
theorem bB {H:Hp}{a b:Addr}{o:HO}(h:H a=some o)(h':H b=none):a≠b:=by
 intro e;subst e;rw[h] at h';cases h'
section
variable (P:Program)(w:World)
def dg (H:Hp)(h:Heap)(a:Addr):HO→Prop
 | .lst xs=>xs.length≤sizeLine∧∃(its:List Value) (n:Nat),aQ xs its∧h.get? a=some {cls:=.type "list",data:=.seq its.toArray n}
 | .tup xs=>xs.length≤sizeLine∧∃its:List Value,aQ xs its∧IsTup h a its.toArray
 | .dK kvs=>kvs.length≤sizeLine∧(a==sysModules)=false∧∃vs,KV kvs vs∧h.DictOf (oN P w) a vs
 | .dT kvs=>kvs.length≤sizeLine∧(a==sysModules)=false∧∃xs:List (List nU×Addr×Value),
   Paired (fun(p:List nU×V) (q:List nU×Addr×Value)=>p.1=q.1∧H q.2.1=some (.tup (p.1.map kV))∧bi p.2 q.2.2) kvs xs∧
   ∃o es ep,h.get? a=some o∧o.ExactDict∧o.data=.dict es ep∧es.toList=xs.map (entryOfKey (tupleKind (oN P w)))∧(xs.map (·.1)).Nodup
 | .set S n=>h.SetOf (intKind P w) a S n
 | .ins C dx fs=>H dx=some (.own a)∧fs.length≤1000∧dx≠a∧h.get? a=some (W.instObj C dx)∧
   ∃mA,h.Ns1 dx mA∧(∀f,E3 (fs.lookup f) (mA f))∧PySem.Within mA (fs.map (·.1))
 | .own _=>∃o,h.get? a=some o
 | .xd fs=>∃mA,h.Ns1 a mA∧∀f,E3 (fs.lookup f) (mA f)
 | .rng lo hi=>∃t u v,h.get? a=some {cls:=.type "range",data:=.fields #[.int lo t,.int hi u,.int 1 v]}
 | .frz o u=>h.get? a=some o∧dg H h a u
 | .tbl ps=>h.get? a=some {cls:=.none,data:=.fields ps}
 | .met f x=>h.get? a=some (W.methodObj (.ref f) (.ref x))
 | .ext φ=>φ h∧(∃o,h.get? a=some o)∧∀h1 h2:Heap,φ h1→(∀o,h1.get? a=some o→h2.get? a=some o)→φ h2
def jM (H:Hp)(h:Heap):Prop:=∀a o,H a=some o→dg P w H h a o
end
section
variable {P:Program}{w:World}{H H':Hp}{h h':Heap}{a:Addr}{o:HO}
theorem dg.lt (x:dg P w H h a o):a<h.objs.size:=by
 cases o with
 | lst xs=>obtain⟨_,_,_,_,e⟩:=x;exact Heap.lt_size e
 | tup xs=>obtain⟨_,_,_,p⟩:=x;exact p.lt
 | dK kvs=>obtain⟨_,_,_,_,o,_,_,e,_⟩:=x;exact Heap.lt_size e
 | dT kvs=>obtain⟨_,_,_,_,o,_,_,e,_⟩:=x;exact Heap.lt_size e
 | set S n=>obtain⟨o,_,_,_,e,_⟩:=x;exact Heap.lt_size e
 | ins C dx fs=>obtain⟨_,_,_,e,_⟩:=x;exact Heap.lt_size e
 | own y=>obtain⟨_,e⟩:=x;exact Heap.lt_size e
 | xd fs=>obtain⟨_,⟨_,_,_,e,_⟩,_⟩:=x;exact Heap.lt_size e
 | rng lo hi=>obtain⟨_,_,_,e⟩:=x;exact Heap.lt_size e
 | frz ob u=>obtain⟨e,_⟩:=x;exact Heap.lt_size e
 | tbl ps=>exact Heap.lt_size (show h.get? a=some _ from x)
 | met f y=>exact Heap.lt_size (show h.get? a=some _ from x)
 | ext φ=>obtain⟨_,⟨_,e⟩,_⟩:=x;exact Heap.lt_size e
theorem Paired.mapP {α β:Type}{F G:α→β→Prop}:∀{l₁:List α} {l₂:List β},Paired F l₁ l₂→(∀a b,F a b→G a b)→Paired G l₁ l₂
 | _,_,.nil,_=>.nil
 | _,_,.cons r t,f=>.cons (f _ _ r) (Paired.mapP t f)
theorem dg.stay (x:dg P w H h a o)(k:∀b u,(b=a∨H b=some (.own a))→h.get? b=some u→h'.get? b=some u)
  (ho:∀b,H b=some (.own a)→H' b=some (.own a)) (ht:∀b xs,H b=some (.tup xs)→H' b=some (.tup xs)):dg P w H' h' a o:=by
 induction o with
 | lst xs=>obtain⟨z,its,n,r,e⟩:=x;exact⟨z,its,n,r,k _ _ (.inl rfl) e⟩
 | tup xs=>obtain⟨z,its,r,ob,e,c⟩:=x;exact⟨z,its,r,ob,k _ _ (.inl rfl) e,c⟩
 | dK kvs=>obtain⟨z,y,vs,r,ob,es,ep,e,c⟩:=x;exact⟨z,y,vs,r,ob,es,ep,k _ _ (.inl rfl) e,c⟩
 | dT kvs=>
  obtain⟨z,y,xs,r,ob,es,ep,e,c⟩:=x;exact⟨z,y,xs,Paired.mapP r fun p q z=>⟨z.1,ht _ _ z.2.1,z.2.2⟩,ob,es,ep,k _ _ (.inl rfl) e,c⟩
 | set S n=>obtain⟨ob,es,ep,t,e,c⟩:=x;exact⟨ob,es,ep,t,k _ _ (.inl rfl) e,c⟩
 | ins C dx fs=>
  obtain⟨d,z,ne,e,mA,⟨od,es,ep,e2,c⟩,r⟩:=x;exact⟨ho _ d,z,ne,k _ _ (.inl rfl) e,mA,⟨od,es,ep,k _ _ (.inr d) e2,c⟩,r⟩
 | own y=>obtain⟨ob,e⟩:=x;exact⟨ob,k _ _ (.inl rfl) e⟩
 | xd fs=>obtain⟨mA,⟨od,es,ep,e,c⟩,r⟩:=x;exact⟨mA,⟨od,es,ep,k _ _ (.inl rfl) e,c⟩,r⟩
 | rng lo hi=>obtain⟨t,u,v,e⟩:=x;exact⟨t,u,v,k _ _ (.inl rfl) e⟩
 | frz ob u ih=>obtain⟨e,q⟩:=x;exact⟨k _ _ (.inl rfl) e,ih q⟩
 | tbl ps=>
  have e:h.get? a=some {cls:=.none,data:=.fields ps}:=x;show h'.get? a=some {cls:=.none,data:=.fields ps};exact k a _ (.inl rfl) e
 | met f y=>
  have e:h.get? a=some (W.methodObj (.ref f) (.ref y)):=x;show h'.get? a=some (W.methodObj (.ref f) (.ref y));exact k a _ (.inl rfl) e
 | ext φ=>obtain⟨p,⟨o,e⟩,st⟩:=x;exact⟨st _ _ p fun o q=>k _ _ (.inl rfl) q,⟨o,k _ _ (.inl rfl) e⟩,st⟩
theorem jM.lt (x:jM P w H h)(e:H a=some o):a<h.objs.size:=(x a o e).lt
theorem jM.fresh (x:jM P w H h)(e:h.objs.size≤a):H a=none:=by
 cases q:H a with
 | none=>rfl
 | some u=>exact absurd (Nat.lt_of_lt_of_le (x.lt q) e) (Nat.lt_irrefl _)
theorem jM.kept (x:jM P w H h)(k:∀b u,h.get? b=some u→h'.get? b=some u):jM P w H h':=fun a o e=>
 (x a o e).stay (fun b u _ q=>k b u q) (fun _ q=>q) fun _ _ q=>q
theorem jM.laid (x:jM P w H h)(k:∀b u,h.get? b=some u→h'.get? b=some u)(hp:h.objs.size≤a)(new:dg P w (bS H a o) h' a o):jM P w (bS H a o) h':=fun b u e=>by
 have hn:=x.fresh hp
 by_cases hb:b=a
 ·subst hb;rw[bZ] at e;cases e;exact new
 ·rw[au hb] at e;exact(x b u e).stay (fun c v _ q=>k c v q) (fun c q=>by rw[au (bB q hn)];exact q) fun c xs q=>by rw[au (bB q hn)];exact q
end
def Rd (H:Hp)(a:Addr)(u:HO):Prop:=H a=some u∨∃o,H a=some (.frz o u)
theorem Rd.ok {P:Program}{w:World}{H:Hp}{h:Heap}{a:Addr}{u:HO}(r:Rd H a u)(x:jM P w H h):dg P w H h a u:=by
 rcases r with r|⟨o,r⟩
 ·exact x a u r
 ·obtain⟨_,q⟩:=x a _ r;exact q
def Fa:Option HO→Prop
 | some (.lst _)=>True
 | some (.dK _)=>True
 | some (.dT _)=>True
 | some (.set _ _)=>True
 | some (.ins _ _ _)=>True
 | some (.ext _)=>True
 | _=>False
section
variable {P:Program}{w:World}{H:Hp}{h h':Heap}{x e:Addr}{o':HO}
theorem jM.write (ok:jM P w H h)(mu:Fa (H x))(he:e=x∨H e=some (.own x))(k:∀b u,b≠e→h.get? b=some u→h'.get? b=some u)(heo:∃u,h'.get? e=some u)
  (new:dg P w (bS H x o') h' x o'):jM P w (bS H x o') h':=fun b u q=>by
 have nown:∀c y,H c=some (.own y)→c≠x:=fun c y r z=>by subst z;rw[r] at mu;exact mu
 have ntup:∀c xs,H c=some (.tup xs)→c≠x:=fun c xs r z=>by subst z;rw[r] at mu;exact mu
 by_cases hb:b=x
 ·subst hb;rw[bZ] at q;cases q;exact new
 ·rw[au hb] at q
  by_cases hbe:b=e
  ·have q':H b=some (.own x):=by
    rcases he with z|z
    ·exact absurd (hbe.trans z) hb
    ·rw[hbe];exact z
   rw[q] at q';cases q';obtain⟨v,hv⟩:=heo;exact⟨v,by rw[hbe];exact hv⟩
  ·refine(ok b u q).stay (fun c v hc r=>k c v ?_ r) (fun c r=>by rw[au (nown c b r)];exact r) fun c xs r=>by rw[au (ntup c xs r)];exact r
   rcases hc with rfl|hc
   ·exact hbe
   ·rintro rfl;rcases he with z|z
    ·exact nown c b hc z
    ·rw[hc] at z;cases z;exact hb rfl
end
structure Un (fs ex:List Addr)(H H':Hp)(h h':Heap):Prop where
 keep:∀b o,h.get? b=some o→H b=none→b∉fs→b∉ex→h'.get? b=some o
 slot:∀b o,h.get? b=some o→H b=none→b∈fs→b∉ex→∃sl,h'.get? b=some {o with slots:=sl}
 free:∀b o,h.get? b=some o→H b=none→b∉ex→H' b=none
 there:∀b o,h.get? b=some o→b∉ex→∃o',h'.get? b=some o'
 tups:∀b xs,H b=some (.tup xs)→H' b=some (.tup xs)
 frzs:∀b o u,H b=some (.frz o u)→H' b=some (.frz o u)
 tbls:∀b ps,H b=some (.tbl ps)→∃more,H' b=some (.tbl (ps++more))
section
variable {fs fs' ex ex':List Addr}{H H1 H2:Hp}{h h1 h2 h':Heap}{a x e:Addr}{o:HO}
theorem Un.any (u:Un fs ex H H1 h h1){b:Addr}{ob:Obj}(q:h.get? b=some ob)(n:H b=none)(hx:b∉ex):∃sl,h1.get? b=some {ob with slots:=sl}:=by
 by_cases hb:b∈fs
 ·exact u.slot b ob q n hb hx
 ·exact⟨ob.slots,u.keep b ob q n hb hx⟩
theorem Un.kept (k:∀b u,h.get? b=some u→h'.get? b=some u):Un fs ex H H h h':=
 ⟨fun b ob q _ _ _=>k b ob q,fun b ob q _ _ _=>⟨ob.slots,k b ob q⟩,fun _ _ _ n _=>n,fun b ob q _=>⟨ob,k b ob q⟩,fun _ _ q=>q,fun _ _ _ q=>q,fun _ ps q=>⟨#[],by rw[q];simp⟩⟩
theorem Un.refl:Un fs ex H H h h:=Un.kept fun _ _ q=>q
theorem Un.laid (k:∀b u,h.get? b=some u→h'.get? b=some u)(hp:h.objs.size≤a)(hn:H a=none):Un fs ex H (bS H a o) h h' where
 keep:=fun b u q _ _ _=>k b u q
 slot:=fun b u q _ _ _=>⟨u.slots,k b u q⟩
 free:=fun b u q n _=>by rw[au (Nat.ne_of_lt (Nat.lt_of_lt_of_le (Heap.lt_size q) hp))];exact n
 there:=fun b u q _=>⟨u,k b u q⟩
 tups:=fun b xs q=>by rw[au (bB q hn)];exact q
 frzs:=fun b u xs q=>by rw[au (bB q hn)];exact q
 tbls:=fun b ps q=>⟨#[],by rw[au (bB q hn),q];simp⟩
theorem Un.write (mu:Fa (H x))(he:e=x∨H e=some (.own x))(k:∀b u,b≠e→h.get? b=some u→h'.get? b=some u)(heo:∃u,h'.get? e=some u):Un fs ex H (bS H x o) h h':=by
 have hx:∀b,H b=none→b≠x:=fun b n z=>by subst z;rw[n] at mu;exact mu
 have hb:∀b,H b=none→b≠e:=fun b n z=>by
  subst z;rcases he with r|r
  ·exact hx b n r
  ·rw[n] at r;cases r
 have hm:∀b u,H b=some u→¬Fa (some u)→b≠x:=fun b u q nm z=>by subst z;rw[q] at mu;exact nm mu
 refine⟨fun b u q n _ _=>k b u (hb b n) q,fun b u q n _ _=>⟨u.slots,k b u (hb b n) q⟩,fun b u q n _=>by rw[au (hx b n)];exact n,fun b u q _=>?_,
  fun b xs q=>by rw[au (hm b _ q fun z=>z)];exact q,fun b u xs q=>by rw[au (hm b _ q fun z=>z)];exact q,fun b ps q=>⟨#[],by rw[au (hm b _ q fun z=>z),q];simp⟩⟩
 by_cases hbe:b=e
 ·subst hbe;exact heo
 ·exact⟨u,k b u hbe q⟩
end
def trk (h:Heap)(H:Hp):List Addr:=(List.range h.objs.size).filter fun a=>(H a).isSome
def oM (h:Heap)(H:Hp):Heap:=W.hideAll h (trk h H)
theorem tW (h:Heap)(H:Hp):(oM h H).objs.size=h.objs.size:=W.hideAll_size _ _
theorem wl {h:Heap}{H:Hp}{b:Addr}{o:Obj}(e:h.get? b=some o)(n:H b=none):(oM h H).get? b=some o:=
 W.hideAll_get _ e fun hm=>by
  have q:(H b).isSome=true:=(mem_filter.mp hm).2;rw[n] at q;simp at q
theorem zS {h:Heap}{H:Hp}{b:Addr}{o:Obj}(e:(oM h H).get? b=some o):h.get? b=some o∧H b=none:=by
 have e':h.get? b=some o:=W.of_hideAll (trk h H) e;refine⟨e',?_⟩;cases q:H b with
 | none=>rfl
 | some x=>
  have hm:b∈trk h H:=mem_filter.mpr ⟨mem_range.mpr (Heap.lt_size e'),by simp[q]⟩;have z:(oM h H).get? b=none:=W.hideAll_none (trk h H) hm;rw[z] at e;cases e
def zp (g h:Heap)(L:Addr):List (Addr×Obj):=(List.range h.objs.size).filterMap fun a=>if a=L∨(g.get? a).isSome=true then none else(h.get? a).map fun o=>(a,o)
def rest (g h:Heap)(L d:Addr):List (Addr×Obj):=(zp g h L).filter fun p=>decide (p.1≠d)
structure Mod (K:W.Frag)(mg:Str→Option Value)(base:Heap):Prop where
 kin:K.In base
 glob:base.Ns mainGlobals mg
 blt:∃mb,base.Ns builtinsNs mb∧∀x:Str,x≠"__name__"→mb x=bootBuiltins x
 nolimit:base.NoLimit
structure Cx where
 prog:Program
 w:World
 K:W.Frag
 mg:Str→Option Value
 base:Heap
 A:Around
 N:List Str
 s₀:Shared
 H₀:Hp
 env:Env
 outer:List Env
 stack:List Env
 ex:List Addr
 fn:Str→Bool
 calm:Bool
 pn:List (Addr×Obj)
 xe:Value→Shared→Prop
def kW (l:List Env):List Addr:=l.filterMap (·.frame)
abbrev Cx.fs (X:Cx):List Addr:=kW X.outer
def CN (sc:Scope)(x:Str):Prop:=sc.names.lookup x=some .local∨sc.names.lookup x=some .cell∨sc.names.lookup x=some .free
def xK (sc:Scope)(x:Str):Prop:=sc.names.lookup x=some .local∨sc.names.lookup x=some .cell
def FX (env:Env)(h:Heap)(m:Str→Option Value)(x:Str)(u:Value):Prop:=
 (env.kindOf x=some .local∧m x=some u)∨((env.kindOf x=some .cell∨env.kindOf x=some .free)∧∃c,env.cells.lookup x=some c∧h.IsCell c (some u))
structure Cx.Ok (X:Cx):Prop where
 mod:Mod X.K X.mg X.base
 kind:X.env.scope.kind=.function
 glob:X.env.globals=mainGlobals
 blt:X.env.builtins=builtinsNs
 above:X.s₀.heap.objs.size≤X.env.locals
 inj:∀x y c,X.env.cells.lookup x=some c→X.env.cells.lookup y=some c→x=y
 has:∀x,(X.env.kindOf x=some .cell∨X.env.kindOf x=some .free)→∃c,X.env.cells.lookup x=some c
 cab:∀x c,X.fn x=true→X.env.cells.lookup x=some c→X.s₀.heap.objs.size≤c
 hd:X.calm=true→X.A.handled=none
 frames:X.A.frames=some X.stack
 stk:X.stack=X.outer∨(X.stack=X.env::X.outer∧X.env.frame=some X.env.locals)
 exf:∀b∈X.ex,b≠X.env.locals∧∀x c,X.env.cells.lookup x=some c→c≠b
 bs:∀b o,X.base.get? b=some o→X.s₀.heap.get? b=some o∧X.H₀ b=none
 bsz:X.base.objs.size≤X.s₀.heap.objs.size
 noex:∀b o,X.base.get? b=some o→b∉X.ex
 exfs:∀b∈X.ex,b∉X.fs
 funs:X.s₀.heap.FunFrames X.base X.outer
 frf:∀b∈X.fs,X.H₀ b=none
structure Inv (X:Cx)(af:List (Addr×Obj))(σ:List (Option V))(H:Hp)(s:Shared):Prop where
 ok:X.Ok
 os:s.os=X.s₀.os
 bare:AllBare s.gens
 base:Un X.fs X.ex X.H₀ H X.s₀.heap s.heap
 loc:∃m,s.heap.Ns X.env.locals m∧∀(i:Nat) (x:Str) (v:V),X.N[i]?=some x→σ[i]?=some (some v)→CN X.env.scope x→∃u,bi v u∧FX X.env s.heap m x u
 cell:∀x c,X.env.cells.lookup x=some c→∃v,s.heap.IsCell c v
 free:H X.env.locals=none
 freeC:∀x c,X.env.cells.lookup x=some c→H c=none
 pin:∀p∈X.pn++af,s.heap.get? p.1=some p.2∧H p.1=none∧p.1≠X.env.locals∧p.1∉X.fs∧∀v,p.2.data≠.cell v
 hok:jM X.prog X.w H s.heap
 len:σ.length=X.N.length
section
variable {X:Cx}{af:List (Addr×Obj)}{σ:List (Option V)}{H H':Hp}{s:Shared}{h':Heap}
theorem Cx.Ok.nofr (ok:X.Ok){b:Addr}{o:Obj}(e:X.base.get? b=some o):b∉X.fs:=fun hb=>by
 have:=(ok.funs.mem hb).1;rw[e] at this;cases this
theorem Inv.bs (I:Inv X af σ H s):∀b o,X.base.get? b=some o→s.heap.get? b=some o∧H b=none:=fun b o e=>
 ⟨I.base.keep b o (I.ok.bs b o e).1 (I.ok.bs b o e).2 (I.ok.nofr e) (I.ok.noex b o e),I.base.free b o (I.ok.bs b o e).1 (I.ok.bs b o e).2 (I.ok.noex b o e)⟩
theorem Inv.bk (I:Inv X af σ H s):∀b o,X.base.get? b=some o→s.heap.get? b=some o:=fun b o e=>(I.bs b o e).1
theorem Inv.mod (I:Inv X af σ H s):Mod X.K X.mg X.base:=I.ok.mod
theorem Inv.kIn (I:Inv X af σ H s):X.K.In s.heap:=I.ok.mod.kin.keeps I.bk
theorem Inv.lt (I:Inv X af σ H s):X.env.locals<s.heap.objs.size:=let ⟨_,hn,_⟩:=I.loc;hn.lt
theorem Inv.sz (I:Inv X af σ H s):X.s₀.heap.objs.size≤s.heap.objs.size:=Nat.le_trans I.ok.above (Nat.le_of_lt I.lt)
theorem Inv.nofs (I:Inv X af σ H s){a:Addr}(h:s.heap.objs.size≤a):a∉X.fs:=fun hb=>by
 obtain⟨_,o,ho,_⟩:=I.ok.funs.mem hb;exact absurd (Nat.lt_of_lt_of_le (Heap.lt_size ho) (Nat.le_trans I.sz h)) (Nat.lt_irrefl _)
theorem Inv.cne (I:Inv X af σ H s):∀x c,X.env.cells.lookup x=some c→c≠X.env.locals:=fun x c e z=>by
 obtain⟨v,o,ho,hd⟩:=I.cell x c e;obtain⟨m,⟨o',es,ep,ho',hd',_⟩,_⟩:=I.loc;rw[z,ho'] at ho;cases ho;rw[hd'] at hd;cases hd
theorem Inv.funs (I:Inv X af σ H s):s.heap.FunFrames X.base X.outer:=by
 have all:∀(l:List Env),(∀b∈kW l,b∈X.fs)→X.s₀.heap.FunFrames X.base l→s.heap.FunFrames X.base l:=by
  intro l
  induction l with
  | nil=>intro _ _;trivial
  | cons env r ih=>
   intro hs hl;obtain⟨hk,⟨L,o,hf,hn,ho,hd⟩,hr⟩:=hl;have hL:L∈X.fs:=hs L (by unfold kW;rw[filterMap_cons,hf];exact mem_cons_self);obtain⟨sl,e⟩:=I.base.slot L o ho (I.ok.frf L hL) hL fun z=>I.ok.exfs L z hL
   exact⟨hk,⟨L,_,hf,hn,e,hd⟩,ih (fun b hb=>hs b (by unfold kW;rw[filterMap_cons,hf];exact mem_cons_of_mem _ hb)) hr⟩
 exact all X.outer (fun _ hb=>hb) I.ok.funs
theorem Inv.stack (I:Inv X af σ H s):s.heap.FunFrames X.base X.stack:=by
 rcases I.ok.stk with e|⟨e,hf⟩
 ·rw[e];exact I.funs
 ·rw[e];obtain⟨m,hn,_⟩:=I.loc;refine .cons (by rw[I.ok.kind];decide) hf hn ?_ I.funs;exact Heap.get?_none_of_le (Nat.le_trans I.ok.bsz I.ok.above)
theorem Inv.stkSub (I:Inv X af σ H s):∀b∈kW X.stack,b∈X.env.locals::X.fs:=fun b hb=>by
 rcases I.ok.stk with e|⟨e,hf⟩
 ·rw[e] at hb;exact mem_cons_of_mem _ hb
 ·rw[e] at hb;unfold kW at hb;rw[filterMap_cons,hf] at hb;exact hb
theorem Inv.stkFree (I:Inv X af σ H s):∀b∈kW X.stack,H b=none:=fun b hb=>by
 rcases mem_cons.mp (I.stkSub b hb) with e|hb
 ·rw[e];exact I.free
 ·obtain⟨_,o,ho,_⟩:=I.ok.funs.mem hb;exact I.base.free b o ho (I.ok.frf b hb) fun z=>I.ok.exfs b z hb
theorem Inv.step {g':Array GenState}{t':Nat}{d':Drawn}{ch:List Addr}(I:Inv X af σ H s)
  (hch:∀b∈ch,(b∈X.ex∨X.s₀.heap.objs.size≤b)∧b≠X.env.locals∧(∀x c,X.env.cells.lookup x=some c→c≠b)∧∀p∈X.pn++af,p.1≠b)
  (keep:∀b o,b≠X.env.locals→b∉X.fs→b∉ch→s.heap.get? b=some o→H b=none→h'.get? b=some o)
  (slot:∀b o,b≠X.env.locals→b∈X.fs→b∉ch→s.heap.get? b=some o→H b=none→∃sl,h'.get? b=some {o with slots:=sl}) (free:∀b o,b∉ch→s.heap.get? b=some o→H b=none→H' b=none)
  (there:∀b o,b∉ch→s.heap.get? b=some o→∃o',h'.get? b=some o')
  (tups:∀b xs,H b=some (.tup xs)→H' b=some (.tup xs)) (frzs:∀b o u,H b=some (.frz o u)→H' b=some (.frz o u)) (tbls:∀b ps,H b=some (.tbl ps)→∃more,H' b=some (.tbl (ps++more)))
  (ns:∀m,s.heap.Ns X.env.locals m→h'.Ns X.env.locals m) (hok:jM X.prog X.w H' h') (hg:AllBare g') :
  Inv X af σ H' {s with heap:=h',gens:=g',drawn:=d',toks:=t'}:=by
 have neL:∀b o,X.s₀.heap.get? b=some o→b≠X.env.locals:=fun b o e=>Nat.ne_of_lt (Nat.lt_of_lt_of_le (Heap.lt_size e) I.ok.above)
 have neC:∀b o,X.s₀.heap.get? b=some o→b∉X.ex→b∉ch:=fun b o e hx hb=>by
  rcases(hch b hb).1 with z|z
  ·exact hx z
  ·exact absurd (Nat.lt_of_lt_of_le (Heap.lt_size e) z) (Nat.lt_irrefl _)
 have cellK:∀x c,X.env.cells.lookup x=some c→∀v,s.heap.IsCell c v→h'.IsCell c v:=fun x c e v hxx=>by
  obtain⟨o,ho,hd⟩:=hxx;have nch:c∉ch:=fun z=>(hch c z).2.2.1 x c e rfl
  by_cases hc:c∈X.fs
  ·obtain⟨sl,q⟩:=slot c o (I.cne x c e) hc nch ho (I.freeC x c e);exact⟨_,q,hd⟩
  ·exact⟨o,keep c o (I.cne x c e) hc nch ho (I.freeC x c e),hd⟩
 refine⟨I.ok,I.os,hg,⟨fun b o e n hb hx=>?_,fun b o e n hb hx=>?_,fun b o e n hx=>?_,fun b o e hx=>?_,fun b xs e=>tups b xs (I.base.tups b xs e),fun b o xs e=>frzs b o xs (I.base.frzs b o xs e),fun b ps e=>?_⟩,?_,fun x c e=>?_,?_,fun x c e=>?_,fun p hp=>?_,hok,I.len⟩
 ·exact keep b o (neL b o e) hb (neC b o e hx) (I.base.keep b o e n hb hx) (I.base.free b o e n hx)
 ·obtain⟨sl,e1⟩:=I.base.slot b o e n hb hx;obtain⟨sl',e2⟩:=slot b _ (neL b o e) hb (neC b o e hx) e1 (I.base.free b o e n hx);exact⟨sl',e2⟩
 ·obtain⟨o',e1⟩:=I.base.there b o e hx;exact free b o' (neC b o e hx) e1 (I.base.free b o e n hx)
 ·obtain⟨o',e1⟩:=I.base.there b o e hx;exact there b o' (neC b o e hx) e1
 ·obtain⟨m1,e1⟩:=I.base.tbls b ps e;obtain⟨m2,e2⟩:=tbls b _ e1;exact⟨m1++m2,by rw[e2,Array.append_assoc]⟩
 ·obtain⟨m,hn,hl⟩:=I.loc;refine⟨m,ns m hn,fun i x v e1 e2 e3=>?_⟩;obtain⟨u,r,l⟩:=hl i x v e1 e2 e3;refine⟨u,r,?_⟩;rcases l with l|⟨k,c,e,z⟩
  ·exact .inl l
  ·exact .inr ⟨k,c,e,cellK x c e _ z⟩
 ·obtain⟨v,z⟩:=I.cell x c e;exact⟨v,cellK x c e v z⟩
 ·obtain⟨m,⟨o,_,_,ho,_⟩,_⟩:=I.loc;exact free _ o (fun z=>(hch _ z).2.1 rfl) ho I.free
 ·obtain⟨v,o,ho,hd⟩:=I.cell x c e;exact free c o (fun z=>(hch c z).2.2.1 x c e rfl) ho (I.freeC x c e)
 ·obtain⟨e,n,ne,nf,d⟩:=I.pin p hp;have nch:p.1∉ch:=fun z=>(hch p.1 z).2.2.2 p hp rfl
  exact⟨keep p.1 p.2 ne nf nch e n,free p.1 p.2 nch e n,ne,nf,d⟩
theorem Inv.un {t':Nat}(I:Inv X af σ H s)(u:Un X.fs [] H H' s.heap h')(hok:jM X.prog X.w H' h'):Inv X af σ H' {s with heap:=h',toks:=t'}:=by
 obtain⟨m,⟨o,es,ep,ho,r⟩,_⟩:=id I.loc;obtain⟨sl,hL⟩:=u.any ho I.free (by simp);exact I.step (g':=s.gens) (d':=s.drawn) (ch:=[]) (fun _ z=>nomatch z) (fun b o _ hb _ e n=>u.keep b o e n hb (by simp)) (fun b o _ hb _ e n=>u.slot b o e n hb (by simp)) (fun b o _ e n=>u.free b o e n (by simp)) (fun b o _ e=>u.there b o e (by simp)) u.tups u.frzs u.tbls (fun m' hm=>by
  obtain⟨o',es',ep',ho',r'⟩:=hm;rw[ho] at ho';cases ho';exact⟨_,es',ep',hL,r'⟩) hok I.bare
theorem Inv.call {g':Array GenState}{t':Nat}{d':Drawn}{ch:List Addr}(I:Inv X af σ H s)(u:Un (kW X.stack) ch H H' s.heap h')(hok:jM X.prog X.w H' h')(hg:AllBare g')
  (hch:∀b∈ch,(b∈X.ex∨X.s₀.heap.objs.size≤b)∧b≠X.env.locals∧(∀x c,X.env.cells.lookup x=some c→c≠b)∧∀p∈X.pn++af,p.1≠b) :
  Inv X af σ H' {s with heap:=h',gens:=g',drawn:=d',toks:=t'}:=by
 obtain⟨m,⟨o,es,ep,ho,r⟩,_⟩:=id I.loc;obtain⟨sl,hL⟩:=u.any ho I.free fun z=>(hch _ z).2.1 rfl
 exact I.step (ch:=ch) hch (fun b o hL hb hc e n=>u.keep b o e n (fun z=>(mem_cons.mp (I.stkSub b z)).elim hL hb) hc) (fun b o _ _ hc e n=>u.any e n hc) (fun b o hc e n=>u.free b o e n hc) (fun b o hc e=>u.there b o e hc) u.tups u.frzs u.tbls (fun m' hm=>by
  obtain⟨o',es',ep',ho',r'⟩:=hm;rw[ho] at ho';cases ho';exact⟨_,es',ep',hL,r'⟩) hok hg
theorem Inv.turned {t':Nat}{it:Addr}(I:Inv X af σ H s)(k:∀b o,b≠it→s.heap.get? b=some o→h'.get? b=some o)(hn:H it=none)(hL:it≠X.env.locals)
  (h1:it∈X.ex∨X.s₀.heap.objs.size≤it) (h2:∀x c,X.env.cells.lookup x=some c→c≠it) (h3:∀p∈X.pn++af,p.1≠it):Inv X af σ H {s with heap:=h',toks:=t'}:=by
 have nit:∀b u,H b=some u→b≠it:=fun b u e z=>by rw[z,hn] at e;cases e
 refine I.step (g':=s.gens) (d':=s.drawn) (ch:=[it]) (fun b hb=>?_) (fun b o _ _ hc e _=>k b o (fun z=>hc (by simp[z])) e) (fun b o _ _ hc e _=>⟨o.slots,k b o (fun z=>hc (by simp[z])) e⟩) (fun _ _ _ _ n=>n)
  (fun b o hc e=>⟨o,k b o (fun z=>hc (by simp[z])) e⟩) (fun _ _ e=>e) (fun _ _ _ e=>e) (fun b ps e=>⟨#[],by rw[e];simp⟩) (fun m hm=>?_) (fun b u e=>?_) I.bare
 ·have e:b=it:=by simpa using hb
  subst e;exact⟨h1,hL,h2,h3⟩
 ·obtain⟨o,es,ep,ho,r⟩:=hm;exact⟨o,es,ep,k _ o (Ne.symm hL) ho,r⟩
 ·refine(I.hok b u e).stay (fun c v hc q=>k c v ?_ q) (fun _ q=>q) fun _ _ q=>q
  rcases hc with z|z
  ·rw[z];exact nit b u e
  ·exact nit c _ z
theorem Inv.tok (I:Inv X af σ H s)(t:Nat):Inv X af σ H {s with toks:=t}:=I.un (h':=s.heap) (t':=t) Un.refl I.hok
theorem Inv.kept {t':Nat}(I:Inv X af σ H s)(k:∀b u,s.heap.get? b=some u→h'.get? b=some u):Inv X af σ H {s with heap:=h',toks:=t'}:=I.un (Un.kept k) (I.hok.kept k)
theorem Inv.laid {a:Addr}{o:HO}{t':Nat}(I:Inv X af σ H s)(k:∀b u,s.heap.get? b=some u→h'.get? b=some u)(hp:s.heap.objs.size≤a)(new:dg X.prog X.w (bS H a o) h' a o) :
  Inv X af σ (bS H a o) {s with heap:=h',toks:=t'}:=I.un (Un.laid k hp (I.hok.fresh hp)) (I.hok.laid k hp new)
theorem Inv.write {x e:Addr}{o:HO}{t':Nat}(I:Inv X af σ H s)(mu:Fa (H x))(he:e=x∨H e=some (.own x))(k:∀b u,b≠e→s.heap.get? b=some u→h'.get? b=some u)(heo:∃u,h'.get? e=some u)
  (new:dg X.prog X.w (bS H x o) h' x o):Inv X af σ (bS H x o) {s with heap:=h',toks:=t'}:=I.un (Un.write mu he k heo) (I.hok.write mu he k heo new)
theorem Inv.pins_of {pins':List (Addr×Obj)}(I:Inv X af σ H s)(h:∀p∈pins',s.heap.get? p.1=some p.2∧H p.1=none∧p.1≠X.env.locals∧p.1∉X.fs∧∀v,p.2.data≠.cell v):Inv X pins' σ H s:=
 ⟨I.ok,I.os,I.bare,I.base,I.loc,I.cell,I.free,I.freeC,fun p hp=>(mem_append.mp hp).elim (fun z=>I.pin p (mem_append_left _ z)) (h p),I.hok,I.len⟩
theorem pG {N:List Str}(hN:N.Nodup){i j:Nat}{x:Str}(a:N[i]?=some x)(b:N[j]?=some x):i=j:=by
 obtain⟨h1,e1⟩:=List.getElem?_eq_some_iff.mp a;obtain⟨h2,e2⟩:=List.getElem?_eq_some_iff.mp b;exact(getElem_inj hN).mp (e1.trans e2.symm)
theorem nW {M:Model}{A:Around}{E:Value→Shared→Prop}{i:Nat}{x:Str}{v:V}{u:Value}{Q:Unit→Shared→Prop}(I:Inv X af σ H s)(hN:X.N.Nodup)(hi:X.N[i]?=some x)(hx:xK X.env.scope x)(r:bi v u)
  (h:∀s',Inv X af (σ.set i (some v)) H s'→(∃a,Heap.SameBut a s.heap s'.heap∧(a=X.env.locals∨X.env.cells.lookup x=some a))→Q () s') (hf:X.fn x=true∨X.env.scope.names.lookup x=some .local:=by first|exact .inl rfl|exact .inr rfl|assumption):wpAny M A (storeName X.env x u) Q E s:=by
 obtain⟨m,hn,hl⟩:=id I.loc;have hcls:(X.env.scope.kind==.class||(X.env.scope.kind==.module&&X.env.locals != X.env.globals))=false:=by rw[I.ok.kind];rfl
 have hiσ:i<σ.length:=by rw[I.len];exact(List.getElem?_eq_some_iff.mp hi).1
 have cne:=I.cne;have tracked:∀{a:Addr} {h':Heap},(∃o,s.heap.get? a=some o∧H a=none)→Heap.SameBut a s.heap h'→jM X.prog X.w H h':=fun {a h'} ha hs b ob e=>by
  obtain⟨_,_,hfree⟩:=ha;refine(I.hok b ob e).stay (fun c w' hc q=>(hs.2 c ?_).trans q) (fun _ q=>q) fun _ _ q=>q
  rintro rfl;rcases hc with rfl|hc
  ·rw[hfree] at e;cases e
  ·rw[hfree] at hc;cases hc
 rcases hx with hk|hk
 ·refine wpAny_storeName_local hk hn (fun h' hn' hs=>?_) hcls;obtain⟨oL,_,_,hoL,_⟩:=id hn;refine h _ ⟨I.ok,I.os,I.bare,⟨fun b o e n hb hx=>?_,fun b o e n hb hx=>?_,I.base.free,fun b o e hx=>?_,I.base.tups,I.base.frzs,I.base.tbls⟩,⟨_,hn',fun j y v' e1 e2 e3=>?_⟩,fun y c e=>?_,I.free,I.freeC,fun p hp=>?_,tracked ⟨oL,hoL,I.free⟩ hs,by simpa using I.len⟩ ⟨_,hs,.inl rfl⟩
  ·exact(hs.2 b (Nat.ne_of_lt (Nat.lt_of_lt_of_le (Heap.lt_size e) I.ok.above))).trans (I.base.keep b o e n hb hx)
  ·obtain⟨sl,e1⟩:=I.base.slot b o e n hb hx;exact⟨sl,(hs.2 b (Nat.ne_of_lt (Nat.lt_of_lt_of_le (Heap.lt_size e) I.ok.above))).trans e1⟩
  ·obtain⟨o',e1⟩:=I.base.there b o e hx;exact⟨o',(hs.2 b (Nat.ne_of_lt (Nat.lt_of_lt_of_le (Heap.lt_size e) I.ok.above))).trans e1⟩
  ·by_cases hj:j=i
   ·subst hj;rw[hi] at e1;cases e1;rw[getElem?_set_self hiσ] at e2;cases e2;exact⟨u,r,.inl ⟨hk,by simp⟩⟩
   ·rw[getElem?_set_ne (Ne.symm hj)] at e2;obtain⟨u',r',q⟩:=hl j y v' e1 e2 e3;refine⟨u',r',?_⟩;rcases q with⟨k,e⟩|⟨k,c,e,z⟩
    ·refine .inl ⟨k,?_⟩;have:y≠x:=fun e=>hj (pG hN e1 (e▸hi))
     simp[this,e]
    ·exact .inr ⟨k,c,e,z.sameBut hs (cne y c e)⟩
  ·obtain⟨w',z⟩:=I.cell y c e;exact⟨w',z.sameBut hs (cne y c e)⟩
  ·obtain⟨e,n,ne,nf,d⟩:=I.pin p hp;exact⟨(hs.2 p.1 ne).trans e,n,ne,nf,d⟩
 ·have hfn:X.fn x=true:=by
   rcases hf with z|z
   ·exact z
   ·rw[z] at hk;cases hk
  obtain⟨c,hc⟩:=I.ok.has x (.inl hk);obtain⟨w',z⟩:=I.cell x c hc;refine wpAny_storeName_cell I.ok.kind hk hc z (fun h' hc' hs=>?_);obtain⟨oc,hoc,hocd⟩:=id z;refine h {s with heap:=h'} ⟨I.ok,I.os,I.bare,⟨fun b o e n hb hx=>?_,fun b o e n hb hx=>?_,I.base.free,fun b o e hx=>?_,I.base.tups,I.base.frzs,I.base.tbls⟩,⟨m,hn.sameBut hs (Ne.symm (cne x c hc)),fun j y v' e1 e2 e3=>?_⟩,fun y c' e=>?_,I.free,I.freeC,fun p hp=>?_,tracked ⟨oc,hoc,I.freeC x c hc⟩ hs,by simpa using I.len⟩ ⟨c,hs,.inr hc⟩
  ·exact(hs.2 b (Nat.ne_of_lt (Nat.lt_of_lt_of_le (Heap.lt_size e) (I.ok.cab x c hfn hc)))).trans (I.base.keep b o e n hb hx)
  ·obtain⟨sl,e1⟩:=I.base.slot b o e n hb hx;exact⟨sl,(hs.2 b (Nat.ne_of_lt (Nat.lt_of_lt_of_le (Heap.lt_size e) (I.ok.cab x c hfn hc)))).trans e1⟩
  ·obtain⟨o',e1⟩:=I.base.there b o e hx;exact⟨o',(hs.2 b (Nat.ne_of_lt (Nat.lt_of_lt_of_le (Heap.lt_size e) (I.ok.cab x c hfn hc)))).trans e1⟩
  ·by_cases hj:j=i
   ·subst hj;rw[hi] at e1;cases e1;rw[getElem?_set_self hiσ] at e2;cases e2;exact⟨u,r,.inr ⟨.inl hk,c,hc,hc'⟩⟩
   ·rw[getElem?_set_ne (Ne.symm hj)] at e2;obtain⟨u',r',q⟩:=hl j y v' e1 e2 e3;refine⟨u',r',?_⟩;rcases q with q|⟨k,c',e,z'⟩
    ·exact .inl q
    ·refine .inr ⟨k,c',e,z'.sameBut hs ?_⟩;rintro rfl;exact hj (pG hN e1 (I.ok.inj _ _ _ e hc▸hi))
  ·by_cases hcc:c'=c
   ·subst hcc;exact⟨_,hc'⟩
   ·obtain⟨w2,z2⟩:=I.cell y c' e;exact⟨w2,z2.sameBut hs hcc⟩
  ·obtain⟨e,n,ne,nf,d⟩:=I.pin p hp;refine⟨(hs.2 p.1 ?_).trans e,n,ne,nf,d⟩;intro q;rw[q,hoc] at e;have q':oc=p.2:=Option.some.inj e;exact d w' (by rw[←q'];exact hocd)
theorem qx {M:Model}{A:Around}{E:Value→Shared→Prop}{i:Nat}{x:Str}{v:V}{u:Value}{Q:Unit→Shared→Prop}(I:Inv X af σ H s)(hN:X.N.Nodup)(hi:X.N[i]?=some x)(hx:xK X.env.scope x)(r:bi v u)
  (h:∀s',Inv X af (σ.set i (some v)) H s'→Q () s') (hf:X.fn x=true∨X.env.scope.names.lookup x=some .local:=by first|exact .inl rfl|exact .inr rfl|assumption):wpAny M A (storeName X.env x u) Q E s:=
 nW I hN hi hx r (fun s' I' _=>h s' I') hf
theorem Inv.call' {s':Shared}{ch:List Addr}(I:Inv X af σ H s)(ho:s'.os=s.os)(u:Un (kW X.stack) ch H H' s.heap s'.heap)(hok:jM X.prog X.w H' s'.heap)(hg:AllBare s'.gens)
  (hch:∀b∈ch,(b∈X.ex∨X.s₀.heap.objs.size≤b)∧b≠X.env.locals∧(∀x c,X.env.cells.lookup x=some c→c≠b)∧∀p∈X.pn++af,p.1≠b):Inv X af σ H' s':=by
 obtain⟨h',g',d',t',o'⟩:=s';have e:o'=s.os:=ho;subst e;exact I.call (g':=g') (t':=t') (d':=d') u hok hg hch
end
abbrev XK:=Value→Option Addr→Hp→Prop
abbrev St:=List (Option V)
abbrev VK:=V→Hp→Prop
abbrev TE:=St→Hp→VK→Prop
abbrev TT:=St→Hp→(Bool→Hp→Prop)→Prop
abbrev TA:=St→Hp→(List V→Hp→Prop)→Prop
structure uG where
 nx:St→Hp→Prop
 rt:VK
 bk:St→Hp→Prop:=fun _ _=>False
 ct:St→Hp→Prop:=fun _ _=>False
abbrev TS:=uG→St→Hp→Prop
def EP (X:Cx)(af:List (Addr×Obj))(σ:St)(Q:VK)(u:Value)(s':Shared):Prop:=∃v H',Inv X af σ H' s'∧bi v u∧Q v H'
def TP (X:Cx)(af:List (Addr×Obj))(σ:St)(Q:Bool→Hp→Prop)(b:Bool)(s':Shared):Prop:=∃H',Inv X af σ H' s'∧Q b H'
def AP (X:Cx)(af:List (Addr×Obj))(σ:St)(Q:List V→Hp→Prop)(us:List Value)(s':Shared):Prop:=∃vs H',Inv X af σ H' s'∧aQ vs us∧Q vs H'
def SP (X:Cx)(af:List (Addr×Obj))(D:uG)(f:Flow)(s':Shared):Prop:=
 match f with
 | .next=>∃σ' H',Inv X af σ' H' s'∧D.nx σ' H'
 | .brk=>∃σ' H',Inv X af σ' H' s'∧D.bk σ' H'
 | .cont=>∃σ' H',Inv X af σ' H' s'∧D.ct σ' H'
 | .ret u=>∃v σ' H',Inv X af σ' H' s'∧bi v u∧D.rt v H'
def PE (X:Cx)(e:Expr)(t:TE):Prop:=
 ∀(af:List (Addr×Obj)) (s:Shared) (σ:St) (H:Hp) (Q:VK),Inv X af σ H s→t σ H Q→wpAny (model X.prog X.w) X.A (eval e X.env) (EP X af σ Q) X.xe s
def PT (X:Cx)(e:Expr)(t:TT):Prop:=
 ∀(af:List (Addr×Obj)) (s:Shared) (σ:St) (H:Hp) (Q:Bool→Hp→Prop),Inv X af σ H s→t σ H Q→wpAny (model X.prog X.w) X.A (isTrue e X.env (eval e X.env)) (TP X af σ Q) X.xe s
def PW (X:Cx)(e:Expr)(t:TT):Prop:=
 ∀(whole:Sem Value) (af:List (Addr×Obj)) (s:Shared) (σ:St) (H:Hp) (Q:Bool→Hp→Prop),Inv X af σ H s→t σ H Q→wpAny (model X.prog X.w) X.A (isTrue e X.env whole) (TP X af σ Q) X.xe s
theorem PW.pt {X:Cx}{e:Expr}{t:TT}(h:PW X e t):PT X e t:=h _
def PA (X:Cx)(es:List Expr)(t:TA):Prop:=
 ∀(pos:Pos) (af:List (Addr×Obj)) (s:Shared) (σ:St) (H:Hp) (Q:List V→Hp→Prop),Inv X af σ H s→t σ H Q→wpAny (model X.prog X.w) X.A (spliced (backTo pos (starEach es X.env))) (AP X af σ Q) X.xe s
def PS (X:Cx)(st:Stmt)(t:TS):Prop:=
 ∀(af:List (Addr×Obj)) (s:Shared) (σ:St) (H:Hp) (D:uG),Inv X af σ H s→t D σ H→wpAny (model X.prog X.w) X.A (exec st X.env) (SP X af D) X.xe s
def PSs (X:Cx)(st:List Stmt)(t:TS):Prop:=
 ∀(af:List (Addr×Obj)) (s:Shared) (σ:St) (H:Hp) (D:uG),Inv X af σ H s→t D σ H→wpAny (model X.prog X.w) X.A (execs st X.env) (SP X af D) X.xe s
theorem bR {α:Type}{t:Sem α}{Q Q':α→Shared→Prop}{M:Model}{A:Around}{E:Value→Shared→Prop}{s:Shared}(h:wpAny M A t Q E s)(hQ:∀a s,Q a s→Q' a s):wpAny M A t Q' E s:=wpAny_mono h hQ fun _ _ x=>x
section
variable {X:Cx}
def EL (i:Nat):TE:=fun σ H Q=>∃v,σ[i]?=some (some v)∧Q v H
def tC (v:V):TE:=fun _ H Q=>Q v H
theorem Bp {i:Nat}{x:Str}{pos:Pos}(hN:X.N[i]?=some x)(hv:CN X.env.scope x)(hd:(x==("__debug__":Str))=false:=by decide)(hcd:(x==("__classdict__":Str))=false:=by decide):PE X (.Name x pos) (EL i):=by
 intro af s σ H Q I h;obtain⟨v,e,h⟩:=h;obtain⟨m,hn,hl⟩:=I.loc;obtain⟨u,r,l⟩:=hl i x v hN e hv;have fin:EP X af σ Q u s:=⟨v,H,I,r,h⟩;rcases l with⟨hk,hm⟩|⟨hk,c,hc,hcell⟩
 ·exact wpAny_Name (wpAny_loadName_local I.ok.kind hk hn hm fin) hd
 ·rcases hk with hk|hk
  ·exact wpAny_Name (wpAny_loadName_cell I.ok.kind hk hc hcell fin) hd
  ·exact wpAny_Name (wpAny_loadName_free I.ok.kind hk hc hcell fin hcd) hd
theorem xm {i j pos}:PE X (.Constant (.int i) j pos) (tC (.int i)):=fun _ _ _ H _ I h=>wpAny_Constant_int ⟨.int i,H,I.tok _,⟨_,rfl⟩,h⟩
theorem Ej {b j pos}:PE X (.Constant (.bool b) j pos) (tC (.bl b)):=fun _ _ _ H _ I h=>Constant_bool ⟨.bl b,H,I,rfl,h⟩
theorem BX {j pos}:PE X (.Constant .none j pos) (tC .non):=fun _ _ _ H _ I h=>Constant_none ⟨.non,H,I,rfl,h⟩
theorem BE {x j pos}:PE X (.Constant (.str x) j pos) (tC (.str x)):=fun _ _ _ H _ I h=>Calls.Constant_str ⟨.str x,H,I.tok _,⟨_,rfl⟩,h⟩
def Gl (X:Cx)(x:Str):Prop:=X.env.kindOf x=some .globalImplicit
theorem zL {E:Value→Shared→Prop}{af:List (Addr×Obj)}{s:Shared}{σ:St}{H:Hp}{x:Str}{u:Value}{pos:Pos}{Q:Value→Shared→Prop}(I:Inv X af σ H s)(hg:Gl X x)(hm:X.mg x=some u)(h:Q u s)
  (hd:(x==("__debug__":Str))=false:=by decide):wpAny (model X.prog X.w) X.A (eval (.Name x pos) X.env) Q E s:=
 Calls.Name_function_global I.ok.kind hg (Calls.loadGlobal_global (by rw[I.ok.glob];exact I.mod.glob.keeps I.bk) hm h) hd
theorem i9 {E:Value→Shared→Prop}{af:List (Addr×Obj)}{s:Shared}{σ:St}{H:Hp}{x:Str}{u:Value}{pos:Pos}{Q:Value→Shared→Prop}(I:Inv X af σ H s)(hg:Gl X x)(hm:X.mg x=none)(hv:bootBuiltins x=some u)(h:Q u s)
  (hn:x≠"__name__":=by decide) (hd:(x==("__debug__":Str))=false:=by decide):wpAny (model X.prog X.w) X.A (eval (.Name x pos) X.env) Q E s:=by
 obtain⟨mb,h1,h2⟩:=I.mod.blt;exact Calls.Name_function_global I.ok.kind hg (Calls.loadGlobal_builtin (by rw[I.ok.glob];exact I.mod.glob.keeps I.bk) hm (by rw[I.ok.blt];exact h1.keeps I.bk) ((h2 x hn).trans hv) h) hd
theorem yP {x:Str}{v:V}{u:Value}{pos:Pos}(hg:Gl X x)(hm:X.mg x=none)(hv:bootBuiltins x=some u)(r:bi v u)(hn:x≠"__name__":=by decide)(hd:(x==("__debug__":Str))=false:=by decide):PE X (.Name x pos) (tC v):=
 fun _ _ _ H _ I h=>i9 I hg hm hv ⟨v,H,I,r,h⟩ hn hd
variable {a b:Expr}{ta tb:TE}{pos:Pos}
variable {tA tB':TT}{rest:List Expr}
def Fs (t u:TT):TT:=fun σ H Q=>t σ H fun c H1=>if c=true then u σ H1 Q else Q false H1
def GJ (t u:TT):TT:=fun σ H Q=>t σ H fun c H1=>if c=true then Q true H1 else u σ H1 Q
def Gn (t:TT):TT:=fun σ H Q=>t σ H fun c H1=>Q (!c) H1
theorem zj (ha:PT X a tA):PW X (.BoolOp .And [a] pos) tA:=by
 intro wh af s σ H Q I h;refine isTrue_and (bR (ha af s σ H Q I h) fun c s1 e=>?_);cases c with
 | true=>exact isTrue_and_nil e
 | false=>exact e
theorem BA (ha:PT X a tA):PW X (.BoolOp .Or [a] pos) tA:=by
 intro wh af s σ H Q I h;refine isTrue_or (bR (ha af s σ H Q I h) fun c s1 e=>?_);cases c with
 | false=>exact isTrue_or_nil e
 | true=>exact e
theorem Bx (ha:PT X a tA)(hb:PW X (.BoolOp .And (b::rest) pos) tB'):PW X (.BoolOp .And (a::b::rest) pos) (Fs tA tB'):=by
 intro wh af s σ H Q I h;refine isTrue_and (bR (ha af s σ H _ I h) fun c s1 hxx=>?_);obtain⟨H1,I1,q1⟩:=hxx;cases c with
 | true=>exact hb wh af s1 σ H1 Q I1 q1
 | false=>exact⟨H1,I1,q1⟩
theorem Ek (ha:PT X a tA)(hb:PW X (.BoolOp .Or (b::rest) pos) tB'):PW X (.BoolOp .Or (a::b::rest) pos) (GJ tA tB'):=by
 intro wh af s σ H Q I h;refine isTrue_or (bR (ha af s σ H _ I h) fun c s1 hxx=>?_);obtain⟨H1,I1,q1⟩:=hxx;cases c with
 | true=>exact⟨H1,I1,q1⟩
 | false=>exact hb wh af s1 σ H1 Q I1 q1
theorem A5 (ha:PT X a tA):PT X (.UnaryOp .Not a pos) (Gn tA):=by
 intro af s σ H Q I h;exact isTrue_not (ha af s σ H (fun c H1=>Q (!c) H1) I h)
def GN (t:TT)(ta tb:TE):TE:=fun σ H Q=>t σ H fun c H1=>if c=true then ta σ H1 Q else tb σ H1 Q
theorem wj {c:Expr}(hc:PT X c tA)(ha:PE X a ta)(hb:PE X b tb):PE X (.IfExp c a b pos) (GN tA ta tb):=by
 intro af s σ H Q I h;refine wpAny_IfExp (bR (hc af s σ H _ I h) fun d s1 hxx=>?_);obtain⟨H1,I1,q1⟩:=hxx;cases d with
 | true=>exact ha af s1 σ H1 Q I1 q1
 | false=>exact hb af s1 σ H1 Q I1 q1
end
def iM (K:W.Frag)(H:Hp)(a:Addr)(xs:List V):Prop:=
 Rd H a (.lst xs)∨
  ∃(o:Obj) (its:Array Value) (n:Nat),K.lookup a=some o∧o.cls=.type "list"∧o.dict=none∧o.data=.seq its n∧its.size≤sizeLine∧aQ xs its.toList
def lU (K:W.Frag)(H:Hp)(a:Addr)(xs:List V):Prop:=
 Rd H a (.tup xs)∨
  ∃(o:Obj) (its:Array Value) (n:Nat),K.lookup a=some o∧o.cls=.type "tuple"∧o.data=.seq its n∧its.size≤sizeLine∧aQ xs its.toList
def Gz:Value→Option V
 | .none=>some .non
 | .bool b=>some (.bl b)
 | .int i _=>some (.int i)
 | .str x _=>some (.str x)
 | .bytes b _=>some (.byt b)
 | .float b _=>some (.flt b)
 | .ref a=>some (.ref a)
 | .type n=>some (.ty n)
 | _=>none
theorem bi.abs {x:V}{u:Value}(r:bi x u):Gz u=some x:=by
 cases x with
 | non=>cases r;rfl
 | bl _=>cases r;rfl
 | int _=>obtain⟨t,rfl⟩:=r;rfl
 | str _=>obtain⟨t,rfl⟩:=r;rfl
 | byt _=>obtain⟨t,rfl⟩:=r;rfl
 | flt _=>obtain⟨t,rfl⟩:=r;rfl
 | ref _=>cases r;rfl
 | ty _=>cases r;rfl
theorem bi.inj {x y:V}{u:Value}(r:bi x u)(q:bi y u):x=y:=Option.some.inj (r.abs.symm.trans q.abs)
theorem aQ.inj:∀{xs ys:List V} {us:List Value},aQ xs us→aQ ys us→xs=ys
 | _,_,_,.nil,.nil=>rfl
 | _,_,_,.cons r t,.cons r' t'=>by rw[r.inj r',aQ.inj t t']
section
variable {X:Cx}{af:List (Addr×Obj)}{σ:St}{H:Hp}{s:Shared}{a:Addr}{xs ys:List V}
theorem Inv.list (I:Inv X af σ H s)(h:iM X.K H a xs):∃its:List Value,aQ xs its∧PlainL s.heap a its.toArray∧xs.length≤sizeLine:=by
 rcases h with h|⟨o,its,n,hk,hc,hd,hs,hz,r⟩
 ·obtain⟨z,its,n,r,e⟩:=h.ok I.hok;exact⟨its,r,⟨_,n,e,rfl,rfl,rfl⟩,z⟩
 ·refine⟨its.toList,r,⟨o,n,I.kIn a o hk,hc,hd,by simpa using hs⟩,?_⟩;have e:=r.length;simp only[Array.length_toList] at e;omega
theorem Inv.tuple (I:Inv X af σ H s)(h:lU X.K H a xs):∃its:List Value,aQ xs its∧IsTup s.heap a its.toArray∧xs.length≤sizeLine:=by
 rcases h with h|⟨o,its,n,hk,hc,hs,hz,r⟩
 ·obtain⟨z,its,r,p⟩:=h.ok I.hok;exact⟨its,r,p,z⟩
 ·refine⟨its.toList,r,⟨o,I.kIn a o hk,hc,n,by simpa using hs⟩,?_⟩;have e:=r.length;simp only[Array.length_toList] at e;omega
theorem Inv.list_inj (I:Inv X af σ H s)(h:iM X.K H a xs)(h':iM X.K H a ys):xs=ys:=by
 obtain⟨its,r,⟨o,n,e,_,_,d⟩,_⟩:=I.list h;obtain⟨its',r',⟨o',n',e',_,_,d'⟩,_⟩:=I.list h';rw[e] at e';cases e';rw[d] at d';injection d' with d1 _
 have:its=its':=by simpa using congrArg Array.toList d1
 subst this;exact r.inj r'
theorem Inv.tuple_inj (I:Inv X af σ H s)(h:lU X.K H a xs)(h':lU X.K H a ys):xs=ys:=by
 obtain⟨its,r,⟨o,e,_,n,d⟩,_⟩:=I.tuple h;obtain⟨its',r',⟨o',e',_,n',d'⟩,_⟩:=I.tuple h';rw[e] at e';cases e';rw[d] at d';injection d' with d1 _
 have:its=its':=by simpa using congrArg Array.toList d1
 subst this;exact r.inj r'
end
section
variable {X:Cx}{st:Stmt}{rest:List Stmt}{t u:TS}{e:Expr}{te:TE}{pos:Pos}
def DH:TS:=fun D σ H=>D.nx σ H
def FH (t u:TS):TS:=fun D σ H=>t {D with nx:=u D} σ H
theorem yg:PSs X [] DH:=fun _ _ σ H _ I h=>wpAny_execs_nil ⟨σ,H,I,h⟩
theorem vA (h1:PS X st t)(h2:PSs X rest u):PSs X (st::rest) (FH t u):=by
 intro af s σ H D I h;refine wpAny_execs_cons (bR (h1 af s σ H {D with nx:=u D} I h) fun f s1 q=>?_);cases f with
 | next=>
  obtain⟨σ',H',I',q⟩:=q;exact h2 af s1 σ' H' D I' q
 | ret v=>exact q
 | brk=>exact q
 | cont=>exact q
theorem ye (h1:PS X st t):PSs X [st] t:=by
 intro af s σ H D I h;refine wpAny_execs_cons (bR (h1 af s σ H D I h) fun f s1 q=>?_);cases f with
 | next=>exact wpAny_execs_nil q
 | ret v=>exact q
 | brk=>exact q
 | cont=>exact q
theorem Inv.quiet {af:List (Addr×Obj)}{σ:St}{H:Hp}{s:Shared}(I:Inv X af σ H s):interactive X.env=false:=by simp[interactive,I.ok.kind]
def Ea (te:TE):TS:=fun D σ H=>te σ H fun _ H1=>D.nx σ H1
theorem zd (he:PE X e te)(hs:swapsWith e none pos.line X.env=pure false:=by rfl):PS X (.Expr e pos) (Ea te):=by
 intro af s σ H D I h;exact wpAny_Expr_any (bR (he af s σ H _ I h) fun v s1 ⟨x,H1,I1,r1,q1⟩=>⟨σ,H1,I1,q1⟩) I.quiet hs
def FY (te:TE):TS:=fun D σ H=>te σ H D.rt
theorem A6 (he:PE X e te):PS X (.Return (some e) pos) (FY te):=by
 intro af s σ H D I h;exact wpAny_Return_some (bR (he af s σ H _ I h) fun v s1 ⟨x,H1,I1,r1,q1⟩=>⟨x,σ,H1,I1,r1,q1⟩)
def Gq (c:TT)(t u:TS):TS:=fun D σ H=>c σ H fun b H1=>if b=true then t D σ H1 else u D σ H1
theorem ER {c:Expr}{a b:List Stmt}{tc:TT}(hc:PT X c tc)(ha:PSs X a t)(hb:PSs X b u):PS X (.If c a b pos) (Gq tc t u):=by
 intro af s σ H D I h;refine wpAny_If (bR (hc af s σ H _ I h) fun d s1 hxx=>?_);obtain⟨H1,I1,q1⟩:=hxx;cases d with
 | true=>exact ha af s1 σ H1 D I1 q1
 | false=>exact hb af s1 σ H1 D I1 q1
end
abbrev TG:=V→St→Hp→(St→Hp→Prop)→Prop
abbrev zu:=List V→St→Hp→(St→Hp→Prop)→Prop
def PG (X:Cx)(target:Expr)(t:TG):Prop:=
 ∀(af:List (Addr×Obj)) (s:Shared) (σ:St) (H:Hp) (v:V) (u:Value) (Q:St→Hp→Prop),Inv X af σ H s→bi v u→t v σ H Q→
  wpAny (model X.prog X.w) X.A (assign target X.env u) (fun _ s'=>∃σ' H',Inv X af σ' H' s'∧Q σ' H') X.xe s
def sU (X:Cx)(ts:List Expr)(t:zu):Prop:=
 ∀(af:List (Addr×Obj)) (s:Shared) (σ:St) (H:Hp) (vs:List V) (us:List Value) (Q:St→Hp→Prop),Inv X af σ H s→aQ vs us→t vs σ H Q→
  wpAny (model X.prog X.w) X.A (assignInOrder ((assignEach ts X.env).map (·.2)) us) (fun _ s'=>∃σ' H',Inv X af σ' H' s'∧Q σ' H') X.xe s
abbrev B2:=V→V→V→Hp→(Hp→Prop)→Prop
def Ey (X:Cx)(t:B2):Prop:=
 ∀(af:List (Addr×Obj)) (s:Shared) (σ:St) (H:Hp) (o i v:V) (ov iv u:Value) (Q:Hp→Prop),Inv X af σ H s→bi o ov→bi i iv→bi v u→t o i v H Q→
  wpAny (model X.prog X.w) X.A (setItem ov iv u) (fun _ s'=>∃H',Inv X af σ H' s'∧Q H') X.xe s
section
variable {X:Cx}{pos:Pos}
def zY (i:Nat):TG:=fun v σ H Q=>Q (σ.set i (some v)) H
theorem zR {i:Nat}{x:Str}(hN:X.N.Nodup)(hi:X.N[i]?=some x)(hx:xK X.env.scope x)(hf:X.fn x=true∨X.env.scope.names.lookup x=some .local:=by first|exact .inl rfl|exact .inr rfl|assumption):PG X (.Name x pos) (zY i):=by
 intro af s σ H v u Q I r h;exact wpAny_assign_Name (qx I hN hi hx r (fun s' I'=>⟨_,H,I',h⟩) hf)
def FO:zu:=fun vs σ H Q=>vs=[]∧Q σ H
def D1 (t:TG)(u:zu):zu:=fun vs σ H Q=>∃v r,vs=v::r∧t v σ H fun σ' H'=>u r σ' H' Q
theorem tB:sU X [] FO:=by
 intro af s σ H vs us Q I r h;obtain⟨e,h⟩:=h;subst e;cases r;exact assignInOrder_nil ⟨σ,H,I,h⟩
theorem qT {e:Expr}{es:List Expr}{t:TG}{u:zu}(h1:PG X e t)(h2:sU X es u)
  (hs:(assignEach (e::es) X.env).map (·.2)=assign e X.env::(assignEach es X.env).map (·.2):=by rfl):sU X (e::es) (D1 t u):=by
 intro af s σ H vs us Q I r h;obtain⟨v,vr,e1,h⟩:=h;subst e1;cases r with
 | cons r rr=>
  rw[hs];refine assignInOrder_cons (bR (h1 af s σ H _ _ _ I r h) fun _ s1 hxx=>?_);obtain⟨σ1,H1,I1,q1⟩:=hxx;exact h2 af s1 σ1 H1 _ _ Q I1 rr q1
def Gd (K:W.Frag)(n:Nat)(t:zu):TG:=fun v σ H Q=>∃a xs,v=.ref a∧lU K H a xs∧xs.length=n∧t xs σ H Q
theorem wQ {es:List Expr}{k:Nat}{t:zu}{n:Nat}(hc:X.calm=true)(h:sU X es t)
  (hn:(assignEach es X.env).length=n:=by rfl) (hst:(assignEach es X.env).findIdx? (·.1)=none:=by rfl):PG X (.Tuple es k pos) (Gd X.K n t):=by
 intro af s σ H v u Q I r hw;obtain⟨a,xs,e1,hq,hl,hw⟩:=hw;subst e1;cases r;obtain⟨its,rv,ht,hz⟩:=I.tuple hq;refine assign_Tuple_tuple (I.ok.hd hc) ht (by simp[hn,←hl,rv.length]) hst fun h' hx=>?_
 have I1:Inv X af σ H {s with heap:=h'}:=I.kept (t':=s.toks) fun b o e=>hx b o (Nat.ne_of_lt (Heap.lt_size e)) e
 exact h af _ σ H xs _ Q I1 (by simpa using rv) hw
def Gi (to ti:TE)(t:B2):TG:=fun v σ H Q=>to σ H fun o H1=>ti σ H1 fun i H2=>t o i v H2 fun H3=>Q σ H3
theorem As {o i:Expr}{to ti:TE}{t:B2}(ho:PE X o to)(hi:PE X i ti)(hs:Ey X t)
  (ha:∀v,assign (.Subscript o i pos) X.env v=(do
   let ov ←holding [v] (eval o X.env)
   let iv ←holding [v,ov] (eval i X.env)
   standAt pos
   holding [v,ov,iv] (setItem ov iv v)
   release [v,ov,iv] []):=by intro _;rfl):PG X (.Subscript o i pos) (Gi to ti t):=by
 intro af s σ H v u Q I r h;rw[ha];refine wpAny_bind (wpAny_holding (bR (ho af s σ H _ I h) fun ov s1 hxx=>?_));obtain⟨x,H1,I1,r1,q1⟩:=hxx;refine wpAny_bind (wpAny_holding (bR (hi af s1 σ H1 _ I1 q1) fun iv s2 hxx=>?_));obtain⟨y,H2,I2,r2,q2⟩:=hxx;refine wpAny_bind (wpAny_standAt (wpAny_bind (wpAny_holding (bR (hs af s2 σ H2 x y v ov iv u _ I2 r1 r2 r q2) fun _ s3 hxx=>?_))));obtain⟨H3,I3,q3⟩:=hxx;exact wpAny_release ⟨σ,H3,I3,q3⟩
def Dm (te:TE)(g:TG):TS:=fun D σ H=>te σ H fun x H1=>g x σ H1 D.nx
theorem wg {tg e:Expr}{te:TE}{g:TG}(he:PE X e te)(hg:PG X tg g)(hs:swapsWithSole [tg] e pos.line X.env=pure false:=by rfl)(hw:swappedStores [tg] e X.env=pure none:=by rfl)
  (h1:(assignEach [tg] X.env).map (·.2)=[assign tg X.env]:=by rfl):PS X (.Assign [tg] e pos) (Dm te g):=by
 intro af s σ H D I h;refine wpAny_Assign_stores (bR (he af s σ H _ I h) fun v s1 hxx=>?_) hs hw;obtain⟨x,H1,I1,r1,q1⟩:=hxx;rw[h1];exact bR (hg af s1 σ H1 x v _ I1 r1 q1) fun _ s2 q=>q
theorem Cu {i:Nat}{x:Str}{e:Expr}{te:TE}{pos':Pos}(hN:X.N.Nodup)(hi:X.N[i]?=some x)(hx:xK X.env.scope x)(he:PE X e te)(hs:swapsWith e (some (.Name x pos')) pos.line X.env=pure false:=by rfl)(hf:X.fn x=true∨X.env.scope.names.lookup x=some .local:=by first|exact .inl rfl|exact .inr rfl|assumption) :
  PS X (.Assign [.Name x pos'] e pos) (Dm te (zY i)):=by
 intro af s σ H D I h;refine wpAny_Assign_Name (bR (he af s σ H _ I h) fun v s1 hxx=>?_) hs;obtain⟨y,H1,I1,r1,q1⟩:=hxx;exact qx I1 hN hi hx r1 (fun s2 I2=>⟨_,H1,I2,q1⟩) hf
end
structure It where
 go:Nat→Hp→Prop
 yld:Nat→Hp→V→Hp→Prop
 stop:Nat→Hp→Prop
def cA (X:Cx)(af:List (Addr×Obj))(H:Hp)(b:Addr):Prop:=
 H b=none∧b≠X.env.locals∧b∉X.fs∧(b∈X.ex∨X.s₀.heap.objs.size≤b)∧(∀x c,X.env.cells.lookup x=some c→c≠b)∧∀p∈X.pn++af,p.1≠b
theorem Inv.fpOk {X:Cx}{af:List (Addr×Obj)}{σ:St}{H H':Hp}{s:Shared}{b:Addr}(I:Inv X af σ H s)(hb:s.heap.objs.size≤b)(hn:H' b=none):cA X af H' b:=by
 refine⟨hn,Nat.ne_of_gt (Nat.lt_of_lt_of_le I.lt hb),I.nofs hb,.inr (Nat.le_trans I.sz hb),fun x c e z=>?_,fun p hp z=>?_⟩
 ·obtain⟨v,q⟩:=I.cell x c e;exact absurd (Nat.lt_of_lt_of_le q.lt (by rw[z];exact hb)) (Nat.lt_irrefl _)
 ·exact absurd (Nat.lt_of_lt_of_le (Heap.lt_size (I.pin p hp).1) (by rw[z];exact hb)) (Nat.lt_irrefl _)
structure mZ (P:Program)(w:World)(K:W.Frag)(tg:Expr)(J:It)(fp:List Addr)(it:Addr)(tn:Nat→Heap→Prop):Prop where
 mem:it∈fp
 obj:∀i h,tn i h→∀b∈fp,∃o,h.get? b=some o∧∀v,o.data≠.cell v
 keep:∀i h h',tn i h→(∀b∈fp,∀o,h.get? b=some o→h'.get? b=some o)→tn i h'
 item:∀(X:Cx),X.prog=P→X.w=w→X.K=K→X.calm=true→∀(i:Nat) (af:List (Addr×Obj)) (s:Shared) (σ:St) (H:Hp) (E:Value→Shared→Prop),Inv X af σ H s→(∀b∈fp,cA X af H b)→tn i s.heap→J.go i H→
  wpAny (model P w) X.A (pyNext (.ref it)) (fun r s1=>∃u,r=some u∧
   wpAny (model P w) X.A (letOwnedTupleGo tg (.ref it) u) (fun _ s2=>∃x H',Inv X af σ H' s2∧bi x u∧J.yld i H x H'∧tn (i+1) s2.heap∧∀b∈fp,H' b=none) E s1) E s
 done:∀(X:Cx),X.prog=P→X.w=w→X.K=K→X.calm=true→∀(i:Nat) (af:List (Addr×Obj)) (s:Shared) (σ:St) (H:Hp) (E:Value→Shared→Prop),Inv X af σ H s→(∀b∈fp,cA X af H b)→tn i s.heap→J.stop i H→
  wpAny (model P w) X.A (pyNext (.ref it)) (fun r s1=>r=none∧Inv X af σ H s1) E s
 self:∀(A:Around) (i:Nat) (s:Shared) (Q:Value→Shared→Prop) (E:Value→Shared→Prop),tn i s.heap→Q (.ref it) s→wpAny (model P w) A (pyIter (.ref it)) Q E s
abbrev TI:=St→Hp→(It→Hp→Prop)→Prop
def Fz (X:Cx)(af:List (Addr×Obj))(σ:St)(tg:Expr)(R:It→Hp→Prop)(itv:Value)(s2:Shared):Prop:=
 ∃(it:Addr) (fp:List Addr) (tn:Nat→Heap→Prop) (J:It) (H':Hp),itv=.ref it∧Inv X af σ H' s2∧mZ X.prog X.w X.K tg J fp it tn∧tn 0 s2.heap∧(∀b∈fp,cA X af H' b)∧R J H'
def PI (X:Cx)(tg iter:Expr)(wi:TI):Prop:=
 ∀(af:List (Addr×Obj)) (s:Shared) (σ:St) (H:Hp) (R:It→Hp→Prop),Inv X af σ H s→wi σ H R→
  wpAny (model X.prog X.w) X.A (eval iter X.env) (fun v s1=>wpAny (model X.prog X.w) X.A (pyIter v) (Fz X af σ tg R) X.xe s1) X.xe s
theorem vD {M:Model}{A:Around}{E:Value→Shared→Prop}{s:Shared}{tg:Expr}{it:Addr}{u:Value}{o:Obj}{n:String}{vs:Array Value}{Q:Unit→Shared→Prop}(ho:s.heap.get? it=some o)(hc:o.cls=.type n)(hd:o.data=.fields vs)
  (hn:["enumerate","zip","dict_itemiterator","dict_reverseitemiterator","odict_iterator","itertools.zip_longest","itertools.pairwise"].contains n=false) (hQ:Q () s):wpAny M A (letOwnedTupleGo tg (.ref it) u) Q E s:=by
 unfold letOwnedTupleGo;cases tg <;> first
  | exact wpAny_pure hQ
  | (cases u <;> first
    | exact wpAny_pure hQ
    | (refine wpAny_bind (wpAny_load ho ?_)
       rw[hc,hd];show wpAny M A (if(["enumerate","zip","dict_itemiterator","dict_reverseitemiterator","odict_iterator","itertools.zip_longest","itertools.pairwise"].contains n&&vs[0]?==some (rawInt _))=true then _ else _) Q E s;rw[if_neg (by intro h;rw[hn,Bool.false_and] at h;cases h)];exact wpAny_pure hQ))
def E7 (K:W.Frag)(a:Addr):It:=
 ⟨fun i H=>∃xs x,iM K H a xs∧xs[i]?=some x,fun i H x H'=>H'=H∧∀xs,iM K H a xs→xs[i]?=some x,fun i H=>∃xs,iM K H a xs∧xs.length≤i⟩
def F8 (K:W.Frag)(a:Addr):It:=
 ⟨fun i H=>∃xs x,lU K H a xs∧xs[i]?=some x,fun i H x H'=>H'=H∧∀xs,lU K H a xs→xs[i]?=some x,fun i H=>∃xs,lU K H a xs∧xs.length≤i⟩
def Fg (lo:Int)(n:Nat):It:=⟨fun i _=>i<n,fun i H x H'=>H'=H∧x=.int (lo+i),fun i _=>n≤i⟩
theorem uH {P:Program}{w:World}{K:W.Frag}{tg:Expr}(a it:Addr):mZ P w K tg (E7 K a) [it] it (fun i h=>h.IsListIter it a i) where
 mem:=by simp
 obj:=fun i h st b hb=>by
  have e:b=it:=by simpa using hb
  subst e;obtain⟨o,e,c,d⟩:=st;exact⟨o,e,fun v z=>by rw[d] at z;cases z⟩
 keep:=fun i h h' st k=>st.at fun o e=>k it (by simp) o e
 item:=by
  intro X hP hw hK hc i af s σ H E I hf st hg;subst hP hw hK;obtain⟨xs,x,hq,hx⟩:=hg;obtain⟨its,rv,p,hz⟩:=I.list hq;obtain⟨u,hu,ru⟩:=rv.get hx;obtain⟨f0,f1,f2,f3,f4,f5⟩:=hf it (by simp);refine wpAny_pyNext_list_item st p.isList (x:=u) (by simpa using hu) fun h' st' sb=>?_
  have I1:Inv X af σ H {s with heap:=h'}:=I.turned (t':=s.toks) (fun b o hb e=>(sb.2 b hb).trans e) f0 f1 f3 f4 f5;obtain⟨o,e,c,d⟩:=id st';exact⟨u,rfl,vD (s:={s with heap:=h'}) e c d (by decide) ⟨x,H,I1,ru,⟨rfl,fun ys hy=>by rw[I.list_inj hy hq];exact hx⟩,st',fun b hb=>(hf b hb).1⟩⟩
 done:=by
  intro X hP hw hK hc i af s σ H E I hf st hg;subst hP hw hK;obtain⟨xs,hq,hx⟩:=hg;obtain⟨its,rv,p,hz⟩:=I.list hq;obtain⟨f0,f1,f2,f3,f4,f5⟩:=hf it (by simp);have hl:=rv.length;exact wpAny_pyNext_list_end (I.ok.hd hc) st p.isList (by simp;omega) fun h' eb=>⟨rfl,I.turned (t':=s.toks) (fun b o hb e=>eb b o hb e) f0 f1 f3 f4 f5⟩
 self:=fun _ _ _ _ _ st h=>wpAny_pyIter_listiter st h
theorem sA {P:Program}{w:World}{K:W.Frag}{tg:Expr}(a it:Addr):mZ P w K tg (F8 K a) [it] it (fun i h=>h.IsTupleIter it a i) where
 mem:=by simp
 obj:=fun i h st b hb=>by
  have e:b=it:=by simpa using hb
  subst e;obtain⟨o,e,c,d⟩:=st;exact⟨o,e,fun v z=>by rw[d] at z;cases z⟩
 keep:=fun i h h' st k=>st.at fun o e=>k it (by simp) o e
 item:=by
  intro X hP hw hK hc i af s σ H E I hf st hg;subst hP hw hK;obtain⟨xs,x,hq,hx⟩:=hg;obtain⟨its,rv,p,hz⟩:=I.tuple hq;obtain⟨u,hu,ru⟩:=rv.get hx;obtain⟨f0,f1,f2,f3,f4,f5⟩:=hf it (by simp);refine wpAny_pyNext_tuple_item st (show s.heap.IsTuple a its.toArray from p) (x:=u) (by simpa using hu) fun h' st' sb=>?_
  have I1:Inv X af σ H {s with heap:=h'}:=I.turned (t':=s.toks) (fun b o hb e=>(sb.2 b hb).trans e) f0 f1 f3 f4 f5;obtain⟨o,e,c,d⟩:=id st';exact⟨u,rfl,vD (s:={s with heap:=h'}) e c d (by decide) ⟨x,H,I1,ru,⟨rfl,fun ys hy=>by rw[I.tuple_inj hy hq];exact hx⟩,st',fun b hb=>(hf b hb).1⟩⟩
 done:=by
  intro X hP hw hK hc i af s σ H E I hf st hg;subst hP hw hK;obtain⟨xs,hq,hx⟩:=hg;obtain⟨its,rv,p,hz⟩:=I.tuple hq;obtain⟨f0,f1,f2,f3,f4,f5⟩:=hf it (by simp);have hl:=rv.length;exact wpAny_pyNext_tuple_end (I.ok.hd hc) st (show s.heap.IsTuple a its.toArray from p) (by simp;omega) fun h' eb=>⟨rfl,I.turned (t':=s.toks) (fun b o hb e=>eb b o hb e) f0 f1 f3 f4 f5⟩
 self:=fun _ _ _ _ _ st h=>wpAny_pyIter_tupleiter st h
theorem rQ {P:Program}{w:World}{K:W.Frag}{tg:Expr}(it:Addr)(lo:Int)(n:Nat):mZ P w K tg (Fg lo n) [it] it (fun i h=>IsRangeIter h it (lo+(i:Nat)*1) ((n:Int)-(i:Nat)) 1) where
 mem:=by simp
 obj:=fun i h st b hb=>by
  have e:b=it:=by simpa using hb
  subst e;exact⟨_,st,fun v z=>by
   have z':Data.fields _=Data.cell v:=z;cases z'⟩
 keep:=fun i h h' st k=>k it (by simp) _ st
 item:=by
  intro X hP hw hK hc i af s σ H E I hf st hg;subst hP hw hK;obtain⟨f0,f1,f2,f3,f4,f5⟩:=hf it (by simp);have W:=Walks.range (prog:=X.prog) (w:=X.w) (I.ok.hd hc) it lo 1 n;refine W.item i s _ _ hg st fun v h' tk hv st' kk=>?_
  obtain⟨t,rfl⟩:=hv;have I1:Inv X af σ H {s with heap:=h',toks:=tk}:=I.turned (fun b o hb e=>kk b o (by simpa using hb) e) f0 f1 f3 f4 f5;refine⟨_,rfl,vD (s:={s with heap:=h',toks:=tk}) (n:="range_iterator") st' rfl rfl (by decide) ⟨.int (lo+i),H,I1,⟨t,?_⟩,⟨rfl,rfl⟩,st',fun b hb=>(hf b hb).1⟩⟩;rw[Int.mul_one]
 done:=by
  intro X hP hw hK hc i af s σ H E I hf st hg;subst hP hw hK;obtain⟨f0,f1,f2,f3,f4,f5⟩:=hf it (by simp);exact wpAny_pyNext_range_end (I.ok.hd hc) st (by have:n≤i:=hg;omega) fun h' eb=>⟨rfl,I.turned (t':=s.toks) (fun b o hb e=>eb b o hb e) f0 f1 f3 f4 f5⟩
 self:=fun _ _ _ _ _ st h=>wpAny_pyIter_rangeiter st h
section
variable {X:Cx}{tg:Expr}
theorem vB {af:List (Addr×Obj)}{σ:St}{H:Hp}{s:Shared}{R:It→Hp→Prop}{E:Value→Shared→Prop}{lo hi:Int}{t u v:Tok}{tk:Nat}(I:Inv X af σ H s)(h1:-(2 ^ 62)≤lo)(h2:lo<2 ^ 62)(h3:-(2 ^ 62)≤hi)(h4:hi<2 ^ 62)
  (q:R (Fg lo (hi-lo).toNat) H):wpAny (model X.prog X.w) X.A (pyIter (.ref s.heap.objs.size)) (Fz X af σ tg R) E {s with heap:=s.heap.push {cls:=.type "range",data:=.fields #[.int lo t,.int hi u,.int 1 v]},toks:=tk}:=by
 refine wpAny_pyIter_range (IsRange.new ..) (small_one h1 h2 h3 h4) ?_;have I1:Inv X af σ H {s with heap:=s.heap.push {cls:=.type "range",data:=.fields #[.int lo t,.int hi u,.int 1 v]},toks:=tk}:=I.kept fun b o e=>Heap.get?_push_of_some _ e
 refine⟨(s.heap.push {cls:=.type "range",data:=.fields #[.int lo t,.int hi u,.int 1 v]}).objs.size,[(s.heap.push {cls:=.type "range",data:=.fields #[.int lo t,.int hi u,.int 1 v]}).objs.size],_,_,H,rfl,
  I1.kept (t':=tk) fun b o e=>Heap.get?_push_of_some _ e,rQ _ lo (hi-lo).toNat,?_,fun b hb=>?_,q⟩
 ·have e1:lo+((0:Nat):Int)*1=lo:=by simp
  have e2:(((hi-lo).toNat:Nat):Int)-((0:Nat):Int)=Builtin.Range.rangeSize lo hi 1:=by rw[rangeSize_one];split <;> omega
  show IsRangeIter _ _ (lo+((0:Nat):Int)*1) ((((hi-lo).toNat:Nat):Int)-((0:Nat):Int)) 1;rw[e1,e2];exact Heap.get?_push_size _ rfl
 ·have e:b=(s.heap.push {cls:=.type "range",data:=.fields #[.int lo t,.int hi u,.int 1 v]}).objs.size:=by simpa using hb
  subst e;exact I1.fpOk (Nat.le_refl _) (I1.hok.fresh (Nat.le_refl _))
def C8 (ta:TA):TI:=fun σ H R=>ta σ H fun vs H1=>∃j:Int,vs=[.int j]∧-(2 ^ 62)≤j∧j<2 ^ 62∧R (Fg 0 j.toNat) H1
theorem vd {a:Expr}{ta:TA}{p pos:Pos}(hg:Gl X "range")(hm:X.mg "range"=none)(ha:PA X [a] ta)(hs:starEach [a] X.env=[(false,eval a X.env)]:=by rfl):PI X tg (.Call (.Name "range" p) [a] [] pos) (C8 ta):=by
 intro af s σ H R I h;refine Call_ (i9 I hg hm boot_range (PyProof.Rows.callWith_type1 (bR (ha pos af s σ H _ I h) fun us s1 hxx=>?_) hs rfl));obtain⟨vs,H1,I1,r1,q1⟩:=hxx;obtain⟨j,e,q1,q2,q⟩:=q1;subst e;cases r1 with
 | cons r rr=>
  cases rr;obtain⟨t,rfl⟩:=r;exact call_range_1 (vB I1 (by omega) (by omega) q1 q2 (by simpa using q))
def Gh (wi:TI)(g:TG)(tb:TS):TS:=fun D σ H=>wi σ H fun J H1=>∃W:Nat→Nat→St→Hp→Prop,(∃m,W 0 m σ H1)∧∀i m σ H,W i m σ H→
 (J.stop i H∧D.nx σ H)∨(J.go i H∧∃N:St→Hp→Prop,(∀σ' H',N σ' H'→∃m',m'<m∧W (i+1) m' σ' H')∧∀x H',J.yld i H x H'→g x σ H' fun σ2 H2=>tb {D with nx:=N,ct:=N,bk:=D.nx} σ2 H2)
def fO (fp:List Addr)(h:Heap):List (Addr×Obj):=fp.filterMap fun b=>(h.get? b).map fun o=>(b,o)
theorem bC {fp:List Addr}{h:Heap}{b:Addr}{o:Obj}(hb:b∈fp)(e:h.get? b=some o):(b,o)∈fO fp h:=mem_filterMap.mpr ⟨b,hb,by rw[e];rfl⟩
theorem nI {fp:List Addr}{h:Heap}{p:Addr×Obj}(hp:p∈fO fp h):p.1∈fp∧h.get? p.1=some p.2:=by
 obtain⟨b,hb,e⟩:=mem_filterMap.mp hp;cases q:h.get? b with
 | none=>rw[q] at e;cases e
 | some o=>
  rw[q] at e;have e':(b,o)=p:=Option.some.inj e;subst e';exact⟨hb,q⟩
theorem Inv.pinned {af:List (Addr×Obj)}{σ:St}{H:Hp}{s:Shared}{fp:List Addr}(I:Inv X af σ H s)(hf:∀b∈fp,cA X af H b)(ho:∀b∈fp,∃o,s.heap.get? b=some o∧∀v,o.data≠.cell v):Inv X (af++fO fp s.heap) σ H s:=
 I.pins_of fun p hp=>(mem_append.mp hp).elim (fun z=>I.pin p (mem_append_right _ z)) fun z=>by
  obtain⟨hb,e⟩:=nI z;obtain⟨f0,f1,f2,_⟩:=hf p.1 hb;obtain⟨o,e',d⟩:=ho p.1 hb;rw[e] at e';cases e';exact⟨e,f0,f1,f2,d⟩
theorem Inv.unpinned {af pl:List (Addr×Obj)}{σ:St}{H:Hp}{s:Shared}(I:Inv X (af++pl) σ H s):Inv X af σ H s:=I.pins_of fun p hp=>I.pin p (mem_append_right _ (mem_append_left _ hp))
theorem BH {iter:Expr}{body:List Stmt}{wi:TI}{g:TG}{tb:TS}{pos:Pos}(hp:PassesOwn (model X.prog X.w) X.A X.env X.xe)(hc:X.calm=true)(hi:PI X tg iter wi)(hg:PG X tg g)(hb:PSs X body tb)
  (hs:∀x,foldedSetIterable iter X.env x=pure x:=by intro _;rfl):PS X (.For tg iter body [] pos) (Gh wi g tb):=by
 intro af s σ H D I h;refine wpAny_For (bR (hi af s σ H _ I h) fun v s1 h1=>bR h1 fun itv s2 h2=>?_) hs;obtain⟨it,fp,tn,J,H2,e,I2,T,st2,f2,W,⟨m0,w0⟩,turn⟩:=h2;subst e;have stat:∀{H':Hp},(∀b∈fp,H' b=none)→∀b∈fp,cA X af H' b:=fun hn b hb=>⟨hn b hb,(f2 b hb).2⟩
 refine codeAny_forLoop_any (fun n s'=>∃i σ' H',Inv X af σ' H' s'∧tn i s'.heap∧(∀b∈fp,H' b=none)∧W i n σ' H') ?_ m0 ⟨0,σ,H2,I2,st2,fun b hb=>(f2 b hb).1,w0⟩;rintro n s3 ⟨i,σ3,H3,I3,st3,fr3,w3⟩;rcases turn i n σ3 H3 w3 with⟨stop,qn⟩|⟨go,N,hN,step⟩
 ·refine wpAny_passesOwn hp (bR (T.done X rfl rfl rfl hc i af s3 σ3 H3 X.xe I3 (stat fr3) st3 stop) fun r s4 hxx=>?_);obtain⟨hr,I4⟩:=hxx;subst hr;exact wpAny_execs_nil ⟨σ3,H3,I4,qn⟩
 ·refine wpAny_passesOwn hp (bR (T.item X rfl rfl rfl hc i af s3 σ3 H3 X.xe I3 (stat fr3) st3 go) fun r s4 hxx=>?_);obtain⟨u,hr,h4⟩:=hxx;subst hr;refine wpAny_passesOwn hp (bR h4 fun _ s5 hxx=>?_);obtain⟨x,H5,I5,r5,y5,st5,fr5⟩:=hxx;have I5':=I5.pinned (stat fr5) (T.obj _ _ st5);refine wpAny_passesOwn hp (bR (hg _ s5 σ3 H5 x u _ I5' r5 (step x H5 y5)) fun _ s6 hxx=>?_);obtain⟨σ6,H6,I6,q6⟩:=hxx;refine wpAny_passesOwn hp (bR (hb _ s6 σ6 H6 _ I6 q6) fun f s7 q7=>?_);have again:∀{σ7:St} {H7:Hp},Inv X (af++fO fp s5.heap) σ7 H7 s7→N σ7 H7→∃m,m<n∧∃i σ' H',Inv X af σ' H' s7∧tn i s7.heap∧(∀b∈fp,H' b=none)∧W i m σ' H':=fun {σ7 H7} I7 n7=>by
   obtain⟨m',hm,w7⟩:=hN σ7 H7 n7;refine⟨m',hm,i+1,σ7,H7,I7.unpinned,T.keep _ _ _ st5 fun b hb o e=>(I7.pin (b,o) (mem_append_right _ (mem_append_right _ (bC hb e)))).1,fun b hb=>?_,w7⟩;obtain⟨o,e,d⟩:=T.obj _ _ st5 b hb;exact(I7.pin (b,o) (mem_append_right _ (mem_append_right _ (bC hb e)))).2.1
  cases f with
  | next=>obtain⟨σ7,H7,I7,n7⟩:=q7;exact again I7 n7
  | cont=>obtain⟨σ7,H7,I7,n7⟩:=q7;exact again I7 n7
  | brk=>obtain⟨σ7,H7,I7,q7⟩:=q7;exact⟨σ7,H7,I7.unpinned,q7⟩
  | ret v=>obtain⟨x7,σ7,H7,I7,r7,q7⟩:=q7;exact⟨x7,σ7,H7,I7.unpinned,r7,q7⟩
end
abbrev R2:=V→V→Hp→VK→Prop
def gq (X:Cx)(f:Value→Value→Sem Value)(r:R2):Prop:=
 ∀(af:List (Addr×Obj)) (s:Shared) (σ:St) (H:Hp) (x y:V) (v u:Value) (Q:VK),Inv X af σ H s→bi x v→bi y u→r x y H Q→
  wpAny (model X.prog X.w) X.A (f v u) (EP X af σ Q) X.xe s
def Gx (X:Cx)(f:Value→Sem Value)(r:V→Hp→VK→Prop):Prop:=
 ∀(af:List (Addr×Obj)) (s:Shared) (σ:St) (H:Hp) (x:V) (v:Value) (Q:VK),Inv X af σ H s→bi x v→r x H Q→
  wpAny (model X.prog X.w) X.A (f v) (EP X af σ Q) X.xe s
def cB (X:Cx)(f:Value)(r:List V→Hp→VK→Prop):Prop:=
 ∀(af:List (Addr×Obj)) (s:Shared) (σ:St) (H:Hp) (xs:List V) (us:List Value) (Q:VK),Inv X af σ H s→aQ xs us→r xs H Q→
  wpAny (model X.prog X.w) X.A (call f us) (EP X af σ Q) X.xe s
def Gp (X:Cx)(r:V→Hp→(Bool→Hp→Prop)→Prop):Prop:=
 ∀(af:List (Addr×Obj)) (s:Shared) (σ:St) (H:Hp) (x:V) (v:Value) (Q:Bool→Hp→Prop),Inv X af σ H s→bi x v→r x H Q→
  wpAny (model X.prog X.w) X.A (truthy v) (TP X af σ Q) X.xe s
def Dg (r:R2)(ta tb:TE):TE:=fun σ H Q=>ta σ H fun x H1=>tb σ H1 fun y H2=>r x y H2 Q
def GV (r:V→Hp→VK→Prop)(ta:TE):TE:=fun σ H Q=>ta σ H fun x H1=>r x H1 Q
def rI (C:Int→Int→Prop)(g:Int→Int→V):R2:=fun x y H Q=>∃i j,x=.int i∧y=.int j∧C i j∧Q (g i j) H
def z0 (g:Int→Int→V):R2:=fun x y H Q=>∃i j,x=.int i∧y=.int j∧Q (g i j) H
def rU (g:Int→V):V→Hp→VK→Prop:=fun x H Q=>∃i,x=.int i∧Q (g i) H
section
variable {X:Cx}{a b c:Expr}{ta tb tc:TE}{pos:Pos}
theorem Ci (ha:PE X a ta)(hb:PE X b tb){af:List (Addr×Obj)}{s:Shared}{σ:St}{H:Hp}{R:V→V→Hp→Prop}(I:Inv X af σ H s)
  (h:ta σ H fun x H1=>tb σ H1 fun y H2=>R x y H2) {Q:Value→Shared→Prop} {f:Value→Value→Sem Value}
  (hf:∀v u s2 x y H2,Inv X af σ H2 s2→bi x v→bi y u→R x y H2→wpAny (model X.prog X.w) X.A (f v u) Q X.xe s2) :
  wpAny (model X.prog X.w) X.A (eval a X.env) (fun v s₁=>wpAny (model X.prog X.w) X.A (eval b X.env) (fun u s₂=>wpAny (model X.prog X.w) X.A (f v u) Q X.xe s₂) X.xe s₁) X.xe s:=by
 refine bR (ha af s σ H _ I h) fun v s1 hxx=>?_
 obtain⟨x,H1,I1,r1,q1⟩:=hxx;refine bR (hb af s1 σ H1 _ I1 q1) fun u s2 hxx=>?_
 obtain⟨y,H2,I2,r2,q2⟩:=hxx;exact hf v u s2 x y H2 I2 r1 r2 q2
theorem CY {op:Operator}{r:R2}(ho:gq X (binaryOp op) r)(ha:PE X a ta)(hb:PE X b tb):PE X (.BinOp a op b pos) (Dg r ta tb):=by
 intro af s σ H Q I h;exact wpAny_BinOp (Ci ha hb I h fun v u s2 x y H2 I2 rx ry q=>ho af s2 σ H2 x y v u Q I2 rx ry q)
theorem Ap {op:UnaryOp}{r:V→Hp→VK→Prop}(ho:Gx X (unaryOp op) r)(ha:PE X a ta):PE X (.UnaryOp op a pos) (GV r ta):=by
 intro af s σ H Q I h;exact UnaryOp_ (bR (ha af s σ H _ I h) fun v s1 ⟨x,H1,I1,r1,q1⟩=>ho af s1 σ H1 x v Q I1 r1 q1)
theorem F9 {f:Value→Value→Sem Value}{C:Int→Int→Prop}{g:Int→Int→Int}
  (rule:∀(i j:Int) (t u:Tok) (s:Shared) (Q:Value→Shared→Prop) (E:Value→Shared→Prop),C i j→Q (.int (g i j) s.toks) {s with toks:=s.toks+1}→wpAny (model X.prog X.w) X.A (f (.int i t) (.int j u)) Q E s) :
  gq X f (rI C fun i j=>.int (g i j)):=by
 intro af s σ H x y v u Q I rx ry h;obtain⟨i,j,rfl,rfl,hc,q⟩:=h;obtain⟨t,rfl⟩:=rx;obtain⟨t',rfl⟩:=ry;exact rule i j t t' s _ _ hc ⟨.int (g i j),H,I.tok _,⟨_,rfl⟩,q⟩
theorem D6 {f:Value→Value→Sem Value}{g:Int→Int→Int}
  (rule:∀(i j:Int) (t u:Tok) (s:Shared) (Q:Value→Shared→Prop) (E:Value→Shared→Prop),Q (.int (g i j) s.toks) {s with toks:=s.toks+1}→wpAny (model X.prog X.w) X.A (f (.int i t) (.int j u)) Q E s) :
  gq X f (z0 fun i j=>.int (g i j)):=by
 intro af s σ H x y v u Q I rx ry h;obtain⟨i,j,rfl,rfl,q⟩:=h;obtain⟨t,rfl⟩:=rx;obtain⟨t',rfl⟩:=ry;exact rule i j t t' s _ _ ⟨.int (g i j),H,I.tok _,⟨_,rfl⟩,q⟩
theorem zT {f:Value→Value→Sem Value}{g:Int→Int→Bool}
  (rule:∀(i j:Int) (t u:Tok) (s:Shared) (Q:Value→Shared→Prop) (E:Value→Shared→Prop),Q (.bool (g i j)) s→wpAny (model X.prog X.w) X.A (f (.int i t) (.int j u)) Q E s) :
  gq X f (z0 fun i j=>.bl (g i j)):=by
 intro af s σ H x y v u Q I rx ry h;obtain⟨i,j,rfl,rfl,q⟩:=h;obtain⟨t,rfl⟩:=rx;obtain⟨t',rfl⟩:=ry;exact rule i j t t' s _ _ ⟨.bl (g i j),H,I,rfl,q⟩
def FP (i j:Int):Prop:=0≤j∧j≤1000000∧i.natAbs<2 ^ 64
def BZ (i j:Int):Prop:=(-(2 ^ 64)<i∧i<2 ^ 64)∨(-(2 ^ 64)<j∧j<2 ^ 64)
theorem BZ.ok {i j:Int}(h:BZ i j):IntMulOk i j:=by
 rcases h with⟨h1,h2⟩|⟨h1,h2⟩
 ·exact .of_left (intBits_le_64 h1 h2)
 ·exact .of_right (intBits_le_64 h1 h2)
theorem BG:gq X (binaryOp .Add) (z0 fun i j=>.int (i+j)):=D6 fun _ _ _ _ _ _ _ q=>add_int q
theorem AK:gq X (binaryOp .Sub) (z0 fun i j=>.int (i-j)):=D6 fun _ _ _ _ _ _ _ q=>sub_int q
theorem AA:gq X (binaryOp .Mult) (rI BZ fun i j=>.int (i*j)):=F9 fun _ _ _ _ _ _ _ hc q=>mul_int q hc.ok
theorem AV:gq X (binaryOp .Mod) (rI (fun _ j=>0<j) fun i j=>.int (i % j)):=F9 fun i j _ _ _ _ _ hc q=>by
 have h1:(0:Int)<j:=hc;exact mod_int' (by omega) (by rw[Int.fmod_eq_emod_of_nonneg i (by omega)];exact q)
theorem Cc:gq X (binaryOp .Pow) (rI FP fun i j=>.int (i ^ j.toNat)):=F9 fun _ _ _ _ _ _ _ hc q=>pow_int_small hc.1 hc.2.1 hc.2.2 q
theorem GH {f:Value→Sem Value}{g:Int→Int}
  (rule:∀(i:Int) (t:Tok) (s:Shared) (Q:Value→Shared→Prop) (E:Value→Shared→Prop),Q (.int (g i) s.toks) {s with toks:=s.toks+1}→wpAny (model X.prog X.w) X.A (f (.int i t)) Q E s) :
  Gx X f (rU fun i=>.int (g i)):=by
 intro af s σ H x v Q I rx h;obtain⟨i,rfl,q⟩:=h;obtain⟨t,rfl⟩:=rx;exact rule i t s _ _ ⟨.int (g i),H,I.tok _,⟨_,rfl⟩,q⟩
theorem v9:Gx X (unaryOp .USub) (rU fun i=>.int (-i)):=GH fun _ _ _ _ _ q=>neg_int q
end
section
variable {X:Cx}{a b c:Expr}{ta tb tc:TE}{pos:Pos}
theorem EC:gq X (compareOp .Lt) (z0 fun i j=>.bl (decide (i<j))):=zT fun _ _ _ _ _ _ _ q=>lt_int q
theorem C0:gq X (compareOp .LtE) (z0 fun i j=>.bl (decide (i≤j))):=zT fun _ _ _ _ _ _ _ q=>le_int q
theorem DN:gq X (compareOp .Gt) (z0 fun i j=>.bl (decide (j<i))):=zT fun _ _ _ _ _ _ _ q=>gt_int q
theorem D5:gq X (compareOp .GtE) (z0 fun i j=>.bl (decide (j≤i))):=zT fun _ _ _ _ _ _ _ q=>ge_int q
def E4:HO→Bool
 | .lst _=>true
 | .ins _ _ _=>true
 | _=>false
theorem CM {af:List (Addr×Obj)}{s:Shared}{σ:St}{H:Hp}{a:Addr}{o:HO}(I:Inv X af σ H s)(h:H a=some o)(p:E4 o=true):∃ob,s.heap.get? a=some ob∧ob.cls≠.type "tuple":=by
 cases o with
 | lst xs=>
  obtain⟨_,its,n,_,e⟩:xs.length≤sizeLine∧∃(its:List Value) (n:Nat),aQ xs its∧s.heap.get? a=some {cls:=.type "list",data:=.seq its.toArray n}:=I.hok a _ h;exact⟨_,e,(by show Value.type "list"≠.type "tuple";decide +kernel)⟩
 | ins C dx fs=>
  have x:=I.hok a _ h;obtain⟨_,_,_,e,_⟩:=x;exact⟨_,e,(by show Value.ref C≠.type "tuple";exact fun z=>by cases z)⟩
 | _=>exact absurd (show false=true from p) Bool.false_ne_true
theorem Co (b:Expr){op:CmpOp}(h:op≠.In:=by decide)(h2:op≠.NotIn:=by decide):behindInMarks op b=false:=by
 have e1:(op==CmpOp.In)=false:=by cases op <;> first|rfl|exact absurd rfl h
 have e2:(op==CmpOp.NotIn)=false:=by cases op <;> first|rfl|exact absurd rfl h2
 cases b <;> simp[behindInMarks,e1,e2]
theorem zz {op:CmpOp}{r:R2}(ho:gq X (compareOp op) r)(ha:PE X a ta)(hb:PE X b tb)(hm:behindInMarks op b=false):PE X (.Compare a [op] [b] pos) (Dg r ta tb):=by
 intro af s σ H Q I h;exact wpAny_Compare1 (Ci ha hb I h fun v u s2 x y H2 I2 rx ry q=>ho af s2 σ H2 x y v u Q I2 rx ry q) hm
def Af (t:TE):TT:=fun σ H Q=>t σ H fun x H'=>∃k,x=.bl k∧Q k H'
theorem yC {op:CmpOp}{r:R2}(ho:gq X (compareOp op) r)(ha:PE X a ta)(hb:PE X b tb)(hm:behindInMarks op b=false):PT X (.Compare a [op] [b] pos) (Af (Dg r ta tb)):=by
 intro af s σ H Q I h;refine wpAny_isTrue_Compare1 (bR (ha af s σ H _ I h) fun v s1 ⟨x,H1,I1,r1,q1⟩=>bR (hb af s1 σ H1 _ I1 q1) fun u s2 ⟨y,H2,I2,r2,q2⟩=>
  bR (ho af s2 σ H2 x y v u _ I2 r1 r2 q2) fun c s3 hxx=>?_) hm
 obtain⟨z,H3,I3,r3,k,e,q3⟩:=hxx;subst e;cases r3;exact wpAny_truthy_bool ⟨H3,I3,q3⟩
def vQ (r r':R2)(ta tb tc:TE):TE:=fun σ H Q=>ta σ H fun x H1=>tb σ H1 fun y H2=>r x y H2 fun z H3=>∃k,z=.bl k∧
 (if k=true then tc σ H3 fun w' H4=>r' y w' H4 Q else Q (.bl false) H3)
theorem wJ {op op':CmpOp}{r r':R2}(ho:gq X (compareOp op) r)(ho':gq X (compareOp op') r')(ha:PE X a ta)(hb:PE X b tb)(hc:PE X c tc)
  (hm:lastMarks [op,op'] [b,c]=false:=by with_unfolding_all rfl):PT X (.Compare a [op,op'] [b,c] pos) (Af (vQ r r' ta tb tc)):=by
 intro af s σ H Q I h;refine isTrue_chain (bR (ha af s σ H _ I h) fun v s1 ⟨x,H1,I1,r1,q1⟩=>test_link (bR (hb af s1 σ H1 _ I1 q1) fun u s2 ⟨y,H2,I2,r2,q2⟩=>
  bR (ho af s2 σ H2 x y v u _ I2 r1 r2 q2) fun d s3 hxx=>?_)) hm
 obtain⟨z,H3,I3,r3,k,e,q3⟩:=hxx;subst e;cases r3;refine wpAny_truthy_bool ?_;cases k with
 | false=>
  obtain⟨k',e',q'⟩:=q3;cases e';exact ite_ff ⟨H3,I3,q'⟩
 | true=>
  refine ite_tt (test_last (bR (hc af s3 σ H3 _ I3 q3) fun w' s4 ⟨z',H4,I4,r4,q4⟩=>bR (ho' af s4 σ H4 y z' u w' _ I4 r2 r4 q4) fun d' s5 hxx=>?_));obtain⟨z2,H5,I5,r5,k2,e2,q5⟩:=hxx;subst e2;cases r5;exact wpAny_truthy_bool ⟨H5,I5,q5⟩
def ED (K:W.Frag)(x:V)(H:Hp)(k:Bool):Prop:=
 match x with
 | .non=>k=false
 | .bl b=>k=b
 | .int i=>k=(i != 0)
 | .str y=>y.length≤sizeLine∧k=((y.length:Int) != 0)
 | .byt y=>y.size≤sizeLine∧k=((y.size:Int) != 0)
 | .ref p=>(∃xs,iM K H p xs∧k=!xs.isEmpty)∨(∃xs,lU K H p xs∧k=!xs.isEmpty)∨∃kvs,H p=some (.dK kvs)∧k=!kvs.isEmpty
 | _=>False
theorem sv {κ:Type}{kvs:List (κ×V)}{vs:List (κ×Value)}(r:KV kvs vs):(!vs.isEmpty)=!kvs.isEmpty:=by
 cases r <;> rfl
theorem l9 {xs:List V}{its:List Value}(r:aQ xs its):(!its.toArray.isEmpty)=!xs.isEmpty:=by
 cases r <;> simp
theorem kX:(sizeLine:Nat)<2 ^ 63:=by rw[sizeLine_eq];decide
theorem Bm:Gp X (fun x H Q=>∃k,ED X.K x H k∧Q k H):=by
 intro af s σ H x v Q I rx h;obtain⟨k,e,q⟩:=h;have hl:=kX;have hs:sizeLine=16777216:=sizeLine_eq;cases x with
 | non=>
  cases rx;have e':k=false:=e;subst e';exact truthy_none ⟨H,I,q⟩
 | bl b=>
  cases rx;have e':k=b:=e;subst e';exact wpAny_truthy_bool ⟨H,I,q⟩
 | int i=>
  obtain⟨t,rfl⟩:=rx;have e':k=(i != 0):=e;subst e';exact PySem.P.truthy_int ⟨H,I,q⟩
 | str y=>
  obtain⟨t,rfl⟩:=rx;obtain⟨hy,e'⟩:y.length≤sizeLine∧k=((y.length:Int) != 0):=e;subst e';exact PySem.P.truthy_str (by omega) ⟨H,I.tok _,q⟩
 | byt y=>
  obtain⟨t,rfl⟩:=rx;obtain⟨hy,e'⟩:y.size≤sizeLine∧k=((y.size:Int) != 0):=e;subst e';exact W.truthy_bytes (by omega) ⟨H,I.tok _,q⟩
 | ref p=>
  cases rx;have e':(∃xs,iM X.K H p xs∧k=!xs.isEmpty)∨(∃xs,lU X.K H p xs∧k=!xs.isEmpty)∨∃kvs,H p=some (.dK kvs)∧k=!kvs.isEmpty:=e;rcases e' with⟨xs,hx,e'⟩|⟨xs,hx,e'⟩|⟨kvs,hx,e'⟩
  ·subst e';obtain⟨its,r,pl,hz⟩:=I.list hx;have hlen:=r.length;exact wpAny_truthy_list pl.isList (by simp only[size_toArray];omega) ⟨H,I.tok _,by rw[l9 r];exact q⟩
  ·subst e';obtain⟨its,r,pl,hz⟩:=I.tuple hx;have hlen:=r.length;exact truthy_tuple pl (by simp only[size_toArray];omega) ⟨H,I.tok _,by rw[l9 r];exact q⟩
  ·subst e';obtain⟨hz,hS,vs,r,m⟩:kvs.length≤sizeLine∧(p==sysModules)=false∧∃vs,KV kvs vs∧s.heap.DictOf (oN X.prog X.w) p vs:=I.hok p _ hx;have hlen:kvs.length=vs.length:=Paired.length r;exact wpAny_truthy_dict hS m (by omega) ⟨H,I.tok _,by rw[sv r];exact q⟩
 | _=>exact(show False from e).elim
theorem wa (ha:PE X a ta)(he:∀whole,isTrue a X.env whole=(do let v ←whole;standAt a.pos;holding [v] (truthy v))) :
  PT X a (fun σ H Q=>ta σ H fun x H'=>∃k,ED X.K x H' k∧Q k H'):=by
 intro af s σ H Q I h;exact isTrue_plain (bR (ha af s σ H _ I h) fun v s1 ⟨x,H1,I1,r1,q1⟩=>Bm af s1 σ H1 x v Q I1 r1 q1) (he _)
theorem rK:gq X (binaryOp .Add) (fun x y H Q=>∃i j,x=.str i∧y=.str j∧i.length+j.length≤sizeLine∧Q (.str (i++j)) H):=by
 intro af s σ H x y v u Q I rx ry h;obtain⟨i,j,rfl,rfl,hz,q⟩:=h;obtain⟨t,rfl⟩:=rx;obtain⟨t',rfl⟩:=ry;exact add_str (fun t' tk=>⟨.str (i++j),H,I.tok _,⟨_,rfl⟩,q⟩) hz
theorem iY {x:V}{us:List Value}(r:aQ [x] us):∃u,us=[u]∧bi x u:=by
 cases r with
 | cons r1 r2=>cases r2;exact⟨_,rfl,r1⟩
theorem vK {x y:V}{us:List Value}(r:aQ [x,y] us):∃u w',us=[u,w']∧bi x u∧bi y w':=by
 cases r with
 | cons r1 r2=>
  cases r2 with
  | cons r3 r4=>cases r4;exact⟨_,_,rfl,r1,r3⟩
theorem uI (hc:X.calm=true):cB X (.builtin "max") (fun xs H Q=>∃i j,xs=[.int i,.int j]∧Q (.int (if j>i then j else i)) H):=by
 intro af s σ H xs us Q I r h;obtain⟨i,j,rfl,q⟩:=h;obtain⟨u,w',rfl,⟨t,rfl⟩,⟨t',rfl⟩⟩:=vK r;refine max_two_ints (I.ok.hd hc) fun h' tk k=>⟨_,H,I.kept k,?_,q⟩
 by_cases hj:j>i
 ·rw[if_pos hj,if_pos hj];exact⟨_,rfl⟩
 ·rw[if_neg hj,if_neg hj];exact⟨_,rfl⟩
theorem ug (hc:X.calm=true):cB X (.builtin "min") (fun xs H Q=>∃i j,xs=[.int i,.int j]∧Q (.int (if j<i then j else i)) H):=by
 intro af s σ H xs us Q I r h;obtain⟨i,j,rfl,q⟩:=h;obtain⟨u,w',rfl,⟨t,rfl⟩,⟨t',rfl⟩⟩:=vK r;refine min_two_ints (I.ok.hd hc) fun h' tk k=>⟨_,H,I.kept k,?_,q⟩
 by_cases hj:j<i
 ·rw[if_pos hj,if_pos hj];exact⟨_,rfl⟩
 ·rw[if_neg hj,if_neg hj];exact⟨_,rfl⟩
theorem nP:cB X (.type "int") (fun xs H Q=>(∃i,xs=[.int i]∧Q (.int i) H)∨∃k,xs=[.bl k]∧Q (.int (if k then 1 else 0)) H):=by
 intro af s σ H xs us Q I r h;rcases h with⟨i,rfl,q⟩|⟨k,rfl,q⟩
 ·obtain⟨u,rfl,t,rfl⟩:=iY r;exact call_int_int ⟨.int i,H,I,⟨_,rfl⟩,q⟩
 ·obtain⟨u,rfl,r1⟩:=iY r;cases r1;exact call_int_bool ⟨.int (if k then 1 else 0),H,I.tok _,⟨_,rfl⟩,q⟩
end
structure GQ (K:W.Frag)(C:Addr):Prop where
 pg:W.plainGet K C Str.empty=true
 hd:W.hasDictIn K C=true
 po:W.plainOver K C=true
 sa:W.findIn K (.ref C) "__setattr__"=some (some (.builtin "object.__setattr__"))
def CB (K:W.Frag)(C:Addr)(f:Str):Prop:=W.findIn K (.ref C) f=some none
structure Fv (K:W.Frag)(C:Addr)(m:Str)(f:Addr):Prop where
 at_:W.findIn K (.ref C) m=some (some (.ref f))
 fn:W.isFn K (.ref f)=true
 kp:W.keepIn K (.ref f)=true
structure bp (k:Nat)(A:Around):Prop where
 hd:A.handled=none
 dp:A.depth+3*k+5<recursionLimit
 un:A.units+16*k+200<cLine
theorem bp.mono {j k:Nat}{A:Around}(r:bp k A)(h:j≤k):bp j A:=⟨r.hd,by have:=r.dp;omega,by have:=r.un;omega⟩
theorem bp.deeper {k:Nat}{A:Around}(r:bp (k+1) A)(env:Env):bp k (A.deeper env):=
 ⟨r.hd,by have:=r.dp;show A.depth+1+3*k+5<_;omega,by have:=r.un;show A.units+3+16*k+200<_;omega⟩
theorem bp.in1 {k:Nat}{A:Around}(r:bp (k+1) A):bp k A.in1:=
 ⟨r.hd,by have:=r.dp;show A.depth+3*k+5<_;omega,by have:=r.un;show A.units+1+16*k+200<_;omega⟩
theorem bp.depth {k:Nat}{A:Around}(r:bp k A):A.depth<recursionLimit:=by have:=r.dp;omega
theorem bp.units {k:Nat}{A:Around}(r:bp k A):A.units+64<cLine:=by have:=r.un;omega
theorem bp.units0 {k:Nat}{A:Around}(r:bp k A):A.units<cLine:=by have:=r.un;omega
def DF:TA:=fun _ H Q=>Q [] H
def Ab (ta:TE)(tr:TA):TA:=fun σ H Q=>ta σ H fun x H1=>tr σ H1 fun xs H2=>Q (x::xs) H2
section
variable {X:Cx}{e:Expr}{es:List Expr}{te:TE}{t:TA}{pos:Pos}
theorem oP:PA X [] DF:=fun _ _ _ _ H Q I h=>Calls.spliced_nil ⟨[],H,I,.nil,h⟩
theorem kj (ha:PE X e te)(hr:PA X es t)(hs:starEach (e::es) X.env=(false,eval e X.env)::starEach es X.env:=by rfl):PA X (e::es) (Ab te t):=by
 intro pos af s σ H Q I h;rw[hs];show wpAny _ _ (spliced ((false,eval e X.env)::backTo pos (starEach es X.env))) _ _ s;refine Calls.spliced_cons (bR (ha af s σ H _ I h) fun u s1 hxx=>?_);obtain⟨x,H1,I1,r1,q1⟩:=hxx;exact bR (hr pos af s1 σ H1 _ I1 q1) fun us s2 ⟨xs,H2,I2,r2,q2⟩=>⟨x::xs,H2,I2,.cons r1 r2,q2⟩
def F0 (t:TA):TE:=fun σ H Q=>t σ H fun xs H1=>xs.length≤sizeLine∧∀p,H1 p=none→Q (.ref p) (bS H1 p (.tup xs))
def Fx (t:TA):TE:=fun σ H Q=>t σ H fun xs H1=>xs.length≤sizeLine∧∀p,H1 p=none→Q (.ref p) (bS H1 p (.lst xs))
theorem A4 {x1}(h:PA X es t):PE X (.Tuple es x1 pos) (F0 t):=by
 intro af s σ H Q I hq;refine wpAny_Tuple_spliced (bR (h pos af s σ H _ I hq) fun us s1 ⟨xs,H1,I1,r,z,q⟩=>⟨by rw[←r.length];exact z,?_⟩);have hf:H1 s1.heap.objs.size=none:=I1.hok.fresh (Nat.le_refl _);refine⟨.ref s1.heap.objs.size,bS H1 s1.heap.objs.size (.tup xs),I1.laid (t':=s1.toks) (fun b u e=>Heap.get?_push_of_some _ e) (Nat.le_refl _) ?_,rfl,q _ hf⟩;exact⟨z,us,r,⟨_,Heap.get?_push_size _ rfl,rfl,_,rfl⟩⟩
theorem xj (h:PA X es t):PE X (.List es pos) (Fx t):=by
 intro af s σ H Q I hq;refine wpAny_List_spliced (bR (h pos af s σ H _ I hq) fun us s1 ⟨xs,H1,I1,r,z,q⟩=>⟨by rw[←r.length];exact z,?_⟩);have hf:H1 s1.heap.objs.size=none:=I1.hok.fresh (Nat.le_refl _);refine⟨.ref s1.heap.objs.size,bS H1 s1.heap.objs.size (.lst xs),I1.laid (t':=s1.toks) (fun b u e=>Heap.get?_push_of_some _ e) (Nat.le_refl _) ?_,rfl,q _ hf⟩;exact⟨z,us,0,r,Heap.get?_push_size _ rfl⟩
end
abbrev Sp:=List V→Hp→VK→XK→Prop
abbrev vm:=List Env→Hp→Shared→XK→Value→Shared→Prop
structure rO (P:Program)(w:World)(K:W.Frag)(mg:Str→Option Value)(base:Heap)(A:Around)(outer:List Env)(s:Shared)(H:Hp):Prop where
 frames:A.frames=some outer
 mod:Mod K mg base
 bs:∀b o,base.get? b=some o→s.heap.get? b=some o∧H b=none
 bsz:base.objs.size≤s.heap.objs.size
 funs:s.heap.FunFrames base outer
 frf:∀b∈kW outer,H b=none
 hok:jM P w H s.heap
 bare:AllBare s.gens
def CE (outer:List Env)(P:Program)(w:World)(H:Hp)(s:Shared)(Q:VK)(u:Value)(s':Shared):Prop:=
 ∃v H',s'.os=s.os∧AllBare s'.gens∧Un (kW outer) [] H H' s.heap s'.heap∧jM P w H' s'.heap∧bi v u∧Q v H'
def CR (CX:vm)(outer:List Env)(P:Program)(w:World)(H:Hp)(s:Shared)(Q:VK)(E:XK)(r:Result)(s':Shared):Prop:=
 match r with
 | .ok (.ret u)=>CE outer P w H s Q u s'
 | .ok _=>False
 | .error e=>CX outer H s E e s'
structure eM (P:Program)(w:World)(K:W.Frag)(mg:Str→Option Value)(base:Heap)(CX:vm)(k:Nat)(f:Addr)(fd:FuncData)(ps:List Str)(sp:Sp):Prop where
 len:∀vs H Q E,sp vs H Q E→vs.length=ps.length
 run:∀(A:Around) (outer:List Env) (s:Shared) (H:Hp) (args:Args) (us:List Value) (vs:List V) (Q:VK) (E:XK),bp k A→rO P w K mg base A outer s H→BindsTo s fd args (ps.zip us)→aQ vs us→sp vs H Q E→
  codeAny (model P w) A (.call (.ref f) args) (CR CX outer P w H s Q E) s
theorem eM.imp {P:Program}{w:World}{K:W.Frag}{mg:Str→Option Value}{base:Heap}{CX:vm}{k:Nat}{f:Addr}{fd:FuncData}{ps:List Str}{sp sp':Sp}(F:eM P w K mg base CX k f fd ps sp)
  (h:∀vs H Q E,sp' vs H Q E→sp vs H Q E):eM P w K mg base CX k f fd ps sp':=
 ⟨fun vs H Q E q=>F.len vs H Q E (h _ _ _ _ q),fun A outer s H args us vs Q E hr he hb hv hs=>F.run A outer s H args us vs Q E hr he hb hv (h _ _ _ _ hs)⟩
theorem rO.in1 {P:Program}{w:World}{K:W.Frag}{mg:Str→Option Value}{base:Heap}{A:Around}{outer:List Env}{s:Shared}{H:Hp}(e:rO P w K mg base A outer s H) :
  rO P w K mg base A.in1 outer s H:=⟨e.frames,e.mod,e.bs,e.bsz,e.funs,e.frf,e.hok,e.bare⟩
section
variable {X:Cx}{af:List (Addr×Obj)}{σ:St}{H:Hp}{s s':Shared}
theorem Inv.env0 (I:Inv X af σ H s):rO X.prog X.w X.K X.mg X.base X.A X.stack s H:=
 ⟨I.ok.frames,I.ok.mod,I.bs,Nat.le_trans I.ok.bsz I.sz,I.stack,I.stkFree,I.hok,I.bare⟩
theorem Inv.after {Q:VK}{u:Value}(I:Inv X af σ H s)(h:CE X.stack X.prog X.w H s Q u s'):EP X af σ Q u s':=by
 obtain⟨v,H',os,bare,un,hok,r,q⟩:=h;obtain⟨hh,g,d,t,os'⟩:=s';obtain rfl:os'=s.os:=os;exact⟨v,H',I.call (h':=hh) (g':=g) (d':=d) (t':=t) (ch:=[]) un hok bare (fun b z=>absurd z (by simp)),r,q⟩
end
def Dt (sp:Sp)(dvs:List V)(E:XK)(t:TA):TE:=fun σ H Q=>t σ H fun vs H1=>sp (vs++dvs) H1 Q E
def i7 (K:W.Frag)(fd:FuncData)(ps:List Str)(ds:List Value):Prop:=
 ∀(s:Shared) (us:List Value),K.In s.heap→(us++ds).length=ps.length→BindsTo s fd ⟨us,[]⟩ (ps.zip (us++ds))
theorem i7.all {K:W.Frag}{fd:FuncData}{ps:List Str}(h:∀us:List Value,us.length=ps.length→bindArgs fd ⟨us,[]⟩=pure (ps.zip us)):i7 K fd ps []:=fun s us _ hl=>by
 rw[append_nil] at hl ⊢;exact .of_eq (h us hl)
def rV (CX:vm)(X:Cx)(E:XK):Prop:=∀(af:List (Addr×Obj)) (σ:St) (H:Hp) (s:Shared) (e:Value) (s':Shared),Inv X af σ H s→CX X.stack H s E e s'→X.xe e s'
section
variable {X:Cx}{CX:vm}{k:Nat}{f C:Addr}{fd:FuncData}{ps:List Str}{sp:Sp}{dvs:List V}{ds:List Value}{E:XK}{x m:Str}{p pos apos:Pos}{e o:Expr}{es:List Expr}{ta:TE}{t:TA}
theorem CK {af:List (Addr×Obj)}{σ:St}{H:Hp}{s:Shared}{Q:VK}{us:List Value}{vs:List V}(F:eM X.prog X.w X.K X.mg X.base CX k f fd ps sp)(hr:bp k X.A)(hb:i7 X.K fd ps ds)(hd:aQ dvs ds)(hx:rV CX X E)
  (I:Inv X af σ H s) (r:aQ vs us) (h:sp (vs++dvs) H Q E):wpAny (model X.prog X.w) X.A (call (.ref f) us) (EP X af σ Q) X.xe s:=by
 have r2:aQ (vs++dvs) (us++ds):=r.append hd;have hl:(us++ds).length=ps.length:=by rw[←r2.length];exact F.len _ _ _ _ h
 refine wpAny_call (codeAny_mono (F.run X.A X.stack s H ⟨us,[]⟩ (us++ds) (vs++dvs) Q E hr I.env0 (hb s us I.kIn hl) r2 h) fun r s' hq=>?_);cases r with
 | error e=>exact hx af σ H s e s' I hq
 | ok fl=>
  cases fl with
  | ret u=>exact I.after hq
  | next=>exact False.elim hq
  | brk=>exact False.elim hq
  | cont=>exact False.elim hq
theorem yv (F:eM X.prog X.w X.K X.mg X.base CX k f fd ps sp)(hr:bp k X.A)(hg:Gl X x)(hm:X.mg x=some (.ref f))(hk:W.keepIn X.K (.ref f)=true)(hb:i7 X.K fd ps ds)(hd:aQ dvs ds)(hx:rV CX X E)
  (ha:PA X (e::es) t) (hdb:(x==("__debug__":Str))=false:=by decide) (he:starEach (e::es) X.env=(false,eval e X.env)::starEach es X.env:=by rfl) (hpl:(backTo pos (starEach es X.env)).any (·.1)=false:=by rfl) :
  PE X (.Call (.Name x p) (e::es) [] pos) (Dt sp dvs E t):=by
 intro af s σ H Q I h;refine wpAny_Call_Name_kw (zL I hg hm ?_ hdb);refine W.callWith_K (h₀:=X.base) I.ok.mod.kin hk (bR (ha pos af s σ H _ I h) fun us s1 ⟨vs,H1,I1,r,q⟩=>⟨I1.kIn,?_⟩) he hpl;exact CK F hr hb hd hx I1 r q
end
structure c9 (N P:List Str)(sc:Scope):Prop where
 kind:sc.kind=.function
 co:sc.isCoroutine=false
 gen:sc.isGenerator=false
 nd:N.Nodup
 pre:N.take P.length=P
 par:∀x∈P,sc.names.lookup x=some .local∨sc.names.lookup x=some .cell
 nofree:∀y∈sc.names,y.2≠.free
theorem nO {kindOf:Str→Option NameKind}{x:Str}:∀{binds:List (Str×Value)} {m:Str→Option Value},(∀v,(x,v)∉binds)→bindL kindOf binds m x=m x
 | [],_,_=>rfl
 | (n,v)::r,m,h=>by
  unfold bindL;rw[nO fun w hw=>h w (mem_cons_of_mem _ hw)];split
  ·have:x≠n:=by rintro rfl;exact h v mem_cons_self
   simp[this]
  ·rfl
theorem n6 {kindOf:Str→Option NameKind}{x:Str}:∀{binds:List (Str×Value)} {m:Str→Option Value},(∀v,(x,v)∉binds)→bindC kindOf binds m x=m x
 | [],_,_=>rfl
 | (n,v)::r,m,h=>by
  unfold bindC;rw[n6 fun w hw=>h w (mem_cons_of_mem _ hw)];split
  ·rfl
  ·have:x≠n:=by rintro rfl;exact h v mem_cons_self
   simp[this]
theorem nA {kindOf:Str→Option NameKind}{x:Str}{v:Value}:∀{P:List Str} {vs:List Value} {i:Nat} {m:Str→Option Value},P.Nodup→P[i]?=some x→vs[i]?=some v→kindOf x=some .local→
  bindL kindOf (P.zip vs) m x=some v
 | [],_,_,_,_,h,_,_=>by simp at h
 | _::_,[],_,_,_,_,h,_=>by simp at h
 | p::P,w::vs,0,m,nd,h1,h2,hk=>by
  simp at h1 h2;subst h1;subst h2;show bindL kindOf ((p,w)::P.zip vs) m p=_;unfold bindL;rw[nO fun v hv=>(nodup_cons.mp nd).1 (of_mem_zip hv).1,if_pos hk];simp
 | p::P,w::vs,i+1,m,nd,h1,h2,hk=>by
  show bindL kindOf ((p,w)::P.zip vs) m x=_;unfold bindL;exact nA (i:=i) (nodup_cons.mp nd).2 (by simpa using h1) (by simpa using h2) hk
theorem n5 {kindOf:Str→Option NameKind}{x:Str}{v:Value}:∀{P:List Str} {vs:List Value} {i:Nat} {m:Str→Option Value},P.Nodup→P[i]?=some x→vs[i]?=some v→kindOf x≠some .local→
  bindC kindOf (P.zip vs) m x=some v
 | [],_,_,_,_,h,_,_=>by simp at h
 | _::_,[],_,_,_,_,h,_=>by simp at h
 | p::P,w::vs,0,m,nd,h1,h2,hk=>by
  simp at h1 h2;subst h1;subst h2;show bindC kindOf ((p,w)::P.zip vs) m p=_;unfold bindC;rw[n6 fun v hv=>(nodup_cons.mp nd).1 (of_mem_zip hv).1,if_neg hk];simp
 | p::P,w::vs,i+1,m,nd,h1,h2,hk=>by
  show bindC kindOf ((p,w)::P.zip vs) m x=_;unfold bindC;exact n5 (i:=i) (nodup_cons.mp nd).2 (by simpa using h1) (by simpa using h2) hk
def start (N:List Str)(vs:List V):St:=vs.map some++List.replicate (N.length-vs.length) none
def fh (CX:vm)(P:Program)(w:World)(K:W.Frag)(mg:Str→Option Value)(base:Heap)(N:List Str)(qual:Str)(scope:Scope)(f:Addr)(cd:Value)(A:Around)(outer:List Env)(s:Shared)(H:Hp)(E:XK):Cx where
 prog:=P
 w:=w
 K:=K
 mg:=mg
 base:=base
 A:=A.deeper (envOfC qual scope s.heap.objs.size f cd)
 N:=N
 s₀:=s
 H₀:=H
 env:=envOfC qual scope s.heap.objs.size f cd
 outer:=outer
 stack:=envOfC qual scope s.heap.objs.size f cd::outer
 ex:=[]
 calm:=true
 fn:=fun _=>true
 pn:=[]
 xe:=fun e s'=>wpAny (model P w) (A.deeper (envOfC qual scope s.heap.objs.size f cd)) (leaving (envOfC qual scope s.heap.objs.size f cd) e) (fun _ s''=>CX outer H s E e s'') (fun e' s''=>CX outer H s E e' s'') s'
theorem pN {sc:Scope}{n:Nat}{x:Str}(h:sc.names.lookup x=some .cell):∃c,(cellsFrom n sc.names []).lookup x=some c:=by
 have q:=W.cellsFrom_some sc.names n [] (.inl h);exact Option.isSome_iff_exists.mp q
theorem nM {CX:vm}{P:Program}{w:World}{K:W.Frag}{mg:Str→Option Value}{base:Heap}{N ps:List Str}{qual:Str}{scope:Scope}{f:Addr}{cd:Value}{A:Around}{outer:List Env}{s s1:Shared}{H:Hp}{E:XK}{us:List Value}{vs:List V}
  (S:c9 N ps scope) (hd:A.handled=none) (e0:rO P w K mg base A outer s H) (hl:vs.length=ps.length) (r:aQ vs us)
  (x:InCallC s s.heap.objs.size (bindL (envOfC qual scope s.heap.objs.size f cd).kindOf (ps.zip us) fun _=>none) (cellsFrom (s.heap.objs.size+1) scope.names []) (bindC (envOfC qual scope s.heap.objs.size f cd).kindOf (ps.zip us) fun _=>none) s1) :
  Inv (fh CX P w K mg base N qual scope f cd A outer s H E) [] (start N vs) H s1:=by
 have hpl:ps.length≤N.length:=by have:=congrArg List.length S.pre;rw[length_take] at this;omega
 obtain⟨h1,tk,rfl,hk⟩:=x.done;have noA:∀b:Addr,b∉(fh CX P w K mg base N qual scope f cd A outer s H E).ex:=fun b z=>absurd (show b∈([]:List Addr) from z) (by simp)
 refine⟨⟨e0.mod,S.kind,rfl,rfl,Nat.le_refl _,fun y z c h1 h2=>?_,fun y hy=>?_,fun y c _ h=>?_,fun _=>hd,Around.frames_deeper e0.frames,.inr ⟨rfl,rfl⟩,fun b z=>absurd z (noA b),e0.bs,e0.bsz,fun b _ _=>noA b,fun b z=>absurd z (noA b),e0.funs,e0.frf⟩,
  rfl,e0.bare,Un.kept hk,⟨_,x.toInCall.ns,fun i y v h1 h2 h3=>?_⟩,fun y c h=>⟨_,x.cell y c h⟩,e0.hok.fresh (Nat.le_refl _),fun y c h=>?_,fun p hp=>absurd (show p∈([]:List (Addr×Obj)) from hp) (by simp),e0.hok.kept hk,?_⟩
 ·exact name_of_addr x.apart (PySem.mem_of_lookup h1) (PySem.mem_of_lookup h2)
 ·have hy:scope.names.lookup y=some .cell∨scope.names.lookup y=some .free:=hy;rcases hy with hy|hy
  ·exact pN hy
  ·exact absurd rfl (S.nofree _ (PySem.mem_of_lookup hy))
 ·exact Nat.le_of_lt (x.above y c (PySem.mem_of_lookup h))
 ·have hi:i<vs.length:=by
   unfold start at h2
   by_cases hi:i<vs.length
   ·exact hi
   ·rw[getElem?_append_right (by simpa using hi)] at h2;rw[getElem?_replicate] at h2;split at h2 <;> cases h2
  have ha:vs[i]?=some v:=by
   unfold start at h2;rw[getElem?_append_left (by simpa using hi),getElem?_map] at h2;cases e:vs[i]? with
   | none=>rw[e] at h2;cases h2
   | some a=>rw[e] at h2;cases h2;rfl
  obtain⟨u,hu,rv⟩:=r.get ha;have hp:ps[i]?=some y:=by
   rw[←S.pre,getElem?_take_of_lt (by omega)];exact h1
  have ndP:ps.Nodup:=by rw[←S.pre];exact S.nd.sublist (take_sublist _ _)
  refine⟨u,rv,?_⟩;rcases S.par y (mem_of_getElem? hp) with k|k
  ·exact .inl ⟨k,nA ndP hp hu k⟩
  ·obtain⟨c,e⟩:=pN (n:=s.heap.objs.size+1) k;refine .inr ⟨.inl k,c,e,?_⟩;have q:=x.cell y c e;rw[n5 ndP hp hu (by show scope.names.lookup y≠_;rw[k];decide)] at q;exact q
 ·exact e0.hok.fresh (Nat.le_of_lt (x.above y c (PySem.mem_of_lookup h)))
 ·unfold start;show _=N.length;rw[length_append,length_map,length_replicate];omega
theorem zX {CX:vm}{P:Program}{w:World}{K:W.Frag}{mg:Str→Option Value}{base:Heap}{k:Nat}{f:Addr}{name qual:Str}{params:Arguments}{body:List Stmt}{scope:Scope}{dV kV doc pm cdv ct oc:Value}{an od:Option Addr}
  {osl:Array (Option Value)} {N ps:List Str} {sp:Sp} (lk:K.lookup f=some ⟨oc,od,.func (W.fnOf name qual params body scope dV kV doc pm an cdv ct),osl⟩) (hcd:W.codeIn K cdv qual=true) (S:c9 N ps scope)
  (len:∀vs H Q E,sp vs H Q E→vs.length=ps.length)
  (hbody:∀(A:Around) (outer:List Env) (s:Shared) (H:Hp) (vs:List V) (Q:VK) (E:XK),bp k (A.deeper (envOfC qual scope s.heap.objs.size f cdv))→sp vs H Q E→
   ∃t,PSs (fh CX P w K mg base N qual scope f cdv A outer s H E) body t∧t {nx:=fun _ H'=>Q .non H',rt:=Q} (start N vs) H) :
  eM P w K mg base CX (k+1) f (W.fnOf name qual params body scope dV kV doc pm an cdv ct) ps sp:=by
 refine⟨len,fun A outer s H args us vs Q E hr e0 hb r hsp=>?_⟩;have hl:=len _ _ _ _ hsp;have KX:K.In s.heap:=e0.mod.kin.keeps fun b o e=>(e0.bs b o e).1
 have lim:s.heap.NoLimit:=e0.mod.nolimit.keeps fun b o e=>(e0.bs b o e).1
 have hkind:∀y∈ps.zip us,scope.names.lookup y.1=some .local∨(scope.names.lookup y.1=some .cell∧((cellsFrom (s.heap.objs.size+1) scope.names []).lookup y.1).isSome=true):=fun⟨n,v⟩ hy=>by
  rcases S.par n (of_mem_zip hy).1 with q|q
  ·exact .inl q
  ·exact .inr ⟨q,W.cellsFrom_some _ _ _ (.inl q)⟩
 refine codeAny_call_function hr.depth (KX _ _ lk) rfl S.co S.gen rfl (W.codeRec_of KX hcd) (hb _ _ _ _ ?_);refine wpAny_newFunctionEnv_cells S.kind hkind fun env he s1 x=>?_
 subst he;refine⟨lim.keeps x.toInCall.keep,codeAny_func ?_⟩;obtain⟨t,ht,hq⟩:=hbody A outer s H vs Q E (hr.deeper _) hsp;have I:Inv (fh CX P w K mg base N qual scope f cdv A outer s H E) [] (start N vs) H s1:=nM S hr.hd e0 hl r x;refine wpAny_mono (ht [] s1 (start N vs) H _ I hq) (fun fl s' hs=>?_) fun e s' hs=>hs
 have fin:∀{σ':St} {H':Hp} {v:V} {u:Value},Inv (fh CX P w K mg base N qual scope f cdv A outer s H E) [] σ' H' s'→bi v u→Q v H'→CE outer P w H s Q u s':=
  fun {σ' H' v u} J rv q=>⟨v,H',J.os,J.bare,J.base,J.hok,rv,q⟩
 cases fl with
 | ret u=>
  obtain⟨v,σ',H',J,rv,q⟩:=hs;exact fin J rv q
 | next=>
  obtain⟨σ',H',J,q⟩:=hs;exact fin (v:=V.non) (u:=Value.none) J rfl q
 | brk=>
  obtain⟨_,_,_,q⟩:=hs;exact False.elim q
 | cont=>
  obtain⟨_,_,_,q⟩:=hs;exact False.elim q
section
variable {X:Cx}{x:Str}{p pos:Pos}{e:Expr}{es:List Expr}{t:TA}{id T:String}{r:List V→Hp→VK→Prop}
def Gg (r:List V→Hp→VK→Prop)(t:TA):TE:=fun σ H Q=>t σ H fun vs H1=>r vs H1 Q
theorem qR (hc:cB X (.builtin id) r)(hg:Gl X x)(hm:X.mg x=none)(hv:bootBuiltins x=some (.builtin id))(ha:PA X (e::es) t)(hn:x≠"__name__":=by decide)(hdb:(x==("__debug__":Str))=false:=by decide)
  (he:starEach (e::es) X.env=(false,eval e X.env)::starEach es X.env:=by rfl) (hpl:(backTo pos (starEach es X.env)).any (·.1)=false:=by rfl):PE X (.Call (.Name x p) (e::es) [] pos) (Gg r t):=by
 intro af s σ H Q I h;refine wpAny_Call_Name_kw (i9 I hg hm hv ?_ hn hdb);exact PyProof.Rows.callWith_builtin1 (bR (ha pos af s σ H _ I h) fun us s1 ⟨vs,H1,I1,r1,q1⟩=>hc af s1 σ H1 vs us Q I1 r1 q1) he hpl
theorem uY (hc:cB X (.type T) r)(hg:Gl X x)(hm:X.mg x=none)(hv:bootBuiltins x=some (.type T))(ha:PA X (e::es) t)(hn:x≠"__name__":=by decide)(hdb:(x==("__debug__":Str))=false:=by decide)
  (he:starEach (e::es) X.env=(false,eval e X.env)::starEach es X.env:=by rfl) (hpl:(backTo pos (starEach es X.env)).any (·.1)=false:=by rfl):PE X (.Call (.Name x p) (e::es) [] pos) (Gg r t):=by
 intro af s σ H Q I h;refine wpAny_Call_Name_kw (i9 I hg hm hv ?_ hn hdb);exact PyProof.Rows.callWith_type1 (bR (ha pos af s σ H _ I h) fun us s1 ⟨vs,H1,I1,r1,q1⟩=>hc af s1 σ H1 vs us Q I1 r1 q1) he hpl
end
end L2
namespace HT
open PySem PyProof.Rows
def lexLt:List Int→List Int→Bool
 | [],[]=>false
 | [],_::_=>true
 | _::_,[]=>false
 | x::xs,y::ys=>if x=y then lexLt xs ys else decide (x<y)
theorem lexLt_cons (x y:Int)(xs ys:List Int):lexLt (x::xs) (y::ys)=if x=y then lexLt xs ys else decide (x<y):=rfl
theorem lexLt_nil_nil:lexLt [] []=false:=rfl
theorem lexLt_nil_cons (y:Int)(ys:List Int):lexLt [] (y::ys)=true:=rfl
theorem lexLt_cons_nil (x:Int)(xs:List Int):lexLt (x::xs) []=false:=rfl
theorem eqAt_int (A:Around)(s:Shared)(a:Int)(t:Tok)(c:Int)(u:Tok):∃e,SeqAt.EqAt A s (.int a t) (.int c u) e∧(e=true↔a=c):=
 ⟨(a==c),SeqAt.EqAt.int_int a t c u,by simp⟩
theorem vw (A:Around)(s:Shared)(a:Int)(t:Tok)(c:Int)(u:Tok)(prog:Program)(w:World)(E:Value→Shared→Prop)(Q:Value→Shared→Prop)(h:Q (.bool (decide (a<c))) s) :
  wpAny (model prog w) A (richCompare .Lt (.int a t) (.int c u)) Q E s:=
 (PyProof.Rows.lt_int h:wpAny (model prog w) A (compareOp .Lt (.int a t) (.int c u)) Q E s)
section
open PySem.SeqAt
open PySem.AutoSeq1 (wpAny_loadPart')
open PySem.MeetsSeq PySem.MeetsSeq2 PySem.MeetsSeq3
theorem nj (l b:Addr)(items items2:Array Value)(n n2:Nat)(dd dd2:Option Addr)(sl sl2:Array (Option Value))(ns ms:List Int)(hi:IntsAre items.toList ns)(hj:IntsAre items2.toList ms) :
  Meets (Builtin.«tuple.__lt__» ⟨[.ref l,.ref b],[]⟩)
   (fun _ R s=>s.heap.get? l=some {cls:=.type "tuple",dict:=dd,data:=.seq items n,slots:=sl}∧s.heap.get? b=some {cls:=.type "tuple",dict:=dd2,data:=.seq items2 n2,slots:=sl2}∧
    R (.ok (.ret (.bool (lexLt ns ms)))) s):=
 .of_wp fun prog w A R s h=>by
  obtain⟨hp,g,d,tk,os⟩:=s;obtain⟨hl,hb,h⟩:=h;have f2:=AutoSeq1.sub_tuple_tuple;have z1:items.size=ns.length:=by rw[←hi.length];simp
  have z2:items2.size=ms.length:=by rw[←hj.length];simp
  wp_walk using wpAny_loadPart' hl,wpAny_loadPart' hb,wpAny_forIn_list _ (fun rest b s'=>b.1=none∧s'=⟨hp,g,d,tk,os⟩∧∃(vs ws:List Value) (ns' ms':List Int),rest=vs.zip ws∧
   IntsAre vs ns'∧IntsAre ws ms'∧ns'.length+items2.size=ms'.length+items.size∧R (.ok (.ret (.bool (lexLt ns' ms')))) ⟨hp,g,d,tk,os⟩) _
  case turn=>
   rintro ⟨y,x⟩ rest b s' ⟨hb',rfl,vs,ws,ns',ms',hz,hvi,hwi,hlen,hR⟩;cases hvi with
   | nil=>rw[List.zip_nil_left] at hz;cases hz
   | cons a t hvi'=>
    cases hwi with
    | nil=>rw[List.zip_nil_right] at hz;cases hz
    | cons c u hwi'=>
     rw[List.zip_cons_cons] at hz;injection hz with hyx hrest
     injection hyx with hy hx
     subst hy hx;rw[lexLt_cons] at hR;simp only[List.length_cons] at hlen;obtain⟨e,he,hiff⟩:=eqAt_int A.in1 ⟨hp,g,d,tk,os⟩ a t c u;refine wpAny_bind (he prog w _ _ ?_);cases e with
     | true=>
      rw[if_pos (hiff.mp rfl)] at hR
      wp_walk
      exact⟨rfl,rfl,_,_,_,_,hrest,hvi',hwi',by omega,hR⟩
     | false=>
      rw[if_neg (fun q=>absurd (hiff.mpr q) Bool.false_ne_true)] at hR;have hri:=vw A.in1 ⟨hp,g,d,tk,os⟩ a t c u prog w
      wp_walk using hri
      exact⟨_,rfl,by simpa using hR⟩
  case fin=>
   rintro ⟨b1,b2⟩ s' ⟨hb',rfl,vs,ws,ns',ms',hz,hvi,hwi,hlen,hR⟩;simp only at hb';subst hb';have hv:lexLt ns' ms'=decide (items.size<items2.size):=by
    cases hvi with
    | nil=>
     cases hwi with
     | nil=>
      simp only[List.length_nil] at hlen;rw[lexLt_nil_nil];exact(decide_eq_false (by omega)).symm
     | cons c u hw=>
      simp only[List.length_nil,List.length_cons] at hlen;rw[lexLt_nil_cons];exact(decide_eq_true (by omega)).symm
    | cons a t hv=>
     cases hwi with
     | nil=>
      simp only[List.length_nil,List.length_cons] at hlen;rw[lexLt_cons_nil];exact(decide_eq_false (by omega)).symm
     | cons c u hw=>
      rw[List.zip_cons_cons] at hz;cases hz
   rw[hv] at hR
   wp_walk
   exact⟨_,rfl,by simpa[Builtin.Tuple.tupleCompareSizes] using hR⟩
  case h=>
   exact⟨rfl,rfl,items.toList,items2.toList,ns,ms,rfl,hi,hj,by omega,h⟩
end
section
variable {prog:Program}{w:World}{A:Around}{E:Value→Shared→Prop}{s:Shared}
theorem lt_tupInts {l b:Addr}{items items2:Array Value}{ns ms:List Int}{Q:Value→Shared→Prop}(hl:IsTup s.heap l items)(hb:IsTup s.heap b items2)(hi:IntsAre items.toList ns)(hj:IntsAre items2.toList ms)
  (hu:A.units<cLine) (h:Q (.bool (lexLt ns ms)) s):wpAny (model prog w) A (compareOp .Lt (.ref l) (.ref b)) Q E s:=by
 obtain⟨⟨cls,dd,data,sl⟩,ho,hc,n,hd⟩:=id hl;obtain⟨⟨cls2,dd2,data2,sl2⟩,ho2,hc2,n2,hd2⟩:=id hb;simp only at hc hd hc2 hd2;subst hc hd hc2 hd2;exact richCompare_meets_room (op:=.Lt) ⟨_,ho,rfl⟩ ⟨_,ho2,rfl⟩ PySem.F.slot_tuple_lt PySem.F.entry_tuple_lt (PySem.F.args_tuple_lt_2 _ _) (nj l b items items2 n n2 dd dd2 sl sl2 ns ms hi hj)
  ⟨ho,ho2,show Value.bool (lexLt ns ms)≠Value.notImplemented∧Q (.bool (lexLt ns ms)) s from⟨(fun x=>nomatch x),h⟩⟩ hu
theorem cat_tup {t b:Addr}{vs ws:List Value}{Q:Value→Shared→Prop}(ht:IsTup s.heap t vs.toArray)(hb:IsTup s.heap b ws.toArray)(hv:vs≠[])
  (h1:ws=[]→Q (.ref t) s) (h2:ws≠[]→Q (.ref s.heap.objs.size) {s with heap:=s.heap.push {cls:=.type "tuple",data:=.seq (vs++ws).toArray}})
  (hsz:vs.length+ws.length≤sizeLine):wpAny (model prog w) A (binaryOp .Add (.ref t) (.ref b)) Q E s:=by
 obtain⟨⟨cls,dd,data,sl⟩,ho,hc,n,hd⟩:=id ht;obtain⟨⟨cls2,dd2,data2,sl2⟩,ho2,hc2,n2,hd2⟩:=id hb;simp only at hc hd hc2 hd2;subst hc hd hc2 hd2;have e:vs.toArray++ws.toArray=(vs++ws).toArray:=by simp
 by_cases hw:ws=[]
 ·exact concat_meets ⟨_,ho,rfl⟩ ⟨_,ho2,rfl⟩ noFill_tuple_add seq_tuple_add PySem.F.slot_tuple_add PySem.F.entry_tuple_add (PySem.F.args_tuple_add_2 _ _)
   (tuple_addW1 t b vs.toArray ws.toArray n n2 dd dd2 sl sl2 (by simpa using hv) (by simp[hw])) ⟨ho,ho2,h1 hw⟩
 ·refine concat_meets ⟨_,ho,rfl⟩ ⟨_,ho2,rfl⟩ noFill_tuple_add seq_tuple_add PySem.F.slot_tuple_add PySem.F.entry_tuple_add (PySem.F.args_tuple_add_2 _ _)
   (tuple_addW2 t b vs.toArray ws.toArray n n2 dd dd2 sl sl2 (by simpa using hv) (by simpa using hw) (by rw[List.size_toArray,List.size_toArray];exact hsz)) ⟨ho,ho2,?_⟩
  rw[e];exact h2 hw
def sIx (n d:Nat):Option Int→Nat
 | none=>d
 | some v=>if v<0 then(v+(n:Int)).toNat else min v.toNat n
theorem Bw (n d:Nat)(hd:d≤n)(o:Option Int):sIx n d o≤n:=by
 cases o with
 | none=>exact hd
 | some v=>
  show(if v<0 then(v+(n:Int)).toNat else min v.toNat n)≤n
  by_cases hv:v<0
  ·rw[if_pos hv];omega
  ·rw[if_neg hv];exact Nat.min_le_right _ _
theorem sP (v:Int)(n d:Nat):(if v<0 then max (v+(n:Int)) 0 else min v (n:Int))=((sIx n d (some v):Nat):Int):=by
 show(if v<0 then max (v+(n:Int)) 0 else min v (n:Int))=(((if v<0 then(v+(n:Int)).toNat else min v.toNat n):Nat):Int)
 by_cases hv:v<0
 ·simp only[if_pos hv];omega
 ·simp only[if_neg hv];omega
theorem rN (lo hi:Option Int)(n:Nat):Builtin.Slice.sliceAdjust lo hi 1 (n:Int)=(((sIx n 0 lo:Nat):Int),((sIx n n hi:Nat):Int)):=by
 have h1:¬((1:Int)<0):=by omega
 unfold Builtin.Slice.sliceAdjust;simp only[h1,if_false];refine Prod.ext ?_ ?_
 ·cases lo with
  | none=>rfl
  | some v=>exact sP v n 0
 ·cases hi with
  | none=>rfl
  | some v=>exact sP v n n
theorem rZ (i j:Nat):Builtin.Slice.slicePlaces (i:Int) (j:Int) 1=j-i:=by
 unfold Builtin.Slice.slicePlaces;have h1:(1:Int)>0:=by omega
 simp only[h1,if_true,Int.ediv_one];split <;> omega
theorem mK {v:Value}{o:Option Int}{Q:Option Int→Shared→Prop}(p:IsPart v o)(h:Q o s):wpAny (model prog w) A (Builtin.Slice.slicePartIndex v) Q E s:=by
 cases p with
 | none=>exact slicePart_none h
 | int i t=>exact slicePart_int h
theorem sliceApplied_gen {sl:Addr}{vl vu:Value}{lo hi:Option Int}{n:Nat}{Q:Int×Int×Nat→Shared→Prop}(hs:s.heap.IsSliceOf sl vl vu .none)(pl:IsPart vl lo)(pu:IsPart vu hi)
  (h:Q (((sIx n 0 lo:Nat):Int),1,sIx n n hi-sIx n 0 lo) s):wpAny (model prog w) A (Builtin.Slice.sliceApplied (.ref sl) (pure (n:Int))) Q E s:=by
 obtain⟨os,hos,hcs,hds⟩:=id hs;unfold Builtin.Slice.sliceApplied Builtin.Slice.sliceFields;refine wpAny_bind (wpAny_bind (wpAny_field hos hds (x:=vl) rfl (wpAny_bind (wpAny_field hos hds (x:=vu) rfl (wpAny_bind (wpAny_field hos hds (x:=.none) rfl (wpAny_pure ?_)))))));refine wpAny_bind (slicePart_none ?_);show wpAny _ _ (if((1:Int)==0)=true then _ else _) _ _ s;rw[if_neg (by decide)];refine wpAny_bind (mK pl (wpAny_bind (mK pu (wpAny_bind (wpAny_pure ?_)))));show wpAny _ _ (match Builtin.Slice.sliceAdjust lo hi 1 (n:Int) with|(lo,hi)=>pure (lo,(1:Int),Builtin.Slice.slicePlaces lo hi 1)) _ _ s;rw[rN lo hi n];show wpAny _ _ (pure (((sIx n 0 lo:Nat):Int),(1:Int),Builtin.Slice.slicePlaces ((sIx n 0 lo:Nat):Int) ((sIx n n hi:Nat):Int) 1)) _ _ s;rw[rZ];exact wpAny_pure h
theorem wy (xs:Array Value)(i k:Nat):((List.range k).filterMap fun(m:Nat)=>xs[((i:Int)+(m:Int)*1).toNat]?).toArray=((xs.toList.drop i).take k).toArray:=by
 have e:(fun(m:Nat)=>xs[((i:Int)+(m:Int)*1).toNat]?)=fun m=>xs[i+m]?:=by
  funext m;have:((i:Int)+(m:Int)*1).toNat=i+m:=by omega
  rw[this]
 rw[e];have:=pick_run xs i k;rw[List.filterMap_map] at this;have e2:((fun x=>xs[x]?) ∘ fun x=>i+x)=fun m=>xs[i+m]?:=rfl
 rw[e2] at this;rw[this]
theorem getItem_tuple_cut {t sl:Addr}{items:Array Value}{vl vu:Value}{lo hi:Option Int}{Q:Value→Shared→Prop}(ht:IsTup s.heap t items)(hs:s.heap.IsSliceOf sl vl vu .none)(pl:IsPart vl lo)(pu:IsPart vu hi)
  (hw:¬(sIx items.size 0 lo=0∧sIx items.size items.size hi=items.size))
  (h:Q (.ref s.heap.objs.size) {s with heap:=s.heap.push {cls:=.type "tuple",data:=.seq ((items.toList.drop (sIx items.size 0 lo)).take (sIx items.size items.size hi-sIx items.size 0 lo)).toArray}})
  (hsz:items.size≤sizeLine):wpAny (model prog w) A (getItem (.ref t) (.ref sl)) Q E s:=by
 have htake:sizeOk (.seq ((items.toList.drop (sIx items.size 0 lo)).take (sIx items.size items.size hi-sIx items.size 0 lo)).toArray):=by
  show((items.toList.drop (sIx items.size 0 lo)).take (sIx items.size items.size hi-sIx items.size 0 lo)).toArray.size≤sizeLine;rw[List.size_toArray,List.length_take,List.length_drop,Array.length_toList];omega
 have hj:sIx items.size items.size hi≤items.size:=Bw _ _ (Nat.le_refl _) hi;obtain⟨os,hos,hcs,hds⟩:=id hs;have hTs:s.TypeIs (.ref sl) "slice":=⟨os,hos,hcs⟩;unfold getItem
 try with_reducible refine wpAny_holding ?_
 first|refine wpAny_bind (wpAny_pure ?_)|skip
 refine wpAny_bind (wpAny_sequenceKey ht.typeIs (by decide) ?_);refine wpAny_bind (wpAny_callSpecial?_slot (name:=Str.ofString "__getitem__") ht.typeIs PyProof.Rows.slot_tuple_getitem
  (wpAny_call_entry PyProof.Rows.slot_tuple_getitem ht.typeIs entry_tuple_getitem ?_ (args_tuple_getitem _ _)))
 show wpAny _ _ (Builtin.Tuple.tupleItemsOf (.ref t) >>= _) _ _ s;refine wpAny_bind (tupleItemsOf_ ht ?_);refine wpAny_bind (wpAny_typeOf hTs ?_);rw[if_pos (by decide)];refine wpAny_bind (sliceApplied_gen hs pl pu ?_);have hno:¬((((sIx items.size 0 lo:Nat):Int)==0&&(1:Int)==1&&(sIx items.size items.size hi-sIx items.size 0 lo)==items.size)=true):=by
  intro q;rw[Bool.and_eq_true,Bool.and_eq_true] at q;have q1:((sIx items.size 0 lo:Nat):Int)=0:=eq_of_beq q.1.1;have q2:sIx items.size items.size hi-sIx items.size 0 lo=items.size:=eq_of_beq q.2;exact hw ⟨by omega,by omega⟩
 show wpAny _ _ (if(((sIx items.size 0 lo:Nat):Int)==0&&(1:Int)==1&&(sIx items.size items.size hi-sIx items.size 0 lo)==items.size)=true then _ else _) _ _ s;rw[if_neg hno,wy]
 first
  | exact wpAny_bind (m:=Builtin.Tuple.tupleExact _) (wpAny_newObj_type (wpAny_pure ⟨_,rfl,wpAny_pure h⟩) htake)
  | exact wpAny_bind (m:=Builtin.Tuple.tupleExact _) (wpAny_newObj_type (wpAny_bind (wpAny_pure (wpAny_pure ⟨_,rfl,wpAny_pure h⟩))) htake)
  | exact wpAny_bind (wpAny_bind (m:=Builtin.Tuple.tupleExact _) (wpAny_newObj_type (wpAny_pure (wpAny_pure ⟨_,rfl,wpAny_pure h⟩)) htake))
  | exact wpAny_bind (wpAny_bind (m:=Builtin.Tuple.tupleExact _) (wpAny_newObj_type (wpAny_pure ⟨_,rfl,wpAny_pure h⟩) htake))
end
end HT
namespace L2
open PySem PySem.Spec PyProof.Rows List
abbrev TO:=St→Hp→(Option Int→Hp→Prop)→Prop
def PO (X:Cx)(e:Option Expr)(t:TO):Prop:=
 ∀(af:List (Addr×Obj)) (s:Shared) (σ:St) (H:Hp) (Q:Option Int→Hp→Prop),Inv X af σ H s→t σ H Q→
  wpAny (model X.prog X.w) X.A (evalPart e X.env) (fun u s'=>∃o H',Inv X af σ H' s'∧IsPart u o∧Q o H') X.xe s
def zF:TO:=fun _ H Q=>Q none H
def Dx (t:TE):TO:=fun σ H Q=>t σ H fun x H1=>∃i,x=.int i∧Q (some i) H1
theorem iI {ns:List Int}:∀{us:List Value},aQ (ns.map V.int) us→IntsAre us ns:=by
 induction ns with
 | nil=>intro us r;rw[map_nil] at r;cases r;exact .nil
 | cons n ns ih=>
  intro us r;rw[map_cons] at r;cases r with
  | cons r1 r2=>
   obtain⟨t,e⟩:=r1;subst e;exact .cons n t (ih r2)
section
variable {X:Cx}{e:Expr}{te:TE}{lo hi:Option Expr}{tl th:TO}{pos p2:Pos}
theorem yJ:PO X none zF:=by
 intro af s σ H Q I h;rw[evalPart_none];exact wpAny_pure ⟨none,H,I,.none,h⟩
theorem zi (h:PE X e te):PO X (some e) (Dx te):=by
 intro af s σ H Q I hw;rw[evalPart_some];refine bR (h af s σ H _ I hw) fun u s1 hxx=>?_
 obtain⟨x,H1,I1,r1,q1⟩:=hxx;obtain⟨i,rfl,q⟩:=q1;obtain⟨t,rfl⟩:=r1;exact⟨some i,H1,I1,.int i t,q⟩
def Fc (X:Cx)(r:V→Option Int→Option Int→Hp→VK→Prop):Prop:=
 ∀(af:List (Addr×Obj)) (s:Shared) (σ:St) (H:Hp) (x:V) (v vl vu:Value) (lo hi:Option Int) (sl:Addr) (Q:VK),Inv X af σ H s→bi x v→s.heap.IsSliceOf sl vl vu .none→IsPart vl lo→IsPart vu hi→r x lo hi H Q→
  ∃T id,typeLookup (.type T) "__getitem__"=pure (some (.builtin id))∧s.TypeIs v T∧wpAny (model X.prog X.w) X.A (getItem v (.ref sl)) (EP X af σ Q) X.xe s
def GU (r:V→Option Int→Option Int→Hp→VK→Prop)(te:TE)(tl th:TO):TE:=fun σ H Q=>te σ H fun x H1=>tl σ H1 fun l H2=>th σ H2 fun u H3=>r x l u H3 Q
theorem wq {r:V→Option Int→Option Int→Hp→VK→Prop}(hr:Fc X r)(he:PE X e te)(hl:PO X lo tl)(hu:PO X hi th):PE X (.Subscript e (.Slice lo hi none p2) pos) (GU r te tl th):=by
 intro af s σ H Q I h;refine Subscript_ (bR (he af s σ H _ I h) fun v s1 hxx=>?_);obtain⟨x,H1,I1,r1,q1⟩:=hxx;refine wpAny_Slice (bR (hl af s1 σ H1 _ I1 q1) fun vl s2 ⟨l,H2,I2,pl,q2⟩=>bR (hu af s2 σ H2 _ I2 q2) fun vu s3 hxx=>?_);obtain⟨u,H3,I3,pu,q3⟩:=hxx;rw[evalPart_none];refine wpAny_pure ?_;have I4:Inv X af σ H3 {s3 with heap:=s3.heap.push {cls:=.type "slice",data:=.fields #[vl,vu,.none]}}:=I3.kept (t':=s3.toks) fun b ob q=>Heap.get?_push_of_some _ q
 obtain⟨T,id,hT,ht,hg⟩:=hr af {s3 with heap:=s3.heap.push {cls:=.type "slice",data:=.fields #[vl,vu,.none]}} σ H3 x v vl vu l u s3.heap.objs.size Q I4 r1 (Heap.IsSliceOf.new ..) pl pu q3;show wpAny (model X.prog X.w) X.A (subscriptTail e (.Slice lo hi none p2) v (.ref s3.heap.objs.size)) (EP X af σ Q) X.xe {s3 with heap:=s3.heap.push {cls:=.type "slice",data:=.fields #[vl,vu,.none]}};exact tail_any (ops:=[.ref s3.heap.objs.size,v]) ht hT hg (by with_unfolding_all rfl)
def pO (xs:List V)(lo hi:Option Int):List V:=(xs.drop (HT.sIx xs.length 0 lo)).take (HT.sIx xs.length xs.length hi-HT.sIx xs.length 0 lo)
theorem lG (xs:List V)(lo hi:Option Int):(pO xs lo hi).length≤xs.length:=by
 unfold pO;rw[length_take,length_drop];omega
def Gb (K:W.Frag):V→Option Int→Option Int→Hp→VK→Prop:=fun x lo hi H Q=>∃a xs,x=.ref a∧lU K H a xs∧
 ¬(HT.sIx xs.length 0 lo=0∧HT.sIx xs.length xs.length hi=xs.length)∧∀p,H p=none→Q (.ref p) (bS H p (.tup (pO xs lo hi)))
theorem Bn:Fc X (Gb X.K):=by
 intro af s σ H x v vl vu lo hi sl Q I rx hs pl pu h;obtain⟨a,xs,rfl,hx,hw,q⟩:=h;cases rx;obtain⟨its,r,ht,hz⟩:=I.tuple hx;have hlen:its.toArray.size=xs.length:=by rw[size_toArray];exact r.length.symm
 refine⟨"tuple",_,PyProof.Rows.slot_tuple_getitem.lookup,ht.typeIs,?_⟩;refine HT.getItem_tuple_cut ht hs pl pu (by rw[hlen];exact hw) ?_ (by rw[hlen];exact hz);rw[hlen];refine⟨.ref s.heap.objs.size,_,I.laid (t':=s.toks) (o:=.tup (pO xs lo hi)) (fun b ob q=>Heap.get?_push_of_some _ q) (Nat.le_refl _) ?_,rfl,q _ (I.hok.fresh (Nat.le_refl _))⟩;exact⟨Nat.le_trans (lG xs lo hi) hz,_,(r.drop (HT.sIx xs.length 0 lo)).take (HT.sIx xs.length xs.length hi-HT.sIx xs.length 0 lo),IsTup.new _ _⟩
def Dy (K:W.Frag):R2:=fun x y H Q=>∃a b xs ys,x=.ref a∧y=.ref b∧lU K H a xs∧lU K H b ys∧xs≠[]∧xs.length+ys.length≤sizeLine∧
 (ys=[]→Q (.ref a) H)∧(ys≠[]→∀p,H p=none→Q (.ref p) (bS H p (.tup (xs++ys))))
theorem aQ.nil_iff {xs:List V}{us:List Value}(r:aQ xs us):us=[]↔xs=[]:=by
 cases r with
 | nil=>simp
 | cons _ _=>simp
theorem yA:gq X (binaryOp .Add) (Dy X.K):=by
 intro af s σ H x y v u Q I rx ry h;obtain⟨a,b,xs,ys,rfl,rfl,ha,hb,hx,hz,q1,q2⟩:=h;cases rx;cases ry;obtain⟨its,r1,p1,_⟩:=I.tuple ha;obtain⟨its2,r2,p2,_⟩:=I.tuple hb;refine HT.cat_tup p1 p2 (fun z=>hx (r1.nil_iff.mp z)) (fun z=>⟨.ref a,H,I,rfl,q1 (r2.nil_iff.mp z)⟩) (fun z=>?_) (by rw[←r1.length,←r2.length];exact hz);refine⟨.ref s.heap.objs.size,_,I.laid (t':=s.toks) (o:=.tup (xs++ys)) (fun b ob q=>Heap.get?_push_of_some _ q) (Nat.le_refl _) ?_,rfl,q2 (fun w=>z (r2.nil_iff.mpr w)) _ (I.hok.fresh (Nat.le_refl _))⟩;exact⟨by rw[length_append];exact hz,_,r1.append r2,IsTup.new _ _⟩
end
def uC (n:Nat)(i:Int):Option Nat:=if 0≤i then(if i<n then some i.toNat else none) else if -(n:Int)≤i then some (i+n).toNat else none
def jW {α:Type}(xs:List α)(i:Int):Option α:=(uC xs.length i).bind fun j=>xs[j]?
theorem sW {n:Nat}{i:Int}{j:Nat}(h:uC n i=some j):seqIndex? i n=some j∧j<n∧-(n:Int)≤i∧i<n:=by
 unfold uC at h
 by_cases h0:0≤i
 ·rw[if_pos h0] at h
  by_cases h1:i<n
  ·rw[if_pos h1] at h;have e:i.toNat=j:=Option.some.inj h;exact⟨by rw[seqIndex_of h0 h1,e],by omega,by omega,h1⟩
  ·rw[if_neg h1] at h;cases h
 ·rw[if_neg h0] at h
  by_cases h1:-(n:Int)≤i
  ·rw[if_pos h1] at h;have e:(i+n).toNat=j:=Option.some.inj h;exact⟨by rw[seqIndex_neg (by omega) h1,e],by omega,h1,by omega⟩
  ·rw[if_neg h1] at h;cases h
theorem sQ {α:Type}{xs:List α}{i:Int}{v:α}(h:jW xs i=some v):∃j,seqIndex? i xs.length=some j∧xs[j]?=some v∧j<xs.length∧-(xs.length:Int)≤i∧i<xs.length:=by
 unfold jW at h;cases e:uC xs.length i with
 | none=>rw[e] at h;cases h
 | some j=>
  rw[e] at h;obtain⟨h1,h2,h3,h4⟩:=sW e;exact⟨j,h1,h,h2,h3,h4⟩
theorem jg {α:Type}{xs:List α}{j:Nat}{v:α}(h:xs[j]?=some v):jW xs (j:Int)=some v:=by
 have hj:j<xs.length:=(List.getElem?_eq_some_iff.mp h).1;have e:uC xs.length (j:Int)=some j:=by
  unfold uC;rw[if_pos (by omega),if_pos (by omega)];simp
 unfold jW;rw[e];exact h
def oU (b:Expr):Prop:=∀o i,subscripted b false o i=operate [o,i] (getItem o i)
def E5 (X:Cx)(r:R2):Prop:=
 ∀(value slice:Expr) (af:List (Addr×Obj)) (s:Shared) (σ:St) (H:Hp) (x y:V) (v u:Value) (Q:VK),Inv X af σ H s→bi x v→bi y u→r x y H Q→
  subscripted slice false v u=operate [v,u] (getItem v u)→wpAny (model X.prog X.w) X.A (subscriptTail value slice v u) (EP X af σ Q) X.xe s
def GX (X:Cx)(id:String)(r:V→List V→Hp→VK→Prop):Prop:=
 ∀(af:List (Addr×Obj)) (s:Shared) (σ:St) (H:Hp) (x:V) (xs:List V) (v:Value) (us:List Value) (Q:VK),Inv X af σ H s→bi x v→aQ xs us→r x xs H Q→
  wpAny (model X.prog X.w) X.A (call (.builtin id) (v::us)) (EP X af σ Q) X.xe s
section
variable {X:Cx}{a b:Expr}{ta tb:TE}{pos:Pos}
theorem DO {r:R2}(hr:E5 X r)(ha:PE X a ta)(hb:PE X b tb)(hs:oU b):PE X (.Subscript a b pos) (Dg r ta tb):=by
 intro af s σ H Q I h;exact Subscript_ (Ci ha hb I h fun v u s2 x y H2 I2 rx ry q=>hr a b af s2 σ H2 x y v u Q I2 rx ry q (hs _ _))
def F6 (K:W.Frag):R2:=fun x y H Q=>∃p xs i v,x=.ref p∧y=.int i∧iM K H p xs∧jW xs i=some v∧Q v H
def Ft (K:W.Frag):R2:=fun x y H Q=>∃p xs i v,x=.ref p∧y=.int i∧lU K H p xs∧jW xs i=some v∧Q v H
theorem yM:E5 X (F6 X.K):=by
 intro value slice af s σ H x y v u Q I rx ry h hs;obtain⟨p,xs,i,z,rfl,rfl,hq,he,q⟩:=h;cases rx;obtain⟨t,rfl⟩:=ry;obtain⟨its,r,pl,hz⟩:=I.list hq;obtain⟨j,h1,h2,h3,h4,h5⟩:=sQ he;obtain⟨w,ew,rw'⟩:=r.get h2;have hl:=r.length;have hn:=kX;have fin:EP X af σ Q w s:=⟨z,H,I,rw',q⟩
 by_cases h0:0≤i
 ·have hj:i.toNat=j:=by
   rw[seqIndex_of h0 h5] at h1;exact Option.some.inj h1
  exact item_listR pl.isList h0 (by omega) (by rw[hj];simpa using ew) fin hs
 ·have hj:(i+(its.toArray.size:Int)).toNat=j:=by
   rw[seqIndex_neg (by omega) h4] at h1;rw[size_toArray,←hl];exact Option.some.inj h1
  exact subscriptTail_builtinR (x:=w) pl.isList.typeIs slot_list_getitem.lookup
   (wpAny_getItem_list_neg (Q:=fun r s'=>r=w∧EP X af σ Q r s') pl.isList (by omega) (by rw[size_toArray] <;> omega) (by omega) (by rw[hj];simpa using ew) ⟨rfl,fin⟩) hs
theorem BR:E5 X (Ft X.K):=by
 intro value slice af s σ H x y v u Q I rx ry h hs;obtain⟨p,xs,i,z,rfl,rfl,hq,he,q⟩:=h;cases rx;obtain⟨t,rfl⟩:=ry;obtain⟨its,r,pl,hz⟩:=I.tuple hq;obtain⟨j,h1,h2,h3,h4,h5⟩:=sQ he;obtain⟨w,ew,rw'⟩:=r.get h2;have hl:=r.length;have hn:=kX;have fin:EP X af σ Q w s:=⟨z,H,I,rw',q⟩;exact subscriptTail_builtinR (x:=w) pl.typeIs slot_tuple_getitem.lookup
  (getItem_tuple (j:=j) (Q:=fun r s'=>r=w∧EP X af σ Q r s') pl (by omega) (by omega) (by rw[size_toArray,←hl];exact h1) (by simpa using ew) ⟨rfl,fin⟩) hs
theorem rH (its:List Value)(n j:Nat)(u:Value):Obj.mapSeq (·.setIfInBounds j u) {cls:=.type "list",data:=.seq its.toArray n}={cls:=.type "list",data:=.seq (its.set j u).toArray n}:=by
 simp[Obj.mapSeq]
theorem Inv.lst {af:List (Addr×Obj)}{σ:St}{H:Hp}{s:Shared}{p:Addr}{xs:List V}(I:Inv X af σ H s)(h:H p=some (.lst xs)) :
  ∃(its:List Value) (n:Nat),aQ xs its∧s.heap.get? p=some {cls:=.type "list",data:=.seq its.toArray n}∧xs.length≤sizeLine:=by
 obtain⟨z,its,n,r,e⟩:=I.hok p _ h;exact⟨its,n,r,e,z⟩
theorem Inv.lstUpd {af:List (Addr×Obj)}{σ:St}{H:Hp}{s:Shared}{p:Addr}{xs ys:List V}{its its':List Value}{n n':Nat}{f:Obj→Obj}(I:Inv X af σ H s)(h:H p=some (.lst xs))
  (ho:s.heap.get? p=some {cls:=.type "list",data:=.seq its.toArray n}) (hf:f {cls:=.type "list",data:=.seq its.toArray n}={cls:=.type "list",data:=.seq its'.toArray n'}) (r:aQ ys its') (hz:ys.length≤sizeLine) (t:Nat) :
  Inv X af σ (bS H p (.lst ys)) {s with heap:=s.heap.update p f,toks:=t}:=by
 have e:(s.heap.update p f).get? p=some {cls:=.type "list",data:=.seq its'.toArray n'}:=by
  rw[Heap.get?_update_self f ho (by rw[hf] <;> rfl),hf]
 refine I.write (x:=p) (e:=p) (by rw[h];trivial) (.inl rfl) (fun b u hb q=>(Heap.get?_update_other _ _ (Ne.symm hb)).trans q) ⟨_,e⟩ ?_;exact⟨hz,its',n',r,e⟩
def Dd:V→V→V→Hp→(Hp→Prop)→Prop:=fun o i v H Q=>∃p xs k j,o=.ref p∧i=.int k∧H p=some (.lst xs)∧uC xs.length k=some j∧Q (bS H p (.lst (xs.set j v)))
theorem xo:Ey X Dd:=by
 intro af s σ H o i v ov iv u Q I ro ri rv h;obtain⟨p,xs,k,j,rfl,rfl,hp,hj,q⟩:=h;cases ro;obtain⟨t,rfl⟩:=ri;obtain⟨its,n,r,ho,hz⟩:=I.lst hp;obtain⟨h1,h2,h3,h4⟩:=sW hj;have hl:=r.length;have hn:=kX;have I':Inv X af σ (bS H p (.lst (xs.set j v))) {s with heap:=s.heap.update p (Obj.mapSeq (·.setIfInBounds j u))}:=
  I.lstUpd hp ho (rH its n j u) (r.set rv j) (by rw[length_set];exact hz) s.toks
 by_cases h0:0≤k
 ·have hk:k.toNat=j:=by
   rw[seqIndex_of h0 h4] at h1;exact Option.some.inj h1
  exact W.ki_setAt ho h0 (by omega) (by rw[size_toArray,←hl];exact h4) (by rw[hk];exact⟨_,I',q⟩)
 ·have hk:(k+(its.toArray.size:Int)).toNat=j:=by
   rw[seqIndex_neg (by omega) h3] at h1;rw[size_toArray,←hl];exact Option.some.inj h1
  exact W.ki_setBack ho (by omega) (by rw[size_toArray,←hl];exact h3) (by omega) (by rw[hk];exact⟨_,I',q⟩)
theorem oY (lo hi:Option Int)(n:Nat):(sliceBounds lo hi none n).1=((HT.sIx n 0 lo:Nat):Int)∧(sliceBounds lo hi none n).2.1=((HT.sIx n n hi:Nat):Int)∧(sliceBounds lo hi none n).2.2=1:=by
 refine⟨?_,?_,rfl⟩
 ·cases lo with
  | none=>simp[sliceBounds,HT.sIx]
  | some i=>
   simp only[sliceBounds,HT.sIx,Option.getD_none,show(1:Int)>0 by decide,if_true]
   by_cases h:i<0
   ·simp only[h,if_true] <;> omega
   ·simp only[h,if_false] <;> omega
 ·cases hi with
  | none=>simp[sliceBounds,HT.sIx]
  | some i=>
   simp only[sliceBounds,HT.sIx,Option.getD_none,show(1:Int)>0 by decide,if_true]
   by_cases h:i<0
   ·simp only[h,if_true] <;> omega
   ·simp only[h,if_false] <;> omega
theorem mS (its:List Value)(lo hi:Option Int):slicePick its.toArray lo hi none=((its.drop (HT.sIx its.length 0 lo)).take (HT.sIx its.length its.length hi-HT.sIx its.length 0 lo)).toArray:=by
 obtain⟨h1,h2,h3⟩:=oY lo hi its.toArray.size;unfold slicePick;rw[h1,h2,h3];simp only[sliceRange_one,pick_run,size_toArray] <;> rfl
def FT (K:W.Frag):V→Option Int→Option Int→Hp→VK→Prop:=fun x lo hi H Q=>∃a xs,x=.ref a∧iM K H a xs∧∀p,H p=none→Q (.ref p) (bS H p (.lst (pO xs lo hi)))
theorem ou:Fc X (FT X.K):=by
 intro af s σ H x v vl vu lo hi sl Q I rx hs pl pu h;obtain⟨a,xs,rfl,hx,q⟩:=h;cases rx;obtain⟨its,r,ht,hz⟩:=I.list hx;have hlen:=r.length;refine⟨"list",_,slot_list_getitem.lookup,ht.isList.typeIs,?_⟩;refine wpAny_getItem_list_slice ht.isList hs pl pu .none (by simp) ?_ (by rw[size_toArray] <;> omega);rw[mS,←hlen];refine⟨.ref s.heap.objs.size,_,I.laid (t':=s.toks) (o:=.lst (pO xs lo hi)) (fun b ob q=>Heap.get?_push_of_some _ q) (Nat.le_refl _) ?_,rfl,q _ (I.hok.fresh (Nat.le_refl _))⟩;exact⟨Nat.le_trans (lG xs lo hi) hz,_,0,(r.drop (HT.sIx xs.length 0 lo)).take (HT.sIx xs.length xs.length hi-HT.sIx xs.length 0 lo),Heap.get?_push_size _ rfl⟩
def js:V→Bool
 | .non=>true
 | .bl _=>true
 | .int _=>true
 | .str _=>true
 | _=>false
def yn:V→V→Bool
 | .non,.non=>true
 | .bl a,.bl b=>a==b
 | .bl a,.int b=>(if a then 1 else 0)==b
 | .int a,.bl b=>a==(if b then 1 else 0)
 | .int a,.int b=>a==b
 | .str a,.str b=>a==b
 | _,_=>false
theorem Bt {A:Around}{s:Shared}{y x:V}{u v:Value}(ry:bi y u)(rx:bi x v)(fy:js y=true)(fx:js x=true):SeqAt.EqAt A s u v (yn y x):=by
 cases y with
 | non=>
  cases ry;cases x with
  | non=>cases rx;exact SeqAt.EqAt.same _
  | bl b=>cases rx;exact SeqAt.EqAt.none_bool b
  | int b=>obtain⟨t,rfl⟩:=rx;exact SeqAt.EqAt.none_int b t
  | str b=>obtain⟨t,rfl⟩:=rx;exact SeqAt.EqAt.none_str b t
  | _=>exact absurd (show false=true from fx) Bool.false_ne_true
 | bl a=>
  cases ry;cases x with
  | non=>cases rx;exact SeqAt.EqAt.bool_none a
  | bl b=>cases rx;exact SeqAt.EqAt.bool_bool a b
  | int b=>obtain⟨t,rfl⟩:=rx;exact SeqAt.EqAt.bool_int a b t
  | str b=>obtain⟨t,rfl⟩:=rx;exact SeqAt.EqAt.bool_str a b t
  | _=>exact absurd (show false=true from fx) Bool.false_ne_true
 | int a=>
  obtain⟨t',rfl⟩:=ry;cases x with
  | non=>cases rx;exact SeqAt.EqAt.int_none a t'
  | bl b=>cases rx;exact SeqAt.EqAt.int_bool a t' b
  | int b=>obtain⟨t,rfl⟩:=rx;exact SeqAt.EqAt.int_int a t' b t
  | str b=>obtain⟨t,rfl⟩:=rx;exact SeqAt.EqAt.int_str a t' b t
  | _=>exact absurd (show false=true from fx) Bool.false_ne_true
 | str a=>
  obtain⟨t',rfl⟩:=ry;cases x with
  | non=>cases rx;exact SeqAt.EqAt.str_none a t'
  | bl b=>cases rx;exact SeqAt.EqAt.str_bool a t' b
  | int b=>obtain⟨t,rfl⟩:=rx;exact SeqAt.EqAt.str_int a t' b t
  | str b=>obtain⟨t,rfl⟩:=rx;exact SeqAt.EqAt.str_str a t' b t
  | _=>exact absurd (show false=true from fx) Bool.false_ne_true
 | _=>exact absurd (show false=true from fy) Bool.false_ne_true
def zw (x:V)(u:Value):Bool:=match u with
 | .none=>yn .non x
 | .bool b=>yn (.bl b) x
 | .int i _=>yn (.int i) x
 | .str z _=>yn (.str z) x
 | _=>false
theorem vW {x y:V}{u:Value}(r:bi y u)(f:js y=true):zw x u=yn y x:=by
 cases y with
 | non=>cases r;rfl
 | bl b=>cases r;rfl
 | int i=>obtain⟨t,rfl⟩:=r;rfl
 | str z=>obtain⟨t,rfl⟩:=r;rfl
 | _=>exact absurd (show false=true from f) Bool.false_ne_true
theorem oO {x:V}:∀{xs:List V} {us:List Value},aQ xs us→xs.all js=true→us.any (zw x)=xs.any fun y=>yn y x
 | _,_,.nil,_=>rfl
 | y::xs,u::us,.cons r t,f=>by
  rw[all_cons,Bool.and_eq_true] at f;rw[any_cons,any_cons,vW r f.1,oO t f.2]
theorem mh {A:Around}{s:Shared}{x:V}{v:Value}(rx:bi x v)(fx:js x=true):∀{xs:List V} {us:List Value},aQ xs us→xs.all js=true→∀u∈us,SeqAt.EqAt A s u v (zw x u)
 | _,_,.nil,_=>fun u hu=>by cases hu
 | y::xs,u::us,.cons r t,f=>fun u' hu=>by
  rw[all_cons,Bool.and_eq_true] at f;rcases mem_cons.mp hu with rfl|hu
  ·rw[vW r f.1];exact Bt r rx f.1 fx
  ·exact mh rx fx t f.2 u' hu
def Fd (x:V)(xs:List V):Bool:=xs.any fun y=>yn y x
def GP (K:W.Frag)(neg:Bool):R2:=fun x y H Q=>∃p xs,y=.ref p∧(iM K H p xs∨lU K H p xs)∧js x=true∧xs.all js=true∧Q (.bl (if neg then !Fd x xs else Fd x xs)) H
theorem u3:gq X (compareOp .In) (GP X.K false):=by
 intro af s σ H x y v u Q I rx ry h;obtain⟨p,xs,rfl,hq,fx,fs,q⟩:=h;cases ry;rcases hq with hq|hq
 ·obtain⟨its,r,pl,hz⟩:=I.list hq;refine SeqAt.in_listAt (zw x) pl.isList (fun w hw=>mh rx fx r fs w (by simpa using hw)) ⟨.bl _,H,I,rfl,?_⟩;rw[show its.toArray.any (zw x)=its.any (zw x) by simp,oO r fs];exact q
 ·obtain⟨its,r,pl,hz⟩:=I.tuple hq;refine SeqAt.in_tupleAt (zw x) pl (fun w hw=>mh rx fx r fs w (by simpa using hw)) ⟨.bl _,H,I,rfl,?_⟩;rw[show its.toArray.any (zw x)=its.any (zw x) by simp,oO r fs];exact q
theorem oF:cB X (.builtin "len") (fun xs H Q=>∃p ys,xs=[.ref p]∧(iM X.K H p ys∨lU X.K H p ys)∧Q (.int ys.length) H):=by
 intro af s σ H xs us Q I r h;obtain⟨p,ys,rfl,hq,q⟩:=h;obtain⟨u,rfl,rx⟩:=iY r;cases rx;have hn:=kX;rcases hq with hq|hq
 ·obtain⟨its,r',pl,hz⟩:=I.list hq;have hlen:=r'.length;exact Calls.call_len_list pl.isList (by simp only[size_toArray] <;> omega) ⟨.int ys.length,H,I.tok _,⟨s.toks+1,by rw[size_toArray,hlen]⟩,q⟩
 ·obtain⟨its,r',pl,hz⟩:=I.tuple hq;have hlen:=r'.length;exact len_tuple pl (by simp only[size_toArray] <;> omega) ⟨.int ys.length,H,I.tok _,⟨s.toks+1,by rw[size_toArray,hlen]⟩,q⟩
theorem oJ:cB X (.builtin "len") (fun xs H Q=>∃z,xs=[.str z]∧z.length≤sizeLine∧Q (.int z.length) H):=by
 intro af s σ H xs us Q I r h;obtain⟨z,rfl,hz,q⟩:=h;obtain⟨u,rfl,t,rfl⟩:=iY r;have hn:=kX;exact len_str (by omega) ⟨.int z.length,H,I.tok _,⟨_,rfl⟩,q⟩
theorem ph:cB X (.type "list") (fun xs H Q=>∃p ys,xs=[.ref p]∧(iM X.K H p ys∨lU X.K H p ys)∧∀l,H l=none→Q (.ref l) (bS H l (.lst ys))):=by
 intro af s σ H xs us Q I r h;obtain⟨p,ys,rfl,hq,q⟩:=h;obtain⟨u,rfl,rx⟩:=iY r;cases rx;have fin:∀(its:List Value),aQ ys its→ys.length≤sizeLine→∀(h':Heap) (c':Nat),(∀b o',s.heap.get? b=some o'→h'.get? b=some o')→
   h'.get? s.heap.objs.size=some {cls:=.type "list",dict:=none,data:=.seq its.toArray c',slots:=#[]}→EP X af σ Q (.ref s.heap.objs.size) {s with heap:=h'}:=fun its r' hz h' c' kp e=>
  ⟨.ref s.heap.objs.size,_,I.laid (t':=s.toks) kp (Nat.le_refl _) (show dg X.prog X.w _ h' _ (.lst ys) from⟨hz,its,c',r',e⟩),rfl,q _ (I.hok.fresh (Nat.le_refl _))⟩
 rcases hq with hq|hq
 ·obtain⟨its,r',pl,hz⟩:=I.list hq;have hlen:=r'.length;obtain⟨o,ho,hc,n,hd⟩:=pl.isList;exact call_list_seq p (.inl rfl) ho hc hd (fun h' c' kp e=>fin its r' hz h' c' kp e) (by simp only[size_toArray] <;> omega)
 ·obtain⟨its,r',pl,hz⟩:=I.tuple hq;have hlen:=r'.length;obtain⟨o,ho,hc,n,hd⟩:=pl;exact call_list_seq p (.inr rfl) ho hc hd (fun h' c' kp e=>fin its r' hz h' c' kp e) (by simp only[size_toArray] <;> omega)
theorem eI:cB X (.type "tuple") (fun xs H Q=>∃p ys,xs=[.ref p]∧((iM X.K H p ys∧∀l,H l=none→Q (.ref l) (bS H l (.tup ys)))∨(lU X.K H p ys∧Q (.ref p) H))):=by
 intro af s σ H xs us Q I r h;obtain⟨p,ys,rfl,h⟩:=h;obtain⟨u,rfl,rx⟩:=iY r;cases rx;rcases h with⟨hq,q⟩|⟨hq,q⟩
 ·obtain⟨its,r',pl,hz⟩:=I.list hq;have hlen:=r'.length;refine call_tuple_list pl.isList (fun h' kp=>?_) (by simp only[size_toArray] <;> omega);have I1:Inv X af σ H {s with heap:=h'}:=I.kept (t':=s.toks) kp;have I2:Inv X af σ (bS H h'.objs.size (.tup ys)) {s with heap:=h'.push {cls:=.type "tuple",data:=.seq its.toArray}}:=
   I1.laid (t':=s.toks) (fun b o e=>Heap.get?_push_of_some _ e) (Nat.le_refl _) (show dg X.prog X.w _ _ _ (.tup ys) from⟨hz,its,r',IsTup.new _ _⟩)
  exact⟨.ref h'.objs.size,_,I2,rfl,q _ (I1.hok.fresh (Nat.le_refl _))⟩
 ·obtain⟨its,r',pl,hz⟩:=I.tuple hq;exact call_tuple_same pl ⟨.ref p,H,I,rfl,q⟩
def GF (K:W.Frag)(T:String)(x:V)(H:Hp):Prop:=match x with
 | .str _=>T="str"
 | .int _=>T="int"
 | .ref p=>(T="list"∧∃xs,iM K H p xs)∨(T="tuple"∧∃o,K.lookup p=some o∧o.cls=.type "tuple"∧o.dict=none)∨
   (T="dict"∧((∃kvs,H p=some (.dK kvs))∨∃kvs,H p=some (.dT kvs)))∨(T="set"∧∃S n,H p=some (.set S n))
 | _=>False
theorem Bh {af:List (Addr×Obj)}{σ:St}{H:Hp}{s:Shared}{T:String}{x:V}{v:Value}(I:Inv X af σ H s)(r:bi x v)(ty:GF X.K T x H) :
  s.TypeIs v T∧∀a,v=.ref a→∃ob,s.heap.get? a=some ob∧ob.dict=none:=by
 cases x with
 | str z=>
  obtain⟨t,rfl⟩:=r;cases (show T="str" from ty);exact⟨typeIs_str s z t,fun _ e=>nomatch e⟩
 | int i=>
  obtain⟨t,rfl⟩:=r;cases (show T="int" from ty);exact⟨typeIs_int s i t,fun _ e=>nomatch e⟩
 | ref p=>
  cases r;rcases ty with⟨rfl,xs,hq⟩|⟨rfl,o,hk,hc,hd⟩|⟨rfl,hk⟩|⟨rfl,S,n,hk⟩
  ·obtain⟨its,_,pl,_⟩:=I.list hq;refine⟨pl.isList.typeIs,fun a e=>?_⟩;cases e;obtain⟨o,n,e,c,hd,_⟩:=pl;exact⟨o,e,hd⟩
  ·refine⟨⟨o,I.kIn p o hk,hc⟩,fun a e=>?_⟩;cases e;exact⟨o,I.kIn _ o hk,hd⟩
  ·have z:∃o,s.heap.get? p=some o∧o.ExactDict:=by
    rcases hk with⟨kvs,hk⟩|⟨kvs,hk⟩
    ·obtain⟨_,_,_,_,o,_,_,e,ex,_⟩:=I.hok p _ hk;exact⟨o,e,ex⟩
    ·obtain⟨_,_,_,_,o,_,_,e,ex,_⟩:=I.hok p _ hk;exact⟨o,e,ex⟩
   obtain⟨o,e,ex⟩:=z;refine⟨⟨o,e,ex.1⟩,fun a e2=>?_⟩;cases e2;exact⟨o,e,ex.2.1⟩
  ·obtain⟨o,_,_,_,e,ex,_⟩:=I.hok p _ hk;refine⟨⟨o,e,ex.1⟩,fun a e2=>?_⟩;cases e2;exact⟨o,e,ex.2.1⟩
 | _=>exact False.elim ty
def GL (K:W.Frag)(T:String)(r:V→List V→Hp→VK→Prop)(to:TE)(t:TA):TE:=fun σ H Q=>to σ H fun x H1=>GF K T x H1∧t σ H1 fun xs H2=>r x xs H2 Q
variable {o e:Expr}{es:List Expr}{to:TE}{t:TA}{name:Str}{apos cpos:Pos}{T id:String}{r:V→List V→Hp→VK→Prop}
theorem EF (pa:PlainAttrs T)(slot:Slot T name id)(hty:typeOf (.builtin id)=pure (.type "method_descriptor"))(hm:GX X id r)(ho:PE X o to)(ha:PA X (e::es) t)
  (hbase:attributeBase o name X.env (eval o X.env)=eval o X.env:=by rfl)
  (hfew:((backTo cpos (starEach (e::es) X.env)).all (fun x=>!x.1)&&(backToKw cpos (keywordEach [] X.env)).all (fun x=>x.1.isSome)
   && decide ((e::es).length+([]:List Keyword).length+(if([]:List Keyword).isEmpty then 0 else 1)<30))=true:=by rfl)
  (hline:(apos.endLine==cpos.line)=true:=by rfl) (hs:starEach (e::es) X.env=(false,eval e X.env)::starEach es X.env:=by rfl) (hplain:(backTo cpos (starEach es X.env)).any (·.1)=false:=by rfl) :
  PE X (.Call (.Attribute o name apos) (e::es) [] cpos) (GL X.K T r to t):=by
 intro af s σ H Q I h;refine wpAny_Call_method_late hbase hfew hline rfl (bR (ho af s σ H _ I h) fun v s1 hxx=>?_);obtain⟨x,H1,I1,r1,ty,q1⟩:=hxx;obtain⟨h1,h2⟩:=Bh I1 r1 ty;refine⟨T,id,pa,slot,hty,h1,h2,?_⟩;have hA:=ha cpos af s1 σ H1 _ I1 q1;rw[hs] at hA ⊢;refine Calls.callWith_builtin (by show(false||(backTo cpos (starEach es X.env)).any (·.1))=false;rw[hplain] <;> rfl) (Calls.evalArgs_plain ?_);exact bR hA fun us s2 ⟨vs,H2,I2,r2,q2⟩=>hm af s2 σ H2 x vs v us Q I2 r1 r2 q2
end
def GW (X:Cx)(id:String)(r:V→List V→Hp→VK→Prop):Prop:=
 ∀(af:List (Addr×Obj)) (s:Shared) (σ:St) (H:Hp) (x:V) (xs:List V) (v:Value) (us:List Value) (Q:VK),Inv X af σ H s→bi x v→aQ xs us→r x xs H Q→
  wpAny (model X.prog X.w) X.A (call (.builtin id) (v::us)) (EP X af σ Q) X.xe s
theorem aQ.one:∀{x:V} {us:List Value},aQ [x] us→∃u,us=[u]∧bi x u
 | _,_,.cons r .nil=>⟨_,rfl,r⟩
theorem aQ.reverse {xs:List V}{us:List Value}(h:aQ xs us):aQ xs.reverse us.reverse:=by
 induction h with
 | nil=>exact .nil
 | cons r t ih=>rw[reverse_cons,reverse_cons];exact aQ.append ih (.cons r .nil)
section
variable {X:Cx}{af:List (Addr×Obj)}{σ:St}{H:Hp}{s:Shared}{l b:Addr}{xs ys zs:List V}
theorem Inv.lset {its its':List Value}{n:Nat}{f:Array Value→Array Value}{t':Nat}(I:Inv X af σ H s)(hH:H l=some (.lst xs))
  (e:s.heap.get? l=some {cls:=.type "list",data:=.seq its.toArray n}) (hf:f its.toArray=its'.toArray) (hv:aQ ys its') (hz:ys.length≤sizeLine) :
  Inv X af σ (bS H l (.lst ys)) {s with heap:=s.heap.update l (Obj.mapSeq f),toks:=t'}:=by
 have q:=PySem.IsL.update e f;rw[hf] at q;refine I.write (x:=l) (e:=l) (by rw[hH];exact trivial) (.inl rfl) (fun b' u hb hu=>(Heap.get?_update_other s.heap (Obj.mapSeq f) (Ne.symm hb)).trans hu) ⟨_,q⟩ ?_;exact⟨hz,its',_,hv,q⟩
theorem Inv.lnew {its:List Value}{t':Nat}(I:Inv X af σ H s)(hv:aQ ys its)(hz:ys.length≤sizeLine) :
  Inv X af σ (bS H s.heap.objs.size (.lst ys)) {s with heap:=s.heap.push {cls:=.type "list",data:=.seq its.toArray},toks:=t'}:=
 I.laid (fun _ _ q=>Heap.get?_push_of_some _ q) (Nat.le_refl _) ⟨hz,its,0,hv,Heap.get?_push_size _ rfl⟩
theorem Inv.fresh (I:Inv X af σ H s):H s.heap.objs.size=none:=I.hok.fresh (Nat.le_refl _)
theorem Inv.lstM (I:Inv X af σ H s)(hH:H l=some (.lst xs)):xs.length≤sizeLine∧∃(its:List Value) (n:Nat),aQ xs its∧xs.length=its.length∧s.heap.get? l=some {cls:=.type "list",data:=.seq its.toArray n}:=by
 obtain⟨z,its,n,r,e⟩:=I.hok l _ hH;exact⟨z,its,n,r,r.length,e⟩
end
section
variable {X:Cx}
def yZ:V→List V→Hp→VK→Prop:=fun x vs H Q=>∃l xs y,x=.ref l∧vs=[y]∧H l=some (.lst xs)∧xs.length<sizeLine∧Q .non (bS H l (.lst (xs++[y])))
theorem uL:GW X "list.append" yZ:=by
 intro af s σ H x vs v us Q I rx rv h;obtain⟨l,xs,y,rfl,rfl,hH,hz,q⟩:=h;cases rx;obtain⟨u,rfl,ru⟩:=rv.one;obtain⟨z,its,n,r,hl,e⟩:=I.lstM hH;refine call_meets F.slot_list_append ⟨_,e,rfl⟩ F.entry_list_append (F.args_list_append_2 _ _) (PySem.list_append l its.toArray n u (by rw[size_toArray];omega)) ⟨e,?_⟩;refine⟨.non,_,I.lset (its':=its++[u]) hH e (by simp) (r.append (.cons ru .nil)) ?_,rfl,q⟩;rw[length_append,length_singleton];omega
def Gc:R2:=fun x y H Q=>∃l b xs zs,x=.ref l∧y=.ref b∧H l=some (.lst xs)∧H b=some (.lst zs)∧xs.length+zs.length≤sizeLine∧∀p,H p=none→Q (.ref p) (bS H p (.lst (xs++zs)))
theorem BD:gq X (binaryOp .Add) Gc:=by
 intro af s σ H x y v u Q I rx ry h;obtain⟨l,b,xs,zs,rfl,rfl,hH,hB,hz,q⟩:=h;cases rx;cases ry;obtain⟨z,its,n,r,hl,e⟩:=I.lstM hH;obtain⟨z2,its2,n2,r2,hl2,e2⟩:=I.lstM hB;refine PySem.P.add_list e e2 ?_ (by rw[size_toArray,size_toArray];omega);have ea:its.toArray++its2.toArray=(its++its2).toArray:=by simp
 rw[ea];exact⟨.ref _,_,I.lnew (t':=s.toks) (r.append r2) (by rw[length_append];omega),rfl,q _ I.fresh⟩
end
end L2
namespace Att
open PySem PySem.W PySem.Calls PyProof.Rows
theorem lT {P:Params}{h:Heap}:∀(ns:List Int) (vs:List Value),WellAll P h vs (ns.map WData.int)→IntsAre vs ns:=by
 intro ns
 induction ns with
 | nil=>
  intro vs w;rw[List.map_nil] at w;cases w;exact .nil
 | cons n ns ih=>
  intro vs w;rw[List.map_cons] at w;cases w with
  | cons a b=>
   cases a;exact .cons _ _ (ih _ b)
theorem vc {l:OpenLaw}{n:Nat}(hn:l.most=some n){P:Params}{h:Heap}{args:List WData}{vals:List Value}
  (hpre:l.row.toRowW.claim.pre args=true) (hwl:WellAll P h vals args) :
  ∃a vs ns,vals=[Value.ref a]∧args=[WData.list (ns.map WData.int)]∧h.get? a=some {cls:=.type "list",data:=.seq vs.toArray}∧IntsAre vs ns∧ns.length≤n:=by
 have hsh:WShape.hasAll [] args [.list .int]=true:=(pre_splitW hpre).1;have hc:l.pre.holds [] {args:=args}=true:=(pre_splitW hpre).2;obtain⟨d,r,rfl,h1,h2⟩:=hasAllW_cons hsh;obtain rfl:=hasAllW_nil h2;obtain⟨xs,rfl,h3⟩:=hasW_list h1;obtain⟨ns,rfl⟩:=items_int h3;have hlen:ns.length≤n:=by
  unfold OpenLaw.pre at hc;have h4:(WTm.not (.lt (.lit (.int (n:Int))) (.len (.arg 0)))).holds [] {args:=[.list (ns.map .int)]}=true:=by
   have h4:=(holds_andW hc).1;rw[hn] at h4;exact h4
  have h5:=condW_of h4 (w_not (w_lt w_lit (w_len_list (w_arg rfl))));rw[List.length_map] at h5;refine Nat.le_of_not_lt fun q=>?_
  have q':(n:Int)<((ns.length:Nat):Int):=by omega
  first
   | (rw[decide_eq_true q'] at h5;exact absurd h5 (by decide))
   | (simp at h5;omega)
 cases hwl with
 | cons w1 w2=>
  cases w2;cases w1 with
  | list ho hall=>exact⟨_,_,ns,rfl,rfl,ho,lT ns _ hall,hlen⟩
theorem uM (l:OpenLaw)(args:List WData):l.row.toRowW.claim.post args (.bool true) args=true:=
 postW_of (r:=l.row.toRowW) (X:=(true==true))
  (show WShape.has [] (.bool true) .bool=true by first|rfl|decide|simp[WShape.has,WShape.arms,WShape.armsAll])
  (show(WTm.eq .res (.lit (.bool true))).value [] {args:=args,res:=some (.bool true),after:=args}=some (.bool (true==true)) from w_eq_bool (w_res rfl) w_lit) rfl
theorem attach_call {l:OpenLaw}{n:Nat}{q:Program}{loose:List Str}{XP:(Str→Option Value)→Heap→Prop}{YP:World→Heap→Prop}{d:DefRec}
  (hn:l.most=some n) (hdf:d.params.defaults=[])
  (call:∀(w:World) (s₀ s₁:Shared) (mg mb:Str→Option Value) (fa:Addr) (o:Obj) (pm cd doc:Value) (a:Addr) (vs:List Value) (ns:List Int),
   Ground q loose [] XP w s₀ mg mb s₁.heap→YP w s₁.heap→
   s₁.heap.get? fa=some o→o.data=.func (docDef d.name d.params d.body d.scope pm cd doc)→s₁.heap.CodeRec cd d.name→mg d.name=some (.ref fa)→
   s₁.heap.get? a=some {cls:=.type "list",data:=.seq vs.toArray}→IntsAre vs ns→ns.length≤n→s₁.gens=#[]→
   codeAny (model l.prog w) callerA (.call (.ref fa) ⟨[.ref a],[]⟩) (fun r s'=>r=.ok (.ret (.bool true))∧OldK s₁.heap s'.heap∧s'.os=s₁.os∧AllBare s'.gens) s₁) :
  WalkO q loose XP YP l.row.toRowW d [] (fun f vs=>PySem.call f vs):=by
 intro w s₀ s₁ mg mb G Y fa o pm cd doc dV kV ho hd hcd hD hmg hg args vals as hpre hlay hrd hwl hlo;obtain rfl:dV=.none:=Dflts.none hD hdf;obtain rfl:kV=.none:=Dflts.noKw hD;obtain⟨a,vs,ns,rfl,rfl,hobj,hints,hlen⟩:=vc hn hpre hwl;refine enter_call (codeAny_mono (call w s₀ s₁ mg mb fa o pm cd doc a vs ns G Y ho (fd_plain hd) hcd hmg hobj hints hlen hg) fun r s' hq=>?_);obtain⟨rfl,h2,h3,h4⟩:=hq;exact⟨.inl ⟨.bool true,.bool true,[],rfl,fun _=>rfl,.bool true,uM l _,fun _=>⟨List.Pairwise.nil,fun _ hm=>(nomatch hm)⟩⟩,h2,h3,h4⟩
end Att
namespace L2
open PySem PySem.Spec PyProof.Rows List
theorem nw:∀{vs:List Value} {ns:List Int},IntsAre vs ns→aQ (ns.map V.int) vs
 | _,_,.nil=>.nil
 | _,_,.cons n t h=>.cons ⟨t,rfl⟩ (nw h)
def fg (s:Stmt):Arguments:=match s with
 | .FunctionDef _ a _ _ _ _ _ _ _ _=>a
 | _=>{posonlyargs:=[],args:=[],vararg:=none,kwonlyargs:=[],kw_defaults:=[],kwarg:=none,defaults:=[]}
def cr (s:Stmt):List Stmt:=match s with
 | .FunctionDef _ _ b _ _ _ _ _ _ _=>b
 | _=>[]
def aK (s:Stmt):Scope:=match s with
 | .FunctionDef _ _ _ _ _ _ sc _ _ _=>sc
 | _=>{kind:=.function,names:=[],isGenerator:=false,isCoroutine:=false}
abbrev E0:XK:=fun _ _ _=>False
structure yy (K:W.Frag)(x qual:Str)(st:Stmt)(f:Addr)(fd:FuncData):Prop where
 ex:∃(oc:Value) (od:Option Addr) (kV doc pm:Value) (an:Option Addr) (cdv ct:Value) (osl:Array (Option Value)),
  fd=W.fnOf x qual (fg st) (cr st) (aK st) .none kV doc pm an cdv ct∧K.lookup f=some ⟨oc,od,.func fd,osl⟩∧W.codeIn K cdv qual=true
 kp:W.keepIn K (.ref f)=true
section
variable {P:Program}{w:World}{K:W.Frag}{mg:Str→Option Value}{base:Heap}
theorem yy.binds {x qual:Str}{st:Stmt}{f:Addr}{fd:FuncData}{ps:List Str}(F:yy K x qual st f fd)
  (h:∀(kV doc pm:Value) (an:Option Addr) (cdv ct:Value) (us:List Value),us.length=ps.length→bindArgs (W.fnOf x qual (fg st) (cr st) (aK st) .none kV doc pm an cdv ct) ⟨us,[]⟩=pure (ps.zip us)):i7 K fd ps []:=by
 obtain⟨oc,od,kV,doc,pm,an,cdv,ct,osl,rfl,lk,hcd⟩:=F.ex;exact .all (h kV doc pm an cdv ct)
theorem o7 {x qual:Str}{st:Stmt}{f:Addr}{oc:Value}{od an:Option Addr}{osl:Array (Option Value)}{kV doc pm cdv ct:Value}(l:K.lookup f=some ⟨oc,od,.func (W.fnOf x qual (fg st) (cr st) (aK st) .none kV doc pm an cdv ct),osl⟩)
  (c:W.codeIn K cdv qual=true) (k:W.keepIn K (.ref f)=true):yy K x qual st f (W.fnOf x qual (fg st) (cr st) (aK st) .none kV doc pm an cdv ct):=⟨⟨oc,od,kV,doc,pm,an,cdv,ct,osl,rfl,l,c⟩,k⟩
end
abbrev KT (H:Hp):List (List nU×V)→List (List nU×Addr×Value)→Prop:=Paired fun p q=>p.1=q.1∧H q.2.1=some (.tup (p.1.map kV))∧bi p.2 q.2.2
abbrev VV:List (V×V)→List (Value×Value)→Prop:=Paired fun p q=>bi p.1 q.1∧bi p.2 q.2
structure M1 (X:Cx)(o:Expr)(m:Str)(apos:Pos)(e:Expr)(cpos:Pos):Prop where
 base:attributeBase o m X.env (eval o X.env)=eval o X.env
 few:((backTo cpos (starEach [e] X.env)).all (fun x=>!x.1)&&(backToKw cpos (keywordEach [] X.env)).all (fun x=>x.1.isSome)
  && decide (([e]:List Expr).length+([]:List Keyword).length+(if([]:List Keyword).isEmpty then 0 else 1)<30))=true
 line:(apos.endLine==cpos.line)=true
 trees:backTo cpos (starEach [e] X.env)=[(false,eval e X.env)]
structure M2 (X:Cx)(o:Expr)(m:Str)(apos:Pos)(e f:Expr)(cpos:Pos):Prop where
 base:attributeBase o m X.env (eval o X.env)=eval o X.env
 few:((backTo cpos (starEach [e,f] X.env)).all (fun x=>!x.1)&&(backToKw cpos (keywordEach [] X.env)).all (fun x=>x.1.isSome)
  && decide (([e,f]:List Expr).length+([]:List Keyword).length+(if([]:List Keyword).isEmpty then 0 else 1)<30))=true
 line:(apos.endLine==cpos.line)=true
 trees:backTo cpos (starEach [e,f] X.env)=[(false,eval e X.env),(false,eval f X.env)]
end L2
namespace Att
open PySem PySem.W PySem.Calls PyProof.Rows
end Att
namespace L2
open PySem PySem.Spec PyProof.Rows List
end L2
namespace DL
open PySem PySem.Spec PyProof.Rows L2 List
structure DA (X:Cx)(af:List (Addr×Obj))(H:Hp)(B:Heap):Prop where
 trk:∀b o,H b=some o→∃o',B.get? b=some o'
 pin:∀p∈X.pn++af,∃o',B.get? p.1=some o'
 old:∀b o,X.s₀.heap.get? b=some o→b∉X.ex→b∉kW X.stack→∃o',B.get? b=some o'
def FZ (X:Cx)(H:Hp)(a C:Addr)(s:Shared):Prop:=∃af σ,
 (∃h vs,L2.Inv X af σ H {s with heap:=h}∧Heap.MadeExcOf h s.heap a (.ref C) vs)∨
 (L2.Inv X af σ H s∧H a=none∧∃B a0,Heap.FlyingW B X.stack a (.ref C) a0 s.heap∧DA X af H B)∨
 (L2.Inv X af σ H s∧H a=none∧∃B a0 L,X.env.frame=some L∧Heap.HeldW B X.stack a (.ref C) a0 L s.heap∧DA X af H B)
def my (K:W.Frag)(c:Str)(C:Addr):Prop:=W.nsIn K mainGlobals c=some (some (.ref C))
theorem mM {P:Program}{w:World}{H:Hp}{h:Heap}{a:Addr}{o:HO}(x:dg P w H h a o):∃u,h.get? a=some u:=by
 cases o with
 | lst xs=>obtain⟨_,_,_,_,e⟩:=x;exact⟨_,e⟩
 | tup xs=>obtain⟨_,_,_,o,e,_⟩:=x;exact⟨_,e⟩
 | dK kvs=>obtain⟨_,_,_,_,o,_,_,e,_⟩:=x;exact⟨_,e⟩
 | dT kvs=>obtain⟨_,_,_,_,o,_,_,e,_⟩:=x;exact⟨_,e⟩
 | set S n=>obtain⟨o,_,_,_,e,_⟩:=x;exact⟨_,e⟩
 | ins C dx fs=>obtain⟨_,_,_,e,_⟩:=x;exact⟨_,e⟩
 | own y=>obtain⟨_,e⟩:=x;exact⟨_,e⟩
 | xd fs=>obtain⟨_,⟨_,_,_,e,_⟩,_⟩:=x;exact⟨_,e⟩
 | rng lo hi=>obtain⟨_,_,_,e⟩:=x;exact⟨_,e⟩
 | frz ob u=>obtain⟨e,_⟩:=x;exact⟨_,e⟩
 | tbl ps=>exact⟨_,show h.get? a=some _ from x⟩
 | met f y=>exact⟨_,show h.get? a=some _ from x⟩
 | ext φ=>obtain⟨_,⟨_,e⟩,_⟩:=x;exact⟨_,e⟩
section
variable {X:Cx}{af:List (Addr×Obj)}{σ:List (Option V)}{H:Hp}{s:Shared}{B h':Heap}{a C:Addr}
theorem og (I:L2.Inv X af σ H s){b:Addr}{o:Obj}(e:X.s₀.heap.get? b=some o)(n:b∉X.fs):b∉kW X.stack:=fun z=>by
 rcases mem_cons.mp (I.stkSub b z) with q|q
 ·have h1:=Heap.lt_size e;rw[q] at h1;exact absurd (Nat.lt_of_lt_of_le h1 I.ok.above) (Nat.lt_irrefl _)
 ·exact n q
theorem tQ {h h':Heap}{c:Addr}{v:Option Value}(u:h.UpToSlots h')(x:h.IsCell c v):h'.IsCell c v:=by
 obtain⟨o,e,d⟩:=x;obtain⟨sl,e'⟩:=u c o e fun vs q=>by rw[d] at q;cases q
 exact⟨_,e',d⟩
theorem vy (I:L2.Inv X af σ H s)(dZ:DA X af H B)(hB:B.StaysIn s.heap)(hB':B.StaysIn h')(up:s.heap.UpToSlots h'):L2.Inv X af σ H {s with heap:=h'}:=by
 have keepB:∀b o o',B.get? b=some o'→s.heap.get? b=some o→h'.get? b=some o:=fun b o o' e1 e2=>by
  have:=hB b o' e1;rw[e2] at this;cases this;exact hB' b _ e1
 refine⟨I.ok,I.os,I.bare,⟨fun b o e n nf nx=>?_,fun b o e n hf nx=>?_,fun b o e n nx=>I.base.free b o e n nx,fun b o e nx=>?_,I.base.tups,I.base.frzs,I.base.tbls⟩,?_,fun x c e=>?_,I.free,I.freeC,fun p hp=>?_,fun b o e=>?_,I.len⟩
 ·obtain⟨o',e'⟩:=dZ.old b o e nx (og I e nf);exact keepB b o o' e' (I.base.keep b o e n nf nx)
 ·obtain⟨sl,e1⟩:=I.base.slot b o e n hf nx;obtain⟨_,ob,e2,nf⟩:=I.funs.mem hf;rw[e1] at e2;cases e2;obtain⟨sl',e3⟩:=up b _ e1 nf;exact⟨sl',e3⟩
 ·by_cases hf:b∈X.fs
  ·obtain⟨_,ob,e2,nf⟩:=I.funs.mem hf;obtain⟨sl',e3⟩:=up b _ e2 nf;exact⟨_,e3⟩
  ·obtain⟨o',e'⟩:=dZ.old b o e nx (og I e hf);exact⟨o',hB' b o' e'⟩
 ·obtain⟨m,hn,hl⟩:=I.loc;refine⟨m,up.ns hn,fun i x v e1 e2 e3=>?_⟩;obtain⟨u,r,lk⟩:=hl i x v e1 e2 e3;refine⟨u,r,?_⟩;rcases lk with lk|⟨k,c,ec,ic⟩
  ·exact .inl lk
  ·exact .inr ⟨k,c,ec,tQ up ic⟩
 ·obtain⟨v,ic⟩:=I.cell x c e;exact⟨v,tQ up ic⟩
 ·obtain⟨e,n,ne,nf,d⟩:=I.pin p hp;obtain⟨o',e'⟩:=dZ.pin p hp;exact⟨keepB p.1 p.2 o' e' e,n,ne,nf,d⟩
 ·refine(I.hok b o e).stay (fun c u hc q=>?_) (fun _ q=>q) fun _ _ q=>q
  have:∃o,H c=some o:=by
   rcases hc with z|z
   ·exact⟨o,by rw[z];exact e⟩
   ·exact⟨_,z⟩
  obtain⟨oc,ec⟩:=this;obtain⟨o',e'⟩:=dZ.trk c oc ec;exact keepB c u o' e' q
theorem we (I:L2.Inv X af σ H s):DA X af H (W.hideAll s.heap (kW X.stack)):=by
 refine⟨fun b o e=>?_,fun p hp=>?_,fun b o e nx nf=>?_⟩
 ·obtain⟨u,q⟩:=mM (I.hok b o e);exact⟨u,W.hideAll_get _ q fun z=>by rw[I.stkFree b z] at e;cases e⟩
 ·obtain⟨e,n,ne,nf,d⟩:=I.pin p hp;exact⟨p.2,W.hideAll_get _ e fun z=>by
   rcases mem_cons.mp (I.stkSub _ z) with q|q
   ·exact ne q
   ·exact nf q⟩
 ·obtain⟨o',e'⟩:=I.base.there b o e nx;exact⟨o',W.hideAll_get _ e' nf⟩
theorem pZ (I:L2.Inv X af σ H s):s.heap.FunFrames (W.hideAll s.heap (kW X.stack)) X.stack:=
 W.funFrames_hide I.stack fun env he b hb=>mem_filterMap.mpr ⟨env,he,hb⟩
theorem uA {vs:List Value}{h:Heap}(I:L2.Inv X af σ H {s with heap:=h})(m:Heap.MadeExcOf h s.heap a (.ref C) vs):H a=none:=by
 cases q:H a with
 | none=>rfl
 | some o=>
  obtain⟨u,e⟩:=mM (I.hok a o q);have e:h.get? a=some u:=e;rw[m.new] at e;cases e
end
def gP (P:Program)(w:World):vm:=fun outer H s E e s'=>∃a C H' B a0,e=.ref a∧s'.os=s.os∧AllBare s'.gens∧Un (kW outer) [] H H' s.heap s'.heap∧jM P w H' s'.heap∧H' a=none∧
 Heap.FlyingW B outer a (.ref C) a0 s'.heap∧(∀b o,H' b=some o→∃o',B.get? b=some o')∧(∀b o,s.heap.get? b=some o→b∉kW outer→∃o',B.get? b=some o')∧E (.ref C) (some a) H'
theorem jF {P:Program}{w:World}{K:W.Frag}{mg:Str→Option Value}{base:Heap}{N:List Str}{qual:Str}{scope:Scope}{f:Addr}{cdv:Value}{A:Around}{outer:List Env}{s s':Shared}{H H':Hp}{E:XK}{a C:Addr}
  (fl:FZ (fh (gP P w) P w K mg base N qual scope f cdv A outer s H E) H' a C s') (hE:E (.ref C) (some a) H'):(fh (gP P w) P w K mg base N qual scope f cdv A outer s H E).xe (.ref a) s':=by
 show wpAny (model P w) (A.deeper (envOfC qual scope s.heap.objs.size f cdv)) (leaving (envOfC qual scope s.heap.objs.size f cdv) (.ref a)) (fun _ s''=>gP P w outer H s E (.ref a) s'') (fun e' s''=>gP P w outer H s E e' s'') s';obtain⟨af,σ,fl⟩:=fl;have key:∀(B:Heap) (a0:Value) (h':Heap) (I:L2.Inv (fh (gP P w) P w K mg base N qual scope f cdv A outer s H E) af σ H' s'),B.StaysIn s'.heap→DA (fh (gP P w) P w K mg base N qual scope f cdv A outer s H E) af H' B→H' a=none→
   Heap.FlyingW B outer a (.ref C) a0 h'→s'.heap.UpToSlots h'→gP P w outer H s E (.ref a) {s' with heap:=h'}:=fun B a0 h' I hB dZ hn fl' up=>by
  have I':=vy I dZ hB fl'.1 up;refine⟨a,C,H',B,a0,rfl,I'.os,I'.bare,I'.base,I'.hok,hn,fl',dZ.trk,fun b o e nf=>?_,hE⟩;exact dZ.old b o e (by show b∉([]:List Addr);simp) (og I e nf)
 rcases fl with⟨h,vs,I,m⟩|⟨I,hn,B,a0,fl,dZ⟩|⟨I,hn,B,a0,L,hL,held,dZ⟩
 ·have dZ:=we I;have hid:∀b o,(W.hideAll h (kW (fh (gP P w) P w K mg base N qual scope f cdv A outer s H E).stack)).get? b=some o→h.get? b=some o:=fun b o q=>W.of_hideAll _ q
  refine wpAny_leaves_madeW (env:=envOfC qual scope s.heap.objs.size f cdv) (outer:=outer) I.ok.frames rfl hid (pZ I) m fun h' t x1 x2 x3 x4=>?_
  exact key _ _ h' (I.kept (t':=s'.toks) (h':=s'.heap) m.keeps) (fun b o q=>m.keeps b o (hid b o q)) dZ (uA I m) x1 x4
 ·refine wpAny_leaves_onW (env:=envOfC qual scope s.heap.objs.size f cdv) (outer:=outer) I.ok.frames rfl fl fun h' x1 x2=>?_
  exact key B a0 h' I fl.1 dZ hn x1 x2
 ·unfold leaving;refine wpAny_bind (wpAny_noteFrame_againW hL held.2.2.2 ?_);refine wpAny_landsW held fun h' x1 x2=>?_
  obtain⟨k1,k2,⟨_,_,k3⟩,k4⟩:=x1;exact key B a0 h' I held.1 dZ hn ⟨k1,k2,k3,k4⟩ x2
theorem uh {X:Cx}{af:List (Addr×Obj)}{σ:L2.St}{H:Hp}{s:Shared}{e:Value}{s':Shared}{E:XK}(I:L2.Inv X af σ H s)(h:gP X.prog X.w X.stack H s E e s'):∃a C H',e=.ref a∧FZ X H' a C s'∧E (.ref C) (some a) H':=by
 obtain⟨a,C,H',B,a0,rfl,os,bare,un,hok,hn,fl,trk,old,hE⟩:=h;refine⟨a,C,H',rfl,⟨af,σ,.inr (.inl ⟨I.call' os un hok bare (fun b z=>absurd z (by simp)),hn,B,a0,fl,trk,fun p hp=>?_,fun b o eb nx nf=>?_⟩)⟩,hE⟩
 ·obtain⟨eb,n,ne,nf,d⟩:=I.pin p hp;exact old p.1 p.2 eb fun z=>by
   rcases mem_cons.mp (I.stkSub _ z) with q|q
   ·exact ne q
   ·exact nf q
 ·obtain⟨o',e'⟩:=I.base.there b o eb nx;exact old b o' e' nf
inductive D where
 | non|bl (b:Bool)|int (i:Int)|str (x:Str)|tup (xs:List D)|lst (xs:List D)|ro (xs:List D)|mr (i:Nat)|exc (c:Str)|any
instance:Inhabited D:=⟨.non⟩
inductive MO where
 | lst (xs:List D)|obj (c:Str) (fs:List (Str×D))|dK (kvs:List (nU×D))|dT (kvs:List (List nU×D))
instance:Inhabited MO:=⟨.lst []⟩
abbrev aw:=List MO
abbrev bj:=List (Option D)
inductive aM (α:Type) where
 | ok (a:α) (M:aw)
 | err (c:Str) (M:aw)
 | bad
def aM.bind {α β:Type}(o:aM α)(f:α→aw→aM β):aM β:=
 match o with
 | .ok a M=>f a M
 | .err c M=>.err c M
 | .bad=>.bad
@[simp] theorem ao {α β:Type} (a:α) (M:aw) (f:α→aw→aM β):(aM.ok a M).bind f=f a M:=by rw[aM.bind]
@[simp] theorem DM {α β:Type} (c:Str) (M:aw) (f:α→aw→aM β):(aM.err c M:aM α).bind f=.err c M:=by rw[aM.bind]
@[simp] theorem DV {α β:Type} (f:α→aw→aM β):(aM.bad:aM α).bind f=.bad:=by rw[aM.bind]
def GY (K:W.Frag)(a:Addr)(xs:List V):Prop:=∃(o:Obj) (its:Array Value) (n:Nat),K.lookup a=some o∧o.cls=.type "tuple"∧o.data=.seq its n∧its.size≤sizeLine∧aQ xs its.toList
def KL (K:W.Frag)(a:Addr)(xs:List V):Prop:=∃(o:Obj) (its:Array Value) (n:Nat),K.lookup a=some o∧o.cls=.type "list"∧o.dict=none∧o.data=.seq its n∧its.size≤sizeLine∧aQ xs its.toList
def jO (K:W.Frag)(θ:List Addr)(H:Hp)(a:Addr)(xs:List V):Prop:=H a=some (.tup xs)∧a∉θ
def nE (θ:List Addr)(H:Hp)(a:Addr)(xs:List V):Prop:=H a=some (.lst xs)∧a∉θ
def j3 (K:W.Frag)(θ:List Addr)(H:Hp)(a:Addr)(xs:List V):Prop:=(Rd H a (.lst xs)∧a∉θ)∨KL K a xs
theorem jO.sq {K:W.Frag}{θ:List Addr}{H:Hp}{a:Addr}{xs:List V}(h:jO K θ H a xs):lU K H a xs:=.inl (.inl h.1)
theorem nE.sq {K:W.Frag}{θ:List Addr}{H:Hp}{a:Addr}{xs:List V}(h:nE θ H a xs):iM K H a xs:=.inl (.inl h.1)
theorem j3.sq {K:W.Frag}{θ:List Addr}{H:Hp}{a:Addr}{xs:List V}(h:j3 K θ H a xs):iM K H a xs:=by
 rcases h with⟨h,_⟩|h
 ·exact .inl h
 ·exact .inr h
def FR (a C:Addr):HO:=.ext fun h=>∃o,h.get? a=some o∧o.cls=.ref C
mutual
def c6 (K:W.Frag)(θ:List Addr)(H:Hp):D→V→Prop
 | .non,v=>v=.non
 | .bl b,v=>v=.bl b
 | .int i,v=>v=.int i
 | .str x,v=>v=.str x
 | .tup ds,v=>∃a vs,v=.ref a∧jO K θ H a vs∧aR K θ H ds vs
 | .lst ds,v=>∃a vs,v=.ref a∧nE θ H a vs∧aR K θ H ds vs
 | .ro ds,v=>∃a vs,v=.ref a∧j3 K θ H a vs∧aR K θ H ds vs
 | .mr i,v=>∃a,v=.ref a∧θ[i]?=some a
 | .exc c,v=>∃a C,v=.ref a∧my K c C∧H a=some (FR a C)∧a∉θ
 | .any,_=>True
def aR (K:W.Frag)(θ:List Addr)(H:Hp):List D→List V→Prop
 | [],vs=>vs=[]
 | d::ds,vs=>∃v r,vs=v::r∧c6 K θ H d v∧aR K θ H ds r
end
def uX (K:W.Frag)(θ:List Addr)(H:Hp):List (Str×D)→List (Str×V)→Prop
 | [],vs=>vs=[]
 | (f,d)::fs,vs=>∃v r,vs=(f,v)::r∧c6 K θ H d v∧uX K θ H fs r
def rB {κ:Type}(K:W.Frag)(θ:List Addr)(H:Hp):List (κ×D)→List (κ×V)→Prop
 | [],vs=>vs=[]
 | (k,d)::fs,vs=>∃v r,vs=(k,v)::r∧c6 K θ H d v∧rB K θ H fs r
def m7 (K:W.Frag)(θ:List Addr)(H:Hp):MO→Addr→Prop
 | .lst ds,a=>∃vs,H a=some (.lst vs)∧aR K θ H ds vs
 | .obj c fs,a=>∃C dx vs,my K c C∧H a=some (.ins C dx vs)∧uX K θ H fs vs
 | .dK kvs,a=>∃vs,H a=some (.dK vs)∧rB K θ H kvs vs
 | .dT kvs,a=>∃vs,H a=some (.dT vs)∧rB K θ H kvs vs
def bN:List Str:=["ink_shown","table_within","slots_given","cast_on_slots"]
def bG (x:Str):Str:=x++(".<locals>.<lambda>":Str)
def gw (c:Addr)(q:Str):HO:=.ext fun h=>h.CodeRec (.ref c) q
def FW (ob:Obj):HO:=.frz ob (.ext fun _=>True)
structure jx (K:W.Frag)(H:Hp):Prop where
 tab:∀x,x∈bN→∀c P,W.tabIn K x=some (c,P)→∃ps,H P=some (.tbl ps)∧TriplesOk ps.toList∧∀pos cv,codeAmong pos ps.toList=some cv→∃c',cv=.ref c'∧H c'=some (gw c' (bG x))
 bm:∀x,x∈bN→∀c P,W.tabIn K x=some (c,P)→∃bm ob,W.nsIn K mainGlobals "__builtins__"=some (some (.ref bm))∧H bm=some (FW ob)∧ob.cls=.type "module"∧ob.dict=some builtinsNs∧ob.data=.plain∧bm≠builtinsNs∧bm≠mainGlobals
theorem jx.of {K:W.Frag}{H H':Hp}(t:jx K H)(k1:∀b ps,H b=some (.tbl ps)→H' b=some (.tbl ps))(k2:∀b φ,H b=some (.ext φ)→H' b=some (.ext φ))(k3:∀b o u,H b=some (.frz o u)→H' b=some (.frz o u)):jx K H':=
 ⟨fun x hx c P e=>by
  obtain⟨ps,h1,h2,h3⟩:=t.tab x hx c P e;refine⟨ps,k1 _ _ h1,h2,fun pos cv q=>?_⟩;obtain⟨c',e1,e2⟩:=h3 pos cv q;exact⟨c',e1,k2 _ _ e2⟩,fun x hx c P e=>by
  obtain⟨bm,ob,e1,e2,r⟩:=t.bm x hx c P e;exact⟨bm,ob,e1,k3 _ _ _ e2,r⟩⟩
theorem jx.new {K:W.Frag}{H:Hp}{p:Addr}{o:HO}(t:jx K H)(hp:H p=none):jx K (bS H p o):=
 t.of (fun b ps e=>by rw[au (bB e hp)];exact e) (fun b φ e=>by rw[au (bB e hp)];exact e) fun b o u e=>by rw[au (bB e hp)];exact e
def rA:HO→Bool
 | .tbl _=>false
 | .ext _=>false
 | .frz _ _=>false
 | _=>true
theorem jx.at_ {K:W.Frag}{H:Hp}{a:Addr}{o u:HO}(t:jx K H)(ha:H a=some u)(hu:rA u=true):jx K (bS H a o):=
 t.of (fun b ps e=>by rw[au (sJ e ha (by intro z;subst z;cases hu))];exact e) (fun b φ e=>by rw[au (sJ e ha (by intro z;subst z;cases hu))];exact e) fun b o u e=>by rw[au (sJ e ha (by intro z;subst z;cases hu))];exact e
structure Wr (K:W.Frag)(θ:List Addr)(H:Hp)(M:aw):Prop where
 len:θ.length=M.length
 nd:θ.Nodup
 at_:∀(i:Nat) a m,θ[i]?=some a→M[i]?=some m→m7 K θ H m a
 tb:jx K H
structure fK (K:W.Frag)(θ:List Addr)(H:Hp)(σ:L2.St)(ρ:bj):Prop where
 len:ρ.length=σ.length
 at_:∀(i:Nat) d,ρ[i]?=some (some d)→∃v,σ[i]?=some (some v)∧c6 K θ H d v
structure Grow (θ:List Addr)(H:Hp)(θ':List Addr)(H':Hp):Prop where
 ext:∃more,θ'=θ++more∧∀a∈more,H a=none
 keep:∀b o,H b=some o→b∉θ→(∀ps,o≠.tbl ps)→H' b=some o
 tkeep:∀b ps,H b=some (.tbl ps)→∃ps',H' b=some (.tbl ps')
structure Go (K:W.Frag)(θ:List Addr)(H:Hp)(θ':List Addr)(H':Hp)(M':aw):Prop extends Grow θ H θ' H' where
 wr:Wr K θ' H' M'
section
variable {K:W.Frag}{θ θ' θ1 θ2:List Addr}{H H' H1 H2:Hp}{M M' M1 M2:aw}{a p:Addr}{σ:L2.St}{ρ:bj}
theorem Wr.tracked (w:Wr K θ H M)(h:a∈θ):H a≠none:=by
 obtain⟨i,hi,e⟩:=mem_iff_getElem.mp h;have h1:θ[i]?=some a:=by rw[getElem?_eq_getElem hi,e]
 have h2:i<M.length:=by rw[←w.len];exact hi
 have h3:=w.at_ i a _ h1 (getElem?_eq_getElem h2);cases q:M[i] with
 | lst ds=>
  rw[q] at h3;obtain⟨vs,e,_⟩:=h3;rw[e];simp
 | obj c fs=>
  rw[q] at h3;obtain⟨C,dx,vs,_,e,_⟩:=h3;rw[e];simp
 | dK kvs=>
  rw[q] at h3;obtain⟨vs,e,_⟩:=h3;rw[e];simp
 | dT kvs=>
  rw[q] at h3;obtain⟨vs,e,_⟩:=h3;rw[e];simp
theorem m7.plain {m:MO}(h:m7 K θ H m a):∃o,H a=some o∧rA o=true:=by
 cases m with
 | lst ds=>obtain⟨vs,e,_⟩:=h;exact⟨_,e,rfl⟩
 | obj c fs=>obtain⟨C,dx,vs,_,e,_⟩:=h;exact⟨_,e,rfl⟩
 | dK kvs=>obtain⟨vs,e,_⟩:=h;exact⟨_,e,rfl⟩
 | dT kvs=>obtain⟨vs,e,_⟩:=h;exact⟨_,e,rfl⟩
theorem Wr.plain (w:Wr K θ H M){i:Nat}(h:θ[i]?=some a):∃o,H a=some o∧rA o=true:=by
 have h2:i<M.length:=by rw[←w.len];exact(List.getElem?_eq_some_iff.mp h).1
 exact(w.at_ i a _ h (getElem?_eq_getElem h2)).plain
theorem Wr.fresh (w:Wr K θ H M)(h:H p=none):p∉θ:=fun z=>w.tracked z h
theorem Grow.refl (θ:List Addr)(H:Hp):Grow θ H θ H:=⟨⟨[],by simp,fun _ z=>by cases z⟩,fun _ _ h _ _=>h,fun b ps e=>⟨ps,e⟩⟩
theorem Go.refl (w:Wr K θ H M):Go K θ H θ H M:=⟨.refl θ H,w⟩
theorem Go.trans (a:Go K θ H θ1 H1 M1)(b:Go K θ1 H1 θ2 H2 M2):Go K θ H θ2 H2 M2:=by
 obtain⟨m1,e1,f1⟩:=a.ext;obtain⟨m2,e2,f2⟩:=b.ext;refine⟨⟨⟨m1++m2,by rw[e2,e1,append_assoc],fun x hx=>?_⟩,fun x o hx nx nt=>?_,fun x ps e=>?_⟩,b.wr⟩
 ·rcases mem_append.mp hx with z|z
  ·exact f1 x z
  ·cases q:H x with
   | none=>rfl
   | some o=>
    have nx:x∉θ:=by
     intro y;have nd:=b.wr.nd;rw[e2] at nd;have y1:x∈θ1:=by rw[e1];exact mem_append_left _ y
     exact(nodup_append.mp nd).2.2 x y1 x z rfl
    exfalso
    by_cases nt:∃ps,o=.tbl ps
    ·obtain⟨ps,rfl⟩:=nt;obtain⟨ps',e'⟩:=a.tkeep x ps q;rw[f2 x z] at e';cases e'
    ·have:=a.keep x o q nx fun ps e'=>nt ⟨ps,e'⟩
     rw[f2 x z] at this;cases this
 ·have h1:=a.keep x o hx nx nt;refine b.keep x o h1 ?_ nt;rw[e1];intro z;rcases mem_append.mp z with z|z
  ·exact nx z
  ·rw[f1 x z] at hx;cases hx
 ·obtain⟨ps',e'⟩:=a.tkeep x ps e;exact b.tkeep x ps' e'
theorem Grow.notin (g:Grow θ H θ' H'){o:HO}(h:H a=some o)(n:a∉θ):a∉θ':=by
 obtain⟨m,e,f⟩:=g.ext;rw[e];intro z;rcases mem_append.mp z with z|z
 ·exact n z
 ·rw[f a z] at h;cases h
theorem jO.grow {xs:List V}(g:Grow θ H θ' H')(h:jO K θ H a xs):jO K θ' H' a xs:=⟨g.keep _ _ h.1 h.2 (by intro _ z;cases z),g.notin h.1 h.2⟩
theorem nE.grow {xs:List V}(g:Grow θ H θ' H')(h:nE θ H a xs):nE θ' H' a xs:=⟨g.keep _ _ h.1 h.2 (by intro _ z;cases z),g.notin h.1 h.2⟩
theorem j3.grow {xs:List V}(g:Grow θ H θ' H')(h:j3 K θ H a xs):j3 K θ' H' a xs:=by
 rcases h with⟨h|⟨o,h⟩,n⟩|h
 ·exact .inl ⟨.inl (g.keep _ _ h n (by intro _ z;cases z)),g.notin h n⟩
 ·exact .inl ⟨.inr ⟨o,g.keep _ _ h n (by intro _ z;cases z)⟩,g.notin h n⟩
 ·exact .inr h
mutual
theorem jT (g:Grow θ H θ' H'):∀(d:D) (v:V),c6 K θ H d v→c6 K θ' H' d v
 | .non,v,h=>h
 | .bl b,v,h=>h
 | .int i,v,h=>h
 | .str x,v,h=>h
 | .tup ds,v,h=>by
  obtain⟨a,vs,e,t,r⟩:=h;exact⟨a,vs,e,t.grow g,cy g ds vs r⟩
 | .lst ds,v,h=>by
  obtain⟨a,vs,e,t,r⟩:=h;exact⟨a,vs,e,t.grow g,cy g ds vs r⟩
 | .ro ds,v,h=>by
  obtain⟨a,vs,e,t,r⟩:=h;exact⟨a,vs,e,t.grow g,cy g ds vs r⟩
 | .mr i,v,h=>by
  obtain⟨a,e,t⟩:=h;obtain⟨m,em,_⟩:=g.ext;refine⟨a,e,?_⟩;rw[em,getElem?_append_left (List.getElem?_eq_some_iff.mp t).1];exact t
 | .exc c,v,h=>by
  obtain⟨a,C,e,k,t,n⟩:=h;exact⟨a,C,e,k,g.keep _ _ t n (by intro _ z;cases z),g.notin t n⟩
 | .any,v,h=>h
theorem cy (g:Grow θ H θ' H'):∀(ds:List D) (vs:List V),aR K θ H ds vs→aR K θ' H' ds vs
 | [],vs,h=>h
 | d::ds,vs,h=>by
  obtain⟨v,r,e,h1,h2⟩:=h;exact⟨v,r,e,jT g d v h1,cy g ds r h2⟩
end
theorem c6.go {d:D}{v:V}(h:c6 K θ H d v)(g:Go K θ H θ' H' M'):c6 K θ' H' d v:=jT g.toGrow d v h
theorem aR.go {ds:List D}{vs:List V}(h:aR K θ H ds vs)(g:Go K θ H θ' H' M'):aR K θ' H' ds vs:=cy g.toGrow ds vs h
theorem fK.go (h:fK K θ H σ ρ)(g:Go K θ H θ' H' M'):fK K θ' H' σ ρ:=⟨h.len,fun i d e=>let ⟨v,e1,e2⟩:=h.at_ i d e;⟨v,e1,e2.go g⟩⟩
theorem aq:∀{ds:List D} {vs:List V},aR K θ H ds vs→ds.length=vs.length
 | [],vs,h=>by cases (show vs=[] from h);rfl
 | d::ds,vs,h=>by
  obtain⟨v,r,e,_,h2⟩:=h;subst e;rw[length_cons,length_cons,aq h2]
theorem bU:∀{ds es:List D} {vs us:List V},aR K θ H ds vs→aR K θ H es us→aR K θ H (ds++es) (vs++us)
 | [],es,vs,us,h,k=>by cases (show vs=[] from h);exact k
 | d::ds,es,vs,us,h,k=>by
  obtain⟨v,r,e,h1,h2⟩:=h;subst e;exact⟨v,r++us,rfl,h1,bU h2 k⟩
theorem bQ:∀{ds:List D} {vs:List V} {i:Nat} {d:D},aR K θ H ds vs→ds[i]?=some d→∃v,vs[i]?=some v∧c6 K θ H d v
 | [],vs,i,d,h,e=>by simp at e
 | x::ds,vs,0,d,h,e=>by
  obtain⟨v,r,e1,h1,h2⟩:=h;subst e1;simp at e;subst e;exact⟨v,rfl,h1⟩
 | x::ds,vs,i+1,d,h,e=>by
  obtain⟨v,r,e1,h1,h2⟩:=h;subst e1;obtain⟨u,e2,h3⟩:=bQ (i:=i) h2 (by simpa using e);exact⟨u,by simpa using e2,h3⟩
theorem ny:∀{ds:List D} {vs:List V} (n:Nat),aR K θ H ds vs→aR K θ H (ds.take n) (vs.take n)
 | ds,vs,0,h=>by rw[take_zero,take_zero];exact rfl
 | [],vs,n+1,h=>by cases (show vs=[] from h);exact rfl
 | d::ds,vs,n+1,h=>by
  obtain⟨v,r,e,h1,h2⟩:=h;subst e;exact⟨v,r.take n,rfl,h1,ny n h2⟩
theorem nz:∀{ds:List D} {vs:List V} (n:Nat),aR K θ H ds vs→aR K θ H (ds.drop n) (vs.drop n)
 | ds,vs,0,h=>h
 | [],vs,n+1,h=>by cases (show vs=[] from h);exact rfl
 | d::ds,vs,n+1,h=>by
  obtain⟨v,r,e,h1,h2⟩:=h;subst e;exact nz n h2
theorem p7 {d:D}{v:V}(hd:c6 K θ H d v):∀{ds:List D} {vs:List V} (i:Nat),aR K θ H ds vs→aR K θ H (ds.set i d) (vs.set i v)
 | [],vs,i,h=>by cases (show vs=[] from h);exact rfl
 | x::ds,vs,0,h=>by
  obtain⟨u,r,e,h1,h2⟩:=h;subst e;exact⟨v,r,rfl,hd,h2⟩
 | x::ds,vs,i+1,h=>by
  obtain⟨u,r,e,h1,h2⟩:=h;subst e;exact⟨u,r.set i v,rfl,h1,p7 hd i h2⟩
theorem j5 {o:HO}(w:Wr K θ H M)(hp:H p=none):Grow θ H θ (bS H p o):=
 ⟨⟨[],by simp,fun _ z=>by cases z⟩,fun b u h _ _=>by rw[au (bB h hp)];exact h,fun b ps h=>⟨ps,by rw[au (bB h hp)];exact h⟩⟩
theorem nN (g:Grow θ H θ' H'):∀{fs:List (Str×D)} {vs:List (Str×V)},uX K θ H fs vs→uX K θ' H' fs vs
 | [],vs,h=>h
 | (f,d)::fs,vs,h=>by
  obtain⟨v,r,e,h1,h2⟩:=h;exact⟨v,r,e,jT g d v h1,nN g h2⟩
theorem lu {κ:Type}(g:Grow θ H θ' H'):∀{fs:List (κ×D)} {vs:List (κ×V)},rB K θ H fs vs→rB K θ' H' fs vs
 | [],vs,h=>h
 | (f,d)::fs,vs,h=>by
  obtain⟨v,r,e,h1,h2⟩:=h;exact⟨v,r,e,jT g d v h1,lu g h2⟩
theorem m7.grow {m:MO}(g:Grow θ H θ' H')(hs:H' a=H a)(h:m7 K θ H m a):m7 K θ' H' m a:=by
 cases m with
 | lst ds=>
  obtain⟨vs,e,r⟩:=h;exact⟨vs,by rw[hs];exact e,cy g ds vs r⟩
 | obj c fs=>
  obtain⟨C,dx,vs,k,e,r⟩:=h;exact⟨C,dx,vs,k,by rw[hs];exact e,nN g r⟩
 | dK kvs=>
  obtain⟨vs,e,r⟩:=h;exact⟨vs,by rw[hs];exact e,lu g r⟩
 | dT kvs=>
  obtain⟨vs,e,r⟩:=h;exact⟨vs,by rw[hs];exact e,lu g r⟩
theorem cH {o:HO}(w:Wr K θ H M)(hp:H p=none):Go K θ H θ (bS H p o) M:=
 ⟨j5 w hp,w.len,w.nd,fun i a m h1 h2=>by
  have ha:a≠p:=fun e=>w.fresh hp (by rw[←e];exact mem_of_getElem? h1)
  exact(w.at_ i a m h1 h2).grow (j5 w hp) (au ha),w.tb.new hp⟩
theorem ej {ds:List D}{vs:List V}(w:Wr K θ H M)(hp:H p=none)(r:aR K θ H ds vs):c6 K θ (bS H p (.tup vs)) (.tup ds) (.ref p):=
 ⟨p,vs,rfl,⟨bZ,w.fresh hp⟩,cy (j5 w hp) ds vs r⟩
theorem jf {ds:List D}{vs:List V}(w:Wr K θ H M)(hp:H p=none)(r:aR K θ H ds vs):c6 K θ (bS H p (.lst vs)) (.lst ds) (.ref p):=
 ⟨p,vs,rfl,⟨bZ,w.fresh hp⟩,cy (j5 w hp) ds vs r⟩
theorem nT {o:HO}(hp:H p=none):Grow θ H (θ++[p]) (bS H p o):=
 ⟨⟨[p],rfl,fun a ha=>by rw[mem_singleton.mp ha];exact hp⟩,fun b u h _ _=>by rw[au (bB h hp)];exact h,fun b ps h=>⟨ps,by rw[au (bB h hp)];exact h⟩⟩
theorem xS {m:MO}{o:HO}(w:Wr K θ H M)(hp:H p=none)(hm:m7 K (θ++[p]) (bS H p o) m p):Go K θ H (θ++[p]) (bS H p o) (M++[m]):=by
 have np:=w.fresh hp;have g:Grow θ H (θ++[p]) (bS H p o):=nT hp;refine⟨g,by rw[length_append,length_append,w.len];rfl,?_,fun i a m' h1 h2=>?_,w.tb.new hp⟩
 ·rw[nodup_append];exact⟨w.nd,by simp,fun x hx y hy e=>np (by rw[mem_singleton.mp hy] at e;rw[←e];exact hx)⟩
 ·by_cases hi:i<θ.length
  ·rw[getElem?_append_left hi] at h1;rw[getElem?_append_left (by rw[←w.len];exact hi)] at h2;have ha:a≠p:=fun e=>np (by rw[←e];exact mem_of_getElem? h1)
   exact(w.at_ i a m' h1 h2).grow g (au ha)
  ·have hi':i=θ.length:=by
    have:=(List.getElem?_eq_some_iff.mp h1).1;rw[length_append,length_singleton] at this;omega
   subst hi';rw[getElem?_append_right (Nat.le_refl _)] at h1;rw[getElem?_append_right (by rw[w.len];exact Nat.le_refl _)] at h2;simp only[Nat.sub_self,w.len,getElem?_cons_zero,Option.some.injEq] at h1 h2;subst h1;subst h2;exact hm
theorem CC {ds:List D}{vs:List V}(w:Wr K θ H M)(hp:H p=none)(r:aR K θ H ds vs):Go K θ H (θ++[p]) (bS H p (.lst vs)) (M++[.lst ds]):=
 xS w hp ⟨vs,bZ,cy (nT hp) ds vs r⟩
theorem tU {i:Nat}{o:HO}(w:Wr K θ H M)(hi:θ[i]?=some a):Grow θ H θ (bS H a o):=by
 have ha:a∈θ:=mem_of_getElem? hi;obtain⟨u,hu,pu⟩:=w.plain hi;exact⟨⟨[],by simp,fun _ z=>by cases z⟩,fun b u h n _=>by rw[au (fun e=>n (by rw[e];exact ha))];exact h,fun b ps h=>⟨ps,by rw[au (sJ h hu (by intro z;subst z;cases pu))];exact h⟩⟩
theorem yK {i:Nat}{m:MO}{o:HO}(w:Wr K θ H M)(hi:θ[i]?=some a)(hm:m7 K θ (bS H a o) m a):Go K θ H θ (bS H a o) (M.set i m):=by
 have g:Grow θ H θ (bS H a o):=tU w hi;obtain⟨u,hu,pu⟩:=w.plain hi;refine⟨g,by rw[length_set];exact w.len,w.nd,fun j b m' h1 h2=>?_,w.tb.at_ hu pu⟩
 by_cases hj:j=i
 ·subst hj;rw[hi] at h1;cases h1;have hl:j<M.length:=by rw[←w.len];exact(List.getElem?_eq_some_iff.mp hi).1
  rw[getElem?_set_self hl] at h2;cases h2;exact hm
 ·rw[getElem?_set_ne (Ne.symm hj)] at h2;have hb:b≠a:=fun e=>by
   subst e;obtain⟨h3,e3⟩:=List.getElem?_eq_some_iff.mp h1;obtain⟨h4,e4⟩:=List.getElem?_eq_some_iff.mp hi;exact hj ((getElem_inj w.nd).mp (e3.trans e4.symm))
  exact(w.at_ j b m' h1 h2).grow g (au hb)
theorem xg {i:Nat}{ds ds':List D}{vs':List V}(w:Wr K θ H M)(hi:θ[i]?=some a)(r:aR K θ H ds' vs'):Go K θ H θ (bS H a (.lst vs')) (M.set i (.lst ds')):=
 yK w hi ⟨vs',bZ,cy (tU w hi) ds' vs' r⟩
end
abbrev GE:=bj→aw→aM D
abbrev GT:=bj→aw→aM Bool
abbrev GA:=bj→aw→aM (List D)
inductive Fl where
 | nx (ρ:bj)|rt (d:D)|bk (ρ:bj)|ct (ρ:bj)
abbrev GS:=bj→aw→aM Fl
def dO (X:Cx)(θ:List Addr)(H:Hp)(c:Str)(M:aw):Prop:=∀C θ' H' a s',my X.K c C→Go X.K θ H θ' H' M→FZ X H' a C s'→X.xe (.ref a) s'
def aT (X:Cx)(θ:List Addr)(H:Hp)(Q:VK):aM D→Prop
 | .ok d M'=>∀v θ' H',Go X.K θ H θ' H' M'→c6 X.K θ' H' d v→Q v H'
 | .err c M'=>dO X θ H c M'
 | .bad=>False
def kU (X:Cx)(θ:List Addr)(H:Hp)(Q:Bool→Hp→Prop):aM Bool→Prop
 | .ok b M'=>∀θ' H',Go X.K θ H θ' H' M'→Q b H'
 | .err c M'=>dO X θ H c M'
 | .bad=>False
def uZ (X:Cx)(θ:List Addr)(H:Hp)(Q:List V→Hp→Prop):aM (List D)→Prop
 | .ok ds M'=>∀vs θ' H',Go X.K θ H θ' H' M'→aR X.K θ' H' ds vs→Q vs H'
 | .err c M'=>dO X θ H c M'
 | .bad=>False
def eL (X:Cx)(θ:List Addr)(H:Hp)(D:uG):aM Fl→Prop
 | .ok (.nx ρ) M'=>∀σ θ' H',Go X.K θ H θ' H' M'→fK X.K θ' H' σ ρ→D.nx σ H'
 | .ok (.bk ρ) M'=>∀σ θ' H',Go X.K θ H θ' H' M'→fK X.K θ' H' σ ρ→D.bk σ H'
 | .ok (.ct ρ) M'=>∀σ θ' H',Go X.K θ H θ' H' M'→fK X.K θ' H' σ ρ→D.ct σ H'
 | .ok (.rt d) M'=>∀v θ' H',Go X.K θ H θ' H' M'→c6 X.K θ' H' d v→D.rt v H'
 | .err c M'=>dO X θ H c M'
 | .bad=>False
def tE (X:Cx)(g:GE):TE:=fun σ H Q=>∃ρ θ M,fK X.K θ H σ ρ∧Wr X.K θ H M∧aT X θ H Q (g ρ M)
def tT (X:Cx)(g:GT):TT:=fun σ H Q=>∃ρ θ M,fK X.K θ H σ ρ∧Wr X.K θ H M∧kU X θ H Q (g ρ M)
def tA (X:Cx)(g:GA):TA:=fun σ H Q=>∃ρ θ M,fK X.K θ H σ ρ∧Wr X.K θ H M∧uZ X θ H Q (g ρ M)
def tS (X:Cx)(g:GS):TS:=fun D σ H=>∃ρ θ M,fK X.K θ H σ ρ∧Wr X.K θ H M∧eL X θ H D (g ρ M)
section
variable {X:Cx}{θ θ':List Addr}{H H':Hp}{M':aw}
theorem dO.go {c:Str}{M:aw}(g:Go X.K θ H θ' H' M')(h:dO X θ H c M):dO X θ' H' c M:=fun C θ2 H2 a s' k g2 fl=>h C θ2 H2 a s' k (g.trans g2) fl
theorem aT.go {Q:VK}{o:aM D}(g:Go X.K θ H θ' H' M')(h:aT X θ H Q o):aT X θ' H' Q o:=by
 cases o with
 | ok d M=>exact fun v θ2 H2 g2=>h v θ2 H2 (g.trans g2)
 | err c M=>exact dO.go (c:=c) (M:=M) g h
 | bad=>exact h
theorem kU.go {Q:Bool→Hp→Prop}{o:aM Bool}(g:Go X.K θ H θ' H' M')(h:kU X θ H Q o):kU X θ' H' Q o:=by
 cases o with
 | ok d M=>exact fun θ2 H2 g2=>h θ2 H2 (g.trans g2)
 | err c M=>exact dO.go (c:=c) (M:=M) g h
 | bad=>exact h
theorem uZ.go {Q:List V→Hp→Prop}{o:aM (List D)}(g:Go X.K θ H θ' H' M')(h:uZ X θ H Q o):uZ X θ' H' Q o:=by
 cases o with
 | ok d M=>exact fun v θ2 H2 g2=>h v θ2 H2 (g.trans g2)
 | err c M=>exact dO.go (c:=c) (M:=M) g h
 | bad=>exact h
theorem eL.go {D:uG}{o:aM Fl}(g:Go X.K θ H θ' H' M')(h:eL X θ H D o):eL X θ' H' D o:=by
 cases o with
 | ok f M=>cases f <;> exact fun v θ2 H2 g2=>h v θ2 H2 (g.trans g2)
 | err c M=>exact dO.go (c:=c) (M:=M) g h
 | bad=>exact h
end
section
variable {X:Cx}{e:Expr}
theorem _root_.L2.PE.of {t t':TE}(h:PE X e t)(w:∀σ H Q,t' σ H Q→t σ H Q):PE X e t':=fun af s σ H Q I q=>h af s σ H Q I (w σ H Q q)
theorem _root_.L2.PT.of {t t':TT}(h:PT X e t)(w:∀σ H Q,t' σ H Q→t σ H Q):PT X e t':=fun af s σ H Q I q=>h af s σ H Q I (w σ H Q q)
theorem _root_.L2.PW.of {t t':TT}(h:PW X e t)(w:∀σ H Q,t' σ H Q→t σ H Q):PW X e t':=fun wh af s σ H Q I q=>h wh af s σ H Q I (w σ H Q q)
theorem _root_.L2.PA.of {es:List Expr}{t t':TA}(h:PA X es t)(w:∀σ H Q,t' σ H Q→t σ H Q):PA X es t':=fun pos af s σ H Q I q=>h pos af s σ H Q I (w σ H Q q)
theorem _root_.L2.PS.of {st:Stmt}{t t':TS}(h:PS X st t)(w:∀D σ H,t' D σ H→t D σ H):PS X st t':=fun af s σ H D I q=>h af s σ H D I (w D σ H q)
theorem _root_.L2.PSs.of {st:List Stmt}{t t':TS}(h:PSs X st t)(w:∀D σ H,t' D σ H→t D σ H):PSs X st t':=fun af s σ H D I q=>h af s σ H D I (w D σ H q)
theorem cN {g:GE}{σ:L2.St}{H:Hp}{Q:VK}{α:Type}{ρ:bj}{θ:List Addr}{M:aw}(hd:fK X.K θ H σ ρ)(hw:Wr X.K θ H M)(F:aM α→Prop)(Fe:∀c M',F (.err c M')→dO X θ H c M')(Fb:F .bad→False)
  {f:D→aw→aM α} (h:F ((g ρ M).bind f))
  (k:∀d M1 v θ1 H1,Go X.K θ H θ1 H1 M1→c6 X.K θ1 H1 d v→F (f d M1)→Q v H1):tE X g σ H Q:=by
 refine⟨ρ,θ,M,hd,hw,?_⟩;cases q:g ρ M with
 | ok d M1=>
  rw[q] at h;exact fun v θ1 H1 g1 r1=>k d M1 v θ1 H1 g1 r1 h
 | err c M1=>rw[q] at h;exact Fe c M1 h
 | bad=>rw[q] at h;exact(Fb h).elim
def ae (i:Nat):GE:=fun ρ M=>match ρ[i]? with
 | some (some d)=>.ok d M
 | _=>.bad
def gC (d:D):GE:=fun _ M=>.ok d M
theorem CJ {i:Nat}(h:PE X e (EL i)):PE X e (tE X (ae i)):=h.of fun σ H Q hxx=>by
 obtain⟨ρ,θ,M,hd,hw,f⟩:=hxx;unfold ae at f;split at f
 ·rename_i d q;obtain⟨v,e1,r⟩:=hd.at_ i d q;exact⟨v,e1,f v θ H (.refl hw) r⟩
 ·exact f.elim
theorem A1 {i j pos}:PE X (.Constant (.int i) j pos) (tE X (gC (.int i))):=xm.of fun σ H Q ⟨ρ,θ,M,hd,hw,f⟩=>f _ θ H (.refl hw) rfl
theorem D4 {b j pos}:PE X (.Constant (.bool b) j pos) (tE X (gC (.bl b))):=Ej.of fun σ H Q ⟨ρ,θ,M,hd,hw,f⟩=>f _ θ H (.refl hw) rfl
theorem AC {j pos}:PE X (.Constant .none j pos) (tE X (gC .non)):=BX.of fun σ H Q ⟨ρ,θ,M,hd,hw,f⟩=>f _ θ H (.refl hw) rfl
theorem Ce {x j pos}:PE X (.Constant (.str x) j pos) (tE X (gC (.str x))):=BE.of fun σ H Q ⟨ρ,θ,M,hd,hw,f⟩=>f _ θ H (.refl hw) rfl
abbrev F2:=D→D→aw→aM D
def g2 (f:F2)(ga gb:GE):GE:=fun ρ M=>(ga ρ M).bind fun x M1=>(gb ρ M1).bind fun y M2=>f x y M2
def rD (X:Cx)(f:F2):R2:=fun x y H Q=>∃θ M dx dy,Wr X.K θ H M∧c6 X.K θ H dx x∧c6 X.K θ H dy y∧aT X θ H Q (f dx dy M)
theorem tw {f:F2}{ga gb:GE}{σ:L2.St}{H:Hp}{Q:VK}(h:tE X (g2 f ga gb) σ H Q):Dg (rD X f) (tE X ga) (tE X gb) σ H Q:=by
 obtain⟨ρ,θ,M,hd,hw,h⟩:=h;refine cN hd hw (aT X θ H Q) (fun c M' h=>h) (fun h=>h) h fun dx M1 x θ1 H1 g1 r1 h1=>?_
 refine cN (hd.go g1) g1.wr (aT X θ1 H1 Q) (fun c M' h=>h) (fun h=>h) (h1.go g1) fun dy M2 y θ2 H2 g2 r2 h2=>?_
 exact⟨θ2,M2,dx,dy,g2.wr,r1.go g2,r2,h2.go g2⟩
theorem D0 {a b:Expr}{op:Operator}{pos:Pos}{f:F2}{ga gb:GE}(ho:gq X (binaryOp op) (rD X f))(ha:PE X a (tE X ga))(hb:PE X b (tE X gb)):PE X (.BinOp a op b pos) (tE X (g2 f ga gb)):=
 (CY ho ha hb).of fun _ _ _ h=>tw h
theorem Cf {a b:Expr}{op:CmpOp}{pos:Pos}{f:F2}{ga gb:GE}(ho:gq X (compareOp op) (rD X f))(ha:PE X a (tE X ga))(hb:PE X b (tE X gb))(hm:behindInMarks op b=false):PE X (.Compare a [op] [b] pos) (tE X (g2 f ga gb)):=
 (zz ho ha hb hm).of fun _ _ _ h=>tw h
def EG:D→aw→aM Bool
 | .bl b,M=>.ok b M
 | _,_=>.bad
def aI (g:GE):GT:=fun ρ M=>(g ρ M).bind EG
theorem vI {θ:List Addr}{H:Hp}{Q:Bool→Hp→Prop}{o:aM D}(h:kU X θ H Q (o.bind EG)):aT X θ H (fun x H'=>∃k,x=.bl k∧Q k H') o:=by
 cases o with
 | ok d M=>
  cases d with
  | bl b=>exact fun v θ1 H1 g1 r1=>⟨b,r1,h θ1 H1 g1⟩
  | _=>exact h.elim
 | err c M=>exact h
 | bad=>exact h
theorem wO {g:GE}{σ:L2.St}{H:Hp}{Q:Bool→Hp→Prop}(h:tT X (aI g) σ H Q):tE X g σ H fun x H'=>∃k,x=.bl k∧Q k H':=by
 obtain⟨ρ,θ,M,hd,hw,h⟩:=h;exact⟨ρ,θ,M,hd,hw,vI h⟩
theorem vN {a b:Expr}{op:CmpOp}{pos:Pos}{f:F2}{ga gb:GE}(ho:gq X (compareOp op) (rD X f))(ha:PE X a (tE X ga))(hb:PE X b (tE X gb))(hm:behindInMarks op b=false):PT X (.Compare a [op] [b] pos) (tT X (aI (g2 f ga gb))):=
 (yC ho ha hb hm).of fun σ H Q h=>tw (wO h)
def uo (f f':F2)(ga gb gc:GE):GE:=fun ρ M=>(ga ρ M).bind fun x M1=>(gb ρ M1).bind fun y M2=>(f x y M2).bind fun z M3=>match z with
 | .bl true=>(gc ρ M3).bind fun w M4=>f' y w M4
 | .bl false=>.ok (.bl false) M3
 | _=>.bad
theorem De {f f':F2}{ga gb gc:GE}{σ:L2.St}{H:Hp}{Q:VK}(h:tE X (uo f f' ga gb gc) σ H Q):vQ (rD X f) (rD X f') (tE X ga) (tE X gb) (tE X gc) σ H Q:=by
 obtain⟨ρ,θ,M,hd,hw,h⟩:=h;refine cN hd hw (aT X θ H Q) (fun c M' h=>h) (fun h=>h) h fun dx M1 x θ1 H1 g1 r1 h1=>?_
 refine cN (hd.go g1) g1.wr (aT X θ1 H1 Q) (fun c M' h=>h) (fun h=>h) (h1.go g1) fun dy M2 y θ2 H2 g2 r2 h2=>?_
 refine⟨θ2,M2,dx,dy,g2.wr,r1.go g2,r2,?_⟩;have h3:=h2.go g2;cases q:f dx dy M2 with
 | ok z M3=>
  rw[q] at h3;intro v θ3 H3 g3 r3;cases z with
  | bl k=>
   refine⟨k,r3,?_⟩;cases k with
   | true=>
    rw[if_pos rfl];refine cN ((hd.go g1).go (g2.trans g3)) g3.wr (aT X θ3 H3 Q) (fun c M' h=>h) (fun h=>h) (h3.go g3) fun dw M4 w θ4 H4 g4 r4 h4=>?_
    exact⟨θ4,M4,dy,dw,g4.wr,r2.go (g3.trans g4),r4,h4.go g4⟩
   | false=>
    rw[if_neg Bool.false_ne_true];exact h3 _ θ3 H3 g3 rfl
  | _=>exact h3.elim
 | err c M3=>rw[q] at h3;exact h3
 | bad=>rw[q] at h3;exact h3
theorem vO {a b c:Expr}{op op':CmpOp}{pos:Pos}{f f':F2}{ga gb gc:GE}(ho:gq X (compareOp op) (rD X f))(ho':gq X (compareOp op') (rD X f'))(ha:PE X a (tE X ga))(hb:PE X b (tE X gb))(hc:PE X c (tE X gc))
  (hm:lastMarks [op,op'] [b,c]=false:=by with_unfolding_all rfl):PT X (.Compare a [op,op'] [b,c] pos) (tT X (aI (uo f f' ga gb gc))):=(wJ ho ho' ha hb hc hm).of fun σ H Q h=>De (wO h)
def bW (a b:GT):GT:=fun ρ M=>(a ρ M).bind fun c M1=>if c then b ρ M1 else .ok false M1
def gQ (a b:GT):GT:=fun ρ M=>(a ρ M).bind fun c M1=>if c then .ok true M1 else b ρ M1
def iJ (a:GT):GT:=fun ρ M=>(a ρ M).bind fun c M1=>.ok (!c) M1
theorem qL {g:GT}{σ:L2.St}{H:Hp}{Q:Bool→Hp→Prop}{α:Type}{ρ:bj}{θ:List Addr}{M:aw}(hd:fK X.K θ H σ ρ)(hw:Wr X.K θ H M)(F:aM α→Prop)(Fe:∀c M',F (.err c M')→dO X θ H c M')(Fb:F .bad→False)
  {f:Bool→aw→aM α} (h:F ((g ρ M).bind f)) (k:∀d M1 θ1 H1,Go X.K θ H θ1 H1 M1→F (f d M1)→Q d H1):tT X g σ H Q:=by
 refine⟨ρ,θ,M,hd,hw,?_⟩;cases q:g ρ M with
 | ok d M1=>
  rw[q] at h;exact fun θ1 H1 g1=>k d M1 θ1 H1 g1 h
 | err c M1=>rw[q] at h;exact Fe c M1 h
 | bad=>rw[q] at h;exact(Fb h).elim
variable {a b:Expr}{pos:Pos}{rest:List Expr}{ta tb:GT}{ga gb:GE}
theorem xQ (ha:PT X a (tT X ta)):PW X (.BoolOp .And [a] pos) (tT X ta):=zj ha
theorem AU (ha:PT X a (tT X ta)):PW X (.BoolOp .Or [a] pos) (tT X ta):=BA ha
theorem Br (ha:PT X a (tT X ta))(hb:PW X (.BoolOp .And (b::rest) pos) (tT X tb)):PW X (.BoolOp .And (a::b::rest) pos) (tT X (bW ta tb)):=(Bx ha hb).of fun σ H Q hxx=>by
 obtain⟨ρ,θ,M,hd,hw,h⟩:=hxx;refine qL hd hw (kU X θ H Q) (fun c M' h=>h) (fun h=>h) h fun c M1 θ1 H1 g1 h1=>?_
 cases c with
 | true=>exact⟨ρ,θ1,M1,hd.go g1,g1.wr,kU.go g1 h1⟩
 | false=>exact h1 θ1 H1 g1
theorem Dh (ha:PT X a (tT X ta))(hb:PW X (.BoolOp .Or (b::rest) pos) (tT X tb)):PW X (.BoolOp .Or (a::b::rest) pos) (tT X (gQ ta tb)):=(Ek ha hb).of fun σ H Q hxx=>by
 obtain⟨ρ,θ,M,hd,hw,h⟩:=hxx;refine qL hd hw (kU X θ H Q) (fun c M' h=>h) (fun h=>h) h fun c M1 θ1 H1 g1 h1=>?_
 cases c with
 | true=>exact h1 θ1 H1 g1
 | false=>exact⟨ρ,θ1,M1,hd.go g1,g1.wr,kU.go g1 h1⟩
theorem A2 (ha:PT X a (tT X ta)):PT X (.UnaryOp .Not a pos) (tT X (iJ ta)):=(A5 ha).of fun σ H Q hxx=>by
 obtain⟨ρ,θ,M,hd,hw,h⟩:=hxx;exact qL hd hw (kU X θ H Q) (fun c M' h=>h) (fun h=>h) h fun c M1 θ1 H1 g1 h1=>h1 θ1 H1 g1
def mv (t:GT)(a b:GE):GE:=fun ρ M=>(t ρ M).bind fun c M1=>if c then a ρ M1 else b ρ M1
theorem EW {c:Expr}(hc:PT X c (tT X ta))(ha:PE X a (tE X ga))(hb:PE X b (tE X gb)):PE X (.IfExp c a b pos) (tE X (mv ta ga gb)):=(wj hc ha hb).of fun σ H Q hxx=>by
 obtain⟨ρ,θ,M,hd,hw,h⟩:=hxx;refine qL hd hw (aT X θ H Q) (fun c M' h=>h) (fun h=>h) h fun c M1 θ1 H1 g1 h1=>?_
 cases c with
 | true=>rw[if_pos rfl];exact⟨ρ,θ1,M1,hd.go g1,g1.wr,aT.go g1 h1⟩
 | false=>rw[if_neg Bool.false_ne_true];exact⟨ρ,θ1,M1,hd.go g1,g1.wr,aT.go g1 h1⟩
def ag:GA:=fun _ M=>.ok [] M
def aa (g:GE)(r:GA):GA:=fun ρ M=>(g ρ M).bind fun d M1=>(r ρ M1).bind fun ds M2=>.ok (d::ds) M2
theorem ko {g:GA}{σ:L2.St}{H:Hp}{Q:List V→Hp→Prop}{α:Type}{ρ:bj}{θ:List Addr}{M:aw}(hd:fK X.K θ H σ ρ)(hw:Wr X.K θ H M)(F:aM α→Prop)(Fe:∀c M',F (.err c M')→dO X θ H c M')(Fb:F .bad→False)
  {f:List D→aw→aM α} (h:F ((g ρ M).bind f)) (k:∀ds M1 vs θ1 H1,Go X.K θ H θ1 H1 M1→aR X.K θ1 H1 ds vs→F (f ds M1)→Q vs H1):tA X g σ H Q:=by
 refine⟨ρ,θ,M,hd,hw,?_⟩;cases q:g ρ M with
 | ok d M1=>
  rw[q] at h;exact fun v θ1 H1 g1 r1=>k d M1 v θ1 H1 g1 r1 h
 | err c M1=>rw[q] at h;exact Fe c M1 h
 | bad=>rw[q] at h;exact(Fb h).elim
theorem BI:PA X [] (tA X ag):=oP.of fun σ H Q ⟨ρ,θ,M,hd,hw,f⟩=>f [] θ H (.refl hw) rfl
theorem yU {es:List Expr}{gr:GA}(ha:PE X e (tE X ga))(hr:PA X es (tA X gr))(hs:starEach (e::es) X.env=(false,eval e X.env)::starEach es X.env:=by rfl):PA X (e::es) (tA X (aa ga gr)):=
 (kj ha hr hs).of fun σ H Q hxx=>by
  obtain⟨ρ,θ,M,hd,hw,h⟩:=hxx;refine cN hd hw (uZ X θ H Q) (fun c M' h=>h) (fun h=>h) h fun d M1 v θ1 H1 g1 r1 h1=>?_
  refine ko (hd.go g1) g1.wr (uZ X θ1 H1 Q) (fun c M' h=>h) (fun h=>h) (h1.go g1) fun ds M2 vs θ2 H2 g2 r2 h2=>?_
  exact h2 (v::vs) θ2 H2 g2 ⟨v,vs,rfl,r1.go g2,r2⟩
def mq (ds:List D)(M:aw):aM D:=if ds.length≤sizeLine then .ok (.tup ds) M else .bad
def aD (ds:List D)(M:aw):aM D:=if ds.length≤sizeLine then .ok (.lst ds) M else .bad
def cL (ds:List D)(M:aw):aM D:=if ds.length≤sizeLine then .ok (.mr M.length) (M++[.lst ds]) else .bad
def aV (g:GA):GE:=fun ρ M=>(g ρ M).bind mq
def dE (g:GA):GE:=fun ρ M=>(g ρ M).bind aD
def fW (g:GA):GE:=fun ρ M=>(g ρ M).bind cL
theorem aT.tup {θ:List Addr}{H:Hp}{Q:VK}{ds:List D}{M:aw}{vs:List V}(h:aT X θ H Q (mq ds M))(hw:Wr X.K θ H M)(r:aR X.K θ H ds vs):vs.length≤sizeLine∧∀p,H p=none→Q (.ref p) (bS H p (.tup vs)):=by
 unfold mq at h
 by_cases hl:ds.length≤sizeLine
 ·rw[if_pos hl] at h;exact⟨by rw[←aq r];exact hl,fun p hp=>h _ θ _ (cH hw hp) (ej hw hp r)⟩
 ·rw[if_neg hl] at h;exact h.elim
theorem aT.lst {θ:List Addr}{H:Hp}{Q:VK}{ds:List D}{M:aw}{vs:List V}(h:aT X θ H Q (aD ds M))(hw:Wr X.K θ H M)(r:aR X.K θ H ds vs):vs.length≤sizeLine∧∀p,H p=none→Q (.ref p) (bS H p (.lst vs)):=by
 unfold aD at h
 by_cases hl:ds.length≤sizeLine
 ·rw[if_pos hl] at h;exact⟨by rw[←aq r];exact hl,fun p hp=>h _ θ _ (cH hw hp) (jf hw hp r)⟩
 ·rw[if_neg hl] at h;exact h.elim
theorem aT.mut {θ:List Addr}{H:Hp}{Q:VK}{ds:List D}{M:aw}{vs:List V}(h:aT X θ H Q (cL ds M))(hw:Wr X.K θ H M)(r:aR X.K θ H ds vs):vs.length≤sizeLine∧∀p,H p=none→Q (.ref p) (bS H p (.lst vs)):=by
 unfold cL at h
 by_cases hl:ds.length≤sizeLine
 ·rw[if_pos hl] at h;refine⟨by rw[←aq r];exact hl,fun p hp=>h _ (θ++[p]) _ (CC hw hp r) ⟨p,rfl,?_⟩⟩;rw[←hw.len,getElem?_append_right (Nat.le_refl _)];simp
 ·rw[if_neg hl] at h;exact h.elim
theorem A7 {es:List Expr}{x1}{g:GA}(h:PA X es (tA X g)):PE X (.Tuple es x1 pos) (tE X (aV g)):=(A4 h).of fun σ H Q ⟨ρ,θ,M,hd,hw,h⟩=>
 ko hd hw (aT X θ H Q) (fun c M' h=>h) (fun h=>h) h fun ds M1 vs θ1 H1 g1 r1 h1=>aT.tup (aT.go g1 h1) g1.wr r1
theorem B5 {es:List Expr}{g:GA}(h:PA X es (tA X g)):PE X (.List es pos) (tE X (dE g)):=(xj h).of fun σ H Q ⟨ρ,θ,M,hd,hw,h⟩=>
 ko hd hw (aT X θ H Q) (fun c M' h=>h) (fun h=>h) h fun ds M1 vs θ1 H1 g1 r1 h1=>aT.lst (aT.go g1 h1) g1.wr r1
theorem B6 {es:List Expr}{g:GA}(h:PA X es (tA X g)):PE X (.List es pos) (tE X (fW g)):=(xj h).of fun σ H Q ⟨ρ,θ,M,hd,hw,h⟩=>
 ko hd hw (aT X θ H Q) (fun c M' h=>h) (fun h=>h) h fun ds M1 vs θ1 H1 g1 r1 h1=>aT.mut (aT.go g1 h1) g1.wr r1
end
section
variable {K:W.Frag}{θ:List Addr}{H:Hp}{σ:L2.St}{ρ:bj}
theorem fK.set {d:D}{v:V}(h:fK K θ H σ ρ)(r:c6 K θ H d v)(i:Nat):fK K θ H (σ.set i (some v)) (ρ.set i (some d)):=by
 refine⟨by rw[length_set,length_set];exact h.len,fun j d' e=>?_⟩
 by_cases hj:j=i
 ·subst hj;have hl:j<ρ.length:=by
   have:=(List.getElem?_eq_some_iff.mp e).1;rw[length_set] at this;exact this
  rw[getElem?_set_self hl] at e;have e':d=d':=by simpa using e
  subst e';exact⟨v,getElem?_set_self (by rw[←h.len];exact hl),r⟩
 ·rw[getElem?_set_ne (Ne.symm hj)] at e;obtain⟨u,e1,r1⟩:=h.at_ j d' e;exact⟨u,by rw[getElem?_set_ne (Ne.symm hj)];exact e1,r1⟩
end
def ba:GS:=fun ρ M=>.ok (.nx ρ) M
def ar (a b:GS):GS:=fun ρ M=>(a ρ M).bind fun f M1=>match f with
 | .nx ρ1=>b ρ1 M1
 | .rt d=>.ok (.rt d) M1
 | .bk ρ1=>.ok (.bk ρ1) M1
 | .ct ρ1=>.ok (.ct ρ1) M1
def aA (i:Nat)(g:GE):GS:=fun ρ M=>(g ρ M).bind fun d M1=>.ok (.nx (ρ.set i (some d))) M1
def bh (g:GE):GS:=fun ρ M=>(g ρ M).bind fun d M1=>.ok (.rt d) M1
def eN (g:GE):GS:=fun ρ M=>(g ρ M).bind fun _ M1=>.ok (.nx ρ) M1
def fV (t:GT)(a b:GS):GS:=fun ρ M=>(t ρ M).bind fun c M1=>if c then a ρ M1 else b ρ M1
section
variable {X:Cx}{st:Stmt}{rest:List Stmt}{e:Expr}{g:GE}{t u:GS}{pos:Pos}
theorem AX:PSs X [] (tS X ba):=yg.of fun D σ H ⟨ρ,θ,M,hd,hw,f⟩=>f σ θ H (.refl hw) hd
theorem zy (h1:PS X st (tS X t))(h2:PSs X rest (tS X u)):PSs X (st::rest) (tS X (ar t u)):=(vA h1 h2).of fun D σ H hxx=>by
 obtain⟨ρ,θ,M,hd,hw,h⟩:=hxx;refine⟨ρ,θ,M,hd,hw,?_⟩;unfold ar at h;cases q:t ρ M with
 | ok f M1=>
  rw[q] at h;cases f with
  | nx ρ1=>exact fun σ1 θ1 H1 g1 d1=>⟨ρ1,θ1,M1,d1,g1.wr,eL.go g1 h⟩
  | rt d=>exact h
  | bk ρ1=>exact h
  | ct ρ1=>exact h
 | err c M1=>rw[q] at h;exact h
 | bad=>rw[q] at h;exact h
theorem AZ (h1:PS X st (tS X t)):PSs X [st] (tS X t):=ye h1
theorem A3 {i:Nat}{x:Str}{pos':Pos}(hN:X.N.Nodup)(hi:X.N[i]?=some x)(hx:xK X.env.scope x)(he:PE X e (tE X g))(hs:swapsWith e (some (.Name x pos')) pos.line X.env=pure false:=by rfl)(hf:X.fn x=true∨X.env.scope.names.lookup x=some .local:=by first|exact .inl rfl|exact .inr rfl|assumption) :
  PS X (.Assign [.Name x pos'] e pos) (tS X (aA i g)):=(Cu hN hi hx he hs hf).of fun D σ H ⟨ρ,θ,M,hd,hw,h⟩=>
 cN hd hw (eL X θ H D) (fun c M' h=>h) (fun h=>h) h fun d M1 v θ1 H1 g1 r1 h1=>h1 _ θ1 H1 g1 ((hd.go g1).set r1 i)
theorem Ca (he:PE X e (tE X g)):PS X (.Return (some e) pos) (tS X (bh g)):=(A6 he).of fun D σ H ⟨ρ,θ,M,hd,hw,h⟩=>
 cN hd hw (eL X θ H D) (fun c M' h=>h) (fun h=>h) h fun d M1 v θ1 H1 g1 r1 h1=>h1 v θ1 H1 g1 r1
theorem xV (he:PE X e (tE X g))(hs:swapsWith e none pos.line X.env=pure false:=by rfl):PS X (.Expr e pos) (tS X (eN g)):=(zd he hs).of fun D σ H ⟨ρ,θ,M,hd,hw,h⟩=>
 cN hd hw (eL X θ H D) (fun c M' h=>h) (fun h=>h) h fun d M1 v θ1 H1 g1 r1 h1=>h1 σ θ1 H1 g1 (hd.go g1)
theorem Ee {c:Expr}{a b:List Stmt}{tc:GT}(hc:PT X c (tT X tc))(ha:PSs X a (tS X t))(hb:PSs X b (tS X u)):PS X (.If c a b pos) (tS X (fV tc t u)):=(ER hc ha hb).of fun D σ H hxx=>by
 obtain⟨ρ,θ,M,hd,hw,h⟩:=hxx;refine qL hd hw (eL X θ H D) (fun c M' h=>h) (fun h=>h) h fun c M1 θ1 H1 g1 h1=>?_
 cases c with
 | true=>rw[if_pos rfl];exact⟨ρ,θ1,M1,hd.go g1,g1.wr,eL.go g1 h1⟩
 | false=>rw[if_neg Bool.false_ne_true];exact⟨ρ,θ1,M1,hd.go g1,g1.wr,eL.go g1 h1⟩
abbrev GG:=D→bj→Option bj
def tG (X:Cx)(s:GG):TG:=fun v σ H Q=>∃ρ θ M d,fK X.K θ H σ ρ∧Wr X.K θ H M∧c6 X.K θ H d v∧∃ρ',s d ρ=some ρ'∧∀σ',fK X.K θ H σ' ρ'→Q σ' H
def bo (i:Nat):GG:=fun d ρ=>some (ρ.set i (some d))
def kI:List Nat→List D→bj→Option bj
 | [],[],ρ=>some ρ
 | i::is,d::ds,ρ=>kI is ds (ρ.set i (some d))
 | _,_,_=>none
def bF (is:List Nat):GG:=fun d ρ=>match d with
 | .tup ds=>kI is ds ρ
 | _=>none
theorem l7 {i:Nat}{x:Str}(hN:X.N.Nodup)(hi:X.N[i]?=some x)(hx:xK X.env.scope x)(hf:X.fn x=true∨X.env.scope.names.lookup x=some .local:=by first|exact .inl rfl|exact .inr rfl|assumption):PG X (.Name x pos) (tG X (bo i)):=by
 intro af s σ H v u Q I r h;obtain⟨ρ,θ,M,d,hd,hw,rd,ρ',e,h⟩:=h;cases e;exact zR hN hi hx hf af s σ H v u Q I r (h _ (hd.set rd i))
def EH (X:Cx)(is:List Nat):zu:=fun vs σ H Q=>∃ρ θ M ds,fK X.K θ H σ ρ∧Wr X.K θ H M∧aR X.K θ H ds vs∧∃ρ',kI is ds ρ=some ρ'∧∀σ',fK X.K θ H σ' ρ'→Q σ' H
theorem yX:sU X [] (EH X []):=by
 intro af s σ H vs us Q I r h;obtain⟨ρ,θ,M,ds,hd,hw,rd,ρ',e,h⟩:=h;cases ds with
 | cons d ds=>cases e
 | nil=>
  have e2:vs=[]:=rd;subst e2;cases e;exact tB af s σ H [] us Q I r ⟨rfl,h σ hd⟩
theorem vU {i:Nat}{is:List Nat}{es:List Expr}(h1:PG X e (tG X (bo i)))(h2:sU X es (EH X is))
  (hs:(assignEach (e::es) X.env).map (·.2)=assign e X.env::(assignEach es X.env).map (·.2):=by rfl):sU X (e::es) (EH X (i::is)):=by
 intro af s σ H vs us Q I r h;obtain⟨ρ,θ,M,ds,hd,hw,rd,ρ',e1,h⟩:=h;cases ds with
 | nil=>cases e1
 | cons d ds=>
  obtain⟨v,vr,e2,rv,rr⟩:=rd;subst e2;refine qT h1 h2 hs af s σ H _ us Q I r ⟨v,vr,rfl,ρ,θ,M,d,hd,hw,rv,_,rfl,fun σ1 d1=>?_⟩;exact⟨_,θ,M,ds,d1,hw,rr,ρ',e1,h⟩
theorem BP {is:List Nat}{es:List Expr}{k:Nat}{n:Nat}(hc:X.calm=true)(h:sU X es (EH X is))(hl:is.length=n:=by rfl)
  (hn:(assignEach es X.env).length=n:=by rfl) (hst:(assignEach es X.env).findIdx? (·.1)=none:=by rfl):PG X (.Tuple es k pos) (tG X (bF is)):=by
 intro af s σ H v u Q I r hw;obtain⟨ρ,θ,M,d,hd,hwr,rd,ρ',e1,hw⟩:=hw;cases d with
 | tup ds=>
  obtain⟨a,vs,e2,ta,rs⟩:=rd;have hlen:ds.length=is.length:=by
   have e1:kI is ds ρ=some ρ':=e1;clear hw hd hwr rs hn hst h hl
   induction is generalizing ds ρ with
   | nil=>
    cases ds with
    | nil=>rfl
    | cons _ _=>cases e1
   | cons i is ih=>
    cases ds with
    | nil=>cases e1
    | cons d ds=>rw[length_cons,length_cons,ih _ ds e1 e1]
  refine wQ (n:=n) hc h hn hst af s σ H v u Q I r ⟨a,vs,e2,ta.sq,by rw[←aq rs,hlen,hl],?_⟩;exact⟨ρ,θ,M,ds,hd,hwr,rs,ρ',e1,hw⟩
 | _=>cases e1
def iO:List GG→List D→bj→Option bj
 | [],[],ρ=>some ρ
 | s::ss,d::ds,ρ=>match s d ρ with
  | some ρ1=>iO ss ds ρ1
  | none=>none
 | _,_,_=>none
def i5 (ss:List GG):GG:=fun d ρ=>match d with
 | .tup ds=>iO ss ds ρ
 | _=>none
theorem nL:∀{ss:List GG} {ds:List D} {ρ ρ':bj},iO ss ds ρ=some ρ'→ds.length=ss.length
 | [],[],_,_,_=>rfl
 | [],_::_,_,_,h=>by cases h
 | _::_,[],_,_,h=>by cases h
 | s::ss,d::ds,ρ,ρ',h=>by
  unfold iO at h;split at h
  ·rw[length_cons,length_cons,nL h]
  ·cases h
def wk (X:Cx)(ss:List GG):zu:=fun vs σ H Q=>∃ρ θ M ds,fK X.K θ H σ ρ∧Wr X.K θ H M∧aR X.K θ H ds vs∧∃ρ',iO ss ds ρ=some ρ'∧∀σ',fK X.K θ H σ' ρ'→Q σ' H
theorem wH:sU X [] (wk X []):=by
 intro af s σ H vs us Q I r h;obtain⟨ρ,θ,M,ds,hd,hw,rd,ρ',e,h⟩:=h;cases ds with
 | cons d ds=>cases e
 | nil=>
  have e2:vs=[]:=rd;subst e2;cases e;exact tB af s σ H [] us Q I r ⟨rfl,h σ hd⟩
theorem vf {sg:GG}{ss:List GG}{es:List Expr}(h1:PG X e (tG X sg))(h2:sU X es (wk X ss))
  (hs:(assignEach (e::es) X.env).map (·.2)=assign e X.env::(assignEach es X.env).map (·.2):=by rfl):sU X (e::es) (wk X (sg::ss)):=by
 intro af s σ H vs us Q I r h;obtain⟨ρ,θ,M,ds,hd,hw,rd,ρ',e1,h⟩:=h;cases ds with
 | nil=>cases e1
 | cons d ds=>
  obtain⟨v,vr,e2,rv,rr⟩:=rd;subst e2;unfold iO at e1;split at e1
  ·rename_i ρ1 q1;refine qT h1 h2 hs af s σ H _ us Q I r ⟨v,vr,rfl,ρ,θ,M,d,hd,hw,rv,ρ1,q1,fun σ1 d1=>?_⟩;exact⟨ρ1,θ,M,ds,d1,hw,rr,ρ',e1,h⟩
  ·cases e1
theorem xR {ss:List GG}{es:List Expr}{k:Nat}{n:Nat}(hc:X.calm=true)(h:sU X es (wk X ss))(hl:ss.length=n:=by rfl)
  (hn:(assignEach es X.env).length=n:=by rfl) (hst:(assignEach es X.env).findIdx? (·.1)=none:=by rfl):PG X (.Tuple es k pos) (tG X (i5 ss)):=by
 intro af s σ H v u Q I r hw;obtain⟨ρ,θ,M,d,hd,hwr,rd,ρ',e1,hw⟩:=hw;cases d with
 | tup ds=>
  obtain⟨a,vs,e2,ta,rs⟩:=rd;have hlen:ds.length=ss.length:=nL e1;refine wQ (n:=n) hc h hn hst af s σ H v u Q I r ⟨a,vs,e2,ta.sq,by rw[←aq rs,hlen,hl],?_⟩;exact⟨ρ,θ,M,ds,hd,hwr,rs,ρ',e1,hw⟩
 | _=>cases e1
def cu (s:GG)(g:GE):GS:=fun ρ M=>(g ρ M).bind fun d M1=>match s d ρ with
 | some ρ1=>.ok (.nx ρ1) M1
 | none=>.bad
theorem Bj {tg:Expr}{s:GG}(he:PE X e (tE X g))(hg:PG X tg (tG X s))(hs:swapsWithSole [tg] e pos.line X.env=pure false:=by rfl)(hw:swappedStores [tg] e X.env=pure none:=by rfl)
  (h1:(assignEach [tg] X.env).map (·.2)=[assign tg X.env]:=by rfl):PS X (.Assign [tg] e pos) (tS X (cu s g)):=(wg he hg hs hw h1).of fun D σ H hxx=>by
 obtain⟨ρ,θ,M,hd,hwr,h⟩:=hxx;refine cN hd hwr (eL X θ H D) (fun c M' h=>h) (fun h=>h) h fun d M1 v θ1 H1 g1 r1 h1=>?_
 cases q:s d ρ with
 | some ρ1=>
  rw[q] at h1;exact⟨ρ,θ1,M1,d,hd.go g1,g1.wr,r1,ρ1,q,fun σ' d'=>h1 σ' θ1 H1 g1 d'⟩
 | none=>rw[q] at h1;exact h1.elim
def qW (o i x:D)(M:aw):aM Unit:=match o,i with
 | .mr k,.int j=>match M[k]? with
  | some (.lst xs)=>match uC xs.length j with
   | some n=>.ok () (M.set k (.lst (xs.set n x)))
   | none=>.bad
  | _=>.bad
 | _,_=>.bad
def iA (go gi g:GE):GS:=fun ρ M=>(g ρ M).bind fun x M1=>(go ρ M1).bind fun o M2=>(gi ρ M2).bind fun i M3=>(qW o i x M3).bind fun _ M4=>.ok (.nx ρ) M4
theorem Ck {o i:Expr}{ip:Pos}{go gi:GE}(he:PE X e (tE X g))(ho:PE X o (tE X go))(hi:PE X i (tE X gi))
  (ha:∀v,assign (.Subscript o i ip) X.env v=(do
   let ov ←holding [v] (eval o X.env)
   let iv ←holding [v,ov] (eval i X.env)
   standAt ip
   holding [v,ov,iv] (setItem ov iv v)
   release [v,ov,iv] []):=by intro _;rfl)
  (hs:swapsWithSole [.Subscript o i ip] e pos.line X.env=pure false:=by rfl) (hw:swappedStores [.Subscript o i ip] e X.env=pure none:=by rfl)
  (h1:(assignEach [.Subscript o i ip] X.env).map (·.2)=[assign (.Subscript o i ip) X.env]:=by rfl):PS X (.Assign [.Subscript o i ip] e pos) (tS X (iA go gi g)):=
 (wg he (As ho hi xo ha) hs hw h1).of fun D σ H hxx=>by
  obtain⟨ρ,θ,M,hd,hwr,h⟩:=hxx;refine cN hd hwr (eL X θ H D) (fun c M' h=>h) (fun h=>h) h fun dx M1 vx θ1 H1 g1 r1 h1=>?_
  refine cN (hd.go g1) g1.wr (eL X θ1 H1 D) (fun c M' h=>h) (fun h=>h) (h1.go g1) fun dob M2 vo θ2 H2 g2 r2 h2=>?_
  refine cN ((hd.go g1).go g2) g2.wr (eL X θ2 H2 D) (fun c M' h=>h) (fun h=>h) (h2.go g2) fun di M3 vi θ3 H3 g3 r3 h3=>?_
  have h4:=h3.go g3;unfold qW at h4;split at h4
  ·rename_i k j;split at h4
   ·rename_i xs q;split at h4
    ·rename_i n hn;obtain⟨a,ea,ta⟩:=r2.go g3;obtain⟨vs,ev,rv⟩:=g3.wr.at_ k a _ ta q;have ei:vi=.int j:=r3;refine⟨a,vs,j,n,ea,ei,ev,by rw[←aq rv];exact hn,?_⟩;have gs:=xg (ds:=xs) g3.wr ta (p7 (r1.go (g2.trans g3)) n rv);exact h4 σ θ3 _ gs ((((hd.go g1).go g2).go g3).go gs)
    ·exact h4.elim
   ·exact h4.elim
  ·exact h4.elim
end
mutual
def yB:D→D→Bool
 | .non,.non=>true
 | .bl a,.bl b=>a==b
 | .int a,.int b=>a==b
 | .str a,.str b=>a==b
 | .tup a,.tup b=>jq a b
 | .lst a,.lst b=>jq a b
 | .ro a,.ro b=>jq a b
 | .mr a,.mr b=>a==b
 | .exc a,.exc b=>a==b
 | .any,.any=>true
 | _,_=>false
def jq:List D→List D→Bool
 | [],[]=>true
 | a::as,b::bs=>yB a b&&jq as bs
 | _,_=>false
end
theorem ff {P:Prop}(h:false=true):P:=absurd h Bool.false_ne_true
mutual
theorem zc:∀(a b:D),yB a b=true→a=b
 | .non,b,h=>by
  cases b with
  | non=>rfl
  | _=>exact ff h
 | .bl x,b,h=>by
  cases b with
  | bl y=>rw[eq_of_beq (show(x==y)=true from h)]
  | _=>exact ff h
 | .int x,b,h=>by
  cases b with
  | int y=>rw[eq_of_beq (show(x==y)=true from h)]
  | _=>exact ff h
 | .str x,b,h=>by
  cases b with
  | str y=>rw[eq_of_beq (show(x==y)=true from h)]
  | _=>exact ff h
 | .tup x,b,h=>by
  cases b with
  | tup y=>rw[iX x y h]
  | _=>exact ff h
 | .lst x,b,h=>by
  cases b with
  | lst y=>rw[iX x y h]
  | _=>exact ff h
 | .ro x,b,h=>by
  cases b with
  | ro y=>rw[iX x y h]
  | _=>exact ff h
 | .mr x,b,h=>by
  cases b with
  | mr y=>rw[eq_of_beq (show(x==y)=true from h)]
  | _=>exact ff h
 | .exc x,b,h=>by
  cases b with
  | exc y=>rw[eq_of_beq (show(x==y)=true from h)]
  | _=>exact ff h
 | .any,b,h=>by
  cases b with
  | any=>rfl
  | _=>exact ff h
theorem iX:∀(a b:List D),jq a b=true→a=b
 | [],b,h=>by
  cases b with
  | nil=>rfl
  | cons _ _=>exact ff h
 | x::xs,b,h=>by
  cases b with
  | nil=>exact ff h
  | cons y ys=>
   have h:=Bool.and_eq_true_iff.mp (show(yB x y&&jq xs ys)=true from h);rw[zc x y h.1,iX xs ys h.2]
end
mutual
theorem ut:∀(a:D),yB a a=true
 | .non=>rfl
 | .bl x=>beq_self_eq_true x
 | .int x=>beq_self_eq_true x
 | .str x=>beq_self_eq_true x
 | .tup x=>fT x
 | .lst x=>fT x
 | .ro x=>fT x
 | .mr x=>beq_self_eq_true x
 | .exc x=>beq_self_eq_true x
 | .any=>rfl
theorem fT:∀(a:List D),jq a a=true
 | []=>rfl
 | x::xs=>Bool.and_eq_true_iff.mpr ⟨ut x,fT xs⟩
end
structure jN where
 ds:List D
 m:Option Nat
def jN.ok (t:jN)(M:aw):Bool:=match t.m with
 | none=>true
 | some i=>match M[i]? with
  | some (.lst xs)=>jq xs t.ds
  | _=>false
abbrev GI:=bj→aw→aM jN
def rg (K:W.Frag)(J:It)(θ:List Addr)(H:Hp)(t:jN):Prop:=∀θ1 H1 M1,Go K θ H θ1 H1 M1→t.ok M1=true→∀i:Nat,
 (∀d,t.ds[i]?=some d→J.go i H1∧∀x H2,J.yld i H1 x H2→Go K θ1 H1 θ1 H2 M1∧c6 K θ1 H2 d x)∧(t.ds.length≤i→J.stop i H1)
def uD (X:Cx)(θ:List Addr)(H:Hp)(R:It→Hp→Prop):aM jN→Prop
 | .ok t M'=>∀J θ' H',Go X.K θ H θ' H' M'→rg X.K J θ' H' t→R J H'
 | .err c M'=>dO X θ H c M'
 | .bad=>False
def tI (X:Cx)(g:GI):TI:=fun σ H R=>∃ρ θ M,fK X.K θ H σ ρ∧Wr X.K θ H M∧uD X θ H R (g ρ M)
def tD (d:D)(M:aw):aM jN:=match d with
 | .lst ds=>.ok ⟨ds,none⟩ M
 | .ro ds=>.ok ⟨ds,none⟩ M
 | .tup ds=>.ok ⟨ds,none⟩ M
 | .mr k=>match M[k]? with
  | some (.lst ds)=>.ok ⟨ds,some k⟩ M
  | _=>.bad
 | _=>.bad
def cm (g:GE):GI:=fun ρ M=>(g ρ M).bind tD
section
variable {X:Cx}{tg:Expr}
theorem Di {l:Expr}{tl:TE}(hl:PE X l tl):PI X tg l (fun σ H R=>tl σ H fun x H1=>∃a,x=.ref a∧(((∃xs,iM X.K H1 a xs)∧R (E7 X.K a) H1)∨((∃xs,lU X.K H1 a xs)∧R (F8 X.K a) H1))):=by
 intro af s σ H R I h;refine bR (hl af s σ H _ I h) fun v s1 hxx=>?_
 obtain⟨x,H1,I1,r1,q1⟩:=hxx;obtain⟨a,e,q1⟩:=q1;subst e;cases r1;rcases q1 with⟨⟨xs,hq⟩,q⟩|⟨⟨xs,hq⟩,q⟩
 ·obtain⟨its,rv,p,hz⟩:=I1.list hq;refine wpAny_pyIter_list p.isList ?_;refine⟨s1.heap.objs.size,[s1.heap.objs.size],_,_,H1,rfl,I1.kept (t':=s1.toks) fun b o e=>Heap.get?_push_of_some _ e,uH a _,⟨_,Heap.get?_push_size _ rfl,rfl,rfl⟩,fun b hb=>?_,q⟩;have e:b=s1.heap.objs.size:=by simpa using hb
  subst e;exact I1.fpOk (Nat.le_refl _) (I1.hok.fresh (Nat.le_refl _))
 ·obtain⟨its,rv,p,hz⟩:=I1.tuple hq;refine wpAny_pyIter_tuple (show s1.heap.IsTuple a its.toArray from p) ?_;refine⟨s1.heap.objs.size,[s1.heap.objs.size],_,_,H1,rfl,I1.kept (t':=s1.toks) fun b o e=>Heap.get?_push_of_some _ e,sA a _,⟨_,Heap.get?_push_size _ rfl,rfl,rfl⟩,fun b hb=>?_,q⟩;have e:b=s1.heap.objs.size:=by simpa using hb
  subst e;exact I1.fpOk (Nat.le_refl _) (I1.hok.fresh (Nat.le_refl _))
theorem sK {K:W.Frag}{θ:List Addr}{H:Hp}{a:Addr}{ds:List D}{vs:List V}(ta:j3 K θ H a vs)(r:aR K θ H ds vs):rg K (E7 K a) θ H ⟨ds,none⟩:=by
 intro θ1 H1 M1 g _ i;have t1:=(ta.grow g.toGrow).sq;have r1:=r.go g;refine⟨fun d e=>?_,fun hl=>⟨vs,t1,by rw[←aq r1];exact hl⟩⟩;obtain⟨v,e1,rv⟩:=bQ r1 e;refine⟨⟨vs,v,t1,e1⟩,fun x H2 y=>?_⟩;obtain⟨eH,y⟩:=y;subst eH;have e2:=y vs t1;rw[e1] at e2;cases e2;exact⟨.refl g.wr,rv⟩
theorem xT {K:W.Frag}{θ:List Addr}{H:Hp}{a:Addr}{ds:List D}{vs:List V}(ta:jO K θ H a vs)(r:aR K θ H ds vs):rg K (F8 K a) θ H ⟨ds,none⟩:=by
 intro θ1 H1 M1 g _ i;have t1:=(ta.grow g.toGrow).sq;have r1:=r.go g;refine⟨fun d e=>?_,fun hl=>⟨vs,t1,by rw[←aq r1];exact hl⟩⟩;obtain⟨v,e1,rv⟩:=bQ r1 e;refine⟨⟨vs,v,t1,e1⟩,fun x H2 y=>?_⟩;obtain⟨eH,y⟩:=y;subst eH;have e2:=y vs t1;rw[e1] at e2;cases e2;exact⟨.refl g.wr,rv⟩
theorem yH {K:W.Frag}{θ:List Addr}{H:Hp}{a:Addr}{ds:List D}{k:Nat}(ta:θ[k]?=some a):rg K (E7 K a) θ H ⟨ds,some k⟩:=by
 intro θ1 H1 M1 g hok i;have t1:θ1[k]?=some a:=by
  obtain⟨m,em,_⟩:=g.ext;rw[em,getElem?_append_left (List.getElem?_eq_some_iff.mp ta).1];exact ta
 have hok':(match M1[k]? with|some (.lst xs)=>jq xs ds|_=>false)=true:=hok;cases q:M1[k]? with
 | none=>rw[q] at hok';cases hok'
 | some m=>
  cases m with
  | lst xs=>
   rw[q] at hok';have e:xs=ds:=iX xs ds hok';subst e;obtain⟨vs,hv,r1⟩:=g.wr.at_ k a _ t1 q;have s1:iM K H1 a vs:=.inl (.inl hv);refine⟨fun d e=>?_,fun hl=>⟨vs,s1,by rw[←aq r1];exact hl⟩⟩;obtain⟨v,e1,rv⟩:=bQ r1 e;refine⟨⟨vs,v,s1,e1⟩,fun x H2 y=>?_⟩;obtain⟨eH,y⟩:=y;subst eH;have e2:=y vs s1;rw[e1] at e2;cases e2;exact⟨.refl g.wr,rv⟩
  | _=>rw[q] at hok';cases hok'
theorem CD {l:Expr}{g:GE}(hl:PE X l (tE X g)):PI X tg l (tI X (cm g)):=by
 intro af s σ H R I h;refine Di hl af s σ H R I ?_;obtain⟨ρ,θ,M,hd,hw,h⟩:=h;refine cN hd hw (uD X θ H R) (fun c M' h=>h) (fun h=>h) h fun d M1 v θ1 H1 g1 r1 h1=>?_
 cases d with
 | lst ds=>
  obtain⟨a,vs,e,ta,r⟩:=r1;exact⟨a,e,.inl ⟨⟨vs,ta.sq⟩,h1 _ θ1 H1 g1 (sK (.inl ⟨.inl ta.1,ta.2⟩) r)⟩⟩
 | ro ds=>
  obtain⟨a,vs,e,ta,r⟩:=r1;exact⟨a,e,.inl ⟨⟨vs,ta.sq⟩,h1 _ θ1 H1 g1 (sK ta r)⟩⟩
 | tup ds=>
  obtain⟨a,vs,e,ta,r⟩:=r1;exact⟨a,e,.inr ⟨⟨vs,ta.sq⟩,h1 _ θ1 H1 g1 (xT ta r)⟩⟩
 | mr k=>
  obtain⟨a,e,ta⟩:=r1;have h2:uD X θ H R (match M1[k]? with|some (.lst ds)=>.ok ⟨ds,some k⟩ M1|_=>.bad):=h1;cases q:M1[k]? with
  | none=>rw[q] at h2;exact h2.elim
  | some m=>
   cases m with
   | lst ds=>
    rw[q] at h2;obtain⟨vs,hv,r⟩:=g1.wr.at_ k a _ ta q;exact⟨a,e,.inl ⟨⟨vs,.inl (.inl hv)⟩,h2 _ θ1 H1 g1 (yH ta)⟩⟩
   | _=>rw[q] at h2;exact h2.elim
 | _=>exact h1.elim
def ay (lo:Int)(n:Nat):List D:=(List.range n).map fun(k:Nat)=>D.int (lo+(k:Int))
theorem zC {K:W.Frag}{θ:List Addr}{H:Hp}(lo:Int)(n:Nat):rg K (Fg lo n) θ H ⟨ay lo n,none⟩:=by
 intro θ1 H1 M1 g _ i;refine⟨fun d e=>?_,fun hl=>?_⟩
 ·have hi:i<n:=by
   have:=(List.getElem?_eq_some_iff.mp e).1;simpa[ay] using this
  refine⟨hi,fun x H2 y=>?_⟩;obtain⟨eH,y⟩:=y;subst eH;refine⟨.refl g.wr,?_⟩;have e':D.int (lo+(i:Int))=d:=by
   have:(ay lo n)[i]?=some (D.int (lo+(i:Int))):=by simp[ay,hi]
   rw[this] at e;exact Option.some.inj e
  subst e';exact y
 ·have h2:(ay lo n).length≤i:=hl;have h3:n≤i:=by simpa[ay] using h2
  exact h3
def vT (ds:List D)(M:aw):aM jN:=match ds with
 | [.int j]=>if -(2 ^ 62)≤j∧j<2 ^ 62 then .ok ⟨ay 0 j.toNat,none⟩ M else .bad
 | _=>.bad
def bA (g:GA):GI:=fun ρ M=>(g ρ M).bind vT
theorem uj {a:Expr}{g:GA}{p pos:Pos}(hg:Gl X "range")(hm:X.mg "range"=none)(ha:PA X [a] (tA X g))(hs:starEach [a] X.env=[(false,eval a X.env)]:=by rfl):PI X tg (.Call (.Name "range" p) [a] [] pos) (tI X (bA g)):=by
 intro af s σ H R I h;refine vd hg hm ha hs af s σ H R I ?_;obtain⟨ρ,θ,M,hd,hw,h⟩:=h;refine ko hd hw (uD X θ H R) (fun c M' h=>h) (fun h=>h) h fun ds M1 vs θ1 H1 g1 r1 h1=>?_
 unfold vT at h1;split at h1
 ·rename_i j;obtain⟨v,r,e,rv,rr⟩:=r1;have e2:r=[]:=rr;have e3:v=.int j:=rv;subst e2;subst e3;split at h1
  ·rename_i hj;exact⟨j,e,hj.1,hj.2,h1 _ θ1 H1 g1 (zC 0 j.toNat)⟩
  ·exact h1.elim
 ·exact h1.elim
def gX (t:jN)(s:GG)(body:GS):List D→bj→aw→aM Fl
 | [],ρ,M=>if t.ok M then .ok (.nx ρ) M else .bad
 | d::r,ρ,M=>if t.ok M then
   match s d ρ with
   | none=>.bad
   | some ρ1=>(body ρ1 M).bind fun f M1=>match f with
    | .nx ρ2=>gX t s body r ρ2 M1
    | .ct ρ2=>gX t s body r ρ2 M1
    | .bk ρ2=>.ok (.nx ρ2) M1
    | .rt d=>.ok (.rt d) M1
  else .bad
def gN (gi:GI)(s:GG)(body:GS):GS:=fun ρ M=>(gi ρ M).bind fun t M1=>gX t s body t.ds ρ M1
theorem Bq {iter:Expr}{body:List Stmt}{gi:GI}{sg:GG}{gb:GS}{pos:Pos}(hp:PassesOwn (model X.prog X.w) X.A X.env X.xe)(hc:X.calm=true)(hi:PI X tg iter (tI X gi))(hg:PG X tg (tG X sg))(hb:PSs X body (tS X gb))
  (hs:∀x,foldedSetIterable iter X.env x=pure x:=by intro _;rfl):PS X (.For tg iter body [] pos) (tS X (gN gi sg gb)):=(BH hp hc hi hg hb hs).of fun D σ H hxx=>by
 obtain⟨ρ,θ,M,hd,hw,h⟩:=hxx;refine⟨ρ,θ,M,hd,hw,?_⟩;unfold gN at h;cases q:gi ρ M with
 | err c M1=>rw[q] at h;exact h
 | bad=>rw[q] at h;exact h
 | ok t M1=>
  rw[q] at h;intro J θ1 H1 g1 hJ;have h:eL X θ H D (gX t sg gb t.ds ρ M1):=h;refine⟨fun i m σ' H'=>m=t.ds.length-i∧i≤t.ds.length∧∃ρ' θ' M',Go X.K θ1 H1 θ' H' M'∧fK X.K θ' H' σ' ρ'∧eL X θ' H' D (gX t sg gb (t.ds.drop i) ρ' M'),
   ⟨t.ds.length,by simp,Nat.zero_le _,ρ,θ1,M1,.refl g1.wr,hd.go g1,eL.go g1 h⟩,?_⟩
  rintro i m σ' H' ⟨rfl,hil,ρ',θ',M',g',hd',h'⟩
  by_cases hok:t.ok M'=true
  ·obtain⟨hy,hst⟩:=hJ θ' H' M' g' hok i
   by_cases hlt:i<t.ds.length
   ·refine .inr ?_;have e1:t.ds[i]?=some t.ds[i]:=getElem?_eq_getElem hlt;obtain⟨hgo,hyl⟩:=hy _ e1;rw[drop_eq_getElem_cons hlt,gX,if_pos hok] at h';refine⟨hgo,fun σ2 H2=>∃ρ2 θ2 M2,Go X.K θ' H' θ2 H2 M2∧fK X.K θ2 H2 σ2 ρ2∧eL X θ2 H2 D (gX t sg gb (t.ds.drop (i+1)) ρ2 M2),fun σ2 H2 ⟨ρ2,θ2,M2,g2,d2,h2⟩=>?_,fun x H2 y=>?_⟩
    ·exact⟨t.ds.length-(i+1),by omega,rfl,hlt,ρ2,θ2,M2,g'.trans g2,d2,h2⟩
    ·obtain⟨gy,rx⟩:=hyl x H2 y;cases qs:sg t.ds[i] ρ' with
     | none=>rw[qs] at h';exact h'.elim
     | some ρ1=>
      rw[qs] at h';refine⟨ρ',θ',M',_,hd'.go gy,gy.wr,rx,ρ1,qs,fun σ1 d1=>⟨ρ1,θ',M',d1,gy.wr,?_⟩⟩;have h':eL X θ' H2 D ((gb ρ1 M').bind _):=eL.go gy h';cases qb:gb ρ1 M' with
      | err c M2=>rw[qb] at h';exact h'
      | bad=>rw[qb] at h';exact h'
      | ok f M2=>
       rw[qb] at h';cases f with
       | nx ρ2=>exact fun σ2 θ2 H3 g2 d2=>⟨ρ2,θ2,M2,gy.trans g2,d2,eL.go g2 h'⟩
       | ct ρ2=>exact fun σ2 θ2 H3 g2 d2=>⟨ρ2,θ2,M2,gy.trans g2,d2,eL.go g2 h'⟩
       | bk ρ2=>exact h'
       | rt d=>exact h'
   ·have e:i=t.ds.length:=by omega
    subst e;rw[drop_length,gX,if_pos hok] at h';exact .inl ⟨hst (Nat.le_refl _),h' σ' θ' H' (.refl g'.wr) hd'⟩
  ·have hz:eL X θ' H' D .bad:=by
    cases hdr:t.ds.drop i with
    | nil=>rw[hdr,gX,if_neg hok] at h';exact h'
    | cons d r=>rw[hdr,gX,if_neg hok] at h';exact h'
   exact hz.elim
end
def wV (K:W.Frag)(θ:List Addr)(H:Hp)(E:XK)(c:Str)(M:aw):Prop:=∀C θ' H' a,my K c C→Go K θ H θ' H' M→E (.ref C) (some a) H'
def rP (K:W.Frag)(θ:List Addr)(H:Hp)(Q:VK)(E:XK):aM D→Prop
 | .ok d M'=>∀v θ' H',Go K θ H θ' H' M'→c6 K θ' H' d v→Q v H'
 | .err c M'=>wV K θ H E c M'
 | .bad=>False
abbrev FD:=List D→aw→aM D
def nl (K:W.Frag)(n:Nat)(F:FD):Sp:=fun vs H Q E=>∃θ M ds,ds.length=n∧aR K θ H ds vs∧Wr K θ H M∧rP K θ H Q E (F ds M)
theorem lX {K:W.Frag}{n:Nat}{F:FD}{ps:List Str}(hn:ps.length=n):∀vs H Q E,nl K n F vs H Q E→vs.length=ps.length:=fun vs H Q E ⟨θ,M,ds,hl,r,_⟩=>by rw[hn,←hl,aq r]
def i8 (k:Nat)(ds:List D):bj:=ds.map some++List.replicate k none
def aE (o:aM Fl):aM D:=o.bind fun f M=>match f with
 | .rt d=>.ok d M
 | .nx _=>.ok .non M
 | _=>.bad
def bD (k:Nat)(g:GS):FD:=fun ds M=>aE (g (i8 k ds) M)
theorem Cb {K:W.Frag}{θ:List Addr}{H:Hp}{ds:List D}{vs:List V}(r:aR K θ H ds vs)(N:List Str):fK K θ H (L2.start N vs) (i8 (N.length-vs.length) ds):=by
 have hl:=aq r;refine⟨by simp[L2.start,i8,hl],fun i d e=>?_⟩;unfold i8 at e
 by_cases hi:i<ds.length
 ·rw[getElem?_append_left (by simpa using hi),getElem?_map] at e;cases q:ds[i]? with
  | none=>rw[q] at e;cases e
  | some d'=>
   rw[q] at e;have e':d'=d:=by simpa using e
   subst e';obtain⟨v,e1,rv⟩:=bQ r q;refine⟨v,?_,rv⟩;unfold L2.start;rw[getElem?_append_left (by rw[length_map,←hl];exact hi),getElem?_map,e1];rfl
 ·rw[getElem?_append_right (by simpa using hi),getElem?_replicate] at e;split at e <;> cases e
section
variable {P:Program}{w:World}{K:W.Frag}{mg:Str→Option Value}{base:Heap}
theorem Ge {x qual:Str}{st:Stmt}{f:Addr}{fd:FuncData}{N ps:List Str}{k n:Nat}{g:GS}(F:yy K x qual st f fd)(S:c9 N ps (aK st))(hn:ps.length=n)
  (hbody:∀(cdv:Value) (A:Around) (outer:List Env) (s:Shared) (H:Hp) (E:XK),bp k (A.deeper (envOfC qual (aK st) s.heap.objs.size f cdv))→
   PSs (fh (gP P w) P w K mg base N qual (aK st) f cdv A outer s H E) (cr st) (tS (fh (gP P w) P w K mg base N qual (aK st) f cdv A outer s H E) g)) :
  eM P w K mg base (gP P w) (k+1) f fd ps (nl K n (bD (N.length-n) g)):=by
 obtain⟨oc,od,kV,doc,pm,an,cdv,ct,osl,rfl,lk,hcd⟩:=F.ex;refine zX lk hcd S (lX hn) fun A outer s H vs Q E hr h=>⟨_,hbody cdv A outer s H E hr,?_⟩
 obtain⟨θ,M,ds,hl,r,hw,h⟩:=h;have hv:vs.length=n:=by rw[←aq r];exact hl
 refine⟨i8 (N.length-n) ds,θ,M,by rw[←hv];exact Cb r N,hw,?_⟩;have h:rP K θ H Q E (aE (g (i8 (N.length-n) ds) M)):=h;unfold aE at h;cases q:g (i8 (N.length-n) ds) M with
 | bad=>rw[q] at h;exact h
 | err c M1=>
  rw[q] at h;have h:wV K θ H E c M1:=h;exact fun C θ' H' a s' kC g1 fl=>jF fl (h C θ' H' a kC g1)
 | ok fl M1=>
  rw[q] at h;cases fl with
  | rt d=>exact h
  | nx ρ1=>exact fun σ1 θ1 H1 g1 _=>h .non θ1 H1 g1 rfl
  | bk ρ1=>exact h.elim
  | ct ρ1=>exact h.elim
end
section
variable {X:Cx}{e:Expr}{es:List Expr}{x:Str}{p pos:Pos}{k n:Nat}{f:Addr}{fd:FuncData}{ps:List Str}{F:FD}{ga:GA}
def ap (n:Nat)(F:FD)(ga:GA):GE:=fun ρ M=>(ga ρ M).bind fun ds M1=>if ds.length=n then F ds M1 else .bad
def EI (X:Cx):XK:=fun cls oa H'=>∃a C c θ M,oa=some a∧cls=.ref C∧my X.K c C∧Wr X.K θ H' M∧dO X θ H' c M
theorem qw:rV (gP X.prog X.w) X (EI X):=fun af σ H s e s' I h=>by
 obtain⟨a,C,H',rfl,fl,a',C',c,θ,M,e1,e2,kC,hw,ok⟩:=uh I h;cases e1;cases e2;exact ok C θ H' a s' kC (.refl hw) fl
theorem zJ {θ:List Addr}{H:Hp}{c:Str}{M:aw}(h:dO X θ H c M):wV X.K θ H (EI X) c M:=fun C θ' H' a kC g=>⟨a,C,c,θ',M,rfl,rfl,kC,g.wr,h.go g⟩
theorem zE (Fn:eM X.prog X.w X.K X.mg X.base (gP X.prog X.w) k f fd ps (nl X.K n F))(hr:bp k X.A)(hg:Gl X x)(hm:X.mg x=some (.ref f))(hk:W.keepIn X.K (.ref f)=true)(hb:i7 X.K fd ps [])
  (ha:PA X (e::es) (tA X ga)) (hdb:(x==("__debug__":Str))=false:=by decide) (he:starEach (e::es) X.env=(false,eval e X.env)::starEach es X.env:=by rfl) (hpl:(backTo pos (starEach es X.env)).any (·.1)=false:=by rfl) :
  PE X (.Call (.Name x p) (e::es) [] pos) (tE X (ap n F ga)):=(yv Fn hr hg hm hk hb .nil qw ha hdb he hpl).of fun σ H Q hxx=>by
 obtain⟨ρ,θ,M,hd,hw,h⟩:=hxx;refine ko hd hw (aT X θ H Q) (fun c M' h=>h) (fun h=>h) h fun ds M1 vs θ1 H1 g1 r1 h1=>?_
 by_cases hl:ds.length=n
 ·rw[if_pos hl] at h1;refine⟨θ1,M1,ds,hl,by rw[append_nil];exact r1,g1.wr,?_⟩;have h2:=aT.go g1 h1;cases q:F ds M1 with
  | ok d M2=>rw[q] at h2;exact h2
  | err c M2=>rw[q] at h2;exact zJ h2
  | bad=>rw[q] at h2;exact h2
 ·rw[if_neg hl] at h1;exact h1.elim
def rC (X:Cx)(F:FD):List V→Hp→VK→Prop:=fun xs H Q=>∃θ M ds,Wr X.K θ H M∧aR X.K θ H ds xs∧aT X θ H Q (F ds M)
def aO (F:FD)(ga:GA):GE:=fun ρ M=>(ga ρ M).bind F
theorem wm {σ:L2.St}{H:Hp}{Q:VK}(h:tE X (aO F ga) σ H Q):Gg (rC X F) (tA X ga) σ H Q:=by
 obtain⟨ρ,θ,M,hd,hw,h⟩:=h;exact ko hd hw (aT X θ H Q) (fun c M' h=>h) (fun h=>h) h fun ds M1 vs θ1 H1 g1 r1 h1=>⟨θ1,M1,ds,g1.wr,r1,aT.go g1 h1⟩
theorem wU {id:String}(hc:cB X (.builtin id) (rC X F))(hg:Gl X x)(hm:X.mg x=none)(hv:bootBuiltins x=some (.builtin id))(ha:PA X (e::es) (tA X ga))(hn:x≠"__name__":=by decide)(hdb:(x==("__debug__":Str))=false:=by decide)
  (he:starEach (e::es) X.env=(false,eval e X.env)::starEach es X.env:=by rfl) (hpl:(backTo pos (starEach es X.env)).any (·.1)=false:=by rfl):PE X (.Call (.Name x p) (e::es) [] pos) (tE X (aO F ga)):=
 (qR hc hg hm hv ha hn hdb he hpl).of fun σ H Q h=>wm h
theorem uw {T:String}(hc:cB X (.type T) (rC X F))(hg:Gl X x)(hm:X.mg x=none)(hv:bootBuiltins x=some (.type T))(ha:PA X (e::es) (tA X ga))(hn:x≠"__name__":=by decide)(hdb:(x==("__debug__":Str))=false:=by decide)
  (he:starEach (e::es) X.env=(false,eval e X.env)::starEach es X.env:=by rfl) (hpl:(backTo pos (starEach es X.env)).any (·.1)=false:=by rfl):PE X (.Call (.Name x p) (e::es) [] pos) (tE X (aO F ga)):=
 (uY hc hg hm hv ha hn hdb he hpl).of fun σ H Q h=>wm h
end
section
variable {prog:Program}{w:World}{A:Around}{E:Value→Shared→Prop}{s:Shared}
theorem xB {t b:Addr}{ws:List Value}{Q:Value→Shared→Prop}(ht:IsTup s.heap t #[])(hb:IsTup s.heap b ws.toArray)
  (h:Q (.ref b) s):wpAny (model prog w) A (binaryOp .Add (.ref t) (.ref b)) Q E s:=by
 obtain⟨⟨cls,dd,data,sl⟩,ho,hc,n,hd⟩:=id ht;obtain⟨⟨cls2,dd2,data2,sl2⟩,ho2,hc2,n2,hd2⟩:=id hb;simp only at hc hd hc2 hd2;subst hc hd hc2 hd2;exact concat_meets ⟨_,ho,rfl⟩ ⟨_,ho2,rfl⟩ noFill_tuple_add seq_tuple_add PySem.F.slot_tuple_add PySem.F.entry_tuple_add (PySem.F.args_tuple_add_2 _ _)
   (tuple_addW0 t b #[] ws.toArray n n2 dd dd2 sl sl2 (by simp)) ⟨ho,ho2,h⟩
theorem jo {t sl:Addr}{items:Array Value}{vl vu:Value}{lo hi:Option Int}{Q:Value→Shared→Prop}(ht:IsTup s.heap t items)(hs:s.heap.IsSliceOf sl vl vu .none)(pl:IsPart vl lo)(pu:IsPart vu hi)
  (hw:HT.sIx items.size 0 lo=0∧HT.sIx items.size items.size hi=items.size) (h:Q (.ref t) s):wpAny (model prog w) A (getItem (.ref t) (.ref sl)) Q E s:=by
 obtain⟨os,hos,hcs,hds⟩:=id hs;have hTs:s.TypeIs (.ref sl) "slice":=⟨os,hos,hcs⟩;unfold getItem
 try with_reducible refine wpAny_holding ?_
 first|refine wpAny_bind (wpAny_pure ?_)|skip
 refine wpAny_bind (wpAny_sequenceKey ht.typeIs (by decide) ?_);refine wpAny_bind (wpAny_callSpecial?_slot (name:=Str.ofString "__getitem__") ht.typeIs PyProof.Rows.slot_tuple_getitem
  (wpAny_call_entry PyProof.Rows.slot_tuple_getitem ht.typeIs entry_tuple_getitem ?_ (args_tuple_getitem _ _)))
 show wpAny _ _ (Builtin.Tuple.tupleItemsOf (.ref t) >>= _) _ _ s;refine wpAny_bind (tupleItemsOf_ ht ?_);refine wpAny_bind (wpAny_typeOf hTs ?_);rw[if_pos (by decide)];refine wpAny_bind (HT.sliceApplied_gen hs pl pu ?_);have hyes:(((HT.sIx items.size 0 lo:Nat):Int)==0&&(1:Int)==1&&(HT.sIx items.size items.size hi-HT.sIx items.size 0 lo)==items.size)=true:=by
  rw[hw.1,hw.2];simp
 show wpAny _ _ (if(((HT.sIx items.size 0 lo:Nat):Int)==0&&(1:Int)==1&&(HT.sIx items.size items.size hi-HT.sIx items.size 0 lo)==items.size)=true then _ else _) _ _ s;rw[if_pos hyes];unfold Builtin.Tuple.tupleIsExact;refine wpAny_bind (wpAny_bind (wpAny_typeOf ht.typeIs (wpAny_pure ?_)));rw[if_pos (by decide)]
 first
  | exact wpAny_bind (wpAny_rule (wpAny_bind (wpAny_pure ⟨_,rfl,wpAny_pure h⟩)))
  | exact wpAny_bind (wpAny_rule (wpAny_pure ⟨_,rfl,wpAny_pure h⟩))
  | exact wpAny_bind (wpAny_rule (wpAny_bind (wpAny_pure (wpAny_pure ⟨_,rfl,wpAny_pure h⟩))))
end
def sn (d:D)(M:aw):Option (List D):=match d with
 | .lst xs=>some xs
 | .mr k=>match M[k]? with
  | some (.lst xs)=>some xs
  | _=>none
 | _=>none
def bu:F2:=fun x y M=>match x,y with
 | .int i,.int j=>.ok (.int (i+j)) M
 | .str a,.str b=>if a.length+b.length≤sizeLine then .ok (.str (a++b)) M else .bad
 | .tup a,.tup b=>if a.length+b.length≤sizeLine then .ok (.tup (a++b)) M else .bad
 | .bl a,.int j=>.ok (.int ((if a=true then 1 else 0)+j)) M
 | x,y=>match sn x M,sn y M with
  | some a,some b=>if a.length+b.length≤sizeLine then .ok (.lst (a++b)) M else .bad
  | _,_=>.bad
theorem Ae {K:W.Frag}{θ:List Addr}{H:Hp}{M:aw}{d:D}{xs:List D}{v:V}(hw:Wr K θ H M)(r:c6 K θ H d v)(e:sn d M=some xs):∃a vs,v=.ref a∧H a=some (.lst vs)∧aR K θ H xs vs:=by
 cases d with
 | lst ys=>cases e;obtain⟨a,vs,ea,ta,ra⟩:=r;exact⟨a,vs,ea,ta.1,ra⟩
 | mr k=>
  obtain⟨a,ea,ta⟩:=r;have e:(match M[k]? with|some (.lst xs)=>some xs|_=>none)=some xs:=e;cases q:M[k]? with
  | none=>rw[q] at e;cases e
  | some m=>
   cases m with
   | lst ys=>
    rw[q] at e;cases e;obtain⟨vs,hv,ra⟩:=hw.at_ k a _ ta q;exact⟨a,vs,ea,hv,ra⟩
   | _=>rw[q] at e;cases e
 | _=>cases e
def d0:F2:=fun x y M=>match x,y with
 | .int i,.int j=>.ok (.int (i-j)) M
 | _,_=>.bad
def cY:F2:=fun x y M=>match x,y with
 | .int i,.int j=>if(-(2 ^ 64)<i∧i<2 ^ 64)∨(-(2 ^ 64)<j∧j<2 ^ 64) then .ok (.int (i*j)) M else .bad
 | _,_=>.bad
def cn:F2:=fun x y M=>match x,y with
 | .int i,.int j=>if 0<j∧j.natAbs.log2<9000 then .ok (.int (i / j)) M else .bad
 | _,_=>.bad
def cG:F2:=fun x y M=>match x,y with
 | .int i,.int j=>if 0<j then .ok (.int (i % j)) M else .bad
 | _,_=>.bad
def mR:F2:=fun x y M=>match x,y with
 | .int i,.int j=>if 0≤j∧j≤1000000∧i.natAbs<2 ^ 64 then .ok (.int (i ^ j.toNat)) M else .bad
 | _,_=>.bad
section
variable {X:Cx}
theorem Bk:gq X (binaryOp .Add) (rD X bu):=by
 intro af s σ H x y v u Q I rx ry h;obtain⟨θ,M,dx,dy,hw,r1,r2,h⟩:=h;unfold bu at h;split at h
 ·rename_i i j;exact BG af s σ H x y v u Q I rx ry ⟨i,j,r1,r2,h _ θ H (.refl hw) rfl⟩
 ·rename_i a b;split at h
  ·rename_i hl;exact rK af s σ H x y v u Q I rx ry ⟨a,b,r1,r2,hl,h _ θ H (.refl hw) rfl⟩
  ·exact h.elim
 ·rename_i as bs;split at h
  ·rename_i hl;obtain⟨a,vs,ea,ta,ra⟩:=r1;obtain⟨b,us,eb,tb,rb⟩:=r2
   by_cases hv:vs=[]
   ·subst hv;have e0:as=[]:=length_eq_zero_iff.mp (aq ra);subst e0;subst ea;subst eb;cases rx;cases ry;obtain⟨its,q1,p1,_⟩:=I.tuple ta.sq;obtain⟨its2,q2,p2,_⟩:=I.tuple tb.sq;cases q1;exact xB p1 p2 ⟨.ref b,H,I,rfl,h _ θ H (.refl hw) ⟨b,us,rfl,tb,rb⟩⟩
   ·refine yA af s σ H x y v u Q I rx ry ⟨a,b,vs,us,ea,eb,ta.sq,tb.sq,hv,by rw[←aq ra,←aq rb];exact hl,fun hu=>?_,fun _ p hp=>h _ θ _ (cH hw hp) (ej hw hp (bU ra rb))⟩;subst hu;have e0:bs=[]:=length_eq_zero_iff.mp (aq rb);subst e0;exact h _ θ H (.refl hw) ⟨a,vs,rfl,ta,by rw[append_nil];exact ra⟩
  ·exact h.elim
 ·rename_i a j;have e1:x=.bl a:=r1;have e2:y=.int j:=r2;subst e1;subst e2;cases rx;obtain⟨t',rfl⟩:=ry;exact IntBool.add_bool_int ⟨.int _,H,I.tok _,⟨_,rfl⟩,h _ θ H (.refl hw) rfl⟩
 ·split at h
  ·rename_i as bs q1 q2;split at h
   ·rename_i hl;obtain⟨a,vs,ea,ta,ra⟩:=Ae hw r1 q1;obtain⟨b,us,eb,tb,rb⟩:=Ae hw r2 q2;exact BD af s σ H x y v u Q I rx ry ⟨a,b,vs,us,ea,eb,ta,tb,by rw[←aq ra,←aq rb];exact hl,fun p hp=>h _ θ _ (cH hw hp) (jf hw hp (bU ra rb))⟩
   ·exact h.elim
  ·exact h.elim
theorem BF:gq X (binaryOp .Sub) (rD X d0):=by
 intro af s σ H x y v u Q I rx ry h;obtain⟨θ,M,dx,dy,hw,r1,r2,h⟩:=h;unfold d0 at h;split at h
 ·rename_i i j;exact AK af s σ H x y v u Q I rx ry ⟨i,j,r1,r2,h _ θ H (.refl hw) rfl⟩
 ·exact h.elim
theorem Cm:gq X (binaryOp .Mult) (rD X cY):=by
 intro af s σ H x y v u Q I rx ry h;obtain⟨θ,M,dx,dy,hw,r1,r2,h⟩:=h;unfold cY at h;split at h
 ·rename_i i j;split at h
  ·rename_i hc;exact AA af s σ H x y v u Q I rx ry ⟨i,j,r1,r2,hc,h _ θ H (.refl hw) rfl⟩
  ·exact h.elim
 ·exact h.elim
theorem xP:gq X (binaryOp .FloorDiv) (rD X cn):=by
 intro af s σ H x y v u Q I rx ry h;obtain⟨θ,M,dx,dy,hw,r1,r2,h⟩:=h;unfold cn at h;split at h
 ·rename_i i j;split at h
  ·rename_i hc;have e1:x=.int i:=r1;have e2:y=.int j:=r2;subst e1;subst e2;obtain⟨t,rfl⟩:=rx;obtain⟨t',rfl⟩:=ry;have h1:(0:Int)<j:=hc.1;exact floordiv_int (by omega) (by rw[Int.fdiv_eq_ediv_of_nonneg i (by omega)];exact⟨.int (i / j),H,I.tok _,⟨_,rfl⟩,h _ θ H (.refl hw) rfl⟩) (.inl (PyProof.noPylong_of_log2 hc.2))
  ·exact h.elim
 ·exact h.elim
theorem A0:gq X (binaryOp .Mod) (rD X cG):=by
 intro af s σ H x y v u Q I rx ry h;obtain⟨θ,M,dx,dy,hw,r1,r2,h⟩:=h;unfold cG at h;split at h
 ·rename_i i j;split at h
  ·rename_i hc;exact AV af s σ H x y v u Q I rx ry ⟨i,j,r1,r2,hc,h _ θ H (.refl hw) rfl⟩
  ·exact h.elim
 ·exact h.elim
theorem AE:gq X (binaryOp .Pow) (rD X mR):=by
 intro af s σ H x y v u Q I rx ry h;obtain⟨θ,M,dx,dy,hw,r1,r2,h⟩:=h;unfold mR at h;split at h
 ·rename_i i j;split at h
  ·rename_i hc;exact Cc af s σ H x y v u Q I rx ry ⟨i,j,r1,r2,hc,h _ θ H (.refl hw) rfl⟩
  ·exact h.elim
 ·exact h.elim
def pq (g:GE):GE:=fun ρ M=>(g ρ M).bind fun x M1=>match x with
 | .int i=>.ok (.int (-i)) M1
 | _=>.bad
theorem Cr {a:Expr}{pos:Pos}{g:GE}(ha:PE X a (tE X g)):PE X (.UnaryOp .USub a pos) (tE X (pq g)):=(Ap v9 ha).of fun σ H Q hxx=>by
 obtain⟨ρ,θ,M,hd,hw,h⟩:=hxx;refine cN hd hw (aT X θ H Q) (fun c M' h=>h) (fun h=>h) h fun d M1 v θ1 H1 g1 r1 h1=>?_
 split at h1
 ·rename_i i;exact⟨i,r1,h1 _ θ1 H1 g1 rfl⟩
 ·exact h1.elim
def mW:F2:=fun x y M=>match x,y with
 | .int i,.int j=>.ok (.bl (decide (i<j))) M
 | _,_=>.bad
def uz:F2:=fun x y M=>match x,y with
 | .int i,.int j=>.ok (.bl (decide (i≤j))) M
 | _,_=>.bad
def nR:F2:=fun x y M=>match x,y with
 | .int i,.int j=>.ok (.bl (decide (j<i))) M
 | _,_=>.bad
def re:F2:=fun x y M=>match x,y with
 | .int i,.int j=>.ok (.bl (decide (j≤i))) M
 | _,_=>.bad
theorem EJ:gq X (compareOp .Lt) (rD X mW):=by
 intro af s σ H x y v u Q I rx ry h;obtain⟨θ,M,dx,dy,hw,r1,r2,h⟩:=h;unfold mW at h;split at h
 ·rename_i i j;exact EC af s σ H x y v u Q I rx ry ⟨i,j,r1,r2,h _ θ H (.refl hw) rfl⟩
 ·exact h.elim
theorem D9:gq X (compareOp .LtE) (rD X uz):=by
 intro af s σ H x y v u Q I rx ry h;obtain⟨θ,M,dx,dy,hw,r1,r2,h⟩:=h;unfold uz at h;split at h
 ·rename_i i j;exact C0 af s σ H x y v u Q I rx ry ⟨i,j,r1,r2,h _ θ H (.refl hw) rfl⟩
 ·exact h.elim
theorem DB:gq X (compareOp .Gt) (rD X nR):=by
 intro af s σ H x y v u Q I rx ry h;obtain⟨θ,M,dx,dy,hw,r1,r2,h⟩:=h;unfold nR at h;split at h
 ·rename_i i j;exact DN af s σ H x y v u Q I rx ry ⟨i,j,r1,r2,h _ θ H (.refl hw) rfl⟩
 ·exact h.elim
theorem EQ:gq X (compareOp .GtE) (rD X re):=by
 intro af s σ H x y v u Q I rx ry h;obtain⟨θ,M,dx,dy,hw,r1,r2,h⟩:=h;unfold re at h;split at h
 ·rename_i i j;exact D5 af s σ H x y v u Q I rx ry ⟨i,j,r1,r2,h _ θ H (.refl hw) rfl⟩
 ·exact h.elim
def CW (d c:D):Option Bool:=match c,d with
 | .non,.non=>some true
 | .non,.any=>none
 | .non,_=>some false
 | .bl b,.bl b'=>some (b'==b)
 | .bl _,.non=>some false
 | .bl _,.int _=>some false
 | .bl _,.str _=>some false
 | .bl _,.tup _=>some false
 | .bl _,.lst _=>some false
 | .bl _,.ro _=>some false
 | .bl _,.mr _=>some false
 | _,_=>none
def lQ (neg:Bool):F2:=fun x y M=>match CW x y with
 | some b=>.ok (.bl (b != neg)) M
 | none=>.bad
def VS:D→Value→Prop
 | .non,v=>v=.none
 | .bl b,v=>v=.bool b
 | .int i,v=>∃t,v=.int i t
 | .str i,v=>∃t,v=.str i t
 | .any,_=>True
 | _,v=>∃a,v=.ref a
theorem zU {K:W.Frag}{θ:List Addr}{H:Hp}{d:D}{x:V}{v:Value}(r:c6 K θ H d x)(q:bi x v):VS d v:=by
 cases d with
 | non=>have e:x=.non:=r;rw[e] at q;exact q
 | bl b=>have e:x=.bl b:=r;rw[e] at q;exact q
 | int i=>have e:x=.int i:=r;rw[e] at q;exact q
 | str i=>have e:x=.str i:=r;rw[e] at q;exact q
 | any=>trivial
 | tup ds=>obtain⟨a,_,e,_⟩:=r;rw[e] at q;exact⟨a,q⟩
 | lst ds=>obtain⟨a,_,e,_⟩:=r;rw[e] at q;exact⟨a,q⟩
 | ro ds=>obtain⟨a,_,e,_⟩:=r;rw[e] at q;exact⟨a,q⟩
 | mr k=>obtain⟨a,e,_⟩:=r;rw[e] at q;exact⟨a,q⟩
 | exc c=>obtain⟨a,_,e,_⟩:=r;rw[e] at q;exact⟨a,q⟩
theorem fn {α:Type}{b:α}{P:Prop}(h:none=some b):P:=nomatch h
theorem tK {v u:Value}{b:Bool}(h:some false=some b)(k:plainIs v u=true∧(v==u)=false):plainIs v u=true∧(v==u)=b:=Option.some.inj h▸k
theorem DS {dx dy:D}{v u:Value}{b:Bool}(p:VS dx v)(q:VS dy u)(h:CW dx dy=some b):plainIs v u=true∧(v==u)=b:=by
 cases dy with
 | non=>
  rw[show u=.none from q];cases dx with
  | non=>rw[show v=.none from p];exact Option.some.inj (show some true=some b from h)▸⟨rfl,rfl⟩
  | bl b=>rw[show v=.bool b from p];exact tK h ⟨rfl,rfl⟩
  | any=>exact fn h
  | _=>obtain⟨t,e⟩:=p;rw[e];exact tK h ⟨rfl,rfl⟩
 | bl c=>
  rw[show u=.bool c from q];cases dx with
  | non=>rw[show v=.none from p];exact tK h ⟨rfl,rfl⟩
  | bl b=>
   rw[show v=.bool b from p,←Option.some.inj h];refine⟨rfl,?_⟩;cases b <;> cases c <;> rfl
  | any=>exact fn h
  | exc _=>exact fn h
  | _=>obtain⟨t,e⟩:=p;rw[e];exact tK h ⟨rfl,rfl⟩
 | _=>exact fn h
theorem CL {K:W.Frag}{θ:List Addr}{H:Hp}{dx dy:D}{x y:V}{v u:Value}{b:Bool}(r1:c6 K θ H dx x)(r2:c6 K θ H dy y)(rx:bi x v)(ry:bi y u)(h:CW dx dy=some b) :
  plainIs v u=true∧(v==u)=b:=DS (zU r1 rx) (zU r2 ry) h
theorem wx:gq X (compareOp .IsNot) (rD X (lQ true)):=by
 intro af s σ H x y v u Q I rx ry h;obtain⟨θ,M,dx,dy,hw,r1,r2,h⟩:=h;unfold lQ at h;split at h
 ·rename_i b q;obtain⟨hp,e⟩:=CL r1 r2 rx ry q;refine wpAny_isNot_plain hp ?_;rw[e];refine⟨.bl (!b),H,I,rfl,?_⟩;have:=h (.bl (b != true)) θ H (.refl hw) rfl;rw[Bool.bne_true] at this;exact this
 ·exact h.elim
mutual
def hO:D→PyData
 | .non=>.none
 | .bl b=>.bool b
 | .int i=>.int i
 | .str x=>.str x
 | .tup ds=>.tuple (kA ds)
 | .lst ds=>.list (kA ds)
 | .ro ds=>.list (kA ds)
 | .mr _=>.dict []
 | .exc _=>.dict []
 | .any=>.dict []
def kA:List D→List PyData
 | []=>[]
 | d::ds=>hO d::kA ds
end
mutual
def aY:Nat→D→Bool
 | _,.non=>true
 | _,.bl _=>true
 | _,.int _=>true
 | _,.str x=>PyData.strOk x
 | n+1,.tup ds=>aW n ds
 | n+1,.lst ds=>aW n ds
 | n+1,.ro ds=>aW n ds
 | _,_=>false
def aW:Nat→List D→Bool
 | _,[]=>true
 | n,d::ds=>aY n d&&aW n ds
end
mutual
def kE:D→D→Bool
 | .non,.non=>true
 | .bl a,.bl b=>a==b
 | .bl a,.int j=>(if a then 1 else 0)==j
 | .int i,.bl b=>i==(if b then 1 else 0)
 | .int i,.int j=>i==j
 | .str x,.str y=>x==y
 | .lst xs,.lst ys=>dQ xs ys
 | .lst xs,.ro ys=>dQ xs ys
 | .ro xs,.lst ys=>dQ xs ys
 | .ro xs,.ro ys=>dQ xs ys
 | .tup xs,.tup ys=>dQ xs ys
 | _,_=>false
def dQ:List D→List D→Bool
 | [],[]=>true
 | x::xs,y::ys=>kE x y&&dQ xs ys
 | _,_=>false
end
mutual
theorem jk:∀(x y:D) (n m:Nat),aY n x=true→aY m y=true→PyData.eqv (hO x) (hO y)=kE x y
 | .non,y,n,m,hx,hy=>by cases y <;> rfl
 | .bl a,y,n,m,hx,hy=>by cases y <;> rfl
 | .int a,y,n,m,hx,hy=>by cases y <;> rfl
 | .str a,y,n,m,hx,hy=>by cases y <;> rfl
 | .tup xs,y,n,m,hx,hy=>by
  cases n with
  | zero=>exact ff hx
  | succ n=>
   cases y with
   | tup ys=>
    cases m with
    | zero=>exact ff hy
    | succ m=>
     exact hG xs ys n m hx hy
   | _=>rfl
 | .lst xs,y,n,m,hx,hy=>by
  cases n with
  | zero=>exact ff hx
  | succ n=>
   cases y with
   | lst ys=>
    cases m with
    | zero=>exact ff hy
    | succ m=>
     exact hG xs ys n m hx hy
   | ro ys=>
    cases m with
    | zero=>exact ff hy
    | succ m=>
     exact hG xs ys n m hx hy
   | _=>rfl
 | .ro xs,y,n,m,hx,hy=>by
  cases n with
  | zero=>exact ff hx
  | succ n=>
   cases y with
   | lst ys=>
    cases m with
    | zero=>exact ff hy
    | succ m=>
     exact hG xs ys n m hx hy
   | ro ys=>
    cases m with
    | zero=>exact ff hy
    | succ m=>
     exact hG xs ys n m hx hy
   | _=>rfl
 | .mr a,y,n,m,hx,hy=>by cases n <;> exact ff hx
 | .exc a,y,n,m,hx,hy=>by cases n <;> exact ff hx
 | .any,y,n,m,hx,hy=>by cases n <;> exact ff hx
theorem hG:∀(x y:List D) (n m:Nat),aW n x=true→aW m y=true→PyData.eqvAll (kA x) (kA y)=dQ x y
 | [],y,n,m,hx,hy=>by cases y <;> rfl
 | x::xs,y,n,m,hx,hy=>by
  cases y with
  | nil=>rfl
  | cons y ys=>
   have hx:=Bool.and_eq_true_iff.mp (show(aY n x&&aW n xs)=true from hx);have hy:=Bool.and_eq_true_iff.mp (show(aY m y&&aW m ys)=true from hy);show(PyData.eqv (hO x) (hO y)&&PyData.eqvAll (kA xs) (kA ys))=(kE x y&&dQ xs ys);rw[jk x y n m hx.1 hy.1,hG xs ys n m hx.2 hy.2]
end
mutual
theorem dS:∀(d:D) (n:Nat),aY n d=true→(hO d).canLay0=true∧(hO d).depth≤n
 | .non,n,h=>by simp[hO,PyData.canLay0,PyData.depth]
 | .bl a,n,h=>by simp[hO,PyData.canLay0,PyData.depth]
 | .int a,n,h=>by simp[hO,PyData.canLay0,PyData.depth]
 | .str a,n,h=>by
  have:PyData.strOk a=true:=by cases n <;> exact h
  simp[hO,PyData.canLay0,PyData.depth,this]
 | .tup xs,n,h=>by
  cases n with
  | zero=>exact ff h
  | succ n=>
   have:=jR xs n h;simp only[hO,PyData.canLay0,PyData.depth];exact⟨this.1,by omega⟩
 | .lst xs,n,h=>by
  cases n with
  | zero=>exact ff h
  | succ n=>
   have:=jR xs n h;simp only[hO,PyData.canLay0,PyData.depth];exact⟨this.1,by omega⟩
 | .ro xs,n,h=>by
  cases n with
  | zero=>exact ff h
  | succ n=>
   have:=jR xs n h;simp only[hO,PyData.canLay0,PyData.depth];exact⟨this.1,by omega⟩
 | .mr a,n,h=>by cases n <;> exact ff h
 | .exc a,n,h=>by cases n <;> exact ff h
 | .any,n,h=>by cases n <;> exact ff h
theorem jR:∀(ds:List D) (n:Nat),aW n ds=true→PyData.canLayAll0 (kA ds)=true∧PyData.depthAll (kA ds)≤n
 | [],n,h=>by simp[kA,PyData.canLayAll0,PyData.depthAll]
 | d::ds,n,h=>by
  have h:=Bool.and_eq_true_iff.mp (show(aY n d&&aW n ds)=true from h);have h1:=dS d n h.1;have h2:=jR ds n h.2;simp only[kA,PyData.canLayAll0,PyData.depthAll,Bool.and_eq_true];exact⟨⟨h1.1,h2.1⟩,by omega⟩
end
mutual
theorem iW {af:List (Addr×Obj)}{s:Shared}{σ:L2.St}{H:Hp}{θ:List Addr}(I:Inv X af σ H s):∀(d:D) (n:Nat) (v:V) (u:Value),aY n d=true→c6 X.K θ H d v→bi v u→∃as,Reads s.heap u (hO d) as
 | .non,n,v,u,h,r,q=>by have e:v=.non:=r;subst e;cases q;exact⟨_,.none⟩
 | .bl a,n,v,u,h,r,q=>by have e:v=.bl a:=r;subst e;cases q;exact⟨_,.bool a⟩
 | .int a,n,v,u,h,r,q=>by have e:v=.int a:=r;subst e;obtain⟨t,rfl⟩:=q;exact⟨_,.int a t⟩
 | .str a,n,v,u,h,r,q=>by have e:v=.str a:=r;subst e;obtain⟨t,rfl⟩:=q;exact⟨_,.str a t⟩
 | .tup xs,n,v,u,h,r,q=>by
  cases n with
  | zero=>exact ff h
  | succ n=>
   obtain⟨a,vs,e,ta,ra⟩:=r;subst e;cases q;obtain⟨its,rv,⟨o,h1,h2,m,h3⟩,_⟩:=I.tuple ta.sq;obtain⟨as,R⟩:=gZ I xs n vs its h ra rv;exact⟨_,.tuple h1 h2 h3 (by simpa using R)⟩
 | .lst xs,n,v,u,h,r,q=>by
  cases n with
  | zero=>exact ff h
  | succ n=>
   obtain⟨a,vs,e,ta,ra⟩:=r;subst e;cases q;obtain⟨its,rv,⟨o,m,h1,h2,_,h3⟩,_⟩:=I.list (ta.sq (K:=X.K));obtain⟨as,R⟩:=gZ I xs n vs its h ra rv;exact⟨_,.list h1 h2 h3 (by simpa using R)⟩
 | .ro xs,n,v,u,h,r,q=>by
  cases n with
  | zero=>exact ff h
  | succ n=>
   obtain⟨a,vs,e,ta,ra⟩:=r;subst e;cases q;obtain⟨its,rv,⟨o,m,h1,h2,_,h3⟩,_⟩:=I.list ta.sq;obtain⟨as,R⟩:=gZ I xs n vs its h ra rv;exact⟨_,.list h1 h2 h3 (by simpa using R)⟩
 | .mr a,n,v,u,h,r,q=>by cases n <;> exact ff h
 | .exc a,n,v,u,h,r,q=>by cases n <;> exact ff h
 | .any,n,v,u,h,r,q=>by cases n <;> exact ff h
theorem gZ {af:List (Addr×Obj)}{s:Shared}{σ:L2.St}{H:Hp}{θ:List Addr}(I:Inv X af σ H s):∀(ds:List D) (n:Nat) (vs:List V) (us:List Value),aW n ds=true→aR X.K θ H ds vs→aQ vs us→∃as,ReadsAll s.heap us (kA ds) as
 | [],n,vs,us,h,r,q=>by have e:vs=[]:=r;subst e;cases q;exact⟨_,.nil⟩
 | d::ds,n,vs,us,h,r,q=>by
  have h:=Bool.and_eq_true_iff.mp (show(aY n d&&aW n ds)=true from h);obtain⟨v,rr,e,r1,r2⟩:=r;subst e;cases q with
  | cons q1 q2=>
   obtain⟨as,R1⟩:=iW I d n v _ h.1 r1 q1;obtain⟨bs,R2⟩:=gZ I ds n rr _ h.2 r2 q2;exact⟨_,.cons R1 R2⟩
end
def now (d:D)(M:aw):D:=match d with
 | .mr k=>match M[k]? with
  | some (.lst xs)=>.lst xs
  | _=>.mr k
 | d=>d
def bE (neg:Bool):F2:=fun x y M=>if aY 40 (now x M)&&aY 40 (now y M) then .ok (.bl (kE (now x M) (now y M) != neg)) M else .bad
theorem gR {af:List (Addr×Obj)}{s:Shared}{σ:L2.St}{H:Hp}{θ:List Addr}{M:aw}(I:Inv X af σ H s)(hw:Wr X.K θ H M){d:D}{n:Nat}{v:V}{u:Value}(h:aY n (now d M)=true)(r:c6 X.K θ H d v)(q:bi v u):∃as,Reads s.heap u (hO (now d M)) as:=by
 cases d with
 | mr k=>
  obtain⟨a,e,ta⟩:=r;subst e;cases q;cases qm:M[k]? with
  | none=>
   have e:now (.mr k) M=.mr k:=by simp[now,qm]
   rw[e] at h;cases n <;> exact ff h
  | some m=>
   cases m with
   | lst xs=>
    have e:now (.mr k) M=.lst xs:=by simp[now,qm]
    rw[e] at h ⊢;cases n with
    | zero=>exact ff h
    | succ n=>
     obtain⟨vs,hv,ra⟩:=hw.at_ k a _ ta qm;obtain⟨its,rv,⟨o,m,h1,h2,_,h3⟩,_⟩:=I.list (X:=X) (xs:=vs) (.inl (.inl hv));obtain⟨as,R⟩:=gZ I xs n vs its h ra rv;exact⟨_,.list h1 h2 h3 (by simpa using R)⟩
   | _=>
    have e:now (.mr k) M=.mr k:=by simp[now,qm]
    rw[e] at h;cases n <;> exact ff h
 | _=>exact iW I _ n v u h r q
theorem Ei (hu:X.A.units+64<cLine):gq X (compareOp .Eq) (rD X (bE false)):=by
 intro af s σ H x y v u Q I rx ry h;obtain⟨θ,M,dx,dy,hw,r1,r2,h⟩:=h;unfold bE at h;split at h
 ·rename_i hc;rw[Bool.and_eq_true] at hc;obtain⟨as,R1⟩:=gR I hw hc.1 r1 rx;obtain⟨bs,R2⟩:=gR I hw hc.2 r2 ry;have l1:=dS _ _ hc.1;have l2:=dS _ _ hc.2;refine SeqAt.compareEq_reads R1 R2 l1.1 l2.1 (by have:=l1.2;have:min (hO (now dx M)).depth (hO (now dy M)).depth≤(hO (now dx M)).depth:=Nat.min_le_left _ _;omega) ?_;rw[jk _ _ _ _ hc.1 hc.2];refine⟨.bl _,H,I,rfl,?_⟩;have:=h _ θ H (.refl hw) rfl;rw[Bool.bne_false] at this;exact this
 ·exact h.elim
theorem DJ (hu:X.A.units+64<cLine):gq X (compareOp .NotEq) (rD X (bE true)):=by
 intro af s σ H x y v u Q I rx ry h;obtain⟨θ,M,dx,dy,hw,r1,r2,h⟩:=h;unfold bE at h;split at h
 ·rename_i hc;rw[Bool.and_eq_true] at hc;obtain⟨as,R1⟩:=gR I hw hc.1 r1 rx;obtain⟨bs,R2⟩:=gR I hw hc.2 r2 ry;have l1:=dS _ _ hc.1;have l2:=dS _ _ hc.2;refine SeqAt.compareNe_reads R1 R2 l1.1 l2.1 (by have:=l1.2;have:min (hO (now dx M)).depth (hO (now dy M)).depth≤(hO (now dx M)).depth:=Nat.min_le_left _ _;omega) ?_;rw[jk _ _ _ _ hc.1 hc.2];refine⟨.bl _,H,I,rfl,?_⟩;have:=h _ θ H (.refl hw) rfl;rw[Bool.bne_true] at this;exact this
 ·exact h.elim
def aU (d:D)(M:aw):Option (List D):=match d with
 | .tup xs=>some xs
 | .lst xs=>some xs
 | .ro xs=>some xs
 | .mr k=>match M[k]? with
  | some (.lst xs)=>some xs
  | _=>none
 | _=>none
def az:F2:=fun x y M=>match aU x M,y with
 | some xs,.int i=>match jW xs i with
  | some d=>.ok d M
  | none=>.bad
 | _,_=>.bad
theorem vV {K:W.Frag}{θ:List Addr}{H:Hp}{ds:List D}{vs:List V}{i:Int}{d:D}(r:aR K θ H ds vs)(e:jW ds i=some d):∃v,jW vs i=some v∧c6 K θ H d v:=by
 unfold jW at e ⊢;rw[←aq r];cases q:uC ds.length i with
 | none=>rw[q] at e;cases e
 | some j=>
  rw[q] at e;exact bQ r e
theorem k7 {K:W.Frag}{θ:List Addr}{H:Hp}{M:aw}{d:D}{xs:List D}{v:V}(hw:Wr K θ H M)(r:c6 K θ H d v)(e:aU d M=some xs):∃a vs,v=.ref a∧(iM K H a vs∨lU K H a vs)∧aR K θ H xs vs:=by
 cases d with
 | tup ds=>obtain⟨a,vs,e1,ta,ra⟩:=r;cases e;exact⟨a,vs,e1,.inr ta.sq,ra⟩
 | lst ds=>obtain⟨a,vs,e1,ta,ra⟩:=r;cases e;exact⟨a,vs,e1,.inl ta.sq,ra⟩
 | ro ds=>obtain⟨a,vs,e1,ta,ra⟩:=r;cases e;exact⟨a,vs,e1,.inl ta.sq,ra⟩
 | mr k=>
  obtain⟨a,e1,ta⟩:=r;have e:(match M[k]? with|some (.lst xs)=>some xs|_=>none)=some xs:=e;cases qm:M[k]? with
  | none=>rw[qm] at e;cases e
  | some m=>
   cases m with
   | lst ys=>
    rw[qm] at e;cases e;obtain⟨vs,hv,ra⟩:=hw.at_ k a _ ta qm;exact⟨a,vs,e1,.inl (.inl (.inl hv)),ra⟩
   | _=>rw[qm] at e;cases e
 | _=>cases e
theorem Dv:E5 X (rD X az):=by
 intro value slice af s σ H x y v u Q I rx ry h hs;obtain⟨θ,M,dx,dy,hw,r1,r2,h⟩:=h;unfold az at h;split at h
 ·rename_i xs i q;split at h
  ·rename_i d qd;obtain⟨a,vs,ea,sq,ra⟩:=k7 hw r1 q;obtain⟨z,ez,rz⟩:=vV ra qd;have hq:=h z θ H (.refl hw) rz;rcases sq with sq|sq
   ·exact yM value slice af s σ H x y v u Q I rx ry ⟨a,vs,i,z,ea,r2,sq,ez,hq⟩ hs
   ·exact BR value slice af s σ H x y v u Q I rx ry ⟨a,vs,i,z,ea,r2,sq,ez,hq⟩ hs
  ·exact h.elim
 ·exact h.elim
theorem C9 {a b:Expr}{pos:Pos}{ga gb:GE}(ha:PE X a (tE X ga))(hb:PE X b (tE X gb))(hs:oU b:=by intro _ _;rfl):PE X (.Subscript a b pos) (tE X (g2 az ga gb)):=
 (DO Dv ha hb hs).of fun _ _ _ h=>tw h
def jH (xs:List D)(lo hi:Option Int):List D:=(xs.drop (HT.sIx xs.length 0 lo)).take (HT.sIx xs.length xs.length hi-HT.sIx xs.length 0 lo)
def mL (x:D)(lo hi:Option Int)(M:aw):aM D:=match x with
 | .tup xs=>.ok (.tup (jH xs lo hi)) M
 | .lst xs=>.ok (.lst (jH xs lo hi)) M
 | .ro xs=>.ok (.lst (jH xs lo hi)) M
 | .mr k=>match M[k]? with
  | some (.lst xs)=>.ok (.lst (jH xs lo hi)) M
  | _=>.bad
 | _=>.bad
abbrev GO:=bj→aw→aM (Option Int)
def de:GO:=fun _ M=>.ok none M
def iK (g:GE):GO:=fun ρ M=>(g ρ M).bind fun d M1=>match d with
 | .int i=>.ok (some i) M1
 | _=>.bad
def EZ (X:Cx)(θ:List Addr)(H:Hp)(Q:Option Int→Hp→Prop):aM (Option Int)→Prop
 | .ok b M'=>∀θ' H',Go X.K θ H θ' H' M'→Q b H'
 | .err c M'=>dO X θ H c M'
 | .bad=>False
def tO (X:Cx)(g:GO):TO:=fun σ H Q=>∃ρ θ M,fK X.K θ H σ ρ∧Wr X.K θ H M∧EZ X θ H Q (g ρ M)
theorem _root_.L2.PO.of {e:Option Expr}{t t':TO}(h:PO X e t)(w:∀σ H Q,t' σ H Q→t σ H Q):PO X e t':=fun af s σ H Q I q=>h af s σ H Q I (w σ H Q q)
theorem yV:PO X none (tO X de):=yJ.of fun σ H Q ⟨ρ,θ,M,hd,hw,f⟩=>f θ H (.refl hw)
theorem xW {e:Expr}{g:GE}(h:PE X e (tE X g)):PO X (some e) (tO X (iK g)):=(zi h).of fun σ H Q hxx=>by
 obtain⟨ρ,θ,M,hd,hw,h⟩:=hxx;refine cN hd hw (EZ X θ H Q) (fun c M' h=>h) (fun h=>h) h fun d M1 v θ1 H1 g1 r1 h1=>?_
 split at h1
 ·rename_i i;exact⟨i,r1,h1 θ1 H1 g1⟩
 ·exact h1.elim
theorem Ag {g:GO}{σ:L2.St}{H:Hp}{Q:Option Int→Hp→Prop}{α:Type}{ρ:bj}{θ:List Addr}{M:aw}(hd:fK X.K θ H σ ρ)(hw:Wr X.K θ H M)(F:aM α→Prop)(Fe:∀c M',F (.err c M')→dO X θ H c M')(Fb:F .bad→False)
  {f:Option Int→aw→aM α} (h:F ((g ρ M).bind f)) (k:∀d M1 θ1 H1,Go X.K θ H θ1 H1 M1→F (f d M1)→Q d H1):tO X g σ H Q:=by
 refine⟨ρ,θ,M,hd,hw,?_⟩;cases q:g ρ M with
 | ok d M1=>
  rw[q] at h;exact fun θ1 H1 g1=>k d M1 θ1 H1 g1 h
 | err c M1=>rw[q] at h;exact Fe c M1 h
 | bad=>rw[q] at h;exact(Fb h).elim
def tJ (g:GE)(gl gh:GO):GE:=fun ρ M=>(g ρ M).bind fun x M1=>(gl ρ M1).bind fun lo M2=>(gh ρ M2).bind fun hi M3=>mL x lo hi M3
def GR (X:Cx):V→Option Int→Option Int→Hp→VK→Prop:=fun x lo hi H Q=>∃θ M d,Wr X.K θ H M∧c6 X.K θ H d x∧aT X θ H Q (mL d lo hi M)
theorem j2 {K:W.Frag}{θ:List Addr}{H:Hp}{ds:List D}{vs:List V}(r:aR K θ H ds vs)(lo hi:Option Int):aR K θ H (jH ds lo hi) (pO vs lo hi):=by
 unfold jH pO;rw[←aq r];exact ny _ (nz _ r)
theorem Fu:Fc X (GR X):=by
 intro af s σ H x v vl vu lo hi sl Q I rx hs pl pu h;obtain⟨θ,M,d,hw,r,h⟩:=h;cases d with
 | tup ds=>
  obtain⟨a,vs,e,ta,ra⟩:=r
  by_cases hc:HT.sIx vs.length 0 lo=0∧HT.sIx vs.length vs.length hi=vs.length
  ·subst e;cases rx;obtain⟨its,rv,ht,hz⟩:=I.tuple ta.sq;have hlen:its.toArray.size=vs.length:=by rw[size_toArray];exact rv.length.symm
   refine⟨"tuple",_,PyProof.Rows.slot_tuple_getitem.lookup,ht.typeIs,?_⟩;refine jo ht hs pl pu (by rw[hlen];exact hc) ⟨.ref a,H,I,rfl,h _ θ H (.refl hw) ⟨a,vs,rfl,ta,?_⟩⟩;have e:jH ds lo hi=ds:=by
    unfold jH;rw[aq ra,hc.1,hc.2,drop_zero,Nat.sub_zero,←aq ra,take_length]
   rw[e];exact ra
  ·exact Bn af s σ H x v vl vu lo hi sl Q I rx hs pl pu ⟨a,vs,e,ta.sq,hc,fun p hp=>h _ θ _ (cH hw hp) (ej hw hp (j2 ra lo hi))⟩
 | lst ds=>
  obtain⟨a,vs,e,ta,ra⟩:=r;exact ou af s σ H x v vl vu lo hi sl Q I rx hs pl pu ⟨a,vs,e,ta.sq,fun p hp=>h _ θ _ (cH hw hp) (jf hw hp (j2 ra lo hi))⟩
 | ro ds=>
  obtain⟨a,vs,e,ta,ra⟩:=r;exact ou af s σ H x v vl vu lo hi sl Q I rx hs pl pu ⟨a,vs,e,ta.sq,fun p hp=>h _ θ _ (cH hw hp) (jf hw hp (j2 ra lo hi))⟩
 | mr k=>
  obtain⟨a,e,ta⟩:=r;have h:aT X θ H Q (match M[k]? with|some (.lst xs)=>.ok (.lst (jH xs lo hi)) M|_=>.bad):=h;cases qm:M[k]? with
  | none=>rw[qm] at h;exact h.elim
  | some m=>
   cases m with
   | lst ys=>
    rw[qm] at h;obtain⟨vs,hv,ra⟩:=hw.at_ k a _ ta qm;exact ou af s σ H x v vl vu lo hi sl Q I rx hs pl pu ⟨a,vs,e,.inl (.inl hv),fun p hp=>h _ θ _ (cH hw hp) (jf hw hp (j2 ra lo hi))⟩
   | _=>rw[qm] at h;exact h.elim
 | _=>exact h.elim
theorem wZ {e:Expr}{lo hi:Option Expr}{g:GE}{gl gh:GO}{p2 pos:Pos}(he:PE X e (tE X g))(hl:PO X lo (tO X gl))(hh:PO X hi (tO X gh)):PE X (.Subscript e (.Slice lo hi none p2) pos) (tE X (tJ g gl gh)):=
 (wq Fu he hl hh).of fun σ H Q hxx=>by
  obtain⟨ρ,θ,M,hd,hw,h⟩:=hxx;refine cN hd hw (aT X θ H Q) (fun c M' h=>h) (fun h=>h) h fun d M1 v θ1 H1 g1 r1 h1=>?_
  refine Ag (hd.go g1) g1.wr (aT X θ1 H1 Q) (fun c M' h=>h) (fun h=>h) (h1.go g1) fun l M2 θ2 H2 g2 h2=>?_
  refine Ag ((hd.go g1).go g2) g2.wr (aT X θ2 H2 Q) (fun c M' h=>h) (fun h=>h) (h2.go g2) fun u M3 θ3 H3 g3 h3=>?_
  exact⟨θ3,M3,d,g3.wr,r1.go (g2.trans g3),h3.go g3⟩
def zl (d:D)(M:aw):aM Bool:=match d with
 | .non=>.ok false M
 | .bl b=>.ok b M
 | .int i=>.ok (i != 0) M
 | .str x=>if x.length≤sizeLine then .ok ((x.length:Int) != 0) M else .bad
 | .tup xs=>.ok (!xs.isEmpty) M
 | .lst xs=>.ok (!xs.isEmpty) M
 | .ro xs=>.ok (!xs.isEmpty) M
 | .mr k=>match M[k]? with
  | some (.lst xs)=>.ok (!xs.isEmpty) M
  | _=>.bad
 | .exc _=>.bad
 | .any=>.bad
def gT (g:GE):GT:=fun ρ M=>(g ρ M).bind zl
theorem iq {K:W.Frag}{θ:List Addr}{H:Hp}{ds:List D}{vs:List V}(r:aR K θ H ds vs):(!vs.isEmpty)=!ds.isEmpty:=by
 have:=aq r;cases ds <;> cases vs <;> simp_all
theorem B7 {a:Expr}{g:GE}(ha:PE X a (tE X g))(he:∀whole,isTrue a X.env whole=(do let v ←whole;standAt a.pos;holding [v] (truthy v)):=by intro _;rfl):PT X a (tT X (gT g)):=
 (wa ha he).of fun σ H Q hxx=>by
  obtain⟨ρ,θ,M,hd,hw,h⟩:=hxx;refine cN hd hw (kU X θ H Q) (fun c M' h=>h) (fun h=>h) h fun d M1 v θ1 H1 g1 r1 h1=>?_
  cases d with
  | non=>have e:v=.non:=r1;subst e;exact⟨false,rfl,h1 θ1 H1 g1⟩
  | bl b=>have e:v=.bl b:=r1;subst e;exact⟨b,rfl,h1 θ1 H1 g1⟩
  | int i=>have e:v=.int i:=r1;subst e;exact⟨i != 0,rfl,h1 θ1 H1 g1⟩
  | str x=>
   have e:v=.str x:=r1;subst e;have h1:kU X θ H Q (if x.length≤sizeLine then .ok ((x.length:Int) != 0) M1 else .bad):=h1;split at h1
   ·rename_i hl;exact⟨_,⟨hl,rfl⟩,h1 θ1 H1 g1⟩
   ·exact h1.elim
  | tup xs=>
   obtain⟨a,vs,e,ta,ra⟩:=r1;subst e;exact⟨_,.inr (.inl ⟨vs,ta.sq,(iq ra).symm⟩),h1 θ1 H1 g1⟩
  | lst xs=>
   obtain⟨a,vs,e,ta,ra⟩:=r1;subst e;exact⟨_,.inl ⟨vs,ta.sq,(iq ra).symm⟩,h1 θ1 H1 g1⟩
  | ro xs=>
   obtain⟨a,vs,e,ta,ra⟩:=r1;subst e;exact⟨_,.inl ⟨vs,ta.sq,(iq ra).symm⟩,h1 θ1 H1 g1⟩
  | mr k=>
   obtain⟨a,e,ta⟩:=r1;subst e;have h1:kU X θ H Q (match M1[k]? with|some (.lst xs)=>.ok (!xs.isEmpty) M1|_=>.bad):=h1;cases qm:M1[k]? with
   | none=>rw[qm] at h1;exact h1.elim
   | some m=>
    cases m with
    | lst ys=>
     rw[qm] at h1;obtain⟨vs,hv,ra⟩:=g1.wr.at_ k a _ ta qm;exact⟨_,.inl ⟨vs,.inl (.inl hv),(iq ra).symm⟩,h1 θ1 H1 g1⟩
    | _=>rw[qm] at h1;exact h1.elim
  | exc c=>exact h1.elim
  | any=>exact h1.elim
def bT:FD:=fun ds M=>match ds with
 | [.str x]=>if x.length≤sizeLine then .ok (.int x.length) M else .bad
 | [d]=>match aU d M with
  | some xs=>.ok (.int xs.length) M
  | none=>.bad
 | _=>.bad
def mT:FD:=fun ds M=>match ds with
 | [.int i,.int j]=>.ok (.int (if j<i then j else i)) M
 | _=>.bad
def rj:FD:=fun ds M=>match ds with
 | [.int i,.int j]=>.ok (.int (if j>i then j else i)) M
 | _=>.bad
def rl:FD:=fun ds M=>match ds with
 | [.int i]=>.ok (.int i) M
 | [.bl b]=>.ok (.int (if b then 1 else 0)) M
 | _=>.bad
def jv:FD:=fun ds M=>match ds with
 | [d]=>match aU d M with
  | some xs=>.ok (.lst xs) M
  | none=>.bad
 | _=>.bad
def bO:FD:=fun ds M=>match ds with
 | [d]=>match aU d M with
  | some xs=>.ok (.tup xs) M
  | none=>.bad
 | _=>.bad
theorem i6 {K:W.Frag}{θ:List Addr}{H:Hp}{d:D}{xs:List V}(r:aR K θ H [d] xs):∃v,xs=[v]∧c6 K θ H d v:=by
 obtain⟨v,rr,e,h1,h2⟩:=r;have e2:rr=[]:=h2;subst e2;exact⟨v,e,h1⟩
theorem wu {K:W.Frag}{θ:List Addr}{H:Hp}{d d':D}{xs:List V}(r:aR K θ H [d,d'] xs):∃v v',xs=[v,v']∧c6 K θ H d v∧c6 K θ H d' v':=by
 obtain⟨v,rr,e,h1,h2⟩:=r;obtain⟨v',e2,h3⟩:=i6 h2;subst e2;exact⟨v,v',e,h1,h3⟩
theorem Ct:cB X (.builtin "len") (rC X bT):=by
 intro af s σ H xs us Q I r h;obtain⟨θ,M,ds,hw,rd,h⟩:=h;unfold bT at h;split at h
 ·rename_i x;split at h
  ·rename_i hl;obtain⟨v,e,rv⟩:=i6 rd;exact oJ af s σ H xs us Q I r ⟨x,by rw[e,show v=.str x from rv],hl,h _ θ H (.refl hw) rfl⟩
  ·exact h.elim
 ·rename_i d _;split at h
  ·rename_i ys q;obtain⟨v,e,rv⟩:=i6 rd;obtain⟨a,vs,ea,sq,ra⟩:=k7 hw rv q;refine oF af s σ H xs us Q I r ⟨a,vs,by rw[e,ea],sq,?_⟩;rw[←aq ra];exact h _ θ H (.refl hw) rfl
  ·exact h.elim
 ·exact h.elim
theorem AF (hc:X.calm=true):cB X (.builtin "min") (rC X mT):=by
 intro af s σ H xs us Q I r h;obtain⟨θ,M,ds,hw,rd,h⟩:=h;unfold mT at h;split at h
 ·rename_i i j;obtain⟨v,v',e,rv,rv'⟩:=wu rd;exact ug hc af s σ H xs us Q I r ⟨i,j,by rw[e,show v=.int i from rv,show v'=.int j from rv'],h _ θ H (.refl hw) rfl⟩
 ·exact h.elim
theorem B1 (hc:X.calm=true):cB X (.builtin "max") (rC X rj):=by
 intro af s σ H xs us Q I r h;obtain⟨θ,M,ds,hw,rd,h⟩:=h;unfold rj at h;split at h
 ·rename_i i j;obtain⟨v,v',e,rv,rv'⟩:=wu rd;exact uI hc af s σ H xs us Q I r ⟨i,j,by rw[e,show v=.int i from rv,show v'=.int j from rv'],h _ θ H (.refl hw) rfl⟩
 ·exact h.elim
theorem BJ:cB X (.type "int") (rC X rl):=by
 intro af s σ H xs us Q I r h;obtain⟨θ,M,ds,hw,rd,h⟩:=h;unfold rl at h;split at h
 ·rename_i i;obtain⟨v,e,rv⟩:=i6 rd;exact nP af s σ H xs us Q I r (.inl ⟨i,by rw[e,show v=.int i from rv],h _ θ H (.refl hw) rfl⟩)
 ·rename_i b;obtain⟨v,e,rv⟩:=i6 rd;exact nP af s σ H xs us Q I r (.inr ⟨b,by rw[e,show v=.bl b from rv],h _ θ H (.refl hw) rfl⟩)
 ·exact h.elim
theorem zk:cB X (.type "list") (rC X jv):=by
 intro af s σ H xs us Q I r h;obtain⟨θ,M,ds,hw,rd,h⟩:=h;unfold jv at h;split at h
 ·rename_i d;split at h
  ·rename_i ys q;obtain⟨v,e,rv⟩:=i6 rd;obtain⟨a,vs,ea,sq,ra⟩:=k7 hw rv q;exact ph af s σ H xs us Q I r ⟨a,vs,by rw[e,ea],sq,fun l hl=>h _ θ _ (cH hw hl) (jf hw hl ra)⟩
  ·exact h.elim
 ·exact h.elim
theorem wL:cB X (.type "tuple") (rC X bO):=by
 intro af s σ H xs us Q I r h;obtain⟨θ,M,ds,hw,rd,h⟩:=h;unfold bO at h;split at h
 ·rename_i d;obtain⟨v,e,rv⟩:=i6 rd;cases d with
  | tup ys=>
   obtain⟨a,vs,ea,ta,ra⟩:=rv;exact eI af s σ H xs us Q I r ⟨a,vs,by rw[e,ea],.inr ⟨ta.sq,h _ θ H (.refl hw) ⟨a,vs,rfl,ta,ra⟩⟩⟩
  | lst ys=>
   obtain⟨a,vs,ea,ta,ra⟩:=rv;exact eI af s σ H xs us Q I r ⟨a,vs,by rw[e,ea],.inl ⟨ta.sq,fun l hl=>h _ θ _ (cH hw hl) (ej hw hl ra)⟩⟩
  | ro ys=>
   obtain⟨a,vs,ea,ta,ra⟩:=rv;exact eI af s σ H xs us Q I r ⟨a,vs,by rw[e,ea],.inl ⟨ta.sq,fun l hl=>h _ θ _ (cH hw hl) (ej hw hl ra)⟩⟩
  | mr k=>
   obtain⟨a,ea,ta⟩:=rv;cases qm:M[k]? with
   | none=>simp[aU,qm] at h;exact h.elim
   | some m=>
    cases m with
    | lst ys=>
     simp only[aU,qm] at h;obtain⟨vs,hv,ra⟩:=hw.at_ k a _ ta qm;exact eI af s σ H xs us Q I r ⟨a,vs,by rw[e,ea],.inl ⟨.inl (.inl hv),fun l hl=>h _ θ _ (cH hw hl) (ej hw hl ra)⟩⟩
    | _=>simp[aU,qm] at h;exact h.elim
  | _=>exact h.elim
 ·exact h.elim
end
def ce (cells:List (Str×Addr)):List (Str×NameKind)→List (Str×Addr)→List (Str×Addr)
 | [],acc=>acc
 | (n,k)::r,acc=>if k==.free then ce cells r ((n,(cells.lookup n).getD 0)::acc) else ce cells r acc
theorem mi {env:Env}:∀(l:List (Str×NameKind)) (cs:List (Str×Addr)),(∀p∈l,p.2=.free→∃c,env.cells.lookup p.1=some c)→
  (forIn (m:=Sem) l cs fun x r=>match x with
   | (name,kind)=>if(kind==NameKind.free)=true then do let __do_lift ←cellOf env name;pure (ForInStep.yield ((name,__do_lift)::r)) else pure (ForInStep.yield r))=pure (ce env.cells l cs)
 | [],cs,h=>rfl
 | (n,k)::r,cs,h=>by
  have ih:=fun cs=>mi (env:=env) r cs fun p hp=>h p (mem_cons_of_mem _ hp)
  rw[forIn_cons]
  by_cases hk:(k==NameKind.free)=true
  ·obtain⟨c,hc⟩:=h (n,k) mem_cons_self (by simpa using hk);have e:cellOf env n=pure c:=by unfold cellOf;rw[show List.lookup n env.cells=some c from hc]
   simp only[hk,if_true,ce,e,pure_bind];rw[ih,show List.lookup n env.cells=some c from hc];rfl
  ·simp only[hk,if_false,ce,pure_bind,Bool.false_eq_true];exact ih cs
theorem fv {env:Env}{scope:Scope}(h:∀p∈scope.names,p.2=.free→∃c,env.cells.lookup p.1=some c):closureFor scope env=pure (ce env.cells scope.names []):=by
 have:=mi (env:=env) scope.names [] h;unfold closureFor;simp only[bind_pure_comp] at this ⊢
 first
  | (rw[this];rfl)
  | (simp[this])
  | exact this
theorem kH {cells:List (Str×Addr)}:∀(l:List (Str×NameKind)) (acc:List (Str×Addr)),(∀p∈acc,cells.lookup p.1=some p.2)→(∀p∈l,p.2=.free→∃c,cells.lookup p.1=some c)→
  ∀p∈ce cells l acc,cells.lookup p.1=some p.2
 | [],acc,ha,h=>ha
 | (n,k)::r,acc,ha,h=>by
  have hr:∀p∈r,p.2=.free→∃c,cells.lookup p.1=some c:=fun p hp=>h p (mem_cons_of_mem _ hp)
  unfold ce
  by_cases hk:(k==NameKind.free)=true
  ·rw[if_pos hk];refine kH r _ (fun p hp=>?_) hr;rcases mem_cons.mp hp with e|hp
   ·subst e;obtain⟨c,hc⟩:=h (n,k) mem_cons_self (by simpa using hk);have hc':cells.lookup n=some c:=hc;show cells.lookup n=some ((cells.lookup n).getD 0);rw[hc'];rfl
   ·exact ha p hp
  ·rw[if_neg hk];exact kH r acc ha hr
theorem mH {cells:List (Str×Addr)}:∀(l:List (Str×NameKind)) (acc:List (Str×Addr)),∀p∈acc,p∈ce cells l acc
 | [],acc,p,h=>h
 | (n,k)::r,acc,p,h=>by
  unfold ce
  by_cases hk:(k==NameKind.free)=true
  ·rw[if_pos hk];exact mH r _ p (mem_cons_of_mem _ h)
  ·rw[if_neg hk];exact mH r acc p h
theorem kB {cells:List (Str×Addr)}:∀(l:List (Str×NameKind)) (acc:List (Str×Addr)) (n:Str),(n,NameKind.free)∈l→∃c,(n,c)∈ce cells l acc
 | [],acc,n,h=>by cases h
 | (m,k)::r,acc,n,h=>by
  unfold ce;rcases mem_cons.mp h with e|h
  ·cases e;rw[if_pos (by rfl)];exact⟨_,mH r _ _ mem_cons_self⟩
  ·by_cases hk:(k==NameKind.free)=true
   ·rw[if_pos hk];exact kB r _ n h
   ·rw[if_neg hk];exact kB r acc n h
theorem fP {l:List (Str×Addr)}{n:Str}{c:Addr}(h:(n,c)∈l):∃c',l.lookup n=some c':=by
 induction l with
 | nil=>cases h
 | cons p r ih=>
  obtain⟨m,d⟩:=p
  by_cases e:(n==m)=true
  ·exact⟨d,by simp[List.lookup,e]⟩
  ·have e':(n==m)=false:=by simpa using e
   rcases mem_cons.mp h with q|q
   ·cases q;simp at e
   ·obtain⟨c',hc⟩:=ih q;exact⟨c',by simp only[List.lookup,e'];exact hc⟩
theorem cM {env:Env}:∀{names:List (Str×NameKind)} {x:Str} {k:NameKind},
  (names.map fun(n,k)=>if(k==NameKind.free&&env.scope.kind==.function&&env.kindOf n==some .cell) then(n,NameKind.cell) else(n,k)).lookup x=some k→
   names.lookup x=some k∨(k=.cell∧names.lookup x=some .free)
 | [],_,_,h=>by simp at h
 | (n,k')::r,x,k,h=>by
  have ih:=@cM env r x k;have h:List.lookup x ((if(k'==NameKind.free&&env.scope.kind==.function&&env.kindOf n==some .cell)=true then(n,NameKind.cell) else(n,k'))::_)=some k:=h
  by_cases hc:(k'==NameKind.free&&env.scope.kind==.function&&env.kindOf n==some .cell)=true
  ·rw[if_pos hc] at h;cases hx:x==n with
   | true=>
    simp only[lookup_cons,hx] at h ⊢;cases h;have:k'=.free:=by
     rw[Bool.and_eq_true,Bool.and_eq_true] at hc;simpa using hc.1.1
    subst this;exact .inr ⟨rfl,rfl⟩
   | false=>
    simp only[lookup_cons,hx] at h ⊢;exact ih h
  ·rw[if_neg hc] at h;cases hx:x==n with
   | true=>
    simp only[lookup_cons,hx] at h ⊢;exact .inl h
   | false=>
    simp only[lookup_cons,hx] at h ⊢;exact ih h
def cj (sc:Scope)(fk:Str→Option NameKind)(xs:List Str)(R N:List Str):Bool:=
 decide (sc.kind=.function)&&xs.all (fun x=>sc.names.lookup x==some .local) &&
 sc.names.all (fun p=>match p.2 with
  | .cell=>false
  | .local=>(xs.contains p.1||p.1==(".0":Str))&&sc.names.lookup p.1==some .local
  | .free=>fk p.1==some .cell||fk p.1==some .free
  | _=>true) &&
 decide ((xs++R).Nodup)&&!(R.contains (".0":Str))&&R.length==N.length &&
 (R.zip N).all (fun p=>p.1==p.2||sc.names.lookup p.1 != some .free)
structure bx (sc:Scope)(fk:Str→Option NameKind)(xs:List Str)(R N:List Str):Prop where
 kind:sc.kind=.function
 own:∀x∈xs,sc.names.lookup x=some .local
 nocell:∀p∈sc.names,p.2≠.cell
 locs:∀p∈sc.names,p.2=.local→p.1∈xs∨p.1=(".0":Str)
 lnames:∀p∈sc.names,p.2=.local→sc.names.lookup p.1=some .local
 free:∀p∈sc.names,p.2=.free→fk p.1=some .cell∨fk p.1=some .free
 nd:(xs++R).Nodup
 no0:(".0":Str)∉R
 len:R.length=N.length
 same:∀(i:Nat) y,R[i]?=some y→sc.names.lookup y=some .free→N[i]?=some y
theorem bx.of {sc:Scope}{fk:Str→Option NameKind}{xs:List Str}{R N:List Str}(h:cj sc fk xs R N=true):bx sc fk xs R N:=by
 unfold cj at h;simp only[Bool.and_eq_true,decide_eq_true_eq,all_eq_true,Bool.not_eq_true',beq_iff_eq] at h;obtain⟨⟨⟨⟨⟨⟨h1,h2⟩,h3⟩,h4⟩,h5⟩,h6⟩,h7⟩:=h;refine⟨h1,h2,fun p hp e=>?_,fun p hp e=>?_,fun p hp e=>?_,fun p hp e=>?_,h4,?_,h6,fun i y hy hf=>?_⟩
 ·have:=h3 p hp;rw[e] at this;simp at this
 ·have:=h3 p hp;rw[e] at this;simp at this;exact this.1
 ·have:=h3 p hp;rw[e] at this;simp at this;exact this.2
 ·have:=h3 p hp;rw[e] at this;simp at this;exact this
 ·intro hm;have:R.contains (".0":Str)=true:=by simpa using hm
  rw[this] at h5;cases h5
 ·obtain⟨hi,e⟩:=List.getElem?_eq_some_iff.mp hy;have hn:i<N.length:=by rw[←h6];exact hi
  have hz:(R[i],N[i])∈R.zip N:=by
   rw[mem_iff_getElem];exact⟨i,by simp;omega,by simp⟩
  have:=h7 _ hz;simp only[Bool.or_eq_true,beq_iff_eq,bne_iff_ne,ne_eq] at this;rcases this with q|q
  ·rw[getElem?_eq_getElem hn,←q,e]
  ·rw[e] at q;exact absurd hf q
def aj (X:Cx)(scope:Scope)(xs:List Str)(R:List Str)(fp:List Addr)(s:Shared)(H:Hp)(C:Addr):Cx where
 prog:=X.prog
 w:=X.w
 K:=X.K
 mg:=X.mg
 base:=X.base
 A:=X.A
 N:=xs++R
 s₀:=s
 H₀:=H
 env:=compEnvC scope (ce X.env.cells scope.names []) C X.env
 outer:=X.stack
 stack:=X.stack
 ex:=fp
 fn:=fun _=>false
 calm:=X.calm
 pn:=[]
 xe:=fun _ _=>False
section
variable {X:Cx}{af:List (Addr×Obj)}{σ:L2.St}{H:Hp}{s:Shared}{scope:Scope}{xs:List Str}{R:List Str}{fp:List Addr}{C:Addr}
theorem bx.cells (S:bx scope X.env.kindOf xs R X.N)(I:L2.Inv X af σ H s):∀p∈scope.names,p.2=.free→∃c,X.env.cells.lookup p.1=some c:=fun p hp e=>I.ok.has p.1 (S.free p hp e)
theorem bJ (S:bx scope X.env.kindOf xs R X.N)(I:L2.Inv X af σ H s){y:Str}{c:Addr}(h:(ce X.env.cells scope.names []).lookup y=some c):X.env.cells.lookup y=some c:=
 kH scope.names [] (fun _ z=>by cases z) (S.cells I) (y,c) (PySem.mem_of_lookup h)
theorem pE {h4:Heap}{m:Str→Option Value}{tk:Nat}(S:bx scope X.env.kindOf xs R X.N)(I:L2.Inv X af σ H s)(hC:s.heap.objs.size≤C)(k:∀b o,s.heap.get? b=some o→h4.get? b=some o)(hn:h4.Ns C m)
  (hf:∀b∈fp,cA X af H b) (hfl:∀b∈fp,b<s.heap.objs.size):L2.Inv (aj X scope xs R fp s H C) [] (List.replicate xs.length none++σ) H {s with heap:=h4,toks:=tk}:=by
 have hkn:∀y kk,(relabel scope X.env).names.lookup y=some kk→(kk=.cell∨kk=.free)→scope.names.lookup y=some .free:=fun y kk e hk=>by
  rcases cM e with q|q
  ·rcases hk with z|z
   ·subst z;exact absurd rfl (S.nocell _ (PySem.mem_of_lookup q))
   ·subst z;exact q
  ·exact q.2
 have hasc:∀y,scope.names.lookup y=some .free→∃c,(ce X.env.cells scope.names []).lookup y=some c:=fun y e=>by
  obtain⟨c,hc⟩:=kB (cells:=X.env.cells) scope.names [] y (PySem.mem_of_lookup e);exact fP hc
 refine⟨⟨I.ok.mod,S.kind,I.ok.glob,I.ok.blt,hC,fun y z c h1 h2=>I.ok.inj y z c (bJ S I h1) (bJ S I h2),fun y hy=>?_,fun y c z=>absurd (show false=true from z) Bool.false_ne_true,I.ok.hd,I.ok.frames,.inl rfl,fun b hb=>⟨?_,fun y c e=>?_⟩,I.bs,Nat.le_trans I.ok.bsz I.sz,fun b o e hb=>?_,fun b hb z=>?_,I.stack,I.stkFree⟩,
  rfl,I.bare,Un.kept k,⟨m,hn,fun i y v h1 h2 h3=>?_⟩,fun y c e=>?_,I.hok.fresh hC,fun y c e=>I.freeC y c (bJ S I e),fun p hp=>absurd (show p∈([]:List (Addr×Obj)) from hp) (by simp),I.hok.kept k,?_⟩
 ·rcases hy with e|e
  ·exact hasc y (hkn y _ e (.inl rfl))
  ·exact hasc y (hkn y _ e (.inr rfl))
 ·exact Nat.ne_of_lt (Nat.lt_of_lt_of_le (hfl b hb) hC)
 ·exact(hf b hb).2.2.2.2.1 y c (bJ S I e)
 ·rcases(hf b hb).2.2.2.1 with z|z
  ·exact I.ok.noex b o e z
  ·exact absurd (Nat.lt_of_lt_of_le (Heap.lt_size e) (Nat.le_trans I.ok.bsz z)) (Nat.lt_irrefl _)
 ·rcases mem_cons.mp (I.stkSub b z) with e|e
  ·exact(hf b hb).2.1 e
  ·exact(hf b hb).2.2.1 e
 ·by_cases hi:i<xs.length
  ·exfalso;rw[getElem?_append_left (by rw[length_replicate];exact hi),getElem?_replicate,if_pos hi] at h2;cases h2
  ·obtain⟨i,rfl⟩:∃j,i=xs.length+j:=⟨i-xs.length,by omega⟩;have h1:R[i]?=some y:=by
    have h1:(xs++R)[xs.length+i]?=some y:=h1;rw[getElem?_append_right (by omega)] at h1;simpa using h1
   have h2:σ[i]?=some (some v):=by
    rw[getElem?_append_right (by rw[length_replicate];omega)] at h2;simpa using h2
   have hyR:y∈R:=mem_of_getElem? h1;have hf':scope.names.lookup y=some .free∧((relabel scope X.env).names.lookup y=some .cell∨(relabel scope X.env).names.lookup y=some .free):=by
    have h3:(relabel scope X.env).names.lookup y=some .local∨(relabel scope X.env).names.lookup y=some .cell∨(relabel scope X.env).names.lookup y=some .free:=h3;rcases h3 with e|e|e
    ·rcases cM e with q|q
     ·exfalso;rcases S.locs _ (PySem.mem_of_lookup q) rfl with z|z
      ·exact(nodup_append.mp S.nd).2.2 y z y hyR rfl
      ·have z:y=(".0":Str):=z;rw[z] at hyR;exact S.no0 hyR
     ·exact absurd q.1 (by intro z;cases z)
    ·exact⟨hkn y _ e (.inl rfl),.inl e⟩
    ·exact⟨hkn y _ e (.inr rfl),.inr e⟩
   have hN:=S.same i y h1 hf'.1;have hk:=S.free (y,.free) (PySem.mem_of_lookup hf'.1) rfl;obtain⟨mX,hnX,hl⟩:=I.loc;have vis:CN X.env.scope y:=by
    rcases hk with z|z
    ·exact .inr (.inl z)
    ·exact .inr (.inr z)
   obtain⟨u,r,l⟩:=hl i y v hN h2 vis;refine⟨u,r,.inr ⟨hf'.2,?_⟩⟩;rcases l with⟨z,_⟩|⟨_,c,hc,o,ho,hod⟩
   ·exfalso;rcases hk with q|q
    ·have q:X.env.kindOf y=some .cell:=q;rw[z] at q;cases q
    ·have q:X.env.kindOf y=some .free:=q;rw[z] at q;cases q
   ·obtain⟨c',hc'⟩:=hasc y hf'.1;have:c'=c:=by
     have:=bJ S I hc';rw[hc] at this;exact(Option.some.inj this).symm
    subst this;exact⟨c',hc',o,k _ _ ho,hod⟩
 ·obtain⟨v,o,ho,hd⟩:=I.cell y c (bJ S I e);exact⟨v,o,k _ _ ho,hd⟩
 ·show(List.replicate xs.length none++σ).length=(xs++R).length;rw[length_append,length_append,length_replicate,I.len,S.len]
end
def bb (t:jN)(gc:GT)(ge:GE):List D→bj→aw→aM (List D)
 | [],ρ,M=>if t.ok M then .ok [] M else .bad
 | d::r,ρ,M=>if t.ok M then
   match gc (some d::ρ) M with
   | .ok true M1=>match ge (some d::ρ) M1 with
    | .ok e M2=>(bb t gc ge r ρ M2).bind fun es M3=>.ok (e::es) M3
    | _=>.bad
   | .ok false M1=>bb t gc ge r ρ M1
   | _=>.bad
  else .bad
def a9:GT:=fun _ M=>.ok true M
def aJ (t:jN)(n:Nat)(sg:GG)(gc:GT)(ge:GE):List D→bj→aw→aM (List D)
 | [],ρ,M=>if t.ok M then .ok [] M else .bad
 | d::r,ρ,M=>if t.ok M then
   match sg d (List.replicate n none++ρ) with
   | none=>.bad
   | some ρ1=>match gc ρ1 M with
    | .ok true M1=>match ge ρ1 M1 with
     | .ok e M2=>(aJ t n sg gc ge r ρ M2).bind fun es M3=>.ok (e::es) M3
     | _=>.bad
    | .ok false M1=>aJ t n sg gc ge r ρ M1
    | _=>.bad
  else .bad
def dU (gi:GI)(n:Nat)(sg:GG)(gc:GT)(ge:GE)(mk:List D→aw→aM D):GE:=fun ρ M=>(gi ρ M).bind fun t M1=>(aJ t n sg gc ge t.ds ρ M1).bind mk
theorem pI (t:jN)(gc:GT)(ge:GE):∀(ds:List D) (ρ:bj) (M:aw),bb t gc ge ds ρ M=aJ t 1 (bo 0) gc ge ds ρ M
 | [],ρ,M=>rfl
 | d::r,ρ,M=>by
  have ih:=pI t gc ge r;unfold bb aJ;show _=(if t.ok M=true then(match gc (some d::ρ) M with
    | .ok true M1=>match ge (some d::ρ) M1 with
     | .ok e M2=>(aJ t 1 (bo 0) gc ge r ρ M2).bind fun es M3=>.ok (e::es) M3
     | _=>.bad
    | .ok false M1=>aJ t 1 (bo 0) gc ge r ρ M1
    | _=>.bad) else .bad)
  simp only[ih]
def jw (n:Nat)(sg:GG):Prop:=∀d ρ ρ',sg d ρ=some ρ'→ρ'.length=ρ.length∧∀i:Nat,n≤i→ρ'[i]?=ρ[i]?
theorem jY {n i:Nat}(h:i<n):jw n (bo i):=fun d ρ ρ' e=>by
 have e:some (ρ.set i (some d))=some ρ':=e;cases e;exact⟨by rw[length_set],fun j hj=>by rw[getElem?_set_ne (by omega)]⟩
theorem p9 {n:Nat}:∀{is:List Nat} {ds:List D} {ρ ρ':bj},is.all (fun i=>decide (i<n))=true→kI is ds ρ=some ρ'→ρ'.length=ρ.length∧∀i:Nat,n≤i→ρ'[i]?=ρ[i]?
 | [],[],ρ,ρ',_,e=>by cases e;exact⟨rfl,fun _ _=>rfl⟩
 | [],_::_,_,_,_,e=>by cases e
 | _::_,[],_,_,_,e=>by cases e
 | i::is,d::ds,ρ,ρ',h,e=>by
  rw[all_cons,Bool.and_eq_true] at h;have hi:i<n:=by simpa using h.1
  obtain⟨a,b⟩:=p9 h.2 (show kI is ds (ρ.set i (some d))=some ρ' from e);exact⟨by rw[a,length_set],fun j hj=>by rw[b j hj,getElem?_set_ne (by omega)]⟩
theorem xU {n:Nat}{is:List Nat}(h:is.all (fun i=>decide (i<n))=true):jw n (bF is):=fun d ρ ρ' e=>by
 cases d with
 | tup ds=>exact p9 h e
 | _=>cases e
inductive nX (n:Nat):List GG→Prop
 | nil:nX n []
 | cons {s:GG} {ss:List GG}:jw n s→nX n ss→nX n (s::ss)
theorem nQ {n:Nat}:∀{ss:List GG} {ds:List D} {ρ ρ':bj},nX n ss→iO ss ds ρ=some ρ'→ρ'.length=ρ.length∧∀i:Nat,n≤i→ρ'[i]?=ρ[i]?
 | [],[],ρ,ρ',_,e=>by cases e;exact⟨rfl,fun _ _=>rfl⟩
 | [],_::_,_,_,_,e=>by cases e
 | _::_,[],_,_,_,e=>by cases e
 | s::ss,d::ds,ρ,ρ',.cons h hs,e=>by
  unfold iO at e;split at e
  ·rename_i ρ1 q;obtain⟨a1,b1⟩:=h _ _ _ q;obtain⟨a,b⟩:=nQ hs e;exact⟨by rw[a,a1],fun j hj=>by rw[b j hj,b1 j hj]⟩
  ·cases e
theorem xn {n:Nat}{ss:List GG}(h:nX n ss):jw n (i5 ss):=fun d ρ ρ' e=>by
 cases d with
 | tup ds=>exact nQ h e
 | _=>cases e
theorem jw.back {n:Nat}{sg:GG}{K:W.Frag}{θ:List Addr}{H:Hp}{τ:L2.St}{ρ ρ1:bj}{d:D}(o:jw n sg)(e:sg d (List.replicate n none++ρ)=some ρ1)(h:fK K θ H τ ρ1):fK K θ H τ (List.replicate n none++ρ):=by
 obtain⟨a,b⟩:=o _ _ _ e;refine⟨by rw[←a];exact h.len,fun i d' q=>?_⟩
 by_cases hi:i<n
 ·rw[getElem?_append_left (by rw[length_replicate];exact hi),getElem?_replicate,if_pos hi] at q;cases q
 ·rw[←b i (by omega)] at q;exact h.at_ i d' q
def aH (gi:GI)(gc:GT)(ge:GE)(mk:List D→aw→aM D):GE:=fun ρ M=>(gi ρ M).bind fun t M1=>(bb t gc ge t.ds ρ M1).bind mk
theorem qh (elt target iter:Expr)(ifs:List Expr)(scope:Scope)(pos:Pos)(it acc:Value)(env:Env)(cond:Sem Bool)
  (hc:(forIn (m:=Sem) ifs true fun c r=>if r=true then do let ok ←isTrue c env (eval c env);pure (ForInStep.yield ok) else pure (ForInStep.yield r))=cond) :
  compTurn (.ListComp elt [⟨target,iter,ifs,0⟩] scope pos) 0 it acc env=(standAt iter.pos >>= fun _=>pyNext it >>= fun r=>match r with
   | none=>pure (.done .next)
   | some v=>letOwnedTupleGo target it v >>= fun _=>assign target env v >>= fun _=>cond >>= fun ok=>
    if ok=true then((eval elt env >>= fun x=>call (.builtin "list.append") [acc,x] >>= fun _=>pure ()) >>= fun _=>
     again (.compLoop (.ListComp elt [⟨target,iter,ifs,0⟩] scope pos) 0 it acc env)) else again (.compLoop (.ListComp elt [⟨target,iter,ifs,0⟩] scope pos) 0 it acc env)):=by
 subst hc;rfl
section
variable {prog:Program}{w:World}{A:Around}{R:Result→Shared→Prop}{s:Shared}
theorem eR {elt target iter:Expr}{ifs:List Expr}{scope:Scope}{pos:Pos}{it acc:Value}{env:Env}{cond:Sem Bool}
  (hc:(forIn (m:=Sem) ifs true fun c r=>if r=true then do let ok ←isTrue c env (eval c env);pure (ForInStep.yield ok) else pure (ForInStep.yield r))=cond) (I:Nat→Shared→Prop)
  (turn:∀n s,I n s→wpAny (model prog w) A (pyNext it) (fun r s₁=>match r with
   | none=>R (.ok .next) s₁
   | some v=>wpAny (model prog w) A (letOwnedTupleGo target it v) (fun _ s₂=>wpAny (model prog w) A (assign target env v) (fun _ s₃=>wpAny (model prog w) A cond (fun ok s₄=>if ok=true then
     wpAny (model prog w) A (eval elt env) (fun x s₅=>wpAny (model prog w) A (call (.builtin "list.append") [acc,x]) (fun _ s₆=>∃m,m<n∧I m s₆) (fun _ _=>False) s₅) (fun _ _=>False) s₄
     else∃m,m<n∧I m s₄) (fun _ _=>False) s₃) (fun _ _=>False) s₂) (fun _ _=>False) s₁) (fun _ _=>False) s)
  (n:Nat) (h:I n s):codeAny (model prog w) A (.compLoop (.ListComp elt [⟨target,iter,ifs,0⟩] scope pos) 0 it acc env) R s:=by
 refine codeAny_loop rfl I (fun n s hI=>?_) n h;show wpAny _ _ ((compTurn (.ListComp elt [⟨target,iter,ifs,0⟩] scope pos) 0 it acc env).onRaise (fun x=>do noteFrame x env;theTreesLotGoes x)) _ _ s;refine wpAny_noted ?_;rw[qh _ _ _ _ _ _ _ _ _ _ hc];refine wpAny_bind (wpAny_standAt (wpAny_bind (wpAny_mono (turn n s hI) (fun r s₁ h₁=>?_) fun _ _ z=>z.elim)));cases r with
 | none=>exact wpAny_pure h₁
 | some v=>
  refine wpAny_bind (wpAny_mono h₁ (fun _ s₂ h₂=>?_) fun _ _ z=>z.elim);refine wpAny_bind (wpAny_mono h₂ (fun _ s₃ h₃=>?_) fun _ _ z=>z.elim);refine wpAny_bind (wpAny_mono h₃ (fun ok s₄ h₄=>?_) fun _ _ z=>z.elim);cases ok with
  | true=>
   rw[if_pos rfl] at h₄;rw[if_pos rfl];exact wpAny_bind (wpAny_bind (wpAny_mono h₄ (fun x s₅ h₅=>wpAny_bind (wpAny_mono h₅ (fun _ s₆ h₆=>wpAny_pure (wpAny_pure ⟨rfl,h₆⟩)) fun _ _ z=>z.elim)) fun _ _ z=>z.elim))
  | false=>
   rw[if_neg Bool.false_ne_true] at h₄;rw[if_neg Bool.false_ne_true];exact wpAny_pure ⟨rfl,h₄⟩
theorem mF {env:Env}:(forIn (m:=Sem) ([]:List Expr) true fun c r=>if r=true then do let ok ←isTrue c env (eval c env);pure (ForInStep.yield ok) else pure (ForInStep.yield r))=pure true:=rfl
theorem tY {env:Env}{c:Expr}:(forIn (m:=Sem) [c] true fun c r=>if r=true then do let ok ←isTrue c env (eval c env);pure (ForInStep.yield ok) else pure (ForInStep.yield r))=isTrue c env (eval c env):=by
 rw[forIn_cons];simp
end
theorem tM {b a c:Nat}(h:b<a)(e:c=a+1):b≠c:=by omega
theorem k9 {b a c:Nat}(h:b<c)(e:c=a):a≠b:=by omega
theorem fc {b a c:Nat}(h:b<c)(e:c=a):b≠a:=by omega
abbrev aG (its:List Value)(n:Nat):Obj:={cls:=.type "list",data:=.seq its.toArray n}
section
variable {X:Cx}{af:List (Addr×Obj)}{σ:L2.St}{s:Shared}{scope:Scope}{xs:List Str}{tg:Expr}{sg:GG}{R:List Str}{elt iter:Expr}{ifs:List Expr}{pos:Pos}{E:Value→Shared→Prop}
theorem oE {K:W.Frag}{θ:List Addr}{H:Hp}{σ:L2.St}{ρ:bj}{n:Nat}(h:fK K θ H σ ρ):fK K θ H (List.replicate n none++σ) (List.replicate n none++ρ):=by
 refine⟨by rw[length_append,length_append,length_replicate,length_replicate,h.len],fun i d e=>?_⟩
 by_cases hi:i<n
 ·rw[getElem?_append_left (by rw[length_replicate];exact hi),getElem?_replicate,if_pos hi] at e;cases e
 ·rw[getElem?_append_right (by rw[length_replicate];omega),length_replicate] at e ⊢;exact h.at_ _ d e
inductive Fo (X0:Cx) (fp:List Addr) (tn:Nat→Heap→Prop) (K:W.Frag) (acc:Addr) (t:jN) (ρ0:bj) (θ1:List Addr) (H2:Hp) (es:List D) (go:List D→aw→aM (List D)) (Mend:aw) (n:Nat) (s':Shared):Prop
 | mk (i:Nat) (τ:L2.St) (H':Hp) (θ':List Addr) (M':aw) (ds rest:List D) (vs:List V) (its:List Value) (na:Nat) (e1:n=t.ds.length-i) (e2:i≤t.ds.length)
   (e3:L2.Inv X0 [(acc,aG its na)] τ H' s') (e4:fK K θ' H' τ ρ0) (e5:tn i s'.heap) (e6:∀b∈fp,H' b=none) (e7:Go K θ1 H2 θ' H' M') (e8:aR K θ' H' ds vs) (e9:aQ vs its) (e10:go (t.ds.drop i) M'=.ok rest Mend) (e11:ds++rest=es)
theorem mB {fp:List Addr}{it:Addr}{tn:Nat→Heap→Prop}{J:It}{H2:Hp}{s2:Shared}{t:jN}{M1:aw}{θ1:List Addr}{ρ:bj}{gc:GT}{ge:GE}{es:List D}{Mend:aw}{RR:Value→Addr→Result→Shared→Prop}
  (S:bx scope X.env.kindOf xs R X.N) (hc:X.calm=true) (I2:L2.Inv X af σ H2 s2) (T:mZ X.prog X.w X.K tg J fp it tn) (st2:tn 0 s2.heap) (f2:∀b∈fp,cA X af H2 b)
  (hw1:Wr X.K θ1 H2 M1) (hd1:fK X.K θ1 H2 σ ρ) (hJ:rg X.K J θ1 H2 t) (hgo:aJ t xs.length sg gc ge t.ds ρ M1=.ok es Mend) (hlen:es.length≤sizeLine)
  (hcd:∀C,∃cond,(forIn (m:=Sem) ifs true fun c r=>if r=true then do let ok ←isTrue c (aj X scope xs R fp s2 H2 C).env (eval c (aj X scope xs R fp s2 H2 C).env);pure (ForInStep.yield ok) else pure (ForInStep.yield r))=cond∧
   ∀(af:List (Addr×Obj)) (s:Shared) (σ:L2.St) (H:Hp) (Q:Bool→Hp→Prop),L2.Inv (aj X scope xs R fp s2 H2 C) af σ H s→tT (aj X scope xs R fp s2 H2 C) gc σ H Q→wpAny (model X.prog X.w) X.A cond (TP (aj X scope xs R fp s2 H2 C) af σ Q) (fun _ _=>False) s)
  (own:jw xs.length sg) (hg:∀C,PG (aj X scope xs R fp s2 H2 C) tg (tG (aj X scope xs R fp s2 H2 C) sg))
  (he:∀C,PE (aj X scope xs R fp s2 H2 C) elt (tE (aj X scope xs R fp s2 H2 C) ge))
  (fin:∀(acc C:Addr) (s':Shared) (H':Hp) (θ':List Addr) (vs:List V) (m:Str→Option Value),L2.Inv X af σ (bS H' acc (.lst vs)) s'→s'.heap.Ns C m→cA X af (bS H' acc (.lst vs)) C→Go X.K θ1 H2 θ' H' Mend→H' acc=none→aR X.K θ' H' es vs→RR (.ref acc) C (.ok .next) s') :
  wpAny (model X.prog X.w) X.A (newList []) (fun acc s₃=>wpAny (model X.prog X.w) X.A (newFunctionEnv scope X.env.globals (ce X.env.cells scope.names []) [] X.env.qual none .none (some X.env)) (fun cenv s₄=>
   codeAny (model X.prog X.w) X.A (.compStart (.ListComp elt [⟨tg,iter,ifs,0⟩] scope pos) 0 (.ref it) acc {cenv with scope:=relabel scope X.env}) (RR acc cenv.locals) s₄) E s₃) E s2:=by
 refine wpAny_newObj_type (wpAny_newFunctionEnv S.nocell (by intro y hy;simp at hy) (fun h₁ hns₁ hsb₁=>?_) S.kind);dsimp only at hns₁ hsb₁ ⊢;generalize hHp:s2.heap.push {cls:=.type "list",dict:=none,data:=.seq ([]:List Value).toArray}=Hp2 at hns₁ hsb₁ ⊢;have hCe:Hp2.objs.size=s2.heap.objs.size+1:=by rw[←hHp,Heap.size_push]
 generalize hCd:Hp2.objs.size=C at hns₁ hsb₁ hCe ⊢;generalize hAd:s2.heap.objs.size=acc at hCe ⊢;have hDC:acc≠C:=by rw[hCe];exact Nat.ne_of_lt (Nat.lt_succ_self _)
 have old:∀b o,s2.heap.get? b=some o→h₁.get? b=some o:=fun b o e=>by
  have hb:b<acc:=by rw[←hAd];exact Heap.lt_size e
  refine hsb₁.extBut b o (tM hb hCe) (Heap.get?_push_of_some _ ?_);rw[←hHp];exact Heap.get?_push_of_some _ e
 have hacc0:h₁.get? acc=some (aG [] 0):=by
  refine hsb₁.extBut acc _ hDC (Heap.get?_push_of_some _ ?_);rw[←hHp,←hAd];exact Heap.get?_push_size _ rfl
 have hfl:∀b∈fp,b<s2.heap.objs.size:=fun b hb=>by
  obtain⟨o,e,_⟩:=T.obj 0 _ st2 b hb;exact Heap.lt_size e
 have hCs:s2.heap.objs.size≤C:=by omega
 have IY0:L2.Inv (aj X scope xs R fp s2 H2 C) [] (List.replicate xs.length none++σ) H2 {s2 with heap:=h₁,toks:=s2.toks+([]:List (Str×Value)).length}:=pE S I2 hCs old hns₁ f2 hfl;obtain⟨cond,hcond,hct⟩:=hcd C;have fpY:∀{H':Hp} {p:Obj},(∀b∈fp,H' b=none)→∀b∈fp,cA (aj X scope xs R fp s2 H2 C) [(acc,p)] H' b:=fun {H' p} hn b hb=>by
  refine⟨hn b hb,?_,fun z=>?_,.inl hb,fun y c e=>?_,fun q hq=>?_⟩
  ·exact Nat.ne_of_lt (Nat.lt_of_lt_of_le (hfl b hb) hCs)
  ·rcases mem_cons.mp (I2.stkSub b z) with e|e
   ·exact(f2 b hb).2.1 e
   ·exact(f2 b hb).2.2.1 e
  ·exact(f2 b hb).2.2.2.2.1 y c (bJ S I2 e)
  ·have hq:q∈([]:List (Addr×Obj))++[(acc,p)]:=hq;have e:q=(acc,p):=by simpa using hq
   rw[e];exact k9 (hfl b hb) hAd
 have accF:∀b∈kW X.stack,acc≠b:=fun b hb e=>by
  have:acc∉X.env.locals::X.fs:=by
   intro z;rcases mem_cons.mp z with z|z
   ·exact k9 I2.lt hAd z
   ·exact I2.nofs (Nat.le_of_eq hAd) z
  exact this (e▸I2.stkSub b hb)
 have loop:∀s₃:Shared,s₃={s2 with heap:=h₁,toks:=s2.toks+([]:List (Str×Value)).length}→
   codeAny (model X.prog X.w) X.A (.compLoop (.ListComp elt [⟨tg,iter,ifs,0⟩] scope pos) 0 (.ref it) (.ref acc) (aj X scope xs R fp s2 H2 C).env) (RR (.ref acc) C) s₃:=by
  rintro s₃ rfl;have pin0:∀{σ':L2.St} {H':Hp} {s':Shared} {its:List Value} {n:Nat},L2.Inv (aj X scope xs R fp s2 H2 C) [] σ' H' s'→s'.heap.get? acc=some (aG its n)→H' acc=none→L2.Inv (aj X scope xs R fp s2 H2 C) [(acc,aG its n)] σ' H' s':=fun {σ' H' s' its n} I' e hn=>
   I'.pins_of fun p hp=>by
    have ep:p=(acc,aG its n):=by simpa using hp
    subst ep;exact⟨e,hn,hDC,fun z=>accF acc z rfl,fun v z=>by cases z⟩
  refine eR hcond (Fo (aj X scope xs R fp s2 H2 C) fp tn X.K acc t (List.replicate xs.length none++ρ) θ1 H2 es (fun l N=>aJ t xs.length sg gc ge l ρ N) Mend) ?_ t.ds.length
   ⟨0,_,H2,θ1,M1,[],es,[],[],0,rfl,Nat.zero_le _,pin0 IY0 hacc0 (I2.hok.fresh (Nat.le_of_eq hAd)),oE hd1,T.keep 0 _ _ st2 (fun b hb o e=>old b o e),fun b hb=>(f2 b hb).1,.refl hw1,rfl,.nil,hgo,rfl⟩
  rintro n s' ⟨i,τ,H',θ',M',ds,rest,vs,its,na,rfl,hil,I',dn',st',fr',g',rd',rv',hrest,hes⟩;have hok:t.ok M'=true:=by
   cases hq:t.ok M' with
   | true=>rfl
   | false=>
    exfalso;cases hdr:t.ds.drop i with
    | nil=>rw[hdr,aJ,if_neg (by rw[hq];exact Bool.false_ne_true)] at hrest;cases hrest
    | cons d r=>rw[hdr,aJ,if_neg (by rw[hq];exact Bool.false_ne_true)] at hrest;cases hrest
  obtain⟨hy,hst⟩:=hJ θ' H' M' g' hok i
  by_cases hlt:i<t.ds.length
  ·have e1:t.ds[i]?=some t.ds[i]:=getElem?_eq_getElem hlt;obtain⟨hgo',hyl⟩:=hy _ e1;rw[drop_eq_getElem_cons hlt,aJ,if_pos hok] at hrest;refine bR (T.item (aj X scope xs R fp s2 H2 C) rfl rfl rfl hc i _ s' _ H' _ I' (fpY fr') st' hgo') fun r s4 hxx=>?_
   obtain⟨u,hr,h4⟩:=hxx;subst hr;refine bR h4 fun _ s5 hxx=>?_
   obtain⟨v,H5,I5,r5,y5,st5,fr5⟩:=hxx;obtain⟨gy,rx⟩:=hyl v H5 y5;have I5':=I5.pinned (fpY fr5) (T.obj _ _ st5);cases qs:sg t.ds[i] (List.replicate xs.length none++ρ) with
   | none=>rw[qs] at hrest;cases hrest
   | some ρ1=>
   rw[qs] at hrest;dsimp only at hrest;refine bR (hg C _ s5 _ H5 v u (fun σ6 H6=>fK X.K θ' H6 σ6 ρ1∧H6=H5) I5' r5 ⟨_,θ',M',t.ds[i],dn'.go gy,gy.wr,rx,ρ1,qs,fun σ6 d6=>⟨d6,rfl⟩⟩) fun _ s6 hxx=>?_
   obtain⟨σ6,H6,I6,hdY,eH6⟩:=hxx;subst eH6;cases qc:gc ρ1 M' with
   | bad=>rw[qc] at hrest;cases hrest
   | err c Mx=>rw[qc] at hrest;cases hrest
   | ok b Mb=>
    refine bR (hct _ s6 _ H6 (fun b' H7=>b'=b∧∃θ7,Go X.K θ' H6 θ7 H7 Mb) I6 ⟨_,θ',M',hdY,gy.wr,?_⟩) fun ok s7 ⟨H7,I7,eb,θ7,g7⟩=>?_
    ·rw[qc];exact fun θ7 H7 g7=>⟨rfl,θ7,g7⟩
    subst eb;have fpk:∀{s8:Shared} {σ8:L2.St} {H8:Hp},L2.Inv (aj X scope xs R fp s2 H2 C) ([(acc,aG its na)]++fO fp s5.heap) σ8 H8 s8→(∀b∈fp,H8 b=none)∧(∀b∈fp,∀o,s5.heap.get? b=some o→s8.heap.get? b=some o)∧s8.heap.get? acc=some (aG its na)∧H8 acc=none:=fun {s8 σ8 H8} I8=>by
     have pa:=I8.pin (acc,aG its na) (mem_append_right _ (mem_append_left _ (by simp)));refine⟨fun b hb=>?_,fun b hb o e=>(I8.pin (b,o) (mem_append_right _ (mem_append_right _ (bC hb e)))).1,pa.1,pa.2.1⟩;obtain⟨o,e,d⟩:=T.obj _ _ st5 b hb;exact(I8.pin (b,o) (mem_append_right _ (mem_append_right _ (bC hb e)))).2.1
    cases ok with
    | false=>
     rw[if_neg Bool.false_ne_true];rw[qc] at hrest;obtain⟨k1,k2,k3,k4⟩:=fpk I7;exact⟨t.ds.length-(i+1),by omega,i+1,σ6,H7,θ7,Mb,ds,rest,vs,its,na,rfl,hlt,I7.unpinned,own.back qs (hdY.go g7),T.keep _ _ _ st5 k2,k1,g'.trans (gy.trans g7),rd'.go (gy.trans g7),rv',hrest,hes⟩
    | true=>
     rw[if_pos rfl];rw[qc] at hrest;have hrest:(match ge ρ1 Mb with
      | .ok e M2=>(aJ t xs.length sg gc ge (t.ds.drop (i+1)) ρ M2).bind fun es M3=>.ok (e::es) M3
      | _=>.bad)=aM.ok rest Mend:=hrest
     cases qe:ge ρ1 Mb with
     | bad=>rw[qe] at hrest;cases hrest
     | err c Mx=>rw[qe] at hrest;cases hrest
     | ok dv Mv=>
      rw[qe] at hrest;have hrest:((aJ t xs.length sg gc ge (t.ds.drop (i+1)) ρ Mv).bind fun es M3=>aM.ok (dv::es) M3)=aM.ok rest Mend:=hrest;refine bR (he C _ s7 _ H7 (fun w H8=>∃θ8,Go X.K θ7 H7 θ8 H8 Mv∧c6 X.K θ8 H8 dv w) I7 ⟨_,θ7,Mb,hdY.go g7,g7.wr,?_⟩) fun uv s8 ⟨w,H8,I8,rw8,θ8,g8,rd8⟩=>?_
      ·rw[qe];exact fun w θ8 H8 g8 rd8=>⟨θ8,g8,rd8⟩
      obtain⟨k1,k2,k3,k4⟩:=fpk I8;cases qr:aJ t xs.length sg gc ge (t.ds.drop (i+1)) ρ Mv with
      | bad=>rw[qr] at hrest;cases hrest
      | err c Mx=>rw[qr] at hrest;cases hrest
      | ok rest' Mr=>
       rw[qr] at hrest;have hrest:aM.ok (dv::rest') Mr=aM.ok rest Mend:=hrest;cases hrest;have hsz:its.length<sizeLine:=by
        have e2:(ds++dv::rest').length≤sizeLine:=by rw[hes];exact hlen
        rw[length_append,length_cons,aq rd',rv'.length] at e2;omega
       refine call_meets F.slot_list_append ⟨_,k3,rfl⟩ F.entry_list_append (F.args_list_append_2 _ _) (PySem.list_append acc its.toArray na uv (by rw[size_toArray];omega)) ⟨k3,?_⟩;have qup:=PySem.IsL.update k3 (fun a=>a.push uv);have eup:(its.toArray.push uv)=(its++[uv]).toArray:=by simp
       have keepb:∀b o,b≠acc→s8.heap.get? b=some o→(s8.heap.update acc (Obj.mapSeq fun a=>a.push uv)).get? b=some o:=fun b o hb e=>(Heap.get?_update_other s8.heap _ (Ne.symm hb)).trans e
       have I9:L2.Inv (aj X scope xs R fp s2 H2 C) [] σ6 H8 {s8 with heap:=s8.heap.update acc (Obj.mapSeq fun a=>a.push uv),toks:=s8.toks}:=by
        refine Inv.turned (it:=acc) (I8.pins_of (pins':=[]) fun p hp=>absurd hp (by simp)) keepb k4 hDC (.inr (Nat.le_of_eq hAd)) (fun y c e z=>?_) fun p hp=>absurd (show p∈([]:List (Addr×Obj)) from hp) (by simp)
        obtain⟨v',o,ho,hdd⟩:=I2.cell y c (bJ S I2 e);exact fc (Heap.lt_size ho) hAd z
       obtain⟨n',eq'⟩:∃n',(s8.heap.update acc (Obj.mapSeq fun a=>a.push uv)).get? acc=some (aG (its++[uv]) n'):=by
        have q2:=qup;rw[eup] at q2;exact⟨_,q2⟩
       exact⟨t.ds.length-(i+1),by omega,i+1,σ6,H8,θ8,Mv,ds++[dv],rest',vs++[w],its++[uv],n',rfl,hlt,pin0 I9 eq' k4,own.back qs (hdY.go (g7.trans g8)),T.keep _ _ _ st5 (fun b hb o e=>keepb b o (fc (hfl b hb) hAd) (k2 b hb o e)),k1,g'.trans (gy.trans (g7.trans g8)),bU (rd'.go (gy.trans (g7.trans g8))) ⟨w,[],rfl,rd8,rfl⟩,rv'.append (.cons rw8 .nil),qr,by rw[←hes];simp⟩
  ·have e:i=t.ds.length:=by omega
   subst e;rw[drop_length,aJ,if_pos hok] at hrest;cases hrest;have hes:ds=es:=by rw[←hes];simp
   subst hes;refine bR (T.done (aj X scope xs R fp s2 H2 C) rfl rfl rfl hc _ _ s' _ H' _ I' (fpY fr') st' (hst (Nat.le_refl _))) fun r s4 hxx=>?_
   obtain⟨hr,I4⟩:=hxx;subst hr;have pa:=I4.pin (acc,aG its na) (mem_append_right _ (by simp));have e4:s4.heap.get? acc=some (aG its na):=pa.1;have n4:H' acc=none:=pa.2.1;have lv:vs.length≤sizeLine:=by rw[←aq rd'];exact hlen
   obtain⟨mC,hnC,_⟩:=I4.loc;have hHC:H' C=none:=I4.free;have li:Un (kW X.stack) fp H2 H' s2.heap s4.heap:=I4.base;have neA:∀{b:Addr} {o:Obj},s2.heap.get? b=some o→b≠acc:=fun {b o} e=>fc (Heap.lt_size e) hAd
   have neH:∀{b:Addr} {u:HO},H' b=some u→b≠acc:=fun {b u} e z=>by rw[z,n4] at e;cases e
   have un4:Un (kW X.stack) fp H2 (bS H' acc (.lst vs)) s2.heap s4.heap:=by
    refine⟨li.keep,li.slot,fun b o e n hx=>?_,li.there,fun b xs e=>?_,fun b o u e=>?_,fun b ps e=>?_⟩
    ·rw[au (neA e)];exact li.free b o e n hx
    ·have z:=li.tups b xs e;rw[au (neH z)];exact z
    ·have z:=li.frzs b o u e;rw[au (neH z)];exact z
    ·obtain⟨more,z⟩:=li.tbls b ps e;exact⟨more,by rw[au (neH z)];exact z⟩
   have hok4:jM X.prog X.w (bS H' acc (.lst vs)) s4.heap:=fun b u e=>by
    by_cases hb:b=acc
    ·subst hb;rw[bZ] at e;cases e;exact⟨lv,its,na,rv',e4⟩
    ·rw[au hb] at e;exact(I4.hok b u e).stay (fun c v _ q=>q) (fun c q=>by rw[au (neH q)];exact q) fun c xs q=>by rw[au (neH q)];exact q
   have IX:L2.Inv X af σ (bS H' acc (.lst vs)) s4:=I2.call' (ch:=fp) I4.os un4 hok4 I4.bare fun b hb=>⟨(f2 b hb).2.2.2.1,(f2 b hb).2.1,(f2 b hb).2.2.2.2.1,(f2 b hb).2.2.2.2.2⟩
   refine fin acc C s4 H' θ' vs mC IX hnC (I2.fpOk hCs ?_) g' n4 rd';rw[au (Ne.symm hDC)];exact hHC
 exact codeAny_compStart_list (loop _ rfl) (T.self _ 0 _ _ _ (T.keep 0 _ _ st2 fun b hb o e=>old b o e) (loop _ rfl))
end
section
variable {X:Cx}{scope:Scope}{xs:List Str}{tg:Expr}{sg:GG}{x:Str}{px:Pos}{R:List Str}{elt iter:Expr}{ifs:List Expr}{pos:Pos}{gi:GI}{gc:GT}{ge:GE}
def Cv (mk:List D→aw→aM D):Prop:=∀(X:Cx) (θ:List Addr) (H:Hp) (Q:VK) (ds:List D) (M:aw) (vs:List V),aT X θ H Q (mk ds M)→Wr X.K θ H M→aR X.K θ H ds vs→vs.length≤sizeLine∧∀p,H p=none→Q (.ref p) (bS H p (.lst vs))
theorem ww:Cv aD:=fun X θ H Q ds M vs h hw r=>aT.lst h hw r
theorem xb:Cv cL:=fun X θ H Q ds M vs h hw r=>aT.mut h hw r
theorem pf {mk:List D→aw→aM D}(hm:mk=aD∨mk=cL){X:Cx}{θ:List Addr}{H:Hp}{Q:VK}{ds:List D}{M:aw}(h:aT X θ H Q (mk ds M)):ds.length≤sizeLine:=by
 rcases hm with e|e <;> subst e
 ·unfold aD at h;split at h
  ·assumption
  ·exact h.elim
 ·unfold cL at h;split at h
  ·assumption
  ·exact h.elim
theorem tx {mk:List D→aw→aM D}(hm:mk=aD∨mk=cL):Cv mk:=by
 rcases hm with e|e <;> subst e
 ·exact ww
 ·exact xb
def eX (X:Cx)(scope:Scope)(xs:List Str)(R:List Str)(ifs:List Expr)(gc:GT):Prop:=∀fp s2 H2 C,∃cond,(forIn (m:=Sem) ifs true fun c r=>if r=true then do let ok ←isTrue c (aj X scope xs R fp s2 H2 C).env (eval c (aj X scope xs R fp s2 H2 C).env);pure (ForInStep.yield ok) else pure (ForInStep.yield r))=cond∧
   ∀(af:List (Addr×Obj)) (s:Shared) (σ:L2.St) (H:Hp) (Q:Bool→Hp→Prop),L2.Inv (aj X scope xs R fp s2 H2 C) af σ H s→tT (aj X scope xs R fp s2 H2 C) gc σ H Q→wpAny (model X.prog X.w) X.A cond (TP (aj X scope xs R fp s2 H2 C) af σ Q) (fun _ _=>False) s
theorem vZ:eX X scope xs R [] a9:=fun fp s2 H2 C=>⟨_,mF,fun af s σ H Q I ⟨ρ,θ,M,hd,hw,h⟩=>wpAny_pure ⟨H,I,h θ H (.refl hw)⟩⟩
theorem xF {c:Expr}(h:∀fp s2 H2 C,PT (aj X scope xs R fp s2 H2 C) c (tT (aj X scope xs R fp s2 H2 C) gc)):eX X scope xs R [c] gc:=fun fp s2 H2 C=>⟨_,tY,fun af s σ H Q I q=>h fp s2 H2 C af s σ H Q I q⟩
theorem fH {t:jN}{n:Nat}{sg:GG}{gc:GT}{ge:GE}{ρ:bj}{c:Str}{M':aw}:∀(ds:List D) (M:aw),aJ t n sg gc ge ds ρ M=.err c M'→False
 | [],M,h=>by
  unfold aJ at h;split at h <;> cases h
 | d::r,M,h=>by
  unfold aJ at h;split at h
  ·split at h
   ·cases h
   ·split at h
    ·rename_i M1 q1;split at h
     ·rename_i e M2 q2;cases q:aJ t n sg gc ge r ρ M2 with
      | ok es M3=>rw[q] at h;cases h
      | err c2 M3=>exact fH r M2 q
      | bad=>rw[q] at h;cases h
     ·cases h
    ·rename_i M1 q1;exact fH r M1 h
    ·cases h
  ·cases h
theorem vM {mk:List D→aw→aM D}(hS:cj scope X.env.kindOf xs R X.N=true)(hc:X.calm=true)(hm:mk=aD∨mk=cL)(hi:PI X tg iter (tI X gi))(own:jw xs.length sg)(hg:∀fp s H C,PG (aj X scope xs R fp s H C) tg (tG (aj X scope xs R fp s H C) sg))(hts:eX X scope xs R ifs gc)
  (he:∀fp s H C,PE (aj X scope xs R fp s H C) elt (tE (aj X scope xs R fp s H C) ge))
  (hs:∀x,foldedSetIterable iter X.env x=pure x:=by intro _;rfl):PE X (.ListComp elt [⟨tg,iter,ifs,0⟩] scope pos) (tE X (dU gi xs.length sg gc ge mk)):=by
 have S:=bx.of hS;intro af s σ H Q I h;obtain⟨ρ,θ,M,hd,hw,h⟩:=h;rw[eval_ListComp];refine wpAny_comprehension_free (use:=none) rfl hs (fv (S.cells I)) S.kind S.lnames ?_;refine bR (hi af s σ H (fun J H2=>∃t M1 θ1,gi ρ M=.ok t M1∧Go X.K θ H θ1 H2 M1∧rg X.K J θ1 H2 t) I ⟨ρ,θ,M,hd,hw,?_⟩) fun v s1 h1=>bR h1 fun itv s2 h2=>?_
 ·cases q:gi ρ M with
  | ok t M1=>exact fun J θ1 H1 g1 hJ=>⟨t,M1,θ1,rfl,g1,hJ⟩
  | err c M1=>unfold dU at h;rw[q] at h;exact h
  | bad=>unfold dU at h;rw[q] at h;exact h
 obtain⟨it,fp,tn,J,H2,rfl,I2,T,st2,f2,t,M1,θ1,eg,g1,hJ⟩:=h2;unfold dU at h;rw[eg] at h;have h:aT X θ H Q ((aJ t xs.length sg gc ge t.ds ρ M1).bind mk):=h;cases q:aJ t xs.length sg gc ge t.ds ρ M1 with
 | bad=>rw[q] at h;exact h.elim
 | err c Mx=>exact(fH _ _ q).elim
 | ok es Mend=>
  rw[q] at h;have h:aT X θ H Q (mk es Mend):=h;refine mB (RR:=fun acc C=>compPost (model X.prog X.w) X.A X.xe none (EP X af σ Q) acc C) S hc I2 T st2 f2 g1.wr (hd.go g1) hJ q (pf hm h) (fun C=>hts fp s2 H2 C) own (fun C=>hg fp s2 H2 C) (fun C=>he fp s2 H2 C) ?_;intro acc C s' H' θ' vs m IX hnC fC g' na rd;refine⟨m,hnC,fun h' sb=>?_⟩;have I3:L2.Inv X af σ (bS H' acc (.lst vs)) {s' with heap:=h',toks:=s'.toks}:=IX.turned (it:=C) (fun b o hb e=>(sb.2 b hb).trans e) fC.1 fC.2.1 fC.2.2.2.1 fC.2.2.2.2.1 fC.2.2.2.2.2;exact⟨.ref acc,_,I3,rfl,(tx hm X θ' H' Q es Mend vs (aT.go (g1.trans g') h) g'.wr rd).2 acc na⟩
theorem qa {mk:List D→aw→aM D}{j:Nat}{y:Str}{py spos:Pos}(hS:cj scope X.env.kindOf xs R X.N=true)(hc:X.calm=true)(hm:mk=aD∨mk=cL)(hi:PI X tg iter (tI X gi))(own:jw xs.length sg)(hg:∀fp s H C,PG (aj X scope xs R fp s H C) tg (tG (aj X scope xs R fp s H C) sg))(hts:eX X scope xs R ifs gc)
  (he:∀fp s H C,PE (aj X scope xs R fp s H C) elt (tE (aj X scope xs R fp s H C) ge))
  (hN:X.N.Nodup) (hj:X.N[j]?=some y) (hy:X.env.scope.names.lookup y=some .local)
  (hsw:swapsWith (.ListComp elt [⟨tg,iter,ifs,0⟩] scope pos) (some (.Name y py)) spos.line X.env=pure true)
  (hs:∀x,foldedSetIterable iter X.env x=pure x:=by intro _;rfl):PS X (.Assign [.Name y py] (.ListComp elt [⟨tg,iter,ifs,0⟩] scope pos) spos) (tS X (aA j (dU gi xs.length sg gc ge mk))):=by
 have S:=bx.of hS;intro af s σ H Q I h;obtain⟨ρ,θ,M,hd,hw,h⟩:=h;rw[exec_Assign_Name_used _ _ _ _ hsw];refine wpAny_bind (wpAny_standAt (wpAny_bind ?_));show wpAny _ X.A (do let _ ←comprehension (.ListComp elt [⟨tg,iter,ifs,0⟩] scope pos) scope X.env _ (newList []) false (eval iter X.env) (some (assign (.Name y py) X.env))) _ _ s;refine wpAny_bind (wpAny_mono (wpAny_comprehension_free (use:=some (assign (.Name y py) X.env)) (Q:=fun _ s'=>SP X af Q .next s') rfl hs (fv (S.cells I)) S.kind S.lnames ?_) (fun _ s' hq=>wpAny_pure (wpAny_pure hq)) fun _ _ e=>e);refine bR (hi af s σ H (fun J H2=>∃t M1 θ1,gi ρ M=.ok t M1∧Go X.K θ H θ1 H2 M1∧rg X.K J θ1 H2 t) I ⟨ρ,θ,M,hd,hw,?_⟩) fun v s1 h1=>bR h1 fun itv s2 h2=>?_
 ·cases q:gi ρ M with
  | ok t M1=>exact fun J θ1 H1 g1 hJ=>⟨t,M1,θ1,rfl,g1,hJ⟩
  | err c M1=>unfold aA dU at h;rw[q] at h;exact h
  | bad=>unfold aA dU at h;rw[q] at h;exact h
 obtain⟨it,fp,tn,J,H2,rfl,I2,T,st2,f2,t,M1,θ1,eg,g1,hJ⟩:=h2;unfold aA dU at h;rw[eg] at h;have h:eL X θ H Q (((aJ t xs.length sg gc ge t.ds ρ M1).bind mk).bind fun d M2=>.ok (.nx (ρ.set j (some d))) M2):=h;cases q:aJ t xs.length sg gc ge t.ds ρ M1 with
 | bad=>rw[q] at h;exact h.elim
 | err c Mx=>exact(fH _ _ q).elim
 | ok es Mend=>
  rw[q] at h;have h:eL X θ H Q ((mk es Mend).bind fun d M2=>.ok (.nx (ρ.set j (some d))) M2):=h;have hE:aT X θ H (fun v H'=>∃θ' M',Go X.K θ H θ' H' M'∧∃d,mk es Mend=.ok d M'∧c6 X.K θ' H' d v) (mk es Mend):=by
   cases qm:mk es Mend with
   | ok d M2=>exact fun v θ' H' g' r=>⟨θ',M2,g',d,rfl,r⟩
   | err c M2=>rw[qm] at h;exact h
   | bad=>rw[qm] at h;exact h
  refine mB (RR:=fun acc C=>compPost (model X.prog X.w) X.A X.xe (some (assign (.Name y py) X.env)) (fun _ s'=>SP X af Q .next s') acc C) S hc I2 T st2 f2 g1.wr (hd.go g1) hJ q (pf hm hE) (fun C=>hts fp s2 H2 C) own (fun C=>hg fp s2 H2 C) (fun C=>he fp s2 H2 C) ?_;intro acc C s' H' θ' vs m IX hnC fC g' na rd;obtain⟨θe,Me,ge',d,ed,rde⟩:=(tx hm X θ' H' _ es Mend vs (aT.go (g1.trans g') hE) g'.wr rd).2 acc na;show wpAny _ X.A (assign (.Name y py) X.env (.ref acc)) _ _ s';refine wpAny_assign_Name (nW IX hN hj (.inl hy) (v:=.ref acc) rfl (fun s3 I3 hxx=>?_) (.inr hy));obtain⟨a,sa,ha⟩:=hxx;have hCa:C≠a:=by
   rcases ha with e|e
   ·rw[e];exact fC.2.1
   ·exact fun z=>fC.2.2.2.2.1 y a e z.symm
  refine⟨m,hnC.sameBut sa hCa,fun h' sb=>?_⟩;have I4:L2.Inv X af (σ.set j (some (.ref acc))) (bS H' acc (.lst vs)) {s3 with heap:=h',toks:=s3.toks}:=I3.turned (it:=C) (fun b o hb e=>(sb.2 b hb).trans e) fC.1 fC.2.1 fC.2.2.2.1 fC.2.2.2.2.1 fC.2.2.2.2.2;rw[ed] at h;exact⟨_,_,I4,h _ θe _ ge' ((hd.go ge').set rde j)⟩
theorem tV {px:Pos}(hS:cj scope X.env.kindOf [x] R X.N=true)(fp:List Addr)(s:Shared)(H:Hp)(C:Addr):PG (aj X scope [x] R fp s H C) (.Name x px) (tG (aj X scope [x] R fp s H C) (bo 0)):=
 have S:=bx.of hS
 l7 (X:=aj X scope [x] R fp s H C) S.nd rfl (.inl (lookup_relabel_local (S.own x (by simp)))) (.inr (lookup_relabel_local (S.own x (by simp))))
theorem oz (mk:List D→aw→aM D):aH gi gc ge mk=dU gi 1 (bo 0) gc ge mk:=by
 funext ρ M;unfold aH dU;simp only[pI]
theorem zv {mk:List D→aw→aM D}(hS:cj scope X.env.kindOf [x] R X.N=true)(hc:X.calm=true)(hm:mk=aD∨mk=cL)(hi:PI X (.Name x px) iter (tI X gi))(hts:eX X scope [x] R ifs gc)
  (he:∀fp s H C,PE (aj X scope [x] R fp s H C) elt (tE (aj X scope [x] R fp s H C) ge))
  (hs:∀x,foldedSetIterable iter X.env x=pure x:=by intro _;rfl):PE X (.ListComp elt [⟨.Name x px,iter,ifs,0⟩] scope pos) (tE X (aH gi gc ge mk)):=by
 rw[oz];exact vM (xs:=[x]) hS hc hm hi (jY (Nat.zero_lt_one)) (tV hS) hts he hs
theorem rG {mk:List D→aw→aM D}{j:Nat}{y:Str}{py spos:Pos}(hS:cj scope X.env.kindOf [x] R X.N=true)(hc:X.calm=true)(hm:mk=aD∨mk=cL)(hi:PI X (.Name x px) iter (tI X gi))(hts:eX X scope [x] R ifs gc)
  (he:∀fp s H C,PE (aj X scope [x] R fp s H C) elt (tE (aj X scope [x] R fp s H C) ge))
  (hN:X.N.Nodup) (hj:X.N[j]?=some y) (hy:X.env.scope.names.lookup y=some .local)
  (hsw:swapsWith (.ListComp elt [⟨.Name x px,iter,ifs,0⟩] scope pos) (some (.Name y py)) spos.line X.env=pure true)
  (hs:∀x,foldedSetIterable iter X.env x=pure x:=by intro _;rfl):PS X (.Assign [.Name y py] (.ListComp elt [⟨.Name x px,iter,ifs,0⟩] scope pos) spos) (tS X (aA j (aH gi gc ge mk))):=by
 rw[oz];exact qa (xs:=[x]) hS hc hm hi (jY (Nat.zero_lt_one)) (tV hS) hts he hN hj hy hsw hs
end
def c7:List D→Option (List Bool)
 | []=>some []
 | .bl b::r=>(c7 r).map (b::·)
 | _=>none
def Bi:FD:=fun ds M=>match ds with
 | [d]=>match aU d M with
  | some xs=>match c7 xs with
   | some bs=>.ok (.bl (bs.all id)) M
   | none=>.bad
  | none=>.bad
 | _=>.bad
def u7:FD:=fun ds M=>match ds with
 | [d]=>match aU d M with
  | some xs=>match c7 xs with
   | some bs=>.ok (.bl (bs.any id)) M
   | none=>.bad
  | none=>.bad
 | _=>.bad
theorem jA {K:W.Frag}{θ:List Addr}{H:Hp}:∀{ds:List D} {vs:List V} {us:List Value} {bs:List Bool},aR K θ H ds vs→aQ vs us→c7 ds=some bs→us=bs.map Value.bool
 | [],vs,us,bs,r,q,e=>by
  have e1:vs=[]:=r;subst e1;cases q;cases e;rfl
 | d::ds,vs,us,bs,r,q,e=>by
  obtain⟨v,rr,e1,h1,h2⟩:=r;subst e1;cases d with
  | bl b=>
   cases qb:c7 ds with
   | none=>simp[c7,qb] at e
   | some bs'=>
    simp[c7,qb] at e;subst e;have e2:v=.bl b:=h1;subst e2;cases q with
    | cons q1 q2=>
     cases q1;rw[map_cons,jA h2 q2 qb]
  | _=>simp[c7] at e
theorem vg (bs:List Bool):(List.range bs.length).any (fun i=>bs.getD i false)=bs.any id:=by
 rw[Bool.eq_iff_iff];simp only[any_eq_true,mem_range,id];constructor
 ·rintro ⟨i,hi,h⟩;rw[getD_eq_getElem?_getD,getElem?_eq_getElem hi] at h;exact⟨_,getElem_mem hi,h⟩
 ·rintro ⟨b,hb,h⟩;obtain⟨i,hi,e⟩:=mem_iff_getElem.mp hb;refine⟨i,hi,?_⟩;rw[getD_eq_getElem?_getD,getElem?_eq_getElem hi];rw[←e] at h;exact h
section
variable {X:Cx}
theorem lH {prog:Program}{w:World}{A:Around}(bs:List Bool):TruthOf prog w A (fun i v=>((bs.map Value.bool).toArray)[i]?=some v) (fun i=>bs.getD i false):=fun i v s Q E hP hQ=>by
 have hP:(bs.map Value.bool)[i]?=some v:=by simpa using hP
 rw[getElem?_map] at hP;cases q:bs[i]? with
 | none=>rw[q] at hP;cases hP
 | some b=>
  rw[q] at hP;cases hP;have e:bs.getD i false=b:=by rw[getD_eq_getElem?_getD,q];rfl
  dsimp only at hQ;rw[e] at hQ;exact wpAny_truthy_bool hQ
theorem rm {af:List (Addr×Obj)}{σ:L2.St}{H:Hp}{s:Shared}{d:D}{θ:List Addr}{M:aw}{xs:List D}{bs:List Bool}{v:V}{u:Value}(hc:X.calm=true)(I:L2.Inv X af σ H s)(hw:Wr X.K θ H M)(rv:c6 X.K θ H d v)(ru:bi v u)(q:aU d M=some xs)(qb:c7 xs=some bs){Q:Bool→Hp→Prop}{f:(Nat→Bool)→Nat→Bool}{E:Value→Shared→Prop}
  (h:∀h' tk,L2.Inv X af σ H {s with heap:=h',toks:=tk}→Q (f (fun i=>bs.getD i false) bs.length) H) :
  wpAny (model X.prog X.w) X.A.in1 (pyIter u) (fun it s₂=>∃I fp wr n P St tr,it=.ref I∧Walks X.prog X.w X.A.in1 I fp wr n P St∧St 0 s₂.heap∧TruthOf X.prog X.w X.A.in1 P tr∧
   ∀h' tk,(∀b o,b∉wr→s₂.heap.get? b=some o→h'.get? b=some o)→EP X af σ (fun v H=>∃b,v=.bl b∧Q b H) (.bool (f tr n)) {s₂ with heap:=h',toks:=tk}) E s:=by
 have hh:X.A.in1.handled=none:=I.ok.hd hc;obtain⟨a,vs,ea,sq,ra⟩:=k7 hw rv q;subst ea;cases ru;rcases sq with sq|sq
 ·obtain⟨its,r1,p,hz⟩:=I.list sq;have e:=jA ra r1 qb;subst e;have hlt:a<s.heap.objs.size:=by obtain⟨o,n,e,_⟩:=p;exact Heap.lt_size e
  refine wpAny_pyIter_list p.isList ⟨s.heap.objs.size,_,_,_,_,_,_,rfl,Walks.list hh s.heap.objs.size a (Nat.ne_of_lt hlt) _,⟨⟨_,Heap.get?_push_size _ rfl,rfl,rfl⟩,p.isList.push _⟩,lH bs,fun h' tk k=>?_⟩;have I':L2.Inv X af σ H {s with heap:=h',toks:=tk}:=I.kept fun b o e=>k b o (by have:=Heap.lt_size e;simp;exact Nat.ne_of_lt this) (Heap.get?_push_of_some _ e)
  refine⟨.bl _,H,I',rfl,_,rfl,?_⟩;have:=h h' tk I';simpa using this
 ·obtain⟨its,r1,p,hz⟩:=I.tuple sq;have e:=jA ra r1 qb;subst e;have hlt:a<s.heap.objs.size:=by obtain⟨o,e,_⟩:=p;exact Heap.lt_size e
  have pt:s.heap.IsTuple a (bs.map Value.bool).toArray:=p;refine wpAny_pyIter_tuple pt ⟨s.heap.objs.size,_,_,_,_,_,_,rfl,Walks.tuple hh s.heap.objs.size a (Nat.ne_of_lt hlt) _,⟨⟨_,Heap.get?_push_size _ rfl,rfl,rfl⟩,?_⟩,lH bs,fun h' tk k=>?_⟩
  ·obtain⟨o,e,r⟩:=p;exact⟨o,Heap.get?_push_of_some _ e,r⟩
  have I':L2.Inv X af σ H {s with heap:=h',toks:=tk}:=I.kept fun b o e=>k b o (by have:=Heap.lt_size e;simp;exact Nat.ne_of_lt this) (Heap.get?_push_of_some _ e)
  refine⟨.bl _,H,I',rfl,_,rfl,?_⟩;have:=h h' tk I';simpa using this
theorem B8 (hc:X.calm=true):cB X (.builtin "any") (rC X u7):=by
 intro af s σ H xs us Q I r h;obtain⟨θ,M,ds,hw,rd,h⟩:=h;unfold u7 at h;split at h
 ·rename_i d;obtain⟨v,e,rv⟩:=i6 rd;subst e;obtain⟨u,rfl,ru⟩:=iY r;split at h
  ·rename_i ys q;split at h
   ·rename_i bs qb;refine bR (call_any_walk (rm hc I hw rv ru q qb (Q:=fun b H=>Q (.bl b) H) (f:=fun tr n=>(List.range n).any tr) (fun h' tk I'=>?_))) fun u' s' ⟨v',H',I',r',b,eb,q'⟩=>⟨v',H',I',r',by rw[eb];exact q'⟩
    rw[vg];exact h _ θ H (.refl hw) rfl
   ·exact h.elim
  ·exact h.elim
 ·exact h.elim
def Fm:D→Option String
 | .non=>some "NoneType"
 | .bl _=>some "bool"
 | .int _=>some "int"
 | .str _=>some "str"
 | .tup _=>some "tuple"
 | .lst _=>some "list"
 | .ro _=>some "list"
 | _=>none
def zr (d:D)(M:aw):Option String:=match d with
 | .mr k=>match M[k]? with
  | some (.lst _)=>some "list"
  | _=>none
 | d=>Fm d
def rT (t T:String):Bool:=t==T||(t=="bool"&&T=="int")
def jQ (T:String)(g:GE):GE:=fun ρ M=>(g ρ M).bind fun d M1=>match zr d M1 with
 | some t=>.ok (.bl (rT t T)) M1
 | none=>.bad
def kq (T:String):Prop:=T="int"∨T="bool"∨T="str"∨T="tuple"∨T="list"
theorem dm (K:W.Frag){T:String}(hT:kq T):∀t∈["NoneType","bool","int","str","tuple","list"],W.kitOne K (.type t) (.type T)=some (rT t T):=by
 intro t ht;simp only[mem_cons,mem_nil_iff,or_false] at ht;rcases hT with rfl|rfl|rfl|rfl|rfl <;> rcases ht with rfl|rfl|rfl|rfl|rfl|rfl <;> rfl
theorem BU {T:String}(hT:kq T):cB X (.builtin "isinstance") (fun xs H Q=>∃θ M d v,Wr X.K θ H M∧c6 X.K θ H d v∧xs=[v,.ty T]∧aT X θ H Q (match zr d M with|some t=>.ok (.bl (rT t T)) M|none=>.bad)):=by
 intro af s σ H xs us Q I r h;obtain⟨θ,M,d,v,hw,rv,e,h⟩:=h;subst e;obtain⟨u,c,rfl,ru,rc⟩:=vK r;cases rc;have fin:∀t tk,zr d M=some t→EP X af σ Q (.bool (rT t T)) {s with toks:=tk}:=fun t tk e=>by
  rw[e] at h;exact⟨.bl _,H,I.tok _,rfl,h _ θ H (.refl hw) rfl⟩
 cases d with
 | non=>have e:v=.non:=rv;subst e;cases ru;exact W.kia_one W.kitx_none I.kIn True.intro (dm X.K hT "NoneType" (by simp)) (fun z=>nomatch z) fun tk=>fin _ tk rfl
 | bl b=>have e:v=.bl b:=rv;subst e;cases ru;exact W.kia_one W.kitx_bool I.kIn True.intro (dm X.K hT "bool" (by simp)) (fun z=>nomatch z) fun tk=>fin _ tk rfl
 | int i=>have e:v=.int i:=rv;subst e;obtain⟨t,rfl⟩:=ru;exact W.kia_one W.kitx_int I.kIn True.intro (dm X.K hT "int" (by simp)) (fun z=>nomatch z) fun tk=>fin _ tk rfl
 | str i=>have e:v=.str i:=rv;subst e;obtain⟨t,rfl⟩:=ru;exact W.kia_one W.kitx_str I.kIn True.intro (dm X.K hT "str" (by simp)) (fun z=>nomatch z) fun tk=>fin _ tk rfl
 | tup ds=>
  obtain⟨a,vs,e,ta,ra⟩:=rv;subst e;cases ru;obtain⟨its,_,⟨o,h1,h2,_⟩,_⟩:=I.tuple ta.sq;exact W.kia_one W.kitx_tuple I.kIn ⟨o,h1,h2⟩ (dm X.K hT "tuple" (by simp)) (fun z=>nomatch z) fun tk=>fin _ tk rfl
 | lst ds=>
  obtain⟨a,vs,e,ta,ra⟩:=rv;subst e;cases ru;obtain⟨its,_,⟨o,n,h1,h2,_⟩,_⟩:=I.list (ta.sq (K:=X.K));exact W.kia_one W.kitx_list I.kIn ⟨o,h1,h2⟩ (dm X.K hT "list" (by simp)) (fun z=>nomatch z) fun tk=>fin _ tk rfl
 | ro ds=>
  obtain⟨a,vs,e,ta,ra⟩:=rv;subst e;cases ru;obtain⟨its,_,⟨o,n,h1,h2,_⟩,_⟩:=I.list ta.sq;exact W.kia_one W.kitx_list I.kIn ⟨o,h1,h2⟩ (dm X.K hT "list" (by simp)) (fun z=>nomatch z) fun tk=>fin _ tk rfl
 | mr k=>
  obtain⟨a,e,ta⟩:=rv;subst e;cases ru;cases qm:M[k]? with
  | none=>simp only[zr,qm] at h;exact h.elim
  | some m=>
   cases m with
   | lst ys=>
    obtain⟨vs,hv,_⟩:=hw.at_ k a _ ta qm;obtain⟨its,_,⟨o,n,h1,h2,_⟩,_⟩:=I.list (X:=X) (xs:=vs) (.inl (.inl hv));exact W.kia_one W.kitx_list I.kIn ⟨o,h1,h2⟩ (dm X.K hT "list" (by simp)) (fun z=>nomatch z) fun tk=>fin _ tk (by simp only[zr,qm])
   | _=>simp only[zr,qm] at h;exact h.elim
 | exc c=>exact h.elim
 | any=>exact h.elim
theorem AM {T:String}{x:Str}{e:Expr}{p p2 pos:Pos}{g:GE}(hT:kq T)(hv:bootBuiltins x=some (.type T))(hg:Gl X x)(hm:X.mg x=none)(hgi:Gl X "isinstance")(hmi:X.mg "isinstance"=none)(he:PE X e (tE X g))
  (hn:x≠"__name__":=by decide) (hd:(x==("__debug__":Str))=false:=by decide) (hbi:bootBuiltins "isinstance"=some (.builtin "isinstance"):=by kernel_rfl) (hs:starEach [e,.Name x p2] X.env=(false,eval e X.env)::starEach [.Name x p2] X.env:=by rfl)
  (hs2:starEach [.Name x p2] X.env=(false,eval (.Name x p2) X.env)::starEach [] X.env:=by rfl) (hpl:(backTo pos (starEach [.Name x p2] X.env)).any (·.1)=false:=by rfl) :
  PE X (.Call (.Name "isinstance" p) [e,.Name x p2] [] pos) (tE X (jQ T g)):=
 (qR (BU hT) hgi hmi hbi (kj he (kj (yP hg hm hv (v:=.ty T) rfl hn hd) oP hs2) hs) (by decide) (by decide) hs hpl).of fun σ H Q hxx=>by
  obtain⟨ρ,θ,M,hd,hw,h⟩:=hxx;refine cN hd hw (aT X θ H Q) (fun c M' h=>h) (fun h=>h) h fun d M1 v θ1 H1 g1 r1 h1=>?_
  exact⟨θ1,M1,d,v,g1.wr,r1,rfl,aT.go g1 h1⟩
end
def i3:D→Bool
 | .non=>true
 | .bl _=>true
 | .int _=>true
 | .str _=>true
 | _=>false
def CO:D→V
 | .non=>.non
 | .bl b=>.bl b
 | .int i=>.int i
 | .str x=>.str x
 | _=>.non
theorem sZ {K:W.Frag}{θ:List Addr}{H:Hp}{d:D}{v:V}(r:c6 K θ H d v)(f:i3 d=true):v=CO d∧js v=true:=by
 cases d with
 | non=>have e:v=.non:=r;subst e;exact⟨rfl,rfl⟩
 | bl b=>have e:v=.bl b:=r;subst e;exact⟨rfl,rfl⟩
 | int b=>have e:v=.int b:=r;subst e;exact⟨rfl,rfl⟩
 | str b=>have e:v=.str b:=r;subst e;exact⟨rfl,rfl⟩
 | _=>cases f
theorem p8 {K:W.Frag}{θ:List Addr}{H:Hp}:∀{ds:List D} {vs:List V},aR K θ H ds vs→ds.all i3=true→vs=ds.map CO∧vs.all js=true
 | [],vs,r,f=>by have e:vs=[]:=r;subst e;exact⟨rfl,rfl⟩
 | d::ds,vs,r,f=>by
  obtain⟨v,rr,e,h1,h2⟩:=r;subst e;rw[all_cons,Bool.and_eq_true] at f;obtain⟨e1,f1⟩:=sZ h1 f.1;obtain⟨e2,f2⟩:=p8 h2 f.2;exact⟨by rw[map_cons,←e1,←e2],by rw[all_cons,f1,f2];rfl⟩
theorem yW {x y:D}(fx:i3 x=true)(fy:i3 y=true):yn (CO x) (CO y)=kE x y:=by
 cases x <;> first|exact ff fx|(cases y <;> first|exact ff fy|rfl)
theorem tP {x:D}:∀{ds:List D},i3 x=true→ds.all i3=true→Fd (CO x) (ds.map CO)=ds.any fun y=>kE y x
 | [],fx,fs=>rfl
 | d::ds,fx,fs=>by
  rw[all_cons,Bool.and_eq_true] at fs;have ih:=tP (x:=x) (ds:=ds) fx fs.2;unfold Fd at ih ⊢;rw[map_cons,any_cons,any_cons,ih,yW fs.1 fx]
def jD (neg:Bool):F2:=fun x y M=>match aU y M with
 | some xs=>if i3 x&&xs.all i3 then .ok (.bl ((xs.any fun y=>kE y x) != neg)) M else .bad
 | none=>.bad
section
variable {X:Cx}
theorem EY:gq X (compareOp .In) (rD X (jD false)):=by
 intro af s σ H x y v u Q I rx ry h;obtain⟨θ,M,dx,dy,hw,r1,r2,h⟩:=h;unfold jD at h;split at h
 ·rename_i xs q;split at h
  ·rename_i hc;rw[Bool.and_eq_true] at hc;obtain⟨a,vs,ea,sq,ra⟩:=k7 hw r2 q;obtain⟨e1,f1⟩:=sZ r1 hc.1;obtain⟨e2,f2⟩:=p8 ra hc.2;refine u3 af s σ H x y v u Q I rx ry ⟨a,vs,ea,sq,f1,f2,?_⟩;have:=h _ θ H (.refl hw) rfl;rw[Bool.bne_false] at this;rw[if_neg (by decide),e1,e2,tP hc.1 hc.2];exact this
  ·exact h.elim
 ·exact h.elim
end
section
variable {prog:Program}{w:World}{A:Around}{E:Value→Shared→Prop}{s:Shared}
theorem jp {α β:Type}{f:α→Option β}{g:α→β}:∀(l:List α),(∀k∈l,f k=some (g k))→l.filterMap f=l.map g
 | [],_=>rfl
 | k::l,h=>by rw[filterMap_cons,h k mem_cons_self,map_cons,jp l fun k' hk=>h k' (mem_cons_of_mem _ hk)]
theorem v5 (xs:Array Value):((List.range xs.size).filterMap fun(k:Nat)=>xs[(((xs.size:Int)-1)+(k:Int)*(-1)).toNat]?).toArray=xs.toList.reverse.toArray:=by
 congr 1;have e:∀k∈List.range xs.size,xs[(((xs.size:Int)-1)+(k:Int)*(-1)).toNat]?=some (xs.toList.reverse.getD k .none):=fun k hk=>by
  have hk:=mem_range.mp hk;have e1:(((xs.size:Int)-1)+(k:Int)*(-1)).toNat=xs.size-1-k:=by omega
  rw[e1,getD_eq_getElem?_getD,getElem?_reverse (by simpa using hk)];simp;rw[Array.getElem?_eq_getElem (by omega)];rfl
 rw[jp _ e];apply ext_getElem
 ·simp
 ·intro i h1 h2;simp at h1 h2 ⊢;rw[getElem?_eq_getElem (by simpa using h2)];simp
theorem jZ {t sl:Addr}{items:Array Value}{tk:Tok}{Q:Value→Shared→Prop}(ht:IsTup s.heap t items)(hs:s.heap.IsSliceOf sl .none .none (.int (-1) tk))
  (h:Q (.ref s.heap.objs.size) {s with heap:=s.heap.push {cls:=.type "tuple",data:=.seq items.toList.reverse.toArray}}) (hsz:items.size≤sizeLine):wpAny (model prog w) A (getItem (.ref t) (.ref sl)) Q E s:=by
 have hrev:sizeOk (.seq items.toList.reverse.toArray):=by
  show items.toList.reverse.toArray.size≤sizeLine;simpa using hsz
 obtain⟨os,hos,hcs,hds⟩:=id hs;have hTs:s.TypeIs (.ref sl) "slice":=⟨os,hos,hcs⟩;unfold getItem
 try with_reducible refine wpAny_holding ?_
 first|refine wpAny_bind (wpAny_pure ?_)|skip
 refine wpAny_bind (wpAny_sequenceKey ht.typeIs (by decide) ?_);refine wpAny_bind (wpAny_callSpecial?_slot (name:=Str.ofString "__getitem__") ht.typeIs PyProof.Rows.slot_tuple_getitem
  (wpAny_call_entry PyProof.Rows.slot_tuple_getitem ht.typeIs entry_tuple_getitem ?_ (args_tuple_getitem _ _)))
 show wpAny _ _ (Builtin.Tuple.tupleItemsOf (.ref t) >>= _) _ _ s;refine wpAny_bind (tupleItemsOf_ ht ?_);refine wpAny_bind (wpAny_typeOf hTs ?_);rw[if_pos (by decide)];refine wpAny_bind ?_;unfold Builtin.Slice.sliceApplied Builtin.Slice.sliceFields;refine wpAny_bind (wpAny_bind (wpAny_field hos hds (x:=.none) rfl (wpAny_bind (wpAny_field hos hds (x:=.none) rfl (wpAny_bind (wpAny_field hos hds (x:=.int (-1) tk) rfl (wpAny_pure ?_)))))));refine wpAny_bind (slicePart_int ?_);show wpAny _ _ (if((-1:Int)==0)=true then _ else _) _ _ s;rw[if_neg (by decide)];refine wpAny_bind (slicePart_none (wpAny_bind (slicePart_none (wpAny_bind (wpAny_pure ?_)))));have ea:Builtin.Slice.sliceAdjust none none (-1) (items.size:Int)=((items.size:Int)-1,-1):=by
  unfold Builtin.Slice.sliceAdjust;simp
 have ep:Builtin.Slice.slicePlaces ((items.size:Int)-1) (-1) (-1)=items.size:=by
  unfold Builtin.Slice.slicePlaces;simp only[show¬((-1:Int)>0) by decide,if_false]
  by_cases hz:items.size=0
  ·rw[hz];decide
  ·rw[if_pos (by omega)];simp
 show wpAny _ _ (match Builtin.Slice.sliceAdjust none none (-1) (items.size:Int) with|(lo,hi)=>pure (lo,(-1:Int),Builtin.Slice.slicePlaces lo hi (-1))) _ _ s;rw[ea];show wpAny _ _ (pure ((items.size:Int)-1,(-1:Int),Builtin.Slice.slicePlaces ((items.size:Int)-1) (-1) (-1))) _ _ s;rw[ep];refine wpAny_pure ?_;have hno:¬((((items.size:Int)-1)==0&&(-1:Int)==1&&items.size==items.size)=true):=by
  intro q;rw[Bool.and_eq_true,Bool.and_eq_true] at q;exact absurd q.1.2 (by decide)
 show wpAny _ _ (if((((items.size:Int)-1)==0&&(-1:Int)==1&&items.size==items.size))=true then _ else _) _ _ s;rw[if_neg hno,v5]
 first
  | exact wpAny_bind (m:=Builtin.Tuple.tupleExact _) (wpAny_newObj_type (wpAny_pure ⟨_,rfl,wpAny_pure h⟩) hrev)
  | exact wpAny_bind (m:=Builtin.Tuple.tupleExact _) (wpAny_newObj_type (wpAny_bind (wpAny_pure (wpAny_pure ⟨_,rfl,wpAny_pure h⟩))) hrev)
  | exact wpAny_bind (wpAny_bind (m:=Builtin.Tuple.tupleExact _) (wpAny_newObj_type (wpAny_pure (wpAny_pure ⟨_,rfl,wpAny_pure h⟩)) hrev))
  | exact wpAny_bind (wpAny_bind (m:=Builtin.Tuple.tupleExact _) (wpAny_newObj_type (wpAny_pure ⟨_,rfl,wpAny_pure h⟩) hrev))
end
def sF (g:GE):GE:=fun ρ M=>(g ρ M).bind fun x M1=>match x with
 | .tup xs=>.ok (.tup xs.reverse) M1
 | _=>.bad
theorem kK {K:W.Frag}{θ:List Addr}{H:Hp}:∀{ds:List D} {vs:List V},aR K θ H ds vs→aR K θ H ds.reverse vs.reverse
 | [],vs,r=>by have e:vs=[]:=r;subst e;exact rfl
 | d::ds,vs,r=>by
  obtain⟨v,rr,e,h1,h2⟩:=r;subst e;rw[reverse_cons,reverse_cons];exact bU (kK h2) ⟨v,[],rfl,h1,rfl⟩
section
variable {X:Cx}
theorem Aw {e:Expr}{g:GE}{i j p1 p2 p3 pos}(hi:i=1)(he:PE X e (tE X g)):PE X (.Subscript e (.Slice none none (some (.UnaryOp .USub (.Constant (.int i) j p1) p2)) p3) pos) (tE X (sF g)):=by
 subst hi;intro af s σ H Q I h;obtain⟨ρ,θ,M,hd,hw,h⟩:=h;have h2:tE X g σ H (fun x H1=>∃a vs,x=.ref a∧lU X.K H1 a vs∧∀p,H1 p=none→Q (.ref p) (bS H1 p (.tup vs.reverse))):=by
  refine cN hd hw (aT X θ H Q) (fun c M' h=>h) (fun h=>h) h fun d M1 v θ1 H1 g1 r1 h1=>?_
  split at h1
  ·rename_i xs;obtain⟨a,vs,e1,ta,ra⟩:=r1;exact⟨a,vs,e1,ta.sq,fun p hp=>h1 _ θ1 _ (g1.trans (cH g1.wr hp)) (ej g1.wr hp (kK ra))⟩
  ·exact h1.elim
 refine Subscript_ (bR (he af s σ H _ I h2) fun v s1 hxx=>?_);obtain⟨x,H1,I1,r1,a,vs,ex,sq,q1⟩:=hxx;subst ex;cases r1;refine wpAny_Slice ?_;rw[evalPart_none];refine wpAny_pure (wpAny_pure ?_);rw[evalPart_some];refine bR ((Ap v9 xm) af s1 σ H1 (fun y H'=>y=.int (-1)∧H'=H1) I1 ⟨1,rfl,rfl,rfl⟩) fun vst s3 hxx=>?_
 obtain⟨y,H3,I3,r3,ey,eH⟩:=hxx;subst ey;subst eH;obtain⟨tk,rfl⟩:=r3;have I4:L2.Inv X af σ H3 {s3 with heap:=s3.heap.push {cls:=.type "slice",data:=.fields #[.none,.none,.int (-1) tk]}}:=I3.kept (t':=s3.toks) fun b ob q=>Heap.get?_push_of_some _ q
 obtain⟨its,rv,ht,hz⟩:=I4.tuple sq;have hlen:its.toArray.size=vs.length:=by rw[size_toArray];exact rv.length.symm
 refine tail_any (ops:=[.ref a,.ref s3.heap.objs.size]) ht.typeIs PyProof.Rows.slot_tuple_getitem.lookup (jZ ht (Heap.IsSliceOf.new ..) ?_ (by rw[hlen];exact hz)) (by with_unfolding_all rfl);refine⟨.ref _,_,I4.laid (t':=s3.toks) (o:=.tup vs.reverse) (fun b ob q=>Heap.get?_push_of_some _ q) (Nat.le_refl _) ?_,rfl,q1 _ (I4.hok.fresh (Nat.le_refl _))⟩;exact⟨by rw[length_reverse];exact hz,_,rv.reverse,IsTup.new _ _⟩
def pM (k:Nat)(x:D)(M:aw):aM D:=match M[k]? with
 | some (.lst xs)=>if xs.length<sizeLine then .ok .non (M.set k (.lst (xs++[x]))) else .bad
 | _=>.bad
def ia (go ge:GE):GE:=fun ρ M=>(go ρ M).bind fun o M1=>match o with
 | .mr k=>match M1[k]? with
  | some (.lst _)=>(ge ρ M1).bind (pM k)
  | _=>.bad
 | _=>.bad
theorem uy {o e:Expr}{go ge:GE}{apos cpos:Pos}(ho:PE X o (tE X go))(he:PE X e (tE X ge))
  (hbase:attributeBase o "append" X.env (eval o X.env)=eval o X.env:=by rfl)
  (hfew:((backTo cpos (starEach [e] X.env)).all (fun x=>!x.1)&&(backToKw cpos (keywordEach [] X.env)).all (fun x=>x.1.isSome)
   && decide ([e].length+([]:List Keyword).length+(if([]:List Keyword).isEmpty then 0 else 1)<30))=true:=by rfl)
  (hline:(apos.endLine==cpos.line)=true:=by rfl) (hs:starEach [e] X.env=(false,eval e X.env)::starEach [] X.env:=by rfl) (hplain:(backTo cpos (starEach [] X.env)).any (·.1)=false:=by rfl) :
  PE X (.Call (.Attribute o "append" apos) [e] [] cpos) (tE X (ia go ge)):=
 (EF PySem.F.plainAttrs_list PySem.F.slot_list_append PySem.F.type_list_append uL ho (kj he oP hs) hbase hfew hline hs hplain).of fun σ H Q hxx=>by
  obtain⟨ρ,θ,M,hd,hw,h⟩:=hxx;refine cN hd hw (aT X θ H Q) (fun c M' h=>h) (fun h=>h) h fun d M1 v θ1 H1 g1 r1 h1=>?_
  have h2:=aT.go g1 h1;cases d with
  | mr k=>
   have h2:aT X θ1 H1 Q (match M1[k]? with|some (.lst _)=>(ge ρ M1).bind (pM k)|_=>.bad):=h2;cases qm1:M1[k]? with
   | none=>rw[qm1] at h2;exact h2.elim
   | some m1=>
    cases m1 with
    | obj _ _=>rw[qm1] at h2;exact h2.elim
    | dK _=>rw[qm1] at h2;exact h2.elim
    | dT _=>rw[qm1] at h2;exact h2.elim
    | lst ys1=>
     rw[qm1] at h2;obtain⟨a1,ea1,ta1⟩:=id r1;obtain⟨vs1,hv1,_⟩:=g1.wr.at_ k a1 _ ta1 qm1;refine⟨by rw[ea1];exact .inl ⟨rfl,vs1,.inl (.inl hv1)⟩,?_⟩;refine cN (hd.go g1) g1.wr (aT X θ1 H1 Q) (fun c M' h=>h) (fun h=>h) h2 fun dx M2 vx θ2 H2 g2 r2 h3=>?_
     have h3:aT X θ1 H1 Q (match M2[k]? with|some (.lst xs)=>if xs.length<sizeLine then .ok .non (M2.set k (.lst (xs++[dx]))) else .bad|_=>.bad):=h3;obtain⟨a,ea,ta⟩:=r1.go g2;cases qm:M2[k]? with
     | none=>rw[qm] at h3;exact h3.elim
     | some m=>
      cases m with
      | obj _ _=>rw[qm] at h3;exact h3.elim
      | dK _=>rw[qm] at h3;exact h3.elim
      | dT _=>rw[qm] at h3;exact h3.elim
      | lst ys=>
       rw[qm] at h3;obtain⟨vs,hv,ra⟩:=g2.wr.at_ k a _ ta qm;have h3:aT X θ1 H1 Q (if ys.length<sizeLine then .ok .non (M2.set k (.lst (ys++[dx]))) else .bad):=h3;split at h3
       ·rename_i hl;have gs:=xg (ds:=ys) g2.wr ta (bU ra (show aR X.K θ2 H2 [dx] [vx] from⟨vx,[],rfl,r2,rfl⟩));exact⟨a,vs,vx,ea,rfl,hv,by rw[←aq ra];exact hl,h3 _ θ2 _ (g2.trans gs) rfl⟩
       ·exact h3.elim
  | _=>exact h2.elim
end
def bc (f:D→Option D):List D→Option (List D)
 | []=>some []
 | d::ds=>match f d,bc f ds with
  | some x,some xs=>some (x::xs)
  | _,_=>none
def frz (n:Nat)(M:aw):Nat→D→Option D
 | 0,_=>none
 | f+1,d=>match d with
  | .mr k=>if k<n then some (.mr k) else match M[k]? with
   | some (.lst xs)=>(bc (frz n M f) xs).map .lst
   | _=>none
  | .tup xs=>(bc (frz n M f) xs).map .tup
  | .lst xs=>(bc (frz n M f) xs).map .lst
  | .ro xs=>(bc (frz n M f) xs).map .ro
  | d=>some d
def qM (f:D→Option D):List (Str×D)→Option (List (Str×D))
 | []=>some []
 | (x,d)::r=>match f d,qM f r with
  | some e,some r'=>some ((x,e)::r')
  | _,_=>none
def nh {κ:Type}(f:D→Option D):List (κ×D)→Option (List (κ×D))
 | []=>some []
 | (x,d)::r=>match f d,nh f r with
  | some e,some r'=>some ((x,e)::r')
  | _,_=>none
def eV (n:Nat)(M:aw):List MO→Option (List MO)
 | []=>some []
 | .lst xs::r=>match bc (frz n M 30) xs,eV n M r with
  | some ys,some r'=>some (.lst ys::r')
  | _,_=>none
 | .obj c fs::r=>match qM (frz n M 30) fs,eV n M r with
  | some gs,some r'=>some (.obj c gs::r')
  | _,_=>none
 | .dK fs::r=>match nh (frz n M 30) fs,eV n M r with
  | some gs,some r'=>some (.dK gs::r')
  | _,_=>none
 | .dT fs::r=>match nh (frz n M 30) fs,eV n M r with
  | some gs,some r'=>some (.dT gs::r')
  | _,_=>none
def fJ (n:Nat)(o:aM D):aM D:=match o with
 | .ok d M=>if M.length=n then .ok d M else match frz n M 30 d,eV n M (M.take n) with
  | some d',some M'=>.ok d' M'
  | _,_=>.bad
 | .err c M=>if M.length=n then .err c M else match eV n M (M.take n) with
  | some M'=>.err c M'
  | none=>.bad
 | .bad=>.bad
section
variable {K:W.Frag}{θ more:List Addr}{H:Hp}{M:aw}{n:Nat}
theorem fB {f:D→Option D}{θ':List Addr}:∀{ds es:List D} {vs:List V},bc f ds=some es→aR K θ' H ds vs→(∀d∈ds,∀e v,f d=some e→c6 K θ' H d v→c6 K θ H e v)→aR K θ H es vs
 | [],es,vs,h,r,k=>by cases h;exact r
 | d::ds,es,vs,h,r,k=>by
  obtain⟨v,rr,e,h1,h2⟩:=r;unfold bc at h;cases q1:f d with
  | none=>rw[q1] at h;cases h
  | some x=>
   cases q2:bc f ds with
   | none=>rw[q1,q2] at h;cases h
   | some xs=>
    rw[q1,q2] at h;cases h;exact⟨v,rr,e,k d mem_cons_self x v q1 h1,fB q2 h2 fun d' hd=>k d' (mem_cons_of_mem _ hd)⟩
theorem lD (hw:Wr K (θ++more) H M)(hn:θ.length=n):∀(f:Nat) (d e:D) (v:V),frz n M f d=some e→c6 K (θ++more) H d v→c6 K θ H e v
 | 0,d,e,v,h,r=>by cases h
 | f+1,d,e,v,h,r=>by
  have ih:=lD hw hn f;have sub:∀{a:Addr},a∉θ++more→a∉θ:=fun {a} z y=>z (mem_append_left _ y)
  cases d with
  | mr k=>
   obtain⟨a,ea,ta⟩:=r
   by_cases hk:k<n
   ·have h:(if k<n then some (D.mr k) else _)=some e:=h;rw[if_pos hk] at h;cases h;exact⟨a,ea,by rw[getElem?_append_left (by rw[hn];exact hk)] at ta;exact ta⟩
   ·have h:(if k<n then some (D.mr k) else match M[k]? with|some (.lst xs)=>(bc (frz n M f) xs).map .lst|_=>none)=some e:=h;rw[if_neg hk] at h;cases qm:M[k]? with
    | none=>rw[qm] at h;cases h
    | some m=>
     cases m with
     | lst xs=>
      rw[qm] at h;have h:(bc (frz n M f) xs).map D.lst=some e:=h;obtain⟨vs,hv,ra⟩:=hw.at_ k a _ ta qm;cases qo:bc (frz n M f) xs with
      | none=>rw[qo] at h;cases h
      | some ys=>
       rw[qo] at h;cases h;refine⟨a,vs,ea,⟨hv,fun z=>?_⟩,fB qo ra fun d _ e v=>ih d e v⟩;rw[getElem?_append_right (by omega)] at ta;have hm:=mem_of_getElem? ta;exact(nodup_append.mp hw.nd).2.2 a z a hm rfl
     | _=>rw[qm] at h;cases h
  | tup xs=>
   have h:(bc (frz n M f) xs).map D.tup=some e:=h;cases qo:bc (frz n M f) xs with
   | none=>rw[qo] at h;cases h
   | some ys=>
    rw[qo] at h;cases h;obtain⟨a,vs,ea,ta,ra⟩:=r;exact⟨a,vs,ea,⟨ta.1,sub ta.2⟩,fB qo ra fun d _ e v=>ih d e v⟩
  | lst xs=>
   have h:(bc (frz n M f) xs).map D.lst=some e:=h;cases qo:bc (frz n M f) xs with
   | none=>rw[qo] at h;cases h
   | some ys=>
    rw[qo] at h;cases h;obtain⟨a,vs,ea,ta,ra⟩:=r;exact⟨a,vs,ea,⟨ta.1,sub ta.2⟩,fB qo ra fun d _ e v=>ih d e v⟩
  | ro xs=>
   have h:(bc (frz n M f) xs).map D.ro=some e:=h;cases qo:bc (frz n M f) xs with
   | none=>rw[qo] at h;cases h
   | some ys=>
    rw[qo] at h;cases h;obtain⟨a,vs,ea,ta,ra⟩:=r;refine⟨a,vs,ea,?_,fB qo ra fun d _ e v=>ih d e v⟩;rcases ta with⟨t1,t2⟩|t
    ·exact .inl ⟨t1,sub t2⟩
    ·exact .inr t
  | non=>cases h;exact r
  | bl b=>cases h;exact r
  | int b=>cases h;exact r
  | str b=>cases h;exact r
  | exc c=>
   cases h;obtain⟨a,C,ea,kc,t1,t2⟩:=r;exact⟨a,C,ea,kc,t1,sub t2⟩
  | any=>cases h;exact r
theorem tN {f:D→Option D}{θ':List Addr}:∀{fs gs:List (Str×D)} {vs:List (Str×V)},qM f fs=some gs→uX K θ' H fs vs→(∀d e v,f d=some e→c6 K θ' H d v→c6 K θ H e v)→uX K θ H gs vs
 | [],gs,vs,h,r,k=>by cases h;exact r
 | (x,d)::fs,gs,vs,h,r,k=>by
  obtain⟨v,rr,e,h1,h2⟩:=r;unfold qM at h;cases q1:f d with
  | none=>rw[q1] at h;cases h
  | some y=>
   cases q2:qM f fs with
   | none=>rw[q1,q2] at h;cases h
   | some ys=>
    rw[q1,q2] at h;cases h;exact⟨v,rr,e,k d y v q1 h1,tN q2 h2 k⟩
theorem oh {κ:Type}{f:D→Option D}{θ':List Addr}:∀{fs gs:List (κ×D)} {vs:List (κ×V)},nh f fs=some gs→rB K θ' H fs vs→(∀d e v,f d=some e→c6 K θ' H d v→c6 K θ H e v)→rB K θ H gs vs
 | [],gs,vs,h,r,k=>by cases h;exact r
 | (x,d)::fs,gs,vs,h,r,k=>by
  obtain⟨v,rr,e,h1,h2⟩:=r;unfold nh at h;cases q1:f d with
  | none=>rw[q1] at h;cases h
  | some y=>
   cases q2:nh f fs with
   | none=>rw[q1,q2] at h;cases h
   | some ys=>
    rw[q1,q2] at h;cases h;exact⟨v,rr,e,k d y v q1 h1,oh q2 h2 k⟩
theorem kD (hw:Wr K (θ++more) H M)(hn:θ.length=n):∀(l l':List MO),eV n M l=some l'→l'.length=l.length∧∀(i:Nat) m m' a,l[i]?=some m→l'[i]?=some m'→m7 K (θ++more) H m a→m7 K θ H m' a
 | [],l',h=>by cases h;exact⟨rfl,fun i m m' a e=>by simp at e⟩
 | .lst xs::r,l',h=>by
  unfold eV at h;cases q1:bc (frz n M 30) xs with
  | none=>rw[q1] at h;cases h
  | some ys=>
   cases q2:eV n M r with
   | none=>rw[q1,q2] at h;cases h
   | some r'=>
    rw[q1,q2] at h;cases h;obtain⟨hl,hr⟩:=kD hw hn r r' q2;refine⟨by rw[length_cons,length_cons,hl],fun i m m' a e1 e2 ok=>?_⟩;cases i with
    | zero=>
     have e1:some (MO.lst xs)=some m:=e1;have e2:some (MO.lst ys)=some m':=e2;cases e1;cases e2;obtain⟨vs,hv,ra⟩:=ok;exact⟨vs,hv,fB q1 ra fun d _ e v=>lD hw hn 30 d e v⟩
    | succ i=>exact hr i m m' a e1 e2 ok
 | .obj c fs::r,l',h=>by
  unfold eV at h;cases q1:qM (frz n M 30) fs with
  | none=>rw[q1] at h;cases h
  | some gs=>
   cases q2:eV n M r with
   | none=>rw[q1,q2] at h;cases h
   | some r'=>
    rw[q1,q2] at h;cases h;obtain⟨hl,hr⟩:=kD hw hn r r' q2;refine⟨by rw[length_cons,length_cons,hl],fun i m m' a e1 e2 ok=>?_⟩;cases i with
    | zero=>
     have e1:some (MO.obj c fs)=some m:=e1;have e2:some (MO.obj c gs)=some m':=e2;cases e1;cases e2;obtain⟨C,dx,vs,kC,hv,ra⟩:=ok;exact⟨C,dx,vs,kC,hv,tN q1 ra fun d e v=>lD hw hn 30 d e v⟩
    | succ i=>exact hr i m m' a e1 e2 ok
 | .dK fs::r,l',h=>by
  unfold eV at h;cases q1:nh (frz n M 30) fs with
  | none=>rw[q1] at h;cases h
  | some gs=>
   cases q2:eV n M r with
   | none=>rw[q1,q2] at h;cases h
   | some r'=>
    rw[q1,q2] at h;cases h;obtain⟨hl,hr⟩:=kD hw hn r r' q2;refine⟨by rw[length_cons,length_cons,hl],fun i m m' a e1 e2 ok=>?_⟩;cases i with
    | zero=>
     have e1:some (MO.dK fs)=some m:=e1;have e2:some (MO.dK gs)=some m':=e2;cases e1;cases e2;obtain⟨vs,hv,ra⟩:=ok;exact⟨vs,hv,oh q1 ra fun d e v=>lD hw hn 30 d e v⟩
    | succ i=>exact hr i m m' a e1 e2 ok
 | .dT fs::r,l',h=>by
  unfold eV at h;cases q1:nh (frz n M 30) fs with
  | none=>rw[q1] at h;cases h
  | some gs=>
   cases q2:eV n M r with
   | none=>rw[q1,q2] at h;cases h
   | some r'=>
    rw[q1,q2] at h;cases h;obtain⟨hl,hr⟩:=kD hw hn r r' q2;refine⟨by rw[length_cons,length_cons,hl],fun i m m' a e1 e2 ok=>?_⟩;cases i with
    | zero=>
     have e1:some (MO.dT fs)=some m:=e1;have e2:some (MO.dT gs)=some m':=e2;cases e1;cases e2;obtain⟨vs,hv,ra⟩:=ok;exact⟨vs,hv,oh q1 ra fun d e v=>lD hw hn 30 d e v⟩
    | succ i=>exact hr i m m' a e1 e2 ok
theorem xA {θ0:List Addr}{H0:Hp}{θ':List Addr}{H':Hp}{M' M2:aw}{n:Nat}(hn:θ0.length=n)(g:Go K θ0 H0 θ' H' M')(h:eV n M' (M'.take n)=some M2):Go K θ0 H0 θ0 H' M2:=by
 obtain⟨m,em,hm⟩:=g.ext;have hw:=g.wr;rw[em] at hw;obtain⟨hl,hr⟩:=kD hw hn _ _ h;have hlen:n≤M'.length:=by rw[←g.wr.len,em,length_append];omega
 refine⟨⟨⟨[],by simp,fun _ z=>by cases z⟩,g.keep,g.tkeep⟩,by rw[hl,length_take];omega,(nodup_append.mp hw.nd).1,fun i a mo e1 e2=>?_,g.wr.tb⟩;have hi:i<n:=by rw[←hn];exact(List.getElem?_eq_some_iff.mp e1).1
 have hiM:i<M'.length:=by omega
 refine hr i M'[i] mo a (by rw[getElem?_take_of_lt hi];exact getElem?_eq_getElem hiM) e2 (hw.at_ i a _ ?_ (getElem?_eq_getElem hiM));rw[getElem?_append_left (by rw[hn];exact hi)];exact e1
end
theorem B0 {P:Program}{w:World}{K:W.Frag}{mg:Str→Option Value}{base:Heap}{k n:Nat}{f:Addr}{fd:FuncData}{ps:List Str}{F:FD}{CX:vm}(h:eM P w K mg base CX k f fd ps (nl K n F)) :
  eM P w K mg base CX k f fd ps (nl K n fun ds M=>fJ M.length (F ds M)):=h.imp fun vs H Q E hxx=>by
 obtain⟨θ,M,ds,hl,r,hw,q⟩:=hxx;refine⟨θ,M,ds,hl,r,hw,?_⟩;have q:rP K θ H Q E (fJ M.length (F ds M)):=q;cases e:F ds M with
 | bad=>rw[e] at q;exact q
 | err c M1=>
  rw[e] at q;have q:rP K θ H Q E (if M1.length=M.length then .err c M1 else match eV M.length M1 (M1.take M.length) with|some M'=>.err c M'|none=>.bad):=q;split at q
  ·exact q
  ·split at q
   ·rename_i M2 e2;exact fun C θ' H' a kC g=>q C θ H' a kC (xA hw.len g e2)
   ·exact q.elim
 | ok d M1=>
  rw[e] at q;have q:rP K θ H Q E (if M1.length=M.length then .ok d M1 else match frz M.length M1 30 d,eV M.length M1 (M1.take M.length) with|some d',some M'=>.ok d' M'|_,_=>.bad):=q;split at q
  ·exact q
  ·split at q
   ·rename_i d' M2 e1 e2;intro v θ' H' g rd;refine q v θ H' (xA hw.len g e2) ?_;obtain⟨m,em,_⟩:=g.ext;have hw':=g.wr;rw[em] at hw' rd;exact lD hw' hw.len 30 d d' v e1 rd
   ·exact q.elim
structure Fn (K:W.Frag)(mg:Str→Option Value)(x:Str)(st:Stmt)(f:Addr)(fd:FuncData)(ps:List Str):Prop where
 F:yy K x x st f fd
 m:mg x=some (.ref f)
 b:i7 K fd ps []
section
variable {X:Cx}
theorem vv (i:Nat){x:Str}{pos:Pos}(hN:X.N[i]?=some x:=by rfl)(hv:CN X.env.scope x:=by first|exact Or.inl rfl|exact Or.inr (Or.inl rfl)|exact Or.inr (Or.inr rfl))(hd:(x==("__debug__":Str))=false:=by decide)
  (hcd:(x==("__classdict__":Str))=false:=by decide):PE X (.Name x pos) (tE X (ae i)):=CJ (Bp hN hv hd hcd)
theorem ss (i:Nat){x:Str}{pos pos':Pos}{e:Expr}{g:GE}(hN:X.N.Nodup)(he:PE X e (tE X g))(hi:X.N[i]?=some x:=by rfl)(hx:xK X.env.scope x:=by first|exact Or.inl rfl|exact Or.inr rfl)
  (hs:swapsWith e (some (.Name x pos')) pos.line X.env=pure false:=by rfl) (hf:X.fn x=true∨X.env.scope.names.lookup x=some .local:=by first|exact .inl rfl|exact .inr rfl) :
  PS X (.Assign [.Name x pos'] e pos) (tS X (aA i g)):=A3 hN hi hx he hs hf
theorem gg (i:Nat){x:Str}{pos:Pos}(hN:X.N.Nodup)(hi:X.N[i]?=some x:=by rfl)(hx:xK X.env.scope x:=by first|exact Or.inl rfl|exact Or.inr rfl)(hf:X.fn x=true∨X.env.scope.names.lookup x=some .local:=by first|exact .inl rfl|exact .inr rfl):PG X (.Name x pos) (tG X (bo i)):=l7 hN hi hx hf
end
theorem Bu {K:W.Frag}{F:FD}{H:Hp}{a:Addr}{ns:List Int}(tb:jx K H)(hS:iM K H a (ns.map V.int))(h:∃M',F [.ro (ns.map D.int)] []=.ok (.bl true) M'){E:XK}:nl K 1 F [.ref a] H (fun v _=>v=.bl true) E:=by
 obtain⟨M',e⟩:=h;refine⟨[],[],[.ro (ns.map D.int)],rfl,⟨_,[],rfl,⟨a,ns.map V.int,rfl,?_,?_⟩,rfl⟩,⟨rfl,nodup_nil,fun i a m e=>by simp at e,tb⟩,?_⟩
 ·rcases hS with h|h
  ·exact .inl ⟨h,by simp⟩
  ·exact .inr h
 ·clear e
  induction ns with
  | nil=>exact rfl
  | cons n ns ih=>
   refine⟨.int n,ns.map V.int,rfl,rfl,?_⟩;have gen:∀l:List Int,aR K [] H (l.map D.int) (l.map V.int):=by
    intro l
    induction l with
    | nil=>exact rfl
    | cons m l ih=>exact⟨_,_,rfl,rfl,ih⟩
   exact gen ns
 ·rw[e];exact fun v θ' H' g r=>r
def bP:Expr→Bool
 | .Starred _ _=>false
 | _=>true
def dJ (es:List Expr):Bool:=es.all bP
theorem sE {e:Expr}{es:List Expr}{env:Env}(h:bP e=true):starEach (e::es) env=(false,eval e env)::starEach es env:=by
 cases e <;> first|rfl|(simp[bP] at h)
theorem sS {pos:Pos}{env:Env}:∀{es:List Expr},dJ es=true→(backTo pos (starEach es env)).any (·.1)=false
 | [],_=>rfl
 | e::es,h=>by
  unfold dJ at h;rw[all_cons,Bool.and_eq_true] at h;have ih:=sS (pos:=pos) (env:=env) (es:=es) h.2;rw[sE h.1];unfold backTo at ih ⊢;rw[map_cons,any_cons,ih];rfl
section
variable {X:Cx}{e:Expr}{es:List Expr}{x:Str}{p pos:Pos}{k n:Nat}{f:Addr}{fd:FuncData}{ps:List Str}{F:FD}{ga:GA}{g:GE}{tg:Expr}
theorem Fq {gr:GA}(ha:PE X e (tE X g))(hr:PA X es (tA X gr))(h:bP e=true:=by rfl):PA X (e::es) (tA X (aa g gr)):=yU ha hr (sE h)
theorem Eb (Fn:eM X.prog X.w X.K X.mg X.base (gP X.prog X.w) k f fd ps (nl X.K n F))(hr:bp k X.A)(hg:Gl X x)(hm:X.mg x=some (.ref f))(hk:W.keepIn X.K (.ref f)=true)(hb:i7 X.K fd ps [])
  (ha:PA X (e::es) (tA X ga)) (hdb:(x==("__debug__":Str))=false:=by decide) (h1:bP e=true:=by rfl) (h2:dJ es=true:=by rfl) :
  PE X (.Call (.Name x p) (e::es) [] pos) (tE X (ap n F ga)):=zE Fn hr hg hm hk hb ha hdb (sE h1) (sS h2)
theorem Dp {id:String}(hc:cB X (.builtin id) (rC X F))(hg:Gl X x)(hm:X.mg x=none)(hv:bootBuiltins x=some (.builtin id))(ha:PA X (e::es) (tA X ga))(hn:x≠"__name__":=by decide)(hdb:(x==("__debug__":Str))=false:=by decide)
  (h1:bP e=true:=by rfl) (h2:dJ es=true:=by rfl):PE X (.Call (.Name x p) (e::es) [] pos) (tE X (aO F ga)):=wU hc hg hm hv ha hn hdb (sE h1) (sS h2)
theorem ES {T:String}(hc:cB X (.type T) (rC X F))(hg:Gl X x)(hm:X.mg x=none)(hv:bootBuiltins x=some (.type T))(ha:PA X (e::es) (tA X ga))(hn:x≠"__name__":=by decide)(hdb:(x==("__debug__":Str))=false:=by decide)
  (h1:bP e=true:=by rfl) (h2:dJ es=true:=by rfl):PE X (.Call (.Name x p) (e::es) [] pos) (tE X (aO F ga)):=uw hc hg hm hv ha hn hdb (sE h1) (sS h2)
theorem C4 {T:String}{p2:Pos}(hT:kq T)(hv:bootBuiltins x=some (.type T))(hg:Gl X x)(hm:X.mg x=none)(hgi:Gl X "isinstance")(hmi:X.mg "isinstance"=none)(he:PE X e (tE X g))
  (h1:bP e=true:=by rfl) (hn:x≠"__name__":=by decide) (hd:(x==("__debug__":Str))=false:=by decide):PE X (.Call (.Name "isinstance" p) [e,.Name x p2] [] pos) (tE X (jQ T g)):=
 AM hT hv hg hm hgi hmi he hn hd boot_isinstance (sE h1) (sE rfl) (sS rfl)
theorem Dj {a:Expr}(hg:Gl X "range")(hm:X.mg "range"=none)(ha:PA X [a] (tA X ga))(h1:bP a=true:=by rfl):PI X tg (.Call (.Name "range" p) [a] [] pos) (tI X (bA ga)):=uj hg hm ha (sE h1)
end
end DL
namespace DL
open PySem L2
theorem pc {j:Int}(h:-(2 ^ 62)≤j∧j<2 ^ 62)(M:aw):vT [.int j] M=.ok ⟨ay 0 j.toNat,none⟩ M:=by
 unfold vT;exact if_pos h
theorem xt {n:Nat}(h:n≤1000000)(M:aw):vT [.int (n:Int)] M=.ok ⟨ay 0 n,none⟩ M:=by
 have:=pc (j:=(n:Int)) (by omega) M;rw[this];rfl
theorem gG {ds:List D}{M:aw}:jN.ok ⟨ds,none⟩ M=true:=rfl
theorem gW {ds0:List D}{ge:GE}{ρ:bj}{P:aw→Prop}{Q:D→Prop}:∀(ds:List D),(∀d∈ds,∀M,P M→∃e M',P M'∧Q e∧ge (some d::ρ) M=.ok e M')→∀M,P M→
  ∃es M',P M'∧es.length=ds.length∧(∀e∈es,Q e)∧bb ⟨ds0,none⟩ a9 ge ds ρ M=.ok es M'
 | [],h,M,hM=>⟨[],M,hM,rfl,(fun e he=>by cases he),rfl⟩
 | d::ds,h,M,hM=>by
  obtain⟨e,M1,h1,q1,e1⟩:=h d List.mem_cons_self M hM;obtain⟨es,M2,h2,l2,q2,e2⟩:=gW (ds0:=ds0) ds (fun d' hd=>h d' (List.mem_cons_of_mem _ hd)) M1 h1;refine⟨e::es,M2,h2,by simp[l2],fun x hx=>?_,?_⟩
  ·rcases List.mem_cons.mp hx with z|z
   ·subst z;exact q1
   ·exact q2 x z
  ·simp[bb,gG,a9,e1,e2]
theorem gY {ds0:List D}{ge:GE}{ρ:bj}{f:D→D}{M:aw}:∀(ds:List D),(∀d∈ds,ge (some d::ρ) M=.ok (f d) M)→bb ⟨ds0,none⟩ a9 ge ds ρ M=.ok (ds.map f) M
 | [],h=>rfl
 | d::ds,h=>by
  have e1:=h d List.mem_cons_self;have e2:=gY (ds0:=ds0) ds fun d' hd=>h d' (List.mem_cons_of_mem _ hd)
  simp[bb,gG,a9,e1,e2]
theorem ir {d:D}{lo:Int}{n:Nat}(h:d∈ay lo n):∃k:Int,d=.int k∧lo≤k∧k<lo+n:=by
 unfold ay at h;obtain⟨k,hk,e⟩:=List.mem_map.mp h;have:=List.mem_range.mp hk;exact⟨lo+k,e.symm,by omega,by omega⟩
theorem aS (lo:Int)(n:Nat):(ay lo n).length=n:=by simp[ay]
theorem yb {ds:List D}{Q:Int→Prop}(h:∀d∈ds,∃k,d=.int k∧Q k):∃ks:List Int,ds=ks.map D.int∧∀k∈ks,Q k:=by
 induction ds with
 | nil=>exact⟨[],rfl,fun k hk=>by cases hk⟩
 | cons d ds ih=>
  obtain⟨k,e,q⟩:=h d List.mem_cons_self;obtain⟨ks,e2,q2⟩:=ih fun d' hd=>h d' (List.mem_cons_of_mem _ hd)
  refine⟨k::ks,by rw[e,e2];rfl,fun x hx=>?_⟩;rcases List.mem_cons.mp hx with z|z
  ·subst z;exact q
  ·exact q2 x z
theorem zN {ds:List D}{Q:List Int→Prop}(h:∀d∈ds,∃ks:List Int,d=.tup (ks.map D.int)∧Q ks):∃rs:List (List Int),ds=rs.map (fun r=>D.tup (r.map D.int))∧∀r∈rs,Q r:=by
 induction ds with
 | nil=>exact⟨[],rfl,fun k hk=>by cases hk⟩
 | cons d ds ih=>
  obtain⟨k,e,q⟩:=h d List.mem_cons_self;obtain⟨ks,e2,q2⟩:=ih fun d' hd=>h d' (List.mem_cons_of_mem _ hd)
  refine⟨k::ks,by rw[e,e2];rfl,fun x hx=>?_⟩;rcases List.mem_cons.mp hx with z|z
  ·subst z;exact q
  ·exact q2 x z
theorem bn {n:Nat}(h:n≤1000000):n≤sizeLine:=Nat.le_trans h (by rw[sizeLine_eq];decide)
theorem jh:∀ks ls:List Int,dQ (ks.map D.int) (ls.map D.int)=decide (ks=ls)
 | [],[]=>rfl
 | [],l::ls=>rfl
 | k::ks,[]=>rfl
 | k::ks,l::ls=>by
  show((k==l)&&dQ (ks.map D.int) (ls.map D.int))=_;rw[jh ks ls]
  by_cases h:k=l <;> simp[h]
end DL
namespace DL
@[simp] theorem Gw (i j:Int):kE (.int i) (.int j)=(i==j):=rfl
@[simp] theorem FV (i j:Bool):kE (.bl i) (.bl j)=(i==j):=rfl
@[simp] theorem Gy (i j:PySem.Str):kE (.str i) (.str j)=(i==j):=rfl
@[simp] theorem FG:kE .non .non=true:=rfl
@[simp] theorem Gf (i:Int):kE (.int i) .non=false:=rfl
@[simp] theorem Fw (i:Int):kE .non (.int i)=false:=rfl
@[simp] theorem Fy (xs ys:List D):kE (.tup xs) (.tup ys)=dQ xs ys:=rfl
@[simp] theorem Gr (xs ys:List D):kE (.lst xs) (.lst ys)=dQ xs ys:=rfl
@[simp] theorem DW:dQ [] []=true:=rfl
@[simp] theorem Fj (y:D) (ys:List D):dQ [] (y::ys)=false:=rfl
@[simp] theorem E9 (y:D) (ys:List D):dQ (y::ys) []=false:=rfl
@[simp] theorem E8 (x y:D) (xs ys:List D):dQ (x::xs) (y::ys)=(kE x y&&dQ xs ys):=rfl
@[simp] theorem CS (n:Nat) (i:Int):aY n (.int i)=true:=by cases n <;> rfl
@[simp] theorem Ef (n:Nat) (i:Bool):aY n (.bl i)=true:=by cases n <;> rfl
@[simp] theorem CU (n:Nat):aY n .non=true:=by cases n <;> rfl
@[simp] theorem CT (n:Nat) (x:PySem.Str):aY n (.str x)=PySem.PyData.strOk x:=by cases n <;> rfl
@[simp] theorem u9 (n:Nat) (xs:List D):aY (n+1) (.tup xs)=aW n xs:=rfl
@[simp] theorem uT (n:Nat) (xs:List D):aY (n+1) (.lst xs)=aW n xs:=rfl
@[simp] theorem Aj (xs:List D):aY 40 (.tup xs)=aW 39 xs:=u9 39 xs
@[simp] theorem Ak (xs:List D):aY 40 (.lst xs)=aW 39 xs:=uT 39 xs
@[simp] theorem BB (n:Nat):aW n []=true:=by cases n <;> rfl
@[simp] theorem Aa (n:Nat) (x:D) (xs:List D):aW n (x::xs)=(aY n x&&aW n xs):=by cases n <;> rfl
@[simp] theorem Fp (i:Int) (M:aw):now (.int i) M=.int i:=rfl
@[simp] theorem FU (i:Bool) (M:aw):now (.bl i) M=.bl i:=rfl
@[simp] theorem Ff (M:aw):now .non M=.non:=rfl
@[simp] theorem E6 (x:PySem.Str) (M:aw):now (.str x) M=.str x:=rfl
@[simp] theorem Fh (xs:List D) (M:aw):now (.tup xs) M=.tup xs:=rfl
@[simp] theorem Fi (xs:List D) (M:aw):now (.lst xs) M=.lst xs:=rfl
end DL
namespace DL
open PySem PySem.Spec PyProof.Rows L2 PySem.W PySem.Builtin PySem.Builtin.ObjectAttr PySem.Builtin.Getset_descriptor List
structure F4 (K:Frag)(C:Addr):Prop where
 cl:(clsIn K C).isSome=true
 ca:findIn K (.ref C) "__class__"=some (some (.builtin "object.__class__"))
 sp:specialIn K (.builtin "object.__class__") "__get__"=some (some (.builtin "getset_descriptor.__get__"))
 tk:takesIn K (.builtin "object.__class__")=some true
 ob:mroIn K C (.type "object")=some true
 ga:findIn K (.ref C) "__getattribute__"=some (some (.builtin "BaseException.__getattribute__"))
 gh:findIn K (.ref C) "__getattr__"=some none
 be:mroIn K C (.type "BaseException")=some true
end DL
namespace DL
open PySem PySem.Spec PyProof.Rows L2 List
abbrev FK:List Value:=[.type "ValueError",.type "Exception",.type "BaseException",.type "object"]
structure Ec (K:W.Frag)(mg:Str→Option Value)(c:Str)(C:Addr):Prop where
 at_:my K c C
 m:mg c=some (.ref C)
 k:F4 K C
 ex:W.excIn K C FK "ValueError.__new__"=true
 ty:W.typeIn K (.ref C)=some (.type "type")
 sf:W.mroIn K C (.ref C)=some true
def li (i:Nat):Fl→Fl
 | .nx ρ=>.nx (ρ.set i none)
 | .bk ρ=>.bk (ρ.set i none)
 | .ct ρ=>.ct (ρ.set i none)
 | .rt d=>.rt d
section
variable {X:Cx}
section
variable {o e:Expr}{go ge:GE}{apos cpos:Pos}
theorem Cy {env:Env}(h:bP e=true):((backTo cpos (starEach [e] env)).all (fun x=>!x.1)&&(backToKw cpos (keywordEach [] env)).all (fun x=>x.1.isSome)
   && decide ([e].length+([]:List Keyword).length+(if([]:List Keyword).isEmpty then 0 else 1)<30))=true:=by
 rw[sE h];rfl
end
end
end DL
namespace DL
open PySem L2
theorem EM {P:Program}{w:World}{H:Hp}{s:Shared}{e:Value}{s':Shared}(z:gP P w [] H s (fun _ _ _=>False) e s'):False:=by
 obtain⟨_,_,_,_,_,_,_,_,_,_,_,_,_,_,h⟩:=z;exact h
end DL
namespace DL
open PySem PySem.Spec PyProof.Rows L2 List
structure Kc (K:W.Frag)(mg:Str→Option Value)(c:Str)(C:Addr):Prop where
 at_:my K c C
 m:mg c=some (.ref C)
 cl:GQ K C
end DL
namespace DL
open PySem PySem.Spec PyProof.Rows L2 List
section
variable {prog:Program}{w:World}{A:Around}{E:Value→Shared→Prop}{s:Shared}
theorem rY {I a:Addr}{k:Nat}{its:Array Value}{x:Value}{Q:Value→Shared→Prop}(st:s.heap.IsTupleIter I a k)(ta:s.heap.IsTuple a its)(hx:its[k]?=some x)
  (q:∀h',h'.IsTupleIter I a (k+1)→Heap.SameBut I s.heap h'→Q x {s with heap:=h'}):wpAny (model prog w) A (Builtin.SmallTypes.nextOf (.ref I)) Q E s:=by
 obtain⟨u,hu,uc,ud⟩:=id st;obtain⟨oa,hoa,_,na,da⟩:=ta;unfold Builtin.SmallTypes.nextOf;refine wpAny_bind (wpAny_callSpecial?_slot (name:=Str.ofString "__next__") st.typeIs F.slot_tuple_iterator_next (wpAny_call_entry F.slot_tuple_iterator_next st.typeIs F.entry_tuple_iterator_next ?_ (F.args_tuple_iterator_next_1 _)));show wpAny _ _ (field (.ref I) 0 >>= _) _ _ s;refine wpAny_bind (wpAny_field hu ud (x:=.ref a) rfl ?_);show wpAny _ _ (if(Value.ref a==Value.none)=true then _ else _) _ _ s;rw[if_neg (show¬((Value.ref a==Value.none)=true) from Bool.false_ne_true)];show wpAny _ _ (field (.ref I) 1 >>= _) _ _ s;refine wpAny_bind (wpAny_field hu ud (x:=.int k 0) rfl ?_);show wpAny _ _ (seqItems? (.ref a) >>= _) _ _ s;refine wpAny_bind (wpAny_seqItems hoa da ?_);simp only[Int.toNat_natCast,hx];refine wpAny_bind (wpAny_setField hu ud (by simp) (wpAny_pure ⟨x,rfl,wpAny_pure (q _ ?_ (Heap.SameBut.update ..))⟩));exact⟨_,Heap.get?_update_self _ hu (Obj.isFreed_of_fields (Obj.data_mapFields ud _)),(Obj.cls_mapFields ..).trans uc,by rw[Obj.data_mapFields ud];simp[rawInt]⟩
theorem iU {I a:Addr}{k:Nat}{its:Array Value}{Q:Value→Shared→Prop}(hh:A.handled=none)(st:s.heap.IsTupleIter I a k)(ta:s.heap.IsTuple a its)(hx:its[k]?=none)
  (q:∀h' e,Heap.ExtBut I s.heap h'→(∃o,h'.get? e=some o∧o.cls=.type "StopIteration")→E (.ref e) {s with heap:=h'}):wpAny (model prog w) A (Builtin.SmallTypes.nextOf (.ref I)) Q E s:=by
 obtain⟨u,hu,uc,ud⟩:=id st;obtain⟨oa,hoa,_,na,da⟩:=ta;unfold Builtin.SmallTypes.nextOf;refine wpAny_bind (wpAny_callSpecial?_slot (name:=Str.ofString "__next__") st.typeIs F.slot_tuple_iterator_next (wpAny_call_entry F.slot_tuple_iterator_next st.typeIs F.entry_tuple_iterator_next ?_ (F.args_tuple_iterator_next_1 _)));show wpAny _ _ (field (.ref I) 0 >>= _) _ _ s;refine wpAny_bind (wpAny_field hu ud (x:=.ref a) rfl ?_);show wpAny _ _ (if(Value.ref a==Value.none)=true then _ else _) _ _ s;rw[if_neg (show¬((Value.ref a==Value.none)=true) from Bool.false_ne_true)];show wpAny _ _ (field (.ref I) 1 >>= _) _ _ s;refine wpAny_bind (wpAny_field hu ud (x:=.int k 0) rfl ?_);show wpAny _ _ (seqItems? (.ref a) >>= _) _ _ s;refine wpAny_bind (wpAny_seqItems hoa da ?_);simp only[Int.toNat_natCast,hx];refine wpAny_bind (wpAny_rule (wpAny_bind (wpAny_setField hu ud (by simp) ?_)));show wpAny _ _ (newExc (.type "StopIteration") [] >>= _) _ _ _;refine wpAny_bind ?_;simp only[newExc,newTuple];refine wpAny_bind (wpAny_newObj_type ?_ (by size_fits));refine wpAny_bind (m:=firstArgMember _ _) (wpAny_of_eq (a:=Value.none) (by first|rfl|(simp only[firstArgMember];rfl)) ?_);refine wpAny_newObj_type ?_ (by size_fits);simp only[raiseNew];refine wpAny_bind (wpAny_handled ?_)
 first|rw[show A.in1.handled=none from hh]|rw[hh]
 exact wpAny_bind (wpAny_pure (wpAny_throw (q _ _ (((Heap.SameBut.update ..).extBut.push _).push _) ⟨_,Heap.get?_push_size _ rfl,rfl⟩)))
end
theorem uu {prog:Program}{w:World}{A:Around}(hh:A.handled=none)(I a:Addr)(hne:a≠I)(its:Array Value) :
  Draws prog w A I [I,a] its.size (fun i v=>its[i]?=some v) (fun i h=>h.IsTupleIter I a i∧h.IsTuple a its) where
 live:=fun _ _ st=>let ⟨o,ho,_⟩:=st.1;⟨o,ho⟩
 frame:=fun _ _ _ st hk=>⟨st.1.at fun o e=>hk I (by simp) o e,let ⟨o,ho,r⟩:=st.2;⟨o,hk a (by simp) o ho,r⟩⟩
 item:=fun i s Q E hi st hQ=>rY st.1 st.2 (x:=its[i]) (by simp[hi]) fun h' hit' hs'=>hQ _ h' s.toks (by simp[hi]) ⟨hit',st.2.extBut hs'.extBut hne⟩ hs'
 done:=fun s Q E st hE=>iU hh st.1 st.2 (by simp) hE
open AutoSeq1 (wpAny_loadPart') in
theorem ow (a:Addr)(its:Array Value)(n:Nat)(dct:Option Addr)(sl:Array (Option Value)) :
  Meets (Builtin.«enumerate.__new__» ⟨[.type "enumerate",.ref a],[]⟩) (fun _ R s=>s.heap.get? a=some {cls:=.type "tuple",dict:=dct,data:=.seq its n,slots:=sl}∧
   R (.ok (.ret (.ref (s.heap.push {cls:=.type "tuple_iterator",data:=.fields #[.ref a,.int 0 0]}).objs.size)))
    {s with heap:=(s.heap.push {cls:=.type "tuple_iterator",data:=.fields #[.ref a,.int 0 0]}).push {cls:=.type "enumerate",data:=.fields #[.none,.bool false,.ref s.heap.objs.size,rawInt 0,.none,.none]}}):=
 .of_wp fun prog w A R s hh=>by
  obtain⟨hp,g,d,tk,os⟩:=s;obtain⟨ha,hr⟩:=hh;have hsub:=sub_enumerate;have hT:Heap.IsTuple (Shared.heap ⟨hp,g,d,tk,os⟩) a its:=⟨_,ha,rfl,n,rfl⟩
  wp_walk using wpAny_loadPart' ha
  refine wpAny_stack_any fun st=>wpAny_pure ?_
  split
  ·rename_i c _ _ _ _ _;cases (c==Value.type "enumerate")
   all_goals
    wp_walk using wpAny_loadPart' ha,wpAny_pyIter_tuple hT
    exact⟨_,rfl,hr⟩
  ·wp_walk using wpAny_loadPart' ha,wpAny_pyIter_tuple hT
   exact⟨_,rfl,hr⟩
theorem m8 {prog:Program}{w:World}{A:Around}{E:Value→Shared→Prop}{s:Shared}{a:Addr}{its:Array Value}{Q:Value→Shared→Prop}(hT:s.heap.IsTuple a its)
  (q:∀h',IsEnum h' (s.heap.objs.size+1) s.heap.objs.size 0 .none→h'.IsTupleIter s.heap.objs.size a 0→h'.objs.size=s.heap.objs.size+2→
   (∀b o,s.heap.get? b=some o→h'.get? b=some o)→Q (.ref (s.heap.objs.size+1)) {s with heap:=h'}):wpAny (model prog w) A (call (.type "enumerate") [.ref a]) Q E s:=by
 obtain⟨⟨c,dct,dt,sl⟩,ha,hc,n,hd⟩:=hT;have hc:c=.type "tuple":=hc;have hd:dt=.seq its n:=hd;subst hc hd;refine callType_new F.called_enumerate (by decide) (F.typeCall_enumerate_1 _) (F.newCall_enumerate_1 _) (fun obj=>F.args_object_init_2 obj _) F.entry_enumerate_new (ow a its n dct sl) ⟨ha,?_⟩;have hz:(s.heap.push {cls:=.type "tuple_iterator",data:=.fields #[.ref a,.int 0 0]}).objs.size=s.heap.objs.size+1:=Heap.size_push ..;show _∧_;rw[hz];have he:IsEnum ((s.heap.push {cls:=.type "tuple_iterator",data:=.fields #[.ref a,.int 0 0]}).push {cls:=.type "enumerate",data:=.fields #[.none,.bool false,.ref s.heap.objs.size,rawInt 0,.none,.none]}) (s.heap.objs.size+1) s.heap.objs.size 0 .none:=by
  have z:=Heap.get?_push_size (s.heap.push {cls:=.type "tuple_iterator",data:=.fields #[.ref a,.int 0 0]}) (o:={cls:=.type "enumerate",data:=.fields #[.none,.bool false,.ref s.heap.objs.size,rawInt 0,.none,.none]}) rfl;rw[hz] at z;exact z
 exact⟨⟨_,he,rfl⟩,q _ he ⟨_,Heap.get?_push_of_some _ (Heap.get?_push_size _ rfl),rfl,rfl⟩ (by rw[Heap.size_push,hz]) fun b o z=>Heap.get?_push_of_some _ (Heap.get?_push_of_some _ z)⟩
section
variable {X:Cx}{af:List (Addr×Obj)}{σ:L2.St}{H:Hp}{s:Shared}
theorem iu {ch:List Addr}{a:Addr}{o:HO}{h':Heap}{t':Nat}(I:L2.Inv X af σ H s)(hf:∀b∈ch,cA X af H b)(k:∀b u,b∉ch→s.heap.get? b=some u→h'.get? b=some u)
  (hp:s.heap.objs.size≤a) (new:dg X.prog X.w (bS H a o) h' a o):L2.Inv X af σ (bS H a o) {s with heap:=h',toks:=t'}:=by
 have hn:H a=none:=I.hok.fresh hp;have ne:∀{b:Addr} {u:HO},H b=some u→b≠a:=fun {b u} e z=>by rw[z,hn] at e;cases e
 have nch:∀b u,H b=some u→b∉ch:=fun b u e z=>by rw[(hf b z).1] at e;cases e
 refine I.step (g':=s.gens) (d':=s.drawn) (ch:=ch) (fun b hb=>⟨(hf b hb).2.2.2.1,(hf b hb).2.1,(hf b hb).2.2.2.2.1,(hf b hb).2.2.2.2.2⟩) (fun b u _ _ hc e _=>k b u hc e) (fun b u _ _ hc e _=>⟨u.slots,k b u hc e⟩)
  (fun b u _ e n=>by rw[au (Nat.ne_of_lt (Nat.lt_of_lt_of_le (Heap.lt_size e) hp))];exact n) (fun b u hc e=>⟨u,k b u hc e⟩) (fun b xs e=>by rw[au (ne e)];exact e) (fun b u v e=>by rw[au (ne e)];exact e)
  (fun b ps e=>⟨#[],by rw[au (ne e),e];simp⟩) (fun m hm=>?_) (fun b u e=>?_) I.bare
 ·obtain⟨u,es,ep,ho,r⟩:=hm;exact⟨u,es,ep,k _ u (fun z=>(hf _ z).2.1 rfl) ho,r⟩
 ·by_cases hb:b=a
  ·subst hb;rw[bZ] at e;cases e;exact new
  ·rw[au hb] at e;refine(I.hok b u e).stay (fun c v hc q=>k c v ?_ q) (fun c q=>by rw[au (ne q)];exact q) fun c xs q=>by rw[au (ne q)];exact q
   rcases hc with z|z
   ·rw[z];exact nch b u e
   ·exact nch c _ z
theorem nV {ch:List Addr}{h':Heap}{t':Nat}(I:L2.Inv X af σ H s)(hf:∀b∈ch,cA X af H b)(k:∀b u,b∉ch→s.heap.get? b=some u→h'.get? b=some u):L2.Inv X af σ H {s with heap:=h',toks:=t'}:=by
 have nch:∀b u,H b=some u→b∉ch:=fun b u e z=>by rw[(hf b z).1] at e;cases e
 refine I.step (g':=s.gens) (d':=s.drawn) (ch:=ch) (fun b hb=>⟨(hf b hb).2.2.2.1,(hf b hb).2.1,(hf b hb).2.2.2.2.1,(hf b hb).2.2.2.2.2⟩) (fun b u _ _ hc e _=>k b u hc e) (fun b u _ _ hc e _=>⟨u.slots,k b u hc e⟩)
  (fun b u _ e n=>n) (fun b u hc e=>⟨u,k b u hc e⟩) (fun b xs e=>e) (fun b u v e=>e) (fun b ps e=>⟨#[],by rw[e];simp⟩) (fun m hm=>?_) (fun b u e=>?_) I.bare
 ·obtain⟨u,es,ep,ho,r⟩:=hm;exact⟨u,es,ep,k _ u (fun z=>(hf _ z).2.1 rfl) ho,r⟩
 ·refine(I.hok b u e).stay (fun c v hc q=>k c v ?_ q) (fun c q=>q) fun c xs q=>q
  rcases hc with z|z
  ·rw[z];exact nch b u e
  ·exact nch c _ z
end
def C1 (K:W.Frag)(b:Bool)(H:Hp)(a:Addr)(xs:List V):Prop:=match b with
 | true=>lU K H a xs
 | false=>iM K H a xs
def uU (K:W.Frag)(b:Bool)(a:Addr):It:=
 ⟨fun i H=>∃xs x,C1 K b H a xs∧xs[i]?=some x,fun i H x H'=>∃p y,H p=none∧H'=bS H p (.tup [.int (i:Int),y])∧x=.ref p∧∀xs,C1 K b H a xs→xs[i]?=some y,fun i H=>∃xs,C1 K b H a xs∧xs.length≤i⟩
def eZ (b:Bool)(h:Heap)(it a:Addr)(i:Nat):Prop:=match b with
 | true=>h.IsTupleIter it a i
 | false=>h.IsListIter it a i
theorem eZ.at {b:Bool}{h h':Heap}{it a:Addr}{i:Nat}(x:eZ b h it a i)(e:∀o,h.get? it=some o→h'.get? it=some o):eZ b h' it a i:=by
 cases b with
 | true=>exact Heap.IsTupleIter.at x e
 | false=>exact Heap.IsListIter.at x e
theorem eZ.obj {b:Bool}{h:Heap}{it a:Addr}{i:Nat}(x:eZ b h it a i):∃o,h.get? it=some o∧(o.cls=.type "tuple_iterator"∨o.cls=.type "list_iterator")∧∃vs,o.data=.fields vs:=by
 cases b with
 | true=>obtain⟨o,e,c,d⟩:=x;exact⟨o,e,.inl c,_,d⟩
 | false=>obtain⟨o,e,c,d⟩:=x;exact⟨o,e,.inr c,_,d⟩
theorem uQ {P:Program}{w:World}{K:W.Frag}{es:List Expr}{kt:Nat}{pos:Pos}(b:Bool)(a e it:Addr):mZ P w K (.Tuple es kt pos) (uU K b a) [e,it] e (fun i h=>(∃old,IsEnum h e it (i:Int) old)∧eZ b h it a i) where
 mem:=by simp
 obj:=fun i h st c hc=>by
  obtain⟨⟨old,he⟩,hs⟩:=st;obtain⟨o,ho,_,vs,hd⟩:=hs.obj;rcases mem_cons.mp hc with q|q
  ·subst q;exact⟨_,he,fun v z=>by cases z⟩
  ·rw[mem_singleton.mp q];exact⟨o,ho,fun v z=>by rw[hd] at z;cases z⟩
 keep:=fun i h h' st k=>⟨st.1.imp fun old he=>k e (by simp) _ he,st.2.at fun o q=>k it (by simp) o q⟩
 item:=by
  intro X hP hw hK hc i af s σ H E I hf st hg;subst hP hw hK;obtain⟨⟨old,he⟩,hs⟩:=st;obtain⟨xs,x,hq,hx⟩:=hg;have hei:e≠it:=fun z=>by
   obtain⟨o,ho,hcl,_⟩:=hs.obj;rw[←z,he] at ho;cases ho;rcases hcl with q|q <;> simp at q
  have main:∀(its:List Value) (fp:List Addr) (St:Nat→Heap→Prop),aQ xs its→Draws X.prog X.w X.A.in1 it fp its.length (fun i v=>its[i]?=some v) St→e∉fp→St i s.heap→(∀h,St (i+1) h→eZ b h it a (i+1))→
    wpAny (model X.prog X.w) X.A (pyNext (.ref e)) (fun r s1=>∃u,r=some u∧
     wpAny (model X.prog X.w) X.A (letOwnedTupleGo (.Tuple es kt pos) (.ref e) u) (fun _ s2=>∃x H',L2.Inv X af σ H' s2∧bi x u∧(uU X.K b a).yld i H x H'∧((∃old,IsEnum s2.heap e it ((i+1:Nat):Int) old)∧eZ b s2.heap it a (i+1))∧∀b∈[e,it],H' b=none) E s1) E s:=by
   intro its fp St rv D hef hst hback;have hil:i<its.length:=by rw[←rv.length];exact(List.getElem?_eq_some_iff.mp hx).1
   obtain⟨u,hu,ru⟩:=rv.get hx;refine wpAny_pyNext_enum_itemD D he hst hil hei hef fun y h' tk hP ho hs' hT hsz hk=>?_
   have ey:y=u:=by
    have hP:its[i]?=some y:=hP;rw[hu] at hP;exact(Option.some.inj hP).symm
   subst ey;have helt:e<s.heap.objs.size:=Heap.lt_size he;refine⟨_,rfl,wpAny_letOwnedTupleGo_enum ho fun h2 he2 hs2=>?_⟩;have hs2:Heap.SameBut e h' h2:=hs2;have hT2:h2.get? s.heap.objs.size=some {cls:=.type "tuple",data:=.seq #[.int i tk,y]}:=(hs2.2 _ (Nat.ne_of_gt helt)).trans hT;have fr:H s.heap.objs.size=none:=I.hok.fresh (Nat.le_refl _);have new:dg X.prog X.w (bS H s.heap.objs.size (.tup [.int (i:Int),x])) h2 s.heap.objs.size (.tup [.int (i:Int),x]):=
    ⟨Nat.le_trans (by decide:2≤1000) (by rw[sizeLine_eq];decide),[.int i tk,y],.cons ⟨tk,rfl⟩ (.cons ru .nil),⟨_,hT2,rfl,_,rfl⟩⟩
   have I2:=iu (t':=tk+1) I hf (fun c o hc q=>(hs2.2 c (fun z=>hc (by simp[z]))).trans (hk c o (fun z=>hc (by simp[z])) (fun z=>hc (by simp[z])) q)) (Nat.le_refl _) new;have inj:∀ys,C1 X.K b H a ys→ys[i]?=some x:=fun ys hy=>by
    cases b with
    | true=>rw[I.tuple_inj hy hq];exact hx
    | false=>rw[I.list_inj hy hq];exact hx
   refine⟨.ref s.heap.objs.size,_,I2,rfl,⟨_,x,fr,rfl,rfl,inj⟩,⟨⟨y,by simpa using he2⟩,(hback h' hs').at fun o q=>(hs2.2 it (Ne.symm hei)).trans q⟩,fun c hc=>?_⟩;have:c≠s.heap.objs.size:=by
    obtain⟨o,ho2,_⟩:=hs.obj;rcases mem_cons.mp hc with q|q
    ·rw[q];exact Nat.ne_of_lt helt
    ·rw[mem_singleton.mp q];exact Nat.ne_of_lt (Heap.lt_size ho2)
   rw[au this];exact(hf c hc).1
  cases b with
  | false=>
   obtain⟨its,rv,p,hz⟩:=I.list (show iM X.K H a xs from hq);have hli:a≠it:=fun z=>by
    obtain⟨o,ho,hcl,_⟩:=hs.obj;obtain⟨ol,hol,hlc,_⟩:=p.isList;rw[z,ho] at hol;cases hol;rw[hlc] at hcl;rcases hcl with q|q <;> simp at q
   have hle:e≠a:=fun z=>by
    obtain⟨ol,hol,hlc,_⟩:=p.isList;rw[←z,he] at hol;cases hol;simp at hlc
   have D:=Draws.list (prog:=X.prog) (w:=X.w) (A:=X.A.in1) (show X.A.in1.handled=none from I.ok.hd hc) it a hli its.toArray;rw[size_toArray] at D;exact main its [it,a] (fun i h=>h.IsListIter it a i∧h.IsList a its.toArray) rv (by simpa using D) (by simp[hei,hle]) (show s.heap.IsListIter it a i∧s.heap.IsList a its.toArray from⟨hs,p.isList⟩) fun h q=>q.1
  | true=>
   obtain⟨its,rv,p,hz⟩:=I.tuple (show lU X.K H a xs from hq);have p:s.heap.IsTuple a its.toArray:=p;have hli:a≠it:=fun z=>by
    obtain⟨o,ho,hcl,_⟩:=hs.obj;obtain⟨ol,hol,hlc,_⟩:=id p;rw[z,ho] at hol;cases hol;rw[hlc] at hcl;rcases hcl with q|q <;> simp at q
   have hle:e≠a:=fun z=>by
    obtain⟨ol,hol,hlc,_⟩:=id p;rw[←z,he] at hol;cases hol;simp at hlc
   have D:=uu (prog:=X.prog) (w:=X.w) (A:=X.A.in1) (show X.A.in1.handled=none from I.ok.hd hc) it a hli its.toArray;rw[size_toArray] at D;exact main its [it,a] (fun i h=>h.IsTupleIter it a i∧h.IsTuple a its.toArray) rv (by simpa using D) (by simp[hei,hle]) (show s.heap.IsTupleIter it a i∧s.heap.IsTuple a its.toArray from⟨hs,p⟩) fun h q=>q.1
 done:=by
  intro X hP hw hK hc i af s σ H E I hf st hg;subst hP hw hK;obtain⟨⟨old,he⟩,hs⟩:=st;obtain⟨xs,hq,hx⟩:=hg;have hnx:∀h',Heap.ExtBut it s.heap h'→(none:Option Value)=none∧L2.Inv X af σ H {s with heap:=h'}:=fun h' hb=>
   ⟨rfl,nV (t':=s.toks) I hf fun c o hc q=>hb c o (fun z=>hc (by simp[z])) q⟩
  have hT:s.TypeIs (.ref e) "enumerate":=⟨_,he,rfl⟩;unfold pyNext;refine wpAny_bind (wpAny_attempt (wpAny_callSpecial?_slot (name:=Str.ofString "__next__") hT F.slot_enumerate_next (wpAny_call_entry F.slot_enumerate_next hT F.entry_enumerate_next ?_ (F.args_enumerate_next_1 _))));show wpAny _ _ (field (.ref e) 2 >>= _) _ _ _;refine wpAny_bind (wpAny_field he rfl (x:=.ref it) rfl (wpAny_bind ?_));have stp:∀h' x,Heap.ExtBut it s.heap h'→(∃o,h'.get? x=some o∧o.cls=.type "StopIteration")→wpAny (model X.prog X.w) X.A (isInstance (.ref x) (.type "StopIteration") >>= fun b=>if b=true then pure none else throw (Value.ref x)) (fun(r:Option Value) s1=>r=none∧L2.Inv X af σ H s1) E {s with heap:=h'}:=fun h' x hb hx'=>by
   obtain⟨o,ho,hcl⟩:=hx';refine wpAny_bind (wpAny_isInstance (T:="StopIteration") (b:=true) ⟨o,ho,hcl⟩ isSubtype_stop ?_);exact wpAny_pure (hnx _ hb)
  cases b with
  | false=>
   obtain⟨its,rv,p,hz⟩:=I.list (show iM X.K H a xs from hq);have hl:=rv.length;exact wpAny_nextOf_list_end (show X.A.in1.handled=none from I.ok.hd hc) hs p.isList (by simp;omega) stp
  | true=>
   obtain⟨its,rv,p,hz⟩:=I.tuple (show lU X.K H a xs from hq);have p:s.heap.IsTuple a its.toArray:=p;have hl:=rv.length;exact iU (show X.A.in1.handled=none from I.ok.hd hc) hs p (by simp;omega) stp
 self:=fun _ _ _ _ _ st h=>by
  obtain⟨⟨old,he⟩,_⟩:=st;exact wpAny_pyIter_enum he h
theorem yF {X:Cx}{es:List Expr}{kt:Nat}{tp:Pos}{l:Expr}{tl:TA}{p pos:Pos}(hg:Gl X "enumerate")(hm:X.mg "enumerate"=none)(hv:bootBuiltins "enumerate"=some (.type "enumerate"))(hl:PA X [l] tl)(hs:starEach [l] X.env=[(false,eval l X.env)]:=by rfl) :
  PI X (.Tuple es kt tp) (.Call (.Name "enumerate" p) [l] [] pos) (fun σ H R=>tl σ H fun xs H1=>∃a,xs=[.ref a]∧(((∃xs,iM X.K H1 a xs)∧R (uU X.K false a) H1)∨((∃xs,lU X.K H1 a xs)∧R (uU X.K true a) H1))):=by
 intro af s σ H R I h;refine Call_ (i9 I hg hm hv (PyProof.Rows.callWith_type1 (bR (hl pos af s σ H _ I h) fun us s1 hxx=>?_) hs rfl));obtain⟨vs,H1,I1,r1,q1⟩:=hxx;obtain⟨a,e,q1⟩:=q1;subst e;cases r1 with
 | cons r rr=>
  cases rr;have r:_=Value.ref a:=r;subst r;have fin:∀(b:Bool) (h':Heap),IsEnum h' (s1.heap.objs.size+1) s1.heap.objs.size 0 .none→eZ b h' s1.heap.objs.size a 0→h'.objs.size=s1.heap.objs.size+2→(∀c o,s1.heap.get? c=some o→h'.get? c=some o)→R (uU X.K b a) H1→
    wpAny (model X.prog X.w) X.A (pyIter (.ref (s1.heap.objs.size+1))) (Fz X af σ (.Tuple es kt tp) R) X.xe {s1 with heap:=h'}:=fun b h' he hi hz hk q=>by
   refine wpAny_pyIter_enum he ⟨_,[s1.heap.objs.size+1,s1.heap.objs.size],_,_,H1,rfl,I1.kept (t':=s1.toks) hk,uQ b a _ _,⟨⟨_,he⟩,hi⟩,fun c hc=>?_,q⟩;have hb:s1.heap.objs.size≤c:=by
    rcases mem_cons.mp hc with z|z
    ·rw[z];exact Nat.le_succ _
    ·rw[mem_singleton.mp z];exact Nat.le_refl _
   exact I1.fpOk hb (I1.hok.fresh hb)
  rcases q1 with⟨⟨xs,hq⟩,q⟩|⟨⟨xs,hq⟩,q⟩
  ·obtain⟨its,rv,p,hz⟩:=I1.list hq;exact call_enumerate_list p.isList fun h' he hi hz hk=>fin false h' he hi hz hk q
  ·obtain⟨its,rv,p,hz⟩:=I1.tuple hq;exact m8 (show s1.heap.IsTuple a its.toArray from p) fun h' he hi hz hk=>fin true h' he hi hz hk q
def cZ (ds:List D):List D:=(List.range ds.length).zipWith (fun(k:Nat) d=>D.tup [.int (k:Int),d]) ds
theorem jj {ds:List D}{i:Nat}{d:D}(h:(cZ ds)[i]?=some d):∃x,ds[i]?=some x∧d=.tup [.int (i:Int),x]:=by
 unfold cZ at h;rw[getElem?_zipWith] at h;cases q:ds[i]? with
 | none=>rw[q] at h;simp at h
 | some x=>
  have hi:=(List.getElem?_eq_some_iff.mp q).1;rw[q,getElem?_range hi] at h;exact⟨x,rfl,(Option.some.inj h).symm⟩
theorem dL (ds:List D):(cZ ds).length=ds.length:=by simp[cZ]
def wt (ds:List D)(M:aw):aM jN:=match ds with
 | [.lst xs]=>.ok ⟨cZ xs,none⟩ M
 | [.ro xs]=>.ok ⟨cZ xs,none⟩ M
 | [.tup xs]=>.ok ⟨cZ xs,none⟩ M
 | _=>.bad
def lF (g:GA):GI:=fun ρ M=>(g ρ M).bind wt
theorem mJ {K:W.Frag}{θ:List Addr}{H:Hp}{a:Addr}{ds:List D}{vs:List V}{b:Bool}(ta:∀θ1 H1,Grow θ H θ1 H1→C1 K b H1 a vs)(r:aR K θ H ds vs):rg K (uU K b a) θ H ⟨cZ ds,none⟩:=by
 intro θ1 H1 M1 g _ i;have t1:=ta θ1 H1 g.toGrow;have r1:=r.go g;refine⟨fun d e=>?_,fun hl=>⟨vs,t1,by rw[←aq r1];rw[dL] at hl;exact hl⟩⟩;obtain⟨x,ex,ed⟩:=jj e;subst ed;obtain⟨v,e1,rv⟩:=bQ r1 ex;refine⟨⟨vs,v,t1,e1⟩,fun x' H2 y=>?_⟩;obtain⟨p,y',np,eH,exr,hy⟩:=y;have e2:=hy vs t1;rw[e1] at e2;cases e2;subst eH exr;exact⟨cH g.wr np,ej (ds:=[.int (i:Int),x]) g.wr np ⟨_,_,rfl,rfl,_,_,rfl,rv,rfl⟩⟩
theorem zq {X:Cx}{es:List Expr}{kt:Nat}{tp:Pos}{l:Expr}{g:GA}{p pos:Pos}(hg:Gl X "enumerate")(hm:X.mg "enumerate"=none)(hv:bootBuiltins "enumerate"=some (.type "enumerate"))(hl:PA X [l] (tA X g))(hs:starEach [l] X.env=[(false,eval l X.env)]:=by rfl) :
  PI X (.Tuple es kt tp) (.Call (.Name "enumerate" p) [l] [] pos) (tI X (lF g)):=by
 intro af s σ H R I h;refine yF hg hm hv hl hs af s σ H R I ?_;obtain⟨ρ,θ,M,hd,hw,h⟩:=h;refine ko hd hw (uD X θ H R) (fun c M' h=>h) (fun h=>h) h fun ds M1 vs θ1 H1 g1 r1 h1=>?_
 unfold wt at h1;split at h1
 ·obtain⟨v,r,e,⟨a,us,e2,ta,rs⟩,rr⟩:=r1;have rr:r=[]:=rr;subst rr e2;exact⟨a,e,.inl ⟨⟨us,ta.sq⟩,h1 _ θ1 H1 g1 (mJ (b:=false) (fun θ2 H2 g2=>(ta.grow g2).sq) rs)⟩⟩
 ·obtain⟨v,r,e,⟨a,us,e2,ta,rs⟩,rr⟩:=r1;have rr:r=[]:=rr;subst rr e2;exact⟨a,e,.inl ⟨⟨us,ta.sq⟩,h1 _ θ1 H1 g1 (mJ (b:=false) (fun θ2 H2 g2=>(ta.grow g2).sq) rs)⟩⟩
 ·obtain⟨v,r,e,⟨a,us,e2,ta,rs⟩,rr⟩:=r1;have rr:r=[]:=rr;subst rr e2;exact⟨a,e,.inr ⟨⟨us,ta.sq⟩,h1 _ θ1 H1 g1 (mJ (b:=true) (fun θ2 H2 g2=>(ta.grow g2).sq) rs)⟩⟩
 ·exact h1.elim
end DL
namespace DL
open PySem PySem.Spec PyProof.Rows L2 List
def H0 (K:W.Frag)(a:Addr)(so:Obj)(xs:List V)(ts:List Addr)(bm:Addr)(ob:Obj):Hp:=fun b=>
 if b=a then(if K.lookup a=none then some (.frz so (.lst xs)) else none) else if b∈ts then some (.tbl #[]) else if b=bm then some (FW ob) else none
structure FI (K:W.Frag)(h:Heap)(ts:List Addr)(bm:Addr)(ob:Obj):Prop where
 tab:∀P∈ts,h.get? P=some (W.tabObj #[])∧isCodeTable h P∧K.lookup P=none
 names:∀x,x∈bN→∀c P,W.tabIn K x=some (c,P)→P∈ts
 bmk:W.nsIn K mainGlobals "__builtins__"=some (some (.ref bm))
 bmh:h.get? bm=some ob
 bmc:ob.cls=.type "module"∧ob.dict=some builtinsNs∧ob.data=.plain
 bmn:bm≠builtinsNs∧bm≠mainGlobals
 bml:K.lookup bm=none
theorem wb {K:W.Frag}{h:Heap}{a:Addr}{so:Obj}{xs:List V}{ts:List Addr}{bm:Addr}{ob:Obj}(L:FI K h ts bm ob)(ha:h.get? a=some so)(sc:so.cls=.type "list"):jx K (H0 K a so xs ts bm ob):=by
 have neT:∀P∈ts,P≠a:=fun P hP e=>by
  have:=(L.tab P hP).1;rw[e,ha] at this;cases this;cases sc
 have neB:bm≠a:=fun e=>by
  have:=L.bmh;rw[e,ha] at this;cases this;have:=L.bmc.1;rw[sc] at this;simp at this
 have nBT:bm∉ts:=fun hb=>by
  have:=(L.tab bm hb).1;rw[L.bmh] at this;cases this;have:=L.bmc.1;simp at this
 refine⟨fun x hx c P e=>?_,fun x hx c P e=>⟨bm,ob,L.bmk,?_,L.bmc.1,L.bmc.2.1,L.bmc.2.2,L.bmn⟩⟩
 ·have hP:=L.names x hx c P e;refine⟨#[],?_,by simp[TriplesOk],fun pos cv q=>by simp[codeAmong] at q⟩;unfold H0;rw[if_neg (neT P hP),if_pos hP]
 ·unfold H0;rw[if_neg neB,if_neg nBT,if_pos rfl]
theorem ua {P:Program}{w:World}{K:W.Frag}{mg mb:Str→Option Value}{CX:vm}{k:Nat}{fa a:Addr}{fd:FuncData}{x:Str}{sp:Sp}{s₁:Shared}{vs:List Value}{ns:List Int}{ts:List Addr}{bm:Addr}{ob:Obj}
  (KX:K.In s₁.heap) (hns:s₁.heap.Ns mainGlobals mg) (hb:s₁.heap.Ns builtinsNs mb) (hbb:∀x:Str,x≠"__name__"→mb x=bootBuiltins x) (hlim:s₁.heap.NoLimit) (hg:s₁.gens=#[])
  (ha:s₁.heap.get? a=some {cls:=.type "list",data:=.seq vs.toArray}) (hi:IntsAre vs ns) (hl:ns.length≤sizeLine) (hr:bp k callerA) (L:FI K s₁.heap ts bm ob)
  (F:∀base:Heap,K.In base→base.Ns mainGlobals mg→eM P w K mg base CX k fa fd [x] sp) (hbind:∀(s:Shared) (u:Value),BindsTo s fd ⟨[u],[]⟩ [(x,u)])
  (hsp:∀H:Hp,jx K H→iM K H a (ns.map V.int)→sp [.ref a] H (fun v _=>v=.bl true) fun _ _ _=>False)
  (hCX:∀H e s',CX [] H s₁ (fun _ _ _=>False) e s'→False) :
  codeAny (model P w) callerA (.call (.ref fa) ⟨[.ref a],[]⟩) (fun r s'=>r=.ok (.ret (.bool true))∧OldK s₁.heap s'.heap∧s'.os=s₁.os∧AllBare s'.gens) s₁:=by
 have rv:=nw hi;have lenV:=hi.length;have hH:∃H:Hp,H=H0 K a {cls:=.type "list",data:=.seq vs.toArray} (ns.map V.int) ts bm ob:=⟨_,rfl⟩;obtain⟨H,eH⟩:=hH;have tb:jx K H:=by rw[eH];exact wb L ha rfl
 have at_:∀b u,H b=some u→(b=a∧K.lookup a=none∧u=.frz {cls:=.type "list",data:=.seq vs.toArray} (.lst (ns.map V.int)))∨(b≠a∧b∈ts∧u=.tbl #[])∨(b=bm∧u=FW ob):=fun b u e=>by
  rw[eH] at e;unfold H0 at e
  by_cases h1:b=a
  ·rw[if_pos h1] at e
   by_cases h2:K.lookup a=none
   ·rw[if_pos h2] at e;cases e;exact .inl ⟨h1,h2,rfl⟩
   ·rw[if_neg h2] at e;cases e
  ·rw[if_neg h1] at e
   by_cases h2:b∈ts
   ·rw[if_pos h2] at e;cases e;exact .inr (.inl ⟨h1,h2,rfl⟩)
   ·rw[if_neg h2] at e
    by_cases h3:b=bm
    ·rw[if_pos h3] at e;cases e;exact .inr (.inr ⟨h3,rfl⟩)
    ·rw[if_neg h3] at e;cases e
 have hok:jM P w H s₁.heap:=fun b u e=>by
  rcases at_ b u e with⟨h1,_,h3⟩|⟨_,h2,h3⟩|⟨h1,h3⟩
  ·subst h1 h3;exact⟨ha,by rw[length_map];exact hl,vs,_,rv,ha⟩
  ·subst h3;exact(L.tab b h2).1
  ·subst h1 h3;exact⟨L.bmh,trivial,⟨_,L.bmh⟩,fun _ _ _ _=>trivial⟩
 have hS:iM K H a (ns.map V.int):=by
  cases hk:K.lookup a with
  | some o=>
   have e:=KX a o hk;rw[ha] at e;cases e;exact .inr ⟨_,vs.toArray,_,hk,rfl,rfl,rfl,by rw[size_toArray,lenV];exact hl,by simpa using rv⟩
  | none=>exact .inl (.inr ⟨{cls:=.type "list",data:=.seq vs.toArray},by rw[eH];unfold H0;rw[if_pos rfl,if_pos hk]⟩)
 have base_of:∀{b:Addr} {o:Obj},s₁.heap.get? b=some o→H b=none→(oM s₁.heap H).get? b=some o:=fun e n=>wl e n
 have noA:∀{b:Addr} {o:Obj} {es:Array DictEntry} {ep:Nat},s₁.heap.get? b=some o→o.data=.dict es ep→H b=none:=fun {b o es ep} e d=>by
  cases q:H b with
  | none=>rfl
  | some u=>
   exfalso;rcases at_ b u q with⟨h1,_,_⟩|⟨_,h2,_⟩|⟨h1,_⟩
   ·subst h1;rw[ha] at e;cases e;have d':Data.seq vs.toArray _=Data.dict es ep:=d;cases d'
   ·rw[(L.tab b h2).1] at e;cases e;cases d
   ·subst h1;rw[L.bmh] at e;cases e;rw[L.bmc.2.2] at d;cases d
 have nsK:∀{b:Addr} {m:Str→Option Value},s₁.heap.Ns b m→(oM s₁.heap H).Ns b m:=fun {b m} ⟨o,es,ep,e,d,r⟩=>⟨o,es,ep,base_of e (noA e d),d,r⟩
 have hKb:K.In (oM s₁.heap H):=fun b o e=>base_of (KX b o e) (by
  cases q:H b with
  | none=>rfl
  | some u=>
   exfalso;rcases at_ b u q with⟨h1,h2,_⟩|⟨_,h2,_⟩|⟨h1,_⟩
   ·subst h1;rw[h2] at e;cases e
   ·rw[(L.tab b h2).2.2] at e;cases e
   ·subst h1;rw[L.bml] at e;cases e)
 have hM:Mod K mg (oM s₁.heap H):=⟨hKb,nsK hns,⟨mb,nsK hb,hbb⟩,let ⟨mc,h1,h2⟩:=hlim;⟨mc,nsK h1,h2⟩⟩;have e0:rO P w K mg (oM s₁.heap H) callerA [] s₁ H:=⟨rfl,hM,fun b o e=>zS e,Nat.le_of_eq (tW _ _),trivial,fun b hb=>absurd (show b∈([]:List Addr) from hb) (by simp),hok,.of_eq hg⟩;refine codeAny_mono ((F _ hKb (nsK hns)).run callerA [] s₁ H ⟨[.ref a],[]⟩ [.ref a] [.ref a] _ _ hr e0 (hbind s₁ (.ref a)) (.cons rfl .nil) (hsp H tb hS)) fun r s' h=>?_
 cases r with
 | error e=>exact(hCX H e s' h).elim
 | ok fl=>
  cases fl with
  | next=>exact False.elim h
  | brk=>exact False.elim h
  | cont=>exact False.elim h
  | ret u=>
   obtain⟨v,H',os,bare,un,hok',r',q⟩:=h;have q':v=.bl true:=q;subst q';obtain rfl:u=Value.bool true:=r';refine⟨rfl,⟨fun b o e=>?_,fun b o e=>?_⟩,os,bare⟩
   ·cases q:H b with
    | none=>exact .inl (un.keep b o e q (by intro z;exact absurd (show b∈([]:List Addr) from z) (by simp)) (by simp))
    | some u=>
     rcases at_ b u q with⟨h1,_,h3⟩|⟨_,h2,h3⟩|⟨h1,h3⟩
     ·subst h3;have z2:=un.frzs b _ _ q;obtain⟨e1,_⟩:=hok b _ q;obtain⟨e2,_⟩:=hok' b _ z2;rw[e] at e1;cases e1;exact .inl e2
     ·subst h3;obtain⟨more,z2⟩:=un.tbls b _ q;have e1:s₁.heap.get? b=some {cls:=.none,data:=.fields #[]}:=hok b _ q;have e2:s'.heap.get? b=some {cls:=.none,data:=.fields (#[]++more)}:=hok' b _ z2;rw[e] at e1;cases e1;exact .inr (.inl ⟨(L.tab b h2).2.1,rfl,#[],more,rfl,e2⟩)
     ·subst h3;have z2:=un.frzs b _ _ q;obtain⟨e1,_⟩:=hok b _ q;obtain⟨e2,_⟩:=hok' b _ z2;rw[e] at e1;cases e1;exact .inl e2
   ·exact un.there b o e (by simp)
theorem AB {l:W.OpenLaw}{n k:Nat}{q:Program}{loose:List Str}{XP:(Str→Option Value)→Heap→Prop}{YP:World→Heap→Prop}{d:DefRec}{K:Params→W.Frag}{CX:World→vm}{sp:World→Sp}{x:Str}
  (hn:l.most=some n) (hn2:n≤sizeLine) (hdf:d.params.defaults=[]) (hr:bp k callerA)
  (hY:∀(w:World) (h:Heap),YP w h→(K w.params).In h)
  (F:∀(w:World) (mg:Str→Option Value) (fa:Addr) (h:Heap),(K w.params).In h→h.Ns mainGlobals mg→mg d.name=some (.ref fa)→
   ∃fd:FuncData,(∀(s:Shared) (u:Value),BindsTo s fd ⟨[u],[]⟩ [(x,u)])∧
    ∀base:Heap,(K w.params).In base→base.Ns mainGlobals mg→eM l.prog w (K w.params) mg base (CX w) k fa fd [x] (sp w))
  (tabs:∀w:World,∃(ls:List (Str×DefRec×Addr×Addr)) (bm:Addr),(∀p∈ls,(recsOf q).find? (fun e=>e.name==p.1)=some p.2.1∧W.tabIn (K w.params) p.1=some (p.2.2.1,p.2.2.2)∧(K w.params).lookup p.2.2.2=none)∧
   (∀y,y∈bN→W.nsIn (K w.params) mainGlobals y=some none∨∃p∈ls,p.1=y)∧W.nsIn (K w.params) mainGlobals "__builtins__"=some (some (.ref bm))∧(K w.params).lookup bm=none)
  (hsp:∀(w:World) (H:Hp) (a:Addr) (ns:List Int),ns.length≤n→jx (K w.params) H→iM (K w.params) H a (ns.map V.int)→sp w [.ref a] H (fun v _=>v=.bl true) fun _ _ _=>False)
  (hCX:∀(w:World) (H:Hp) (s:Shared) (e:Value) (s':Shared),CX w [] H s (fun _ _ _=>False) e s'→False) :
  W.WalkO q loose XP YP l.row.toRowW d [] (fun f vs=>PySem.call f vs):=by
 refine Att.attach_call hn hdf fun w s₀ s₁ mg mb fa o pm cd doc a vs ns G Y ho hd hcd hmg hobj hints hlen hg=>?_
 have KX:=hY w _ Y;obtain⟨fd,hb,hF⟩:=F w mg fa _ KX G.T.g hmg;obtain⟨ls,bm,hls,hnm,hbm,hbl⟩:=tabs w;obtain⟨bm',ob,b1,b2,b3,b4,b5,b6⟩:=G.T.bmain;have eb:bm'=bm:=by
  have:=W.mg_of KX G.T.g hbm;rw[b1] at this;cases this;rfl
 subst eb;have L:FI (K w.params) s₁.heap (ls.map (·.2.2.2)) bm' ob:=by
  refine⟨fun P hP=>?_,fun y hy c P e=>?_,hbm,?_,?_,?_,hbl⟩
  ·obtain⟨p,hp,rfl⟩:=mem_map.mp hP;obtain⟨h1,h2,h3⟩:=hls p hp;obtain⟨c1,c2⟩:=W.tab_of G.T KX h1 h2;exact⟨c2,(c1.tab c2).isCodeTable,h3⟩
  ·rcases hnm y hy with q|⟨p,hp,q⟩
   ·unfold W.tabIn at e;rw[q] at e;cases e
   ·subst q;obtain⟨h1,h2,h3⟩:=hls p hp;rw[h2] at e;cases e;exact mem_map.mpr ⟨p,hp,rfl⟩
  ·exact b3
  ·exact⟨b4,b5,b6⟩
  ·refine⟨b2,fun z=>?_⟩;obtain⟨o',es,ep,e1,e2,_⟩:=G.T.g;rw[←z,b3] at e1;cases e1;rw[b6] at e2;cases e2
 exact ua KX G.T.g G.T.b G.T.builtins G.T.nolimit hg hobj hints (Nat.le_trans hlen hn2) hr L hF hb (fun H hT hS=>hsp w H a ns hlen hT hS) fun H e s'=>hCX w H s₁ e s'
def tL (q:Addr)(fd:FuncData):HO:=.ext fun h=>h.get? q=some {cls:=.type "function",data:=.func fd}
abbrev nS (qual:Str)(params:Arguments)(body:Expr)(scope:Scope)(pm cv ctv:Value):FuncData:=W.kla_fn "<lambda>" qual params body scope [] pm cv ctv
theorem zA {P:Program}{w:World}{H:Hp}{h:Heap}{c:Addr}{q:Str}(ok:jM P w H h)(e:H c=some (gw c q)):h.CodeRec (.ref c) q:=(ok c _ e).1
theorem Ep {P:Program}{w:World}{H:Hp}{h:Heap}{q:Addr}{fd:FuncData}(ok:jM P w H h)(e:H q=some (tL q fd)):h.get? q=some {cls:=.type "function",data:=.func fd}:=(ok q _ e).1
def rf (k:Nat)(g:GE):FD:=fun ds M=>g (i8 k ds) M
theorem CA {P:Program}{w:World}{K:W.Frag}{mg:Str→Option Value}{base:Heap}{qual:Str}{params:Arguments}{body:Expr}{scope:Scope}{pm ctv:Value}{q c:Addr}{N ps:List Str}{k n:Nat}{g:GE}
  (S:c9 N ps scope) (hn:ps.length=n)
  (hbody:∀(A:Around) (outer:List Env) (s:Shared) (H:Hp) (E:XK),bp k (A.deeper (envOfC qual scope s.heap.objs.size q (.ref c)))→
   PE (fh (gP P w) P w K mg base N qual scope q (.ref c) A outer s H E) body (tE (fh (gP P w) P w K mg base N qual scope q (.ref c) A outer s H E) g)) :
  eM P w K mg base (gP P w) (k+1) q (nS qual params body scope pm (.ref c) ctv) ps (fun vs H Q E=>H q=some (tL q (nS qual params body scope pm (.ref c) ctv))∧H c=some (gw c qual)∧nl K n (rf (N.length-n) g) vs H Q E):=by
 refine⟨fun vs H Q E h=>lX hn vs H Q E h.2.2,fun A outer s H args us vs Q E hr e0 hb r hsp=>?_⟩;obtain⟨hq,hc,hsp⟩:=hsp;have hl:vs.length=ps.length:=lX hn vs H Q E hsp;have lim:s.heap.NoLimit:=e0.mod.nolimit.keeps fun b o e=>(e0.bs b o e).1
 have hkind:∀y∈ps.zip us,scope.names.lookup y.1=some .local∨(scope.names.lookup y.1=some .cell∧((cellsFrom (s.heap.objs.size+1) scope.names []).lookup y.1).isSome=true):=fun⟨m,v⟩ hy=>by
  rcases S.par m (of_mem_zip hy).1 with z|z
  ·exact .inl z
  ·exact .inr ⟨z,W.cellsFrom_some _ _ _ (.inl z)⟩
 refine W.kla_callFunE hr.depth (Ep e0.hok hq) rfl S.co S.gen rfl (zA e0.hok hc) (hb _ _ _ _ ?_);refine wpAny_newFunctionEnv_cells S.kind hkind fun env he s1 x=>?_
 subst he;refine⟨lim.keeps x.toInCall.keep,W.kla_codeExpr ?_⟩;have I:L2.Inv (fh (gP P w) P w K mg base N qual scope q (.ref c) A outer s H E) [] (L2.start N vs) H s1:=nM S hr.hd e0 hl r x;obtain⟨θ,M,ds,hld,rd,hw,h⟩:=hsp;have hv:vs.length=n:=by rw[←aq rd];exact hld
 refine wpAny_mono (hbody A outer s H E (hr.deeper _) [] s1 (L2.start N vs) H Q I ⟨i8 (N.length-n) ds,θ,M,by rw[←hv];exact Cb rd N,hw,?_⟩) (fun u s' hs=>?_) fun e s' hs=>hs
 ·have h:rP K θ H Q E (g (i8 (N.length-n) ds) M):=h;cases q:g (i8 (N.length-n) ds) M with
  | bad=>rw[q] at h;exact h
  | err c M1=>
   rw[q] at h;have h:wV K θ H E c M1:=h;exact fun C θ' H' a s' kC g1 fl=>jF fl (h C θ' H' a kC g1)
  | ok d M1=>rw[q] at h;exact h
 ·obtain⟨v,H',J,rv,q⟩:=hs;exact⟨v,H',J.os,J.bare,J.base,J.hok,rv,q⟩
structure qA (K:W.Frag)(x:Str)(c P:Addr):Prop where
 mem:x∈bN
 tab:W.tabIn K x=some (c,P)
 uniq:∀y,y∈bN→y≠x→∀c2,W.tabIn K y≠some (c2,P)
 hd:∃o vs file tf flags tg inF text tt,K.lookup c=some o∧o.cls=.type "code"∧o.data=.fields vs∧vs[11]?=some (.ref P)∧vs.getD 11 .none=.ref P∧vs.getD 18 .none=.str file tf∧
  vs.getD 7 .none=.int flags tg∧vs.getD 9 .none=.bool inF∧vs.getD 10 .none=.int text tt∧c≠P
theorem rM {pos:Pos}{a b:Int}{c cv:Value}(l:List Value)(h:TriplesOk l)(e:codeAmong pos (l++[rawInt a,rawInt b,c])=some cv):codeAmong pos l=some cv∨cv=c:=by
 fun_induction TriplesOk l with
 | case1=>
  simp only[nil_append,codeAmong,rawInt] at e;split at e
  ·exact .inr (Option.some.inj e).symm
  ·cases e
 | case2 a' t b' u x rest ih=>
  simp only[cons_append,codeAmong] at e ⊢;split at e
  ·rename_i hc;rw[if_pos hc];exact .inl e
  ·rename_i hc;rw[if_neg hc];exact ih h e
 | case3 l h1 h2=>exact h.elim
structure F3 (X:Cx)(θ:List Addr)(H:Hp)(M:aw)(qual:Str)(params:Arguments)(body:Expr)(scope:Scope)(u:Value)(H':Hp):Prop where
 ex:∃q c pm ctv,u=.ref q∧H q=none∧H' q=some (tL q (nS qual params body scope pm (.ref c) ctv))∧H' c=some (gw c qual)
 go:Go X.K θ H θ H' M
theorem rp {P:Program}{w:World}{H:Hp}{h:Heap}{a:Addr}{φ:Heap→Prop}(h1:φ h)(h2:∃o,h.get? a=some o)(h3:∀h1 h2:Heap,φ h1→(∀o,h1.get? a=some o→h2.get? a=some o)→φ h2):dg P w H h a (.ext φ):=⟨h1,h2,h3⟩
theorem xh {X:Cx}{af:List (Addr×Obj)}{σ:L2.St}{H:Hp}{s:Shared}{θ:List Addr}{M:aw}{x:Str}{c P:Addr}{params:Arguments}{body:Expr}{scope:Scope}{pos:Pos}
  (I:L2.Inv X af σ H s) (hw:Wr X.K θ H M) (T:qA X.K x c P) (hcode:X.env.code=.ref c) (hglob:X.env.globals=mainGlobals) (hq:X.env.qual++("<lambda>":Str)=bG x)
  (hcl:closureFor scope X.env=pure []) (hd:defaultsOf params X.env=([],[])) :
  wpAny (model X.prog X.w) X.A (eval (.Lambda params body scope pos) X.env) (fun u s'=>∃H',L2.Inv X af σ H' s'∧F3 X θ H M (bG x) params body scope u H') X.xe s:=by
 obtain⟨ps,hP,hT,hC⟩:=hw.tb.tab x T.mem c P T.tab;obtain⟨bm,ob,b1,b2,b3,b4,b5,b6,b7⟩:=hw.tb.bm x T.mem c P T.tab;have hPo:s.heap.get? P=some (W.tabObj ps):=I.hok P _ hP;have CH:W.CodeHd s.heap c P:=by
  obtain⟨o,vs,file,tf,flags,tg,inF,text,tt,e,r⟩:=T.hd;exact⟨o,vs,file,tf,flags,tg,inF,text,tt,I.kIn _ _ e,r⟩
 have hbo:s.heap.get? bm=some ob:=(I.hok bm _ b2).1;have hg:s.heap.Ns mainGlobals X.mg:=I.mod.glob.keeps I.bk;have hmgb:X.mg "__builtins__"=some (.ref bm):=W.mg_of I.kIn hg b1;have nbP:bm≠P:=fun z=>by rw[z,hP] at b2;cases b2
 have hb:s.heap.BuiltinsAt X.mg P:=⟨bm,ob,hmgb,b6,b7,nbP,hbo,b3,b4,b5⟩;have hgP:mainGlobals≠P:=fun z=>by
  obtain⟨o,es,ep,e1,e2,_⟩:=hg;rw[z,hPo] at e1;cases e1;cases e2
 rw[arm_eval_Lambda,hd];refine wpAny_bind (wpAny_evalAll_nil ?_);refine wpAny_bind (wpAny_holding (wpAny_pure ?_));rw[hq];have neP:∀b u,H b=some u→(∀ps,u≠.tbl ps)→b≠P:=fun b u e n z=>by rw[z,hP] at e;cases e;exact n _ rfl
 cases hf:codeAmong pos ps.toList with
 | some cv=>
  obtain⟨c',rfl,hc'⟩:=hC pos cv hf;refine W.kla_makeFunctionHit hcl hglob hg hcode CH hPo hT hf hb fun ctv h' tk hk hz=>?_
  have nq:H h'.objs.size=none:=I.hok.fresh hz;have nec:c'≠h'.objs.size:=fun z=>by rw[←z,hc'] at nq;cases nq
  refine⟨bS H h'.objs.size (tL h'.objs.size _),I.laid (t':=tk) (fun b o e=>Heap.get?_push_of_some _ (hk b o e)) hz (rp (Heap.get?_push_size _ rfl) ⟨_,Heap.get?_push_size _ rfl⟩ fun h1 h2 e k=>k _ e),⟨_,c',_,ctv,rfl,nq,bZ,by rw[au nec];exact hc'⟩,cH hw nq⟩
 | none=>
  refine W.kla_makeFunction hcl hglob hg hcode CH hPo hT hf hgP hb fun c' ctv h' tk hx hge hlt hrec htab=>?_
  have szle:s.heap.objs.size≤h'.objs.size:=Nat.le_of_lt (Nat.lt_of_le_of_lt hge hlt);have nq:H h'.objs.size=none:=I.hok.fresh szle;have nc:H c'=none:=I.hok.fresh hge;have ncq:c'≠h'.objs.size:=Nat.ne_of_lt hlt;have nPc:P≠c':=fun z=>by rw[←z,hP] at nc;cases nc
  have nPq:P≠h'.objs.size:=fun z=>by rw[←z,hP] at nq;cases nq
  let fd:FuncData:=nS (bG x) params body scope ((X.mg "__name__").getD .none) (.ref c') ctv
  let H':Hp:=bS (bS (bS H P (.tbl (ps++#[rawInt pos.line,rawInt pos.col,.ref c']))) c' (gw c' (bG x))) h'.objs.size (tL h'.objs.size fd)
  have atq:H' h'.objs.size=some (tL h'.objs.size fd):=bZ;have atc:H' c'=some (gw c' (bG x)):=by show bS _ _ _ c'=_;rw[au ncq,bZ]
  have atP:H' P=some (.tbl (ps++#[rawInt pos.line,rawInt pos.col,.ref c'])):=by show bS _ _ _ P=_;rw[au nPq,au nPc,bZ]
  have atb:∀b u,H b=some u→b≠P→H' b=some u:=fun b u e n=>by
   have n1:b≠h'.objs.size:=fun z=>by rw[z,nq] at e;cases e
   have n2:b≠c':=fun z=>by rw[z,nc] at e;cases e
   show bS _ _ _ b=_;rw[au n1,au n2,au n];exact e
  have kp:∀b o,b≠P→s.heap.get? b=some o→(h'.push (W.kla_obj "<lambda>" (bG x) params body scope [] ((X.mg "__name__").getD .none) c' ctv)).get? b=some o:=fun b o n e=>Heap.get?_push_of_some _ (hx b o n e)
  have un:Un X.fs [] H H' s.heap (h'.push (W.kla_obj "<lambda>" (bG x) params body scope [] ((X.mg "__name__").getD .none) c' ctv)):=by
   have ne:∀b o,s.heap.get? b=some o→H b=none→b≠P:=fun b o _ n z=>by rw[z,hP] at n;cases n
   refine⟨fun b o e n _ _=>kp b o (ne b o e n) e,fun b o e n _ _=>⟨o.slots,kp b o (ne b o e n) e⟩,fun b o e n _=>?_,fun b o e _=>?_,fun b xs e=>atb b _ e (neP b _ e (by intro _ z;cases z)),fun b o u e=>atb b _ e (neP b _ e (by intro _ z;cases z)),fun b qs e=>?_⟩
   ·have n1:b≠h'.objs.size:=Nat.ne_of_lt (Nat.lt_of_lt_of_le (Heap.lt_size e) szle);have n2:b≠c':=Nat.ne_of_lt (Nat.lt_of_lt_of_le (Heap.lt_size e) hge);show bS _ _ _ b=_;rw[au n1,au n2,au (ne b o e n)];exact n
   ·by_cases hb:b=P
    ·exact⟨_,by rw[hb];exact Heap.get?_push_of_some _ htab⟩
    ·exact⟨o,kp b o hb e⟩
   ·by_cases hb:b=P
    ·subst hb;rw[hP] at e;cases e;exact⟨_,atP⟩
    ·exact⟨#[],by rw[atb b _ e hb];simp⟩
  have hok:jM X.prog X.w H' (h'.push (W.kla_obj "<lambda>" (bG x) params body scope [] ((X.mg "__name__").getD .none) c' ctv)):=fun b u e=>by
   by_cases h1:b=h'.objs.size
   ·subst h1;rw[atq] at e;cases e;exact rp (Heap.get?_push_size _ rfl) ⟨_,Heap.get?_push_size _ rfl⟩ fun h1 h2 e k=>k _ e
   ·by_cases h2:b=c'
    ·subst h2;rw[atc] at e;cases e;refine rp (hrec.keeps fun b o e=>Heap.get?_push_of_some _ e) ?_ fun h1 h2 e k=>e.at k
     obtain⟨c2,o,vs,t,e1,e2,_⟩:=hrec;cases e1;exact⟨o,Heap.get?_push_of_some _ e2⟩
    ·by_cases h3:b=P
     ·subst h3;rw[atP] at e;cases e;exact Heap.get?_push_of_some _ htab
     ·have e:bS (bS (bS H P _) c' _) h'.objs.size _ b=some u:=e;rw[au h1,au h2,au h3] at e;refine(I.hok b u e).stay (fun b' v hb' z=>kp b' v ?_ z) (fun b' z=>atb b' _ z (neP b' _ z (by intro _ y;cases y))) fun b' xs z=>atb b' _ z (neP b' _ z (by intro _ y;cases y))
      rcases hb' with z|z
      ·rw[z];exact h3
      ·exact neP b' _ z (by intro _ y;cases y)
  refine⟨H',I.un (t':=tk) un hok,⟨h'.objs.size,c',_,ctv,rfl,nq,atq,atc⟩,?_⟩;have gr:Grow θ H θ H':=⟨⟨[],by simp,fun _ z=>by cases z⟩,fun b u e _ n=>atb b u e (neP b u e n),fun b qs e=>by
   by_cases hb:b=P
   ·rw[hb];exact⟨_,atP⟩
   ·exact⟨qs,atb b _ e hb⟩⟩
  refine⟨gr,hw.len,hw.nd,fun i a m h1 h2=>?_,?_,?_⟩
  ·have ok:=hw.at_ i a m h1 h2;obtain⟨o,eo,po⟩:=ok.plain;have e:H' a=H a:=by
    rw[eo];exact atb a o eo (neP a o eo (by intro qs z;subst z;cases po))
   exact ok.grow gr e
  ·intro y hy c2 P2 e2;obtain⟨qs,q1,q2,q3⟩:=hw.tb.tab y hy c2 P2 e2
   by_cases hPP:P2=P
   ·have hyx:y=x:=by
     refine Classical.byContradiction fun z=>?_
     rw[hPP] at e2;exact T.uniq y hy z c2 e2
    subst hyx hPP;rw[hP] at q1;cases q1;refine⟨_,atP,?_,fun pos' cv z=>?_⟩
    ·rw[Array.toList_append];exact TriplesOk_snoc _ _ _ _ q2
    ·rw[Array.toList_append] at z;rcases rM _ q2 z with z|z
     ·obtain⟨c3,e3,e4⟩:=q3 pos' cv z;exact⟨c3,e3,atb c3 _ e4 (neP c3 _ e4 (by intro _ y;cases y))⟩
     ·exact⟨c',z,atc⟩
   ·refine⟨qs,atb P2 _ q1 hPP,q2,fun pos' cv z=>?_⟩;obtain⟨c3,e3,e4⟩:=q3 pos' cv z;exact⟨c3,e3,atb c3 _ e4 (neP c3 _ e4 (by intro _ y;cases y))⟩
  ·intro y hy c2 P2 e2;obtain⟨bm2,ob2,z1,z2,r⟩:=hw.tb.bm y hy c2 P2 e2;exact⟨bm2,ob2,z1,atb bm2 _ z2 (neP bm2 _ z2 (by intro _ y;cases y)),r⟩
def ma:List D→Option (List Int)
 | []=>some []
 | .int i::r=>(ma r).map (i::·)
 | _=>none
def g6:D→Option (List Int)
 | .tup ds=>ma ds
 | _=>none
theorem pQ {K:W.Frag}{θ:List Addr}{H:Hp}:∀{ds:List D} {ks:List Int} {vs:List V},ma ds=some ks→aR K θ H ds vs→vs=ks.map V.int
 | [],ks,vs,h,r=>by cases h;exact r
 | d::ds,ks,vs,h,r=>by
  obtain⟨v,rr,e,h1,h2⟩:=r;cases d with
  | int i=>
   cases q:ma ds with
   | none=>simp[ma,q] at h
   | some l=>
    simp[ma,q] at h;subst h;have h1:v=.int i:=h1;rw[e,h1,pQ q h2];rfl
  | _=>cases h
theorem km {K:W.Frag}{θ:List Addr}{H:Hp}{d:D}{ks:List Int}{v:V}(h:g6 d=some ks)(r:c6 K θ H d v):∃a,v=.ref a∧jO K θ H a (ks.map V.int):=by
 cases d with
 | tup ds=>
  obtain⟨a,vs,e,t,rs⟩:=r;have:=pQ (show ma ds=some ks from h) rs;subst this;exact⟨a,e,t⟩
 | _=>cases h
def lI (F:FD):List D→D→List Int→aw→aM D
 | [],b,_,M=>.ok b M
 | d::r,b,kb,M=>match F [d] M with
  | .ok k M1=>match g6 k with
   | some ks=>if HT.lexLt ks kb then lI F r d ks M1 else lI F r b kb M1
   | none=>.bad
  | _=>.bad
def kZ (F:FD)(ds:List D)(M:aw):aM D:=match ds with
 | []=>.bad
 | d::r=>match F [d] M with
  | .ok k M1=>match g6 k with
   | some ks=>lI F r d ks M1
   | none=>.bad
  | _=>.bad
section
variable {X:Cx}{af:List (Addr×Obj)}{σ:L2.St}{q c:Addr}{fd:FuncData}{px qual:Str}{k:Nat}{F:FD}
theorem p5 {H:Hp}{s:Shared}{u:Value}{v:V}{Q:VK}{E:Value→Shared→Prop}{θ:List Addr}{M M1:aw}{d kd:D}
  (Fn:eM X.prog X.w X.K X.mg X.base (gP X.prog X.w) k q fd [px] (fun vs H Q E=>H q=some (tL q fd)∧H c=some (gw c qual)∧nl X.K 1 F vs H Q E)) (hr:bp k X.A.in1) (hb:∀(s:Shared) (u:Value),BindsTo s fd ⟨[u],[]⟩ [(px,u)])
  (I:L2.Inv X af σ H s) (hq:H q=some (tL q fd)) (hc:H c=some (gw c qual)) (hw:Wr X.K θ H M) (rv:bi v u) (rd:c6 X.K θ H d v) (e:F [d] M=.ok kd M1)
  (hQ:∀v' θ' H',Go X.K θ H θ' H' M1→c6 X.K θ' H' kd v'→Q v' H'):wpAny (model X.prog X.w) X.A.in1 (call (.ref q) [u]) (EP X af σ Q) E s:=by
 refine wpAny_call (codeAny_mono (Fn.run X.A.in1 X.stack s H ⟨[u],[]⟩ [u] [v] Q (fun _ _ _=>False) hr I.env0.in1 (hb s u) (.cons rv .nil) ⟨hq,hc,θ,M,[d],rfl,⟨v,[],rfl,rd,rfl⟩,hw,by rw[e];exact hQ⟩) fun r s' hq=>?_);cases r with
 | error e=>
  have hq:gP X.prog X.w X.stack H s (fun _ _ _=>False) e s':=hq;obtain⟨_,_,_,_,_,_,_,_,_,_,_,_,_,_,z⟩:=hq;exact z.elim
 | ok fl=>
  cases fl with
  | ret u=>exact I.after hq
  | next=>exact False.elim hq
  | brk=>exact False.elim hq
  | cont=>exact False.elim hq
theorem tm {H H':Hp}{b:Addr}(h:cA X af H b)(n:H' b=none):cA X af H' b:=⟨n,h.2⟩
theorem Eu {H:Hp}{s:Shared}{a b:Addr}{oa ob:Obj}(I:L2.Inv X af σ H s)(fa:cA X af H a)(fb:cA X af H b)(ea:s.heap.get? a=some oa)(eb:s.heap.get? b=some ob)(da:∀v,oa.data≠.cell v)(db:∀v,ob.data≠.cell v) :
  L2.Inv X (af++[(a,oa),(b,ob)]) σ H s:=I.pins_of fun p hp=>by
 rcases mem_append.mp hp with z|z
 ·exact I.pin p (mem_append_right _ z)
 ·simp only[mem_cons,mem_nil_iff,or_false] at z;rcases z with z|z <;> subst z
  ·exact⟨ea,fa.1,fa.2.1,fa.2.2.1,da⟩
  ·exact⟨eb,fb.1,fb.2.1,fb.2.2.1,db⟩
theorem xw {H:Hp}{s:Shared}{a b:Addr}{oa ob:Obj}(I:L2.Inv X (af++[(a,oa),(b,ob)]) σ H s):L2.Inv X af σ H s∧(s.heap.get? a=some oa∧H a=none)∧(s.heap.get? b=some ob∧H b=none):=by
 have p1:=I.pin (a,oa) (mem_append_right _ (mem_append_right _ (by simp)));have p2:=I.pin (b,ob) (mem_append_right _ (mem_append_right _ (by simp)));exact⟨I.unpinned,⟨p1.1,p1.2.1⟩,p2.1,p2.2.1⟩
theorem vq {l it S:Addr}{ds0:List D}{Q:VK}{R:Result→Shared→Prop}
  (Fn:eM X.prog X.w X.K X.mg X.base (gP X.prog X.w) k q fd [px] (fun vs H Q E=>H q=some (tL q fd)∧H c=some (gw c qual)∧nl X.K 1 F vs H Q E)) (hr:bp (k+1) X.A) (hb:∀(s:Shared) (u:Value),BindsTo s fd ⟨[u],[]⟩ [(px,u)]) (hcalm:X.calm=true)
  (hnI:S≠it) (hR:∀u s',EP X af σ Q u s'→R (.ok (.ret u)) s') :
  ∀(rest:List D) (j:Nat) (s:Shared) (H:Hp) (θ:List Addr) (M:aw) (b:D) (kb:List Int) (vb ukb:V) (ub ukv:Value) (n:Nat) (vs:List V),ds0.drop j=rest→L2.Inv X af σ H s→cA X af H it→cA X af H S→s.heap.IsListIter it l j→s.heap.get? S=some (seqObj "list" #[ub,ukv] n)→
   Wr X.K θ H M→j3 X.K θ H l vs→aR X.K θ H ds0 vs→H q=some (tL q fd)→H c=some (gw c qual)→c6 X.K θ H b vb→bi vb ub→(∃a,ukb=.ref a∧jO X.K θ H a (kb.map V.int))→bi ukb ukv→aT X θ H Q (lI F rest b kb M)→
   codeAny (model X.prog X.w) X.A (.builtin "min.loop" ⟨[.ref it,.ref q,.ref S],[]⟩) R s:=by
 have hname:(toString "min"++toString ".loop":String)="min.loop":=by decide
 have hr1:bp k X.A.in1:=hr.in1;intro rest
 induction rest with
 | nil=>
  intro j s H θ M b kb vb ukb ub ukv n vs hd I fi fS st eS hw ta r hq hc rb rvb rk rvk h;refine codeAny_builtin PySem.F.entry_min_loop ?_;rw[Around.under_plainId PySem.F.plain_min_loop _];show wpAny _ X.A.in1 (seqItems? (.ref S) >>= _) _ _ _;refine wpAny_bind (wpAny_seqItems eS rfl ?_);obtain⟨its,rv,p,hz⟩:=I.list ta.sq;have hlen:vs.length≤j:=by rw[←aq r];exact drop_eq_nil_iff.mp hd
  have hl:=rv.length;show wpAny _ X.A.in1 (tryCatch (pyNext (.ref it)) _ >>= _) _ _ _;refine wpAny_bind (wpAny_tryCatch (wpAny_pyNext_list_end (show X.A.in1.handled=none from I.ok.hd hcalm) st p.isList (by simp;omega) fun h' eb=>?_));have I1:L2.Inv X af σ H {s with heap:=h'}:=I.turned (t':=s.toks) (fun b o hb e=>eb b o hb e) fi.1 fi.2.1 fi.2.2.2.1 fi.2.2.2.2.1 fi.2.2.2.2.2;have eS':h'.get? S=some (seqObj "list" #[ub,ukv] n):=eb S _ hnI eS;show wpAny _ X.A.in1 (updateSeq S (fun _=>#[]) >>= _) _ _ _;refine wpAny_bind (wpAny_updateSeq eS' rfl (wpAny_bind (wpAny_letGo (wpAny_pure ?_))));have I2:L2.Inv X af σ H {s with heap:=h'.update S (Obj.mapSeq fun _=>#[])}:=I1.turned (t':=s.toks) (fun b o hb e=>(Heap.get?_update_other h' _ (Ne.symm hb)).trans e) fS.1 fS.2.1 fS.2.2.2.1 fS.2.2.2.2.1 fS.2.2.2.2.2;exact hR ub _ ⟨vb,H,I2,rvb,h vb θ H (.refl hw) rb⟩
 | cons d rest ih=>
  intro j s H θ M b kb vb ukb ub ukv n vs hd I fi fS st eS hw ta r hq hc rb rvb rk rvk h;have hj:ds0[j]?=some d:=by
   have:=congrArg (·[0]?) hd;simpa using this
  have hd':ds0.drop (j+1)=rest:=by
   rw[←drop_drop,hd];rfl
  obtain⟨v,ev,rdv⟩:=bQ r hj;refine codeAny_builtin PySem.F.entry_min_loop ?_;rw[Around.under_plainId PySem.F.plain_min_loop _];show wpAny _ X.A.in1 (seqItems? (.ref S) >>= _) _ _ _;refine wpAny_bind (wpAny_seqItems eS rfl ?_);obtain⟨its,rv,p,hz⟩:=I.list ta.sq;obtain⟨u,eu,ru⟩:=rv.get ev;show wpAny _ X.A.in1 (tryCatch (pyNext (.ref it)) _ >>= _) _ _ _;refine wpAny_bind (wpAny_tryCatch (wpAny_pyNext_list_item st p.isList (x:=u) (by simpa using eu) fun h' st' sb=>?_));have I1:L2.Inv X af σ H {s with heap:=h'}:=I.turned (t':=s.toks) (fun b o hb e=>(sb.2 b hb).trans e) fi.1 fi.2.1 fi.2.2.2.1 fi.2.2.2.2.1 fi.2.2.2.2.2;have eS1:h'.get? S=some (seqObj "list" #[ub,ukv] n):=(sb.2 S hnI).trans eS;obtain⟨oI,hoI,cI,dI⟩:=id st';have I1p:=Eu I1 fS fi eS1 hoI (by intro v z;cases z) (by intro v z;rw[dI] at z;cases z);unfold lI at h;cases eF:F [d] M with
  | bad=>rw[eF] at h;exact h.elim
  | err _ _=>rw[eF] at h;exact h.elim
  | ok kd M1=>
   rw[eF] at h;dsimp only at h;cases eK:g6 kd with
   | none=>rw[eK] at h;exact h.elim
   | some ks=>
    rw[eK] at h;dsimp only at h;show wpAny _ X.A.in1 (tryCatch (holding [u] (call (.ref q) [u])) _ >>= _) _ _ _;refine wpAny_bind (wpAny_tryCatch (wpAny_holding (bR (p5 (Q:=fun v' H'=>∃θ',Go X.K θ H θ' H' M1∧c6 X.K θ' H' kd v') Fn hr1 hb I1p hq hc hw ru rdv eF fun v' θ' H' g rd=>⟨θ',g,rd⟩) fun uk s2 hxx=>?_)));obtain⟨vk,H2,I2p,rvk2,θ2,g2,rk2⟩:=hxx;obtain⟨I2,⟨eS2,nS2⟩,eI2,nI2⟩:=xw I2p;have fS2:=tm fS nS2;have fi2:=tm fi nI2;have st2:s2.heap.IsListIter it l (j+1):=⟨oI,eI2,cI,dI⟩;obtain⟨ak,eak,tk2⟩:=km eK rk2;obtain⟨ab,eab,tb2⟩:=rk;have tb2:=tb2.grow g2.toGrow;subst eak eab;have ek:uk=.ref ak:=rvk2;have eb':ukv=.ref ab:=rvk;subst ek eb';obtain⟨i1,r1,p1,_⟩:=I2.tuple tk2.sq;obtain⟨i2,r2,p2,_⟩:=I2.tuple tb2.sq;have hq2:H2 q=some (tL q fd):=g2.keep q _ hq (fun z=>by
     obtain⟨i,hi,e⟩:=mem_iff_getElem.mp z;obtain⟨o,eo,po⟩:=hw.plain (i:=i) (by rw[getElem?_eq_getElem hi,e]);rw[hq] at eo;cases eo;cases po) (by intro _ z;cases z)
    have hc2:H2 c=some (gw c qual):=g2.keep c _ hc (fun z=>by
     obtain⟨i,hi,e⟩:=mem_iff_getElem.mp z;obtain⟨o,eo,po⟩:=hw.plain (i:=i) (by rw[getElem?_eq_getElem hi,e]);rw[hc] at eo;cases eo;cases po) (by intro _ z;cases z)
    have h2:=aT.go g2 h;show wpAny _ X.A.in1 (tryCatch (holding [u,.ref ak] (richCompare .Lt (.ref ak) (.ref ab) >>= _)) _ >>= _) _ _ _;refine wpAny_bind (wpAny_tryCatch (wpAny_holding (wpAny_bind (HT.lt_tupInts p1 p2 (iI r1) (iI r2) hr1.units0 ?_))));refine wpAny_bind (wpAny_holding (wpAny_truthy_bool ?_));refine wpAny_bind (wpAny_letGo (wpAny_pure ?_))
    by_cases hlt:HT.lexLt ks kb=true
    ·rw[if_pos hlt] at h2;simp only[hlt,if_true];refine wpAny_bind (wpAny_updateSeq eS2 rfl (wpAny_bind (wpAny_letGo ?_)));rw[hname];obtain⟨n3,eS3⟩:∃n3,(s2.heap.update S (Obj.mapSeq fun _=>#[u,.ref ak])).get? S=some (seqObj "list" #[u,.ref ak] n3):=⟨_,get?_update_seq eS2 fun _=>#[u,.ref ak]⟩;have kp:∀b o,b≠S→s2.heap.get? b=some o→(s2.heap.update S (Obj.mapSeq fun _=>#[u,.ref ak])).get? b=some o:=fun b o hb e=>(Heap.get?_update_other s2.heap _ (Ne.symm hb)).trans e
     have I3:L2.Inv X af σ H2 {s2 with heap:=s2.heap.update S (Obj.mapSeq fun _=>#[u,.ref ak])}:=I2.turned (t':=s2.toks) kp fS2.1 fS2.2.1 fS2.2.2.2.1 fS2.2.2.2.2.1 fS2.2.2.2.2.2;exact wpAny_pure ⟨plainId_quiet PySem.F.plain_min_loop _,ih (j+1) _ H2 θ2 M1 d ks v _ u (.ref ak) n3 vs hd' I3 fi2 fS2 ⟨oI,kp it oI (Ne.symm hnI) eI2,cI,dI⟩ eS3 g2.wr (ta.grow g2.toGrow) (r.go g2) hq2 hc2 (rdv.go g2) ru ⟨ak,rfl,tk2⟩ rfl h2⟩
    ·have hlt':HT.lexLt ks kb=false:=by simpa using hlt
     rw[if_neg hlt] at h2;simp only[hlt',Bool.false_eq_true,if_false];refine wpAny_bind (wpAny_letGo ?_);rw[hname];exact wpAny_pure ⟨plainId_quiet PySem.F.plain_min_loop _,ih (j+1) s2 H2 θ2 M1 b kb vb _ ub (.ref ab) n vs hd' I2 fi2 fS2 st2 eS2 g2.wr (ta.grow g2.toGrow) (r.go g2) hq2 hc2 (rb.go g2) rvb ⟨ab,rfl,tb2⟩ rfl h2⟩
end
section
variable {X:Cx}{af:List (Addr×Obj)}{σ:L2.St}{q c:Addr}{fd:FuncData}{px qual:Str}{k:Nat}{F:FD}
theorem vS {l:Addr}{ds0:List D}{Q:VK}{s:Shared}{H:Hp}{θ:List Addr}{M:aw}{vs:List V}
  (Fn:eM X.prog X.w X.K X.mg X.base (gP X.prog X.w) k q fd [px] (fun vs H Q E=>H q=some (tL q fd)∧H c=some (gw c qual)∧nl X.K 1 F vs H Q E)) (hr:bp (k+1) X.A) (hb:∀(s:Shared) (u:Value),BindsTo s fd ⟨[u],[]⟩ [(px,u)]) (hcalm:X.calm=true)
  (I:L2.Inv X af σ H s) (hw:Wr X.K θ H M) (ta:j3 X.K θ H l vs) (r:aR X.K θ H ds0 vs) (hq:H q=some (tL q fd)) (hc:H c=some (gw c qual)) (h:aT X θ H Q (kZ F ds0 M)) :
  wpAny (model X.prog X.w) X.A (call (.builtin "min") [.ref l] [(Str.ofString "key",.ref q)]) (EP X af σ Q) X.xe s:=by
 have hname:(toString "min"++toString ".loop":String)="min.loop":=by decide
 have hr1:bp k X.A.in1:=hr.in1;cases ds0 with
 | nil=>exact h.elim
 | cons d rest=>
  unfold kZ at h;dsimp only at h;cases eF:F [d] M with
  | bad=>rw[eF] at h;exact h.elim
  | err _ _=>rw[eF] at h;exact h.elim
  | ok kd M1=>
   rw[eF] at h;dsimp only at h;cases eK:g6 kd with
   | none=>rw[eK] at h;exact h.elim
   | some ks=>
    rw[eK] at h;dsimp only at h;obtain⟨v,ev,rdv⟩:=bQ (i:=0) r rfl;obtain⟨its,rv,p,hz⟩:=I.list ta.sq;obtain⟨u,eu,ru⟩:=rv.get ev;refine kmk_tree PySem.F.kind_min PySem.F.plain_min PySem.F.entry_min (kmk_min_key _ _) ?_;show wpAny _ X.A.in1 (Builtin.Builtins.bindParams "min" ["key","default"] 0 ⟨[],[(Str.ofString "key",.ref q)]⟩ >>= _) _ _ s;refine wpAny_bind (wpAny_of_eq (show Builtin.Builtins.bindParams "min" ["key","default"] 0 ⟨[],[(Str.ofString "key",.ref q)]⟩=pure [some (.ref q),none] from rfl) ?_);refine wpAny_bind (wpAny_pure ?_);refine wpAny_bind (wpAny_pyIter_list p.isList ?_);refine wpAny_bind (wpAny_newList ?_ (Nat.zero_le _));rw[hname];have hS:(s.heap.push {cls:=.type "list_iterator",data:=.fields #[.ref l,.int 0 0]}).objs.size=s.heap.objs.size+1:=size_push' ..;have fi:cA X af H s.heap.objs.size:=I.fpOk (Nat.le_refl _) (I.hok.fresh (Nat.le_refl _));have leS:s.heap.objs.size≤(s.heap.push {cls:=.type "list_iterator",data:=.fields #[.ref l,.int 0 0]}).objs.size:=by rw[hS];exact Nat.le_succ _
    have fS:cA X af H (s.heap.push {cls:=.type "list_iterator",data:=.fields #[.ref l,.int 0 0]}).objs.size:=I.fpOk leS (I.hok.fresh leS);have hnI:(s.heap.push {cls:=.type "list_iterator",data:=.fields #[.ref l,.int 0 0]}).objs.size≠s.heap.objs.size:=by rw[hS];exact Nat.ne_of_gt (Nat.lt_succ_self _)
    have gI:((s.heap.push {cls:=.type "list_iterator",data:=.fields #[.ref l,.int 0 0]}).push (seqObj "list" #[] 0)).get? s.heap.objs.size=some {cls:=.type "list_iterator",data:=.fields #[.ref l,.int 0 0]}:=Heap.get?_push_of_some _ (Heap.get?_push_size _ rfl);have gS:((s.heap.push {cls:=.type "list_iterator",data:=.fields #[.ref l,.int 0 0]}).push (seqObj "list" #[] 0)).get? (s.heap.push {cls:=.type "list_iterator",data:=.fields #[.ref l,.int 0 0]}).objs.size=some (seqObj "list" #[] 0):=Heap.get?_push_size _ rfl;have I0:L2.Inv X af σ H {s with heap:=(s.heap.push {cls:=.type "list_iterator",data:=.fields #[.ref l,.int 0 0]}).push (seqObj "list" #[] 0)}:=I.kept (t':=s.toks) fun b o e=>Heap.get?_push_of_some _ (Heap.get?_push_of_some _ e)
    generalize (s.heap.push {cls:=.type "list_iterator",data:=.fields #[.ref l,.int 0 0]}).objs.size=S at *;generalize hit:s.heap.objs.size=it at *;refine wpAny_pure ⟨plainId_quiet PySem.F.plain_min_loop _,?_⟩;refine codeAny_builtin PySem.F.entry_min_loop ?_;rw[Around.under_plainId PySem.F.plain_min_loop _];show wpAny _ X.A.in1 (seqItems? (.ref S) >>= _) _ _ _;refine wpAny_bind (wpAny_seqItems gS rfl ?_);obtain⟨its',rv',p',hz'⟩:=I0.list ta.sq;obtain⟨u',eu',ru'⟩:=rv'.get ev;show wpAny _ X.A.in1 (tryCatch (pyNext (.ref it)) _ >>= _) _ _ _;refine wpAny_bind (wpAny_tryCatch (wpAny_pyNext_list_item (i:=0) ⟨_,gI,rfl,rfl⟩ p'.isList (x:=u') (by simpa using eu') fun h' st' sb=>?_));have I1:L2.Inv X af σ H {s with heap:=h'}:=I0.turned (t':=s.toks) (fun b o hb e=>(sb.2 b hb).trans e) fi.1 fi.2.1 fi.2.2.2.1 fi.2.2.2.2.1 fi.2.2.2.2.2;have eS1:h'.get? S=some (seqObj "list" #[] 0):=(sb.2 S hnI).trans gS;obtain⟨oI,hoI,cI,dI⟩:=id st';have I1p:=Eu I1 fS fi eS1 hoI (by intro v z;cases z) (by intro v z;rw[dI] at z;cases z);show wpAny _ X.A.in1 (tryCatch (holding [u'] (call (.ref q) [u'])) _ >>= _) _ _ _;refine wpAny_bind (wpAny_tryCatch (wpAny_holding (bR (p5 (Q:=fun v' H'=>∃θ',Go X.K θ H θ' H' M1∧c6 X.K θ' H' kd v') Fn hr1 hb I1p hq hc hw ru' rdv eF fun v' θ' H' g rd=>⟨θ',g,rd⟩) fun uk s2 hxx=>?_)));obtain⟨vk,H2,I2p,rvk2,θ2,g2,rk2⟩:=hxx;obtain⟨I2,⟨eS2,nS2⟩,eI2,nI2⟩:=xw I2p;have fS2:=tm fS nS2;have fi2:=tm fi nI2;obtain⟨ak,eak,tk2⟩:=km eK rk2;have notin:∀(a:Addr) (φ:Heap→Prop),H a=some (.ext φ)→a∉θ:=fun a φ e z=>by
     obtain⟨i,hi,e'⟩:=mem_iff_getElem.mp z;obtain⟨o,eo,po⟩:=hw.plain (i:=i) (by rw[getElem?_eq_getElem hi,e']);rw[e] at eo;cases eo;cases po
    have hq2:H2 q=some (tL q fd):=g2.keep q _ hq (notin q _ hq) (by intro _ z;cases z);have hc2:H2 c=some (gw c qual):=g2.keep c _ hc (notin c _ hc) (by intro _ z;cases z);have h2:=aT.go g2 h;refine wpAny_bind ?_;show wpAny _ X.A.in1 (updateSeq S (fun _=>#[u',uk])) _ _ _;refine wpAny_updateSeq eS2 rfl ?_;rw[hname];obtain⟨n3,eS3⟩:∃n3,(s2.heap.update S (Obj.mapSeq fun _=>#[u',uk])).get? S=some (seqObj "list" #[u',uk] n3):=⟨_,get?_update_seq eS2 fun _=>#[u',uk]⟩;have kp:∀b o,b≠S→s2.heap.get? b=some o→(s2.heap.update S (Obj.mapSeq fun _=>#[u',uk])).get? b=some o:=fun b o hb e=>(Heap.get?_update_other s2.heap _ (Ne.symm hb)).trans e
    have I3:L2.Inv X af σ H2 {s2 with heap:=s2.heap.update S (Obj.mapSeq fun _=>#[u',uk])}:=I2.turned (t':=s2.toks) kp fS2.1 fS2.2.1 fS2.2.2.2.1 fS2.2.2.2.2.1 fS2.2.2.2.2.2;exact wpAny_pure ⟨plainId_quiet PySem.F.plain_min_loop _,vq (ds0:=d::rest) Fn hr hb hcalm hnI (fun u s' e=>e) rest 1 _ H2 θ2 M1 d ks v vk u' uk n3 vs rfl I3 fi2 fS2 ⟨oI,kp it oI (Ne.symm hnI) eI2,cI,dI⟩ eS3 g2.wr (ta.grow g2.toGrow) (r.go g2) hq2 hc2 (rdv.go g2) ru' ⟨ak,eak,tk2⟩ rvk2 h2⟩
end
def jP (F:FD)(g:GE):GE:=fun ρ M=>(g ρ M).bind fun d M1=>match d with
 | .lst ds=>kZ F ds M1
 | .ro ds=>kZ F ds M1
 | _=>.bad
theorem yq {X:Cx}{x px:Str}{c P:Addr}{params:Arguments}{body:Expr}{scope:Scope}{e:Expr}{g gb:GE}{p pos lpos kpos:Pos}{k:Nat}{N:List Str}
  (T:qA X.K x c P) (hr:bp (k+2) X.A) (hg:Gl X "min") (hm:X.mg "min"=none) (hv:bootBuiltins "min"=some (.builtin "min")) (he:PE X e (tE X g)) (hcode:X.env.code=.ref c) (hglob:X.env.globals=mainGlobals) (hq:X.env.qual++("<lambda>":Str)=bG x)
  (hcl:closureFor scope X.env=pure []) (hd:defaultsOf params X.env=([],[])) (hcalm:X.calm=true) (S:c9 N [px] scope)
  (hbody:∀(q c':Addr) (A:Around) (outer:List Env) (s:Shared) (H:Hp) (E:XK),bp k (A.deeper (envOfC (bG x) scope s.heap.objs.size q (.ref c')))→
   PE (fh (gP X.prog X.w) X.prog X.w X.K X.mg X.base N (bG x) scope q (.ref c') A outer s H E) body (tE (fh (gP X.prog X.w) X.prog X.w X.K X.mg X.base N (bG x) scope q (.ref c') A outer s H E) gb))
  (hb:∀(pm cv ctv:Value) (s:Shared) (u:Value),BindsTo s (nS (bG x) params body scope pm cv ctv) ⟨[u],[]⟩ [(px,u)]) (h1:bP e=true) :
  PE X (.Call (.Name "min" p) [e] [⟨some "key",.Lambda params body scope lpos,kpos⟩] pos) (tE X (jP (rf (N.length-1) gb) g)):=by
 intro af s σ H Q I h;obtain⟨ρ,θ,M,hden,hw,h⟩:=h;have hs:starEach [e] X.env=[(false,eval e X.env)]:=by rw[sE h1];rfl
 refine wpAny_Call_Name_kw (i9 I hg hm hv ?_);refine callWith_kw (e:=e) (rest:=[]) (bR ((kj he oP hs) pos af s σ H _ I (show Ab (tE X g) DF σ H (fun xs H1=>∃v d θ1 M1,xs=[v]∧Go X.K θ H θ1 H1 M1∧c6 X.K θ1 H1 d v∧aT X θ H Q (match d with | .lst ds=>kZ (rf (N.length-1) gb) ds M1 | .ro ds=>kZ (rf (N.length-1) gb) ds M1|_=>.bad)) from
  cN hden hw (aT X θ H Q) (fun c M' h=>h) (fun h=>h) h fun d M1 v θ1 H1 g1 r1 h1=>⟨v,d,θ1,M1,rfl,g1,r1,h1⟩)) fun us s1 hxx=>?_) (by rw[hs];rfl) (by rw[hs];rfl)
 obtain⟨xs,H1,I1,rx,v,d,θ1,M1,ex,g1,r1,h1⟩:=hxx;subst ex;obtain⟨u,rfl,ru⟩:=iY rx;refine kws_cons (bR (xh I1 g1.wr T hcode hglob hq hcl hd) fun uq s2 ⟨H2,I2,Md⟩=>kws_nil ?_);obtain⟨⟨q,c',pm,ctv,rfl,nq,hfq,hfc⟩,g2⟩:=Md;have h2:=aT.go (g1.trans g2) h1;have Fn:=CA (P:=X.prog) (w:=X.w) (K:=X.K) (mg:=X.mg) (base:=X.base) (qual:=bG x) (params:=params) (body:=body) (scope:=scope) (pm:=pm) (ctv:=ctv) (q:=q) (c:=c') (n:=1) S rfl (fun A outer s H E hr=>hbody q c' A outer s H E hr);have run:∀(l:Addr) (ds:List D) (vs:List V),u=.ref l→j3 X.K θ1 H2 l vs→aR X.K θ1 H2 ds vs→aT X θ1 H2 Q (kZ (rf (N.length-1) gb) ds M1)→wpAny (model X.prog X.w) X.A (call (.builtin "min") [u] [(Str.ofString "key",.ref q)]) (EP X af σ Q) X.xe s2:=fun l ds vs eu ta r hh=>by
  rw[eu];exact vS Fn hr (hb pm _ ctv) hcalm I2 g2.wr ta r hfq hfc hh
 show wpAny _ X.A (call (.builtin "min") [u] [(Str.ofString "key",.ref q)]) _ _ s2;cases d with
 | lst ds=>
  obtain⟨a,vs,ea,ta,rs⟩:=r1.go g2;subst ea;exact run a ds vs ru (.inl ⟨.inl ta.1,ta.2⟩) rs h2
 | ro ds=>
  obtain⟨a,vs,ea,ta,rs⟩:=r1.go g2;subst ea;exact run a ds vs ru ta rs h2
 | _=>exact h2.elim
theorem DY {P:Program}{w:World}{K:W.Frag}{mg:Str→Option Value}{base:Heap}{x:Str}{st:Stmt}{f c Pt:Addr}{fd:FuncData}{N ps:List Str}{k n:Nat}{g:GS}(F:yy K x x st f fd)(hns:W.nsIn K mainGlobals x=some (some (.ref f)))(T:qA K x c Pt)(S:c9 N ps (aK st))(hn:ps.length=n)
  (hbody:∀(A:Around) (outer:List Env) (s:Shared) (H:Hp) (E:XK),bp k (A.deeper (envOfC x (aK st) s.heap.objs.size f (.ref c)))→PSs (fh (gP P w) P w K mg base N x (aK st) f (.ref c) A outer s H E) (cr st) (tS (fh (gP P w) P w K mg base N x (aK st) f (.ref c) A outer s H E) g)) :
  eM P w K mg base (gP P w) (k+1) f fd ps (nl K n (bD (N.length-n) g)):=by
 obtain⟨oc,od,kV,doc,pm,an,cdv,ct,osl,rfl,lk,hcd⟩:=F.ex;have ec:cdv=.ref c:=by
  have t:=T.tab;unfold W.tabIn at t;rw[hns] at t;dsimp only at t;rw[lk] at t;dsimp only at t;cases cdv with
  | ref c'=>
   dsimp only at t;split at t
   ·split at t
    ·cases t;rfl
    ·cases t
   ·cases t
  | _=>cases t
 subst ec;refine zX lk hcd S (lX hn) fun A outer s H vs Q E hr h=>⟨_,hbody A outer s H E hr,?_⟩
 obtain⟨θ,M,ds,hl,r,hw,h⟩:=h;have hv:vs.length=n:=by rw[←aq r];exact hl
 refine⟨i8 (N.length-n) ds,θ,M,by rw[←hv];exact Cb r N,hw,?_⟩;have h:rP K θ H Q E (aE (g (i8 (N.length-n) ds) M)):=h;unfold aE at h;cases q:g (i8 (N.length-n) ds) M with
 | bad=>rw[q] at h;exact h
 | err c M1=>
  rw[q] at h;have h:wV K θ H E c M1:=h;exact fun C θ' H' a s' kC g1 fl=>jF fl (h C θ' H' a kC g1)
 | ok fl M1=>
  rw[q] at h;cases fl with
  | rt d=>exact h
  | nx ρ1=>exact fun σ1 θ1 H1 g1 _=>h .non θ1 H1 g1 rfl
  | bk ρ1=>exact h.elim
  | ct ρ1=>exact h.elim
end DL
namespace DL
open PySem PySem.Spec PyProof.Rows L2 List
theorem qI (A:Around)(s:Shared)(a:Int)(t:Tok)(c:Int)(u:Tok)(prog:Program)(w:World)(E:Value→Shared→Prop)(Q:Value→Shared→Prop)(h:Q (.bool (decide (c<a))) s) :
  wpAny (model prog w) A (richCompare .Gt (.int a t) (.int c u)) Q E s:=(PyProof.Rows.gt_int h:wpAny (model prog w) A (compareOp .Gt (.int a t) (.int c u)) Q E s)
section
open PySem.SeqAt
open PySem.AutoSeq1 (wpAny_loadPart')
open PySem.MeetsSeq PySem.MeetsSeq2 PySem.MeetsSeq3
theorem m3 (l b:Addr)(items items2:Array Value)(n n2:Nat)(dd dd2:Option Addr)(sl sl2:Array (Option Value))(ns ms:List Int)(hi:IntsAre items.toList ns)(hj:IntsAre items2.toList ms) :
  Meets (Builtin.«tuple.__gt__» ⟨[.ref l,.ref b],[]⟩)
   (fun _ R s=>s.heap.get? l=some {cls:=.type "tuple",dict:=dd,data:=.seq items n,slots:=sl}∧s.heap.get? b=some {cls:=.type "tuple",dict:=dd2,data:=.seq items2 n2,slots:=sl2}∧
    R (.ok (.ret (.bool (HT.lexLt ms ns)))) s):=
 .of_wp fun prog w A R s h=>by
  obtain⟨hp,g,d,tk,os⟩:=s;obtain⟨hl,hb,h⟩:=h;have f2:=AutoSeq1.sub_tuple_tuple;have z1:items.size=ns.length:=by rw[←hi.length];simp
  have z2:items2.size=ms.length:=by rw[←hj.length];simp
  wp_walk using wpAny_loadPart' hl,wpAny_loadPart' hb,wpAny_forIn_list _ (fun rest b s'=>b.1=none∧s'=⟨hp,g,d,tk,os⟩∧∃(vs ws:List Value) (ns' ms':List Int),rest=vs.zip ws∧
   IntsAre vs ns'∧IntsAre ws ms'∧ns'.length+items2.size=ms'.length+items.size∧R (.ok (.ret (.bool (HT.lexLt ms' ns')))) ⟨hp,g,d,tk,os⟩) _
  case turn=>
   rintro ⟨y,x⟩ rest b s' ⟨hb',rfl,vs,ws,ns',ms',hz,hvi,hwi,hlen,hR⟩;cases hvi with
   | nil=>rw[zip_nil_left] at hz;cases hz
   | cons a t hvi'=>
    cases hwi with
    | nil=>rw[zip_nil_right] at hz;cases hz
    | cons c u hwi'=>
     rw[zip_cons_cons] at hz;injection hz with hyx hrest
     injection hyx with hy hx
     subst hy hx;rw[HT.lexLt_cons] at hR;simp only[length_cons] at hlen;obtain⟨e,he,hiff⟩:=HT.eqAt_int A.in1 ⟨hp,g,d,tk,os⟩ a t c u;refine wpAny_bind (he prog w _ _ ?_);cases e with
     | true=>
      rw[if_pos (hiff.mp rfl).symm] at hR
      wp_walk
      exact⟨rfl,rfl,_,_,_,_,hrest,hvi',hwi',by omega,hR⟩
     | false=>
      rw[if_neg (fun q=>absurd (hiff.mpr q.symm) Bool.false_ne_true)] at hR;have hri:=qI A.in1 ⟨hp,g,d,tk,os⟩ a t c u prog w
      wp_walk using hri
      exact⟨_,rfl,by simpa using hR⟩
  case fin=>
   rintro ⟨b1,b2⟩ s' ⟨hb',rfl,vs,ws,ns',ms',hz,hvi,hwi,hlen,hR⟩;simp only at hb';subst hb';have hv:HT.lexLt ms' ns'=decide (items2.size<items.size):=by
    cases hvi with
    | nil=>
     cases hwi with
     | nil=>
      simp only[length_nil] at hlen;rw[HT.lexLt_nil_nil];exact(decide_eq_false (by omega)).symm
     | cons c u hw=>
      simp only[length_nil,length_cons] at hlen;rw[HT.lexLt_cons_nil];exact(decide_eq_false (by omega)).symm
    | cons a t hv=>
     cases hwi with
     | nil=>
      simp only[length_nil,length_cons] at hlen;rw[HT.lexLt_nil_cons];exact(decide_eq_true (by omega)).symm
     | cons c u hw=>
      rw[zip_cons_cons] at hz;cases hz
   rw[hv] at hR
   wp_walk
   exact⟨_,rfl,by simpa[Builtin.Tuple.tupleCompareSizes] using hR⟩
  case h=>
   exact⟨rfl,rfl,items.toList,items2.toList,ns,ms,rfl,hi,hj,by omega,h⟩
end
theorem sj {prog:Program}{w:World}{A:Around}{E:Value→Shared→Prop}{s:Shared}{l b:Addr}{items items2:Array Value}{ns ms:List Int}{Q:Value→Shared→Prop}(hl:IsTup s.heap l items)(hb:IsTup s.heap b items2)(hi:IntsAre items.toList ns)(hj:IntsAre items2.toList ms)
  (hu:A.units<cLine) (h:Q (.bool (HT.lexLt ms ns)) s):wpAny (model prog w) A (compareOp .Gt (.ref l) (.ref b)) Q E s:=by
 obtain⟨⟨cls,dd,data,sl⟩,ho,hc,n,hd⟩:=id hl;obtain⟨⟨cls2,dd2,data2,sl2⟩,ho2,hc2,n2,hd2⟩:=id hb;simp only at hc hd hc2 hd2;subst hc hd hc2 hd2;exact richCompare_meets_room (op:=.Gt) ⟨_,ho,rfl⟩ ⟨_,ho2,rfl⟩ PySem.F.slot_tuple_gt PySem.F.entry_tuple_gt (PySem.F.args_tuple_gt_2 _ _) (m3 l b items items2 n n2 dd dd2 sl sl2 ns ms hi hj)
  ⟨ho,ho2,show Value.bool (HT.lexLt ms ns)≠Value.notImplemented∧Q (.bool (HT.lexLt ms ns)) s from⟨(fun x=>nomatch x),h⟩⟩ hu
def lO:List D→D→List Int→Option D
 | [],b,_=>some b
 | d::r,b,kb=>match g6 d with
  | some ks=>if HT.lexLt kb ks then lO r d ks else lO r b kb
  | none=>none
def xD (ds:List D):Option D:=match ds with
 | []=>none
 | d::r=>match g6 d with
  | some ks=>lO r d ks
  | none=>none
section
variable {X:Cx}{af:List (Addr×Obj)}{σ:L2.St}
theorem xq {l it S:Addr}{ds0:List D}{vs:List V}{Q:VK}{R:Result→Shared→Prop}{H:Hp}{θ:List Addr}{M:aw}{db:D}{k:Nat}
  (hr:bp (k+1) X.A) (hcalm:X.calm=true) (hw:Wr X.K θ H M) (ta:j3 X.K θ H l vs) (r:aR X.K θ H ds0 vs)
  (hnI:S≠it) (hR:∀u s',EP X af σ Q u s'→R (.ok (.ret u)) s') (fi:cA X af H it) (fS:cA X af H S) (hQ:∀v,c6 X.K θ H db v→Q v H) :
  ∀(rest:List D) (j:Nat) (s:Shared) (b:D) (kb:List Int) (vb:V) (ub:Value) (n:Nat),ds0.drop j=rest→L2.Inv X af σ H s→s.heap.IsListIter it l j→s.heap.get? S=some (seqObj "list" #[ub,ub] n)→
   c6 X.K θ H b vb→bi vb ub→g6 b=some kb→lO rest b kb=some db→
   codeAny (model X.prog X.w) X.A (.builtin "max.loop" ⟨[.ref it,.none,.ref S],[]⟩) R s:=by
 have hname:(toString "max"++toString ".loop":String)="max.loop":=by decide
 have hr1:bp k X.A.in1:=hr.in1;intro rest
 induction rest with
 | nil=>
  intro j s b kb vb ub n hd I st eS rb rvb hk h;refine codeAny_builtin PySem.F.entry_max_loop ?_;rw[Around.under_plainId PySem.F.plain_max_loop _];show wpAny _ X.A.in1 (seqItems? (.ref S) >>= _) _ _ _;refine wpAny_bind (wpAny_seqItems eS rfl ?_);obtain⟨its,rv,p,hz⟩:=I.list ta.sq;have hlen:vs.length≤j:=by rw[←aq r];exact drop_eq_nil_iff.mp hd
  have hl:=rv.length;show wpAny _ X.A.in1 (tryCatch (pyNext (.ref it)) _ >>= _) _ _ _;refine wpAny_bind (wpAny_tryCatch (wpAny_pyNext_list_end (show X.A.in1.handled=none from I.ok.hd hcalm) st p.isList (by simp;omega) fun h' eb=>?_));have I1:L2.Inv X af σ H {s with heap:=h'}:=I.turned (t':=s.toks) (fun b o hb e=>eb b o hb e) fi.1 fi.2.1 fi.2.2.2.1 fi.2.2.2.2.1 fi.2.2.2.2.2;have eS':h'.get? S=some (seqObj "list" #[ub,ub] n):=eb S _ hnI eS;show wpAny _ X.A.in1 (updateSeq S (fun _=>#[]) >>= _) _ _ _;refine wpAny_bind (wpAny_updateSeq eS' rfl (wpAny_bind (wpAny_letGo (wpAny_pure ?_))));have I2:L2.Inv X af σ H {s with heap:=h'.update S (Obj.mapSeq fun _=>#[])}:=I1.turned (t':=s.toks) (fun b o hb e=>(Heap.get?_update_other h' _ (Ne.symm hb)).trans e) fS.1 fS.2.1 fS.2.2.2.1 fS.2.2.2.2.1 fS.2.2.2.2.2;have h:some b=some db:=h;cases h;exact hR ub _ ⟨vb,H,I2,rvb,hQ vb rb⟩
 | cons d rest ih=>
  intro j s b kb vb ub n hd I st eS rb rvb hk h;have hj:ds0[j]?=some d:=by
   have:=congrArg (·[0]?) hd;simpa using this
  have hd':ds0.drop (j+1)=rest:=by
   rw[←drop_drop,hd];rfl
  obtain⟨v,ev,rdv⟩:=bQ r hj;refine codeAny_builtin PySem.F.entry_max_loop ?_;rw[Around.under_plainId PySem.F.plain_max_loop _];show wpAny _ X.A.in1 (seqItems? (.ref S) >>= _) _ _ _;refine wpAny_bind (wpAny_seqItems eS rfl ?_);obtain⟨its,rv,p,hz⟩:=I.list ta.sq;obtain⟨u,eu,ru⟩:=rv.get ev;show wpAny _ X.A.in1 (tryCatch (pyNext (.ref it)) _ >>= _) _ _ _;refine wpAny_bind (wpAny_tryCatch (wpAny_pyNext_list_item st p.isList (x:=u) (by simpa using eu) fun h' st' sb=>?_));have I1:L2.Inv X af σ H {s with heap:=h'}:=I.turned (t':=s.toks) (fun b o hb e=>(sb.2 b hb).trans e) fi.1 fi.2.1 fi.2.2.2.1 fi.2.2.2.2.1 fi.2.2.2.2.2;have eS1:h'.get? S=some (seqObj "list" #[ub,ub] n):=(sb.2 S hnI).trans eS;unfold lO at h;cases eK:g6 d with
  | none=>rw[eK] at h;cases h
  | some ks=>
   rw[eK] at h;dsimp only at h;obtain⟨ak,eak,tk2⟩:=km eK rdv;obtain⟨ab,eab,tb2⟩:=km hk rb;subst eak eab;have ek:u=.ref ak:=ru;have eb':ub=.ref ab:=rvb;subst ek eb';obtain⟨i1,r1,p1,_⟩:=I1.tuple tk2.sq;obtain⟨i2,r2,p2,_⟩:=I1.tuple tb2.sq;refine wpAny_bind (wpAny_pure ?_);show wpAny _ X.A.in1 (tryCatch (holding [.ref ak,.ref ak] (richCompare .Gt (.ref ak) (.ref ab) >>= _)) _ >>= _) _ _ _;refine wpAny_bind (wpAny_tryCatch (wpAny_holding (wpAny_bind (sj p1 p2 (iI r1) (iI r2) hr1.units0 ?_))));refine wpAny_bind (wpAny_holding (wpAny_truthy_bool ?_));refine wpAny_bind (wpAny_letGo (wpAny_pure ?_))
   by_cases hlt:HT.lexLt kb ks=true
   ·rw[if_pos hlt] at h;simp only[hlt,if_true];refine wpAny_bind (wpAny_updateSeq eS1 rfl (wpAny_bind (wpAny_letGo ?_)));rw[hname];obtain⟨n3,eS3⟩:∃n3,(h'.update S (Obj.mapSeq fun _=>#[.ref ak,.ref ak])).get? S=some (seqObj "list" #[.ref ak,.ref ak] n3):=⟨_,get?_update_seq eS1 fun _=>#[.ref ak,.ref ak]⟩;have kp:∀b o,b≠S→h'.get? b=some o→(h'.update S (Obj.mapSeq fun _=>#[.ref ak,.ref ak])).get? b=some o:=fun b o hb e=>(Heap.get?_update_other h' _ (Ne.symm hb)).trans e
    have I3:L2.Inv X af σ H {s with heap:=h'.update S (Obj.mapSeq fun _=>#[.ref ak,.ref ak])}:=I1.turned (t':=s.toks) kp fS.1 fS.2.1 fS.2.2.2.1 fS.2.2.2.2.1 fS.2.2.2.2.2;obtain⟨oI,hoI,cI,dI⟩:=id st';exact wpAny_pure ⟨plainId_quiet PySem.F.plain_max_loop _,ih (j+1) _ d ks _ (.ref ak) n3 hd' I3 ⟨oI,kp it oI (Ne.symm hnI) hoI,cI,dI⟩ eS3 rdv rfl eK h⟩
   ·have hlt':HT.lexLt kb ks=false:=by simpa using hlt
    rw[if_neg hlt] at h;simp only[hlt',Bool.false_eq_true,if_false];refine wpAny_bind (wpAny_letGo ?_);rw[hname];exact wpAny_pure ⟨plainId_quiet PySem.F.plain_max_loop _,ih (j+1) _ b kb _ (.ref ab) n hd' I1 st' eS1 rb rfl hk h⟩
theorem nD (a:Value):argsOk "max" ⟨[a],[]⟩:=by unfold argsOk;kernel_rfl
theorem qu {l:Addr}{ds0:List D}{vs:List V}{Q:VK}{H:Hp}{θ:List Addr}{M:aw}{db:D}{k:Nat}{s:Shared}
  (hr:bp (k+1) X.A) (hcalm:X.calm=true) (I:L2.Inv X af σ H s) (hw:Wr X.K θ H M) (ta:j3 X.K θ H l vs) (r:aR X.K θ H ds0 vs) (h:xD ds0=some db) (hQ:∀v,c6 X.K θ H db v→Q v H) :
  wpAny (model X.prog X.w) X.A (call (.builtin "max") [.ref l] []) (EP X af σ Q) X.xe s:=by
 have hname:(toString "max"++toString ".loop":String)="max.loop":=by decide
 cases ds0 with
 | nil=>cases h
 | cons d rest=>
  unfold xD at h;dsimp only at h;cases eK:g6 d with
  | none=>rw[eK] at h;cases h
  | some ks=>
   rw[eK] at h;dsimp only at h;obtain⟨v,ev,rdv⟩:=bQ (i:=0) r rfl;obtain⟨its,rv,p,hz⟩:=I.list ta.sq;refine kmk_tree PySem.F.kind_max PySem.F.plain_max PySem.F.entry_max (nD _) ?_;show wpAny _ X.A.in1 (Builtin.Builtins.bindParams "max" ["key","default"] 0 ⟨[],[]⟩ >>= _) _ _ s;refine wpAny_bind (wpAny_of_eq (show Builtin.Builtins.bindParams "max" ["key","default"] 0 ⟨[],[]⟩=pure [none,none] from rfl) ?_);refine wpAny_bind (wpAny_pure ?_);refine wpAny_bind (wpAny_pyIter_list p.isList ?_);refine wpAny_bind (wpAny_newList ?_ (Nat.zero_le _));rw[hname];have hS:(s.heap.push {cls:=.type "list_iterator",data:=.fields #[.ref l,.int 0 0]}).objs.size=s.heap.objs.size+1:=size_push' ..;have fi:cA X af H s.heap.objs.size:=I.fpOk (Nat.le_refl _) (I.hok.fresh (Nat.le_refl _));have leS:s.heap.objs.size≤(s.heap.push {cls:=.type "list_iterator",data:=.fields #[.ref l,.int 0 0]}).objs.size:=by rw[hS];exact Nat.le_succ _
   have fS:cA X af H (s.heap.push {cls:=.type "list_iterator",data:=.fields #[.ref l,.int 0 0]}).objs.size:=I.fpOk leS (I.hok.fresh leS);have hnI:(s.heap.push {cls:=.type "list_iterator",data:=.fields #[.ref l,.int 0 0]}).objs.size≠s.heap.objs.size:=by rw[hS];exact Nat.ne_of_gt (Nat.lt_succ_self _)
   have gI:((s.heap.push {cls:=.type "list_iterator",data:=.fields #[.ref l,.int 0 0]}).push (seqObj "list" #[] 0)).get? s.heap.objs.size=some {cls:=.type "list_iterator",data:=.fields #[.ref l,.int 0 0]}:=Heap.get?_push_of_some _ (Heap.get?_push_size _ rfl);have gS:((s.heap.push {cls:=.type "list_iterator",data:=.fields #[.ref l,.int 0 0]}).push (seqObj "list" #[] 0)).get? (s.heap.push {cls:=.type "list_iterator",data:=.fields #[.ref l,.int 0 0]}).objs.size=some (seqObj "list" #[] 0):=Heap.get?_push_size _ rfl;have I0:L2.Inv X af σ H {s with heap:=(s.heap.push {cls:=.type "list_iterator",data:=.fields #[.ref l,.int 0 0]}).push (seqObj "list" #[] 0)}:=I.kept (t':=s.toks) fun b o e=>Heap.get?_push_of_some _ (Heap.get?_push_of_some _ e)
   generalize (s.heap.push {cls:=.type "list_iterator",data:=.fields #[.ref l,.int 0 0]}).objs.size=S at *;generalize hit:s.heap.objs.size=it at *;refine wpAny_pure ⟨plainId_quiet PySem.F.plain_max_loop _,?_⟩;refine codeAny_builtin PySem.F.entry_max_loop ?_;rw[Around.under_plainId PySem.F.plain_max_loop _];show wpAny _ X.A.in1 (seqItems? (.ref S) >>= _) _ _ _;refine wpAny_bind (wpAny_seqItems gS rfl ?_);obtain⟨its',rv',p',hz'⟩:=I0.list ta.sq;obtain⟨u',eu',ru'⟩:=rv'.get ev;show wpAny _ X.A.in1 (tryCatch (pyNext (.ref it)) _ >>= _) _ _ _;refine wpAny_bind (wpAny_tryCatch (wpAny_pyNext_list_item (i:=0) ⟨_,gI,rfl,rfl⟩ p'.isList (x:=u') (by simpa using eu') fun h' st' sb=>?_));have I1:L2.Inv X af σ H {s with heap:=h'}:=I0.turned (t':=s.toks) (fun b o hb e=>(sb.2 b hb).trans e) fi.1 fi.2.1 fi.2.2.2.1 fi.2.2.2.2.1 fi.2.2.2.2.2;have eS1:h'.get? S=some (seqObj "list" #[] 0):=(sb.2 S hnI).trans gS;obtain⟨oI,hoI,cI,dI⟩:=id st';refine wpAny_bind (wpAny_pure ?_);refine wpAny_bind ?_;show wpAny _ X.A.in1 (updateSeq S (fun _=>#[u',u'])) _ _ _;refine wpAny_updateSeq eS1 rfl ?_;rw[hname];obtain⟨n3,eS3⟩:∃n3,(h'.update S (Obj.mapSeq fun _=>#[u',u'])).get? S=some (seqObj "list" #[u',u'] n3):=⟨_,get?_update_seq eS1 fun _=>#[u',u']⟩;have kp:∀b o,b≠S→h'.get? b=some o→(h'.update S (Obj.mapSeq fun _=>#[u',u'])).get? b=some o:=fun b o hb e=>(Heap.get?_update_other h' _ (Ne.symm hb)).trans e
   have I3:L2.Inv X af σ H {s with heap:=h'.update S (Obj.mapSeq fun _=>#[u',u'])}:=I1.turned (t':=s.toks) kp fS.1 fS.2.1 fS.2.2.2.1 fS.2.2.2.2.1 fS.2.2.2.2.2;exact wpAny_pure ⟨plainId_quiet PySem.F.plain_max_loop _,xq hr hcalm hw ta r hnI (fun u s' e=>e) fi fS hQ rest 1 _ d ks v u' n3 rfl I3 ⟨oI,kp it oI (Ne.symm hnI) hoI,cI,dI⟩ eS3 rdv ru' eK h⟩
def j8:FD:=fun ds M=>match ds with
 | [.lst xs]=>match xD xs with
  | some d=>.ok d M
  | none=>.bad
 | [.ro xs]=>match xD xs with
  | some d=>.ok d M
  | none=>.bad
 | ds=>rj ds M
theorem zD {k:Nat}(hr:bp (k+1) X.A)(hc:X.calm=true):cB X (.builtin "max") (rC X j8):=by
 intro af s σ H xs us Q I r h;obtain⟨θ,M,ds,hw,rd,h⟩:=h;have two:aT X θ H Q (rj ds M)→wpAny (model X.prog X.w) X.A (call (.builtin "max") us) (EP X af σ Q) X.xe s:=fun h=>B1 hc af s σ H xs us Q I r ⟨θ,M,ds,hw,rd,h⟩
 unfold j8 at h;split at h
 ·rename_i ys;split at h
  ·rename_i d q;obtain⟨v,rr,e,⟨a,vs,ea,ta,rs⟩,er⟩:=rd;have er:rr=[]:=er;subst er e ea;obtain⟨u,rfl,ru⟩:=iY r;have ru:u=.ref a:=ru;subst ru;exact qu hr hc I hw (.inl ⟨.inl ta.1,ta.2⟩) rs q fun v rv=>h v θ H (.refl hw) rv
  ·exact h.elim
 ·rename_i ys;split at h
  ·rename_i d q;obtain⟨v,rr,e,⟨a,vs,ea,ta,rs⟩,er⟩:=rd;have er:rr=[]:=er;subst er e ea;obtain⟨u,rfl,ru⟩:=iY r;have ru:u=.ref a:=ru;subst ru;exact qu hr hc I hw ta rs q fun v rv=>h v θ H (.refl hw) rv
  ·exact h.elim
 ·exact two h
end
theorem zP {K:W.Frag}{x:Str}{f c P:Addr}{oc occ:Value}{od odc:Option Addr}{fd:FuncData}{sl slc:Array (Option Value)}{vs:Array Value}{file:Str}{tf tg tt:Tok}{flags text:Int}{inF:Bool}
  (hm:x∈bN) (a:W.nsIn K mainGlobals x=some (some (.ref f))) (l:K.lookup f=some ⟨oc,od,.func fd,sl⟩) (ec:fd.code=.ref c) (lc:K.lookup c=some ⟨occ,odc,.fields vs,slc⟩) (hcc:occ=.type "code")
  (h11:vs[11]?=some (.ref P)) (h18:vs.getD 18 .none=.str file tf) (h7:vs.getD 7 .none=.int flags tg) (h9:vs.getD 9 .none=.bool inF) (h10:vs.getD 10 .none=.int text tt) (ne:c≠P)
  (un:∀y,y∈bN→y≠x→W.nsIn K mainGlobals y=some none∨∃c' P',W.tabIn K y=some (c',P')∧P'≠P):qA K x c P:=by
 have g11:vs.getD 11 .none=.ref P:=by rw[Array.getD_eq_getD_getElem?,h11];rfl
 refine⟨hm,?_,fun y hy nx c2 e=>?_,_,vs,file,tf,flags,tg,inF,text,tt,lc,hcc,rfl,h11,g11,h18,h7,h9,h10,ne⟩
 ·unfold W.tabIn;rw[a];dsimp only;rw[l];dsimp only;rw[ec];dsimp only;rw[lc];dsimp only;rw[h11]
 ·rcases un y hy nx with q|⟨c',P',q,n⟩
  ·unfold W.tabIn at e;rw[q] at e;cases e
  ·rw[q] at e;cases e;exact n rfl
end DL
namespace DL
open PySem PySem.Spec PyProof.Rows L2 List
end DL
namespace DL
open PySem PySem.Spec PyProof.Rows L2 List
section
open Builtin Builtin.Str
end
end DL
namespace DL
open PySem PySem.Spec PyProof.Rows L2 List
structure QE (X:Cx)(e:Expr)(g:GE):Prop where
 h:PE X e (tE X g)
structure QT (X:Cx)(e:Expr)(g:GT):Prop where
 h:PT X e (tT X g)
structure QW (X:Cx)(e:Expr)(g:GT):Prop where
 h:PW X e (tT X g)
structure QA (X:Cx)(es:List Expr)(g:GA):Prop where
 h:PA X es (tA X g)
structure QS (X:Cx)(st:Stmt)(g:GS):Prop where
 h:PS X st (tS X g)
structure QB (X:Cx)(st:List Stmt)(g:GS):Prop where
 h:PSs X st (tS X g)
structure QI (X:Cx)(tg e:Expr)(g:GI):Prop where
 h:PI X tg e (tI X g)
structure QG (X:Cx)(tg:Expr)(s:GG):Prop where
 h:PG X tg (tG X s)
structure Ew (X:Cx)(tgs:List Expr)(is:List Nat):Prop where
 h:sU X tgs (EH X is)
structure QP (X:Cx)(e:Option Expr)(g:GO):Prop where
 h:PO X e (tO X g)
structure Q2 (X:Cx)(f:Value→Value→Sem Value)(F:F2):Prop where
 h:gq X f (rD X F)
structure QC (X:Cx)(f:Value)(F:FD):Prop where
 h:cB X f (rC X F)
structure xL (X:Cx)(scope:Scope)(xs:List Str)(R:List Str)(ifs:List Expr)(gc:GT):Prop where
 h:eX X scope xs R ifs gc
structure EN (X:Cx)(tgs:List Expr)(ss:List GG):Prop where
 h:sU X tgs (wk X ss)
structure QO (n:Nat)(sg:GG):Prop where
 h:jw n sg
structure Et (n:Nat)(ss:List GG):Prop where
 h:nX n ss
section
variable {X:Cx}{e a b c o i:Expr}{es rest:List Expr}{x:Str}{p p2 pos pos':Pos}{g ga gb gc go gi ge:GE}{ta tb:GT}{gA:GA}
theorem Er:Q2 X (binaryOp .Add) bu:=⟨Bk⟩
theorem Dw:Q2 X (binaryOp .Sub) d0:=⟨BF⟩
theorem EE:Q2 X (binaryOp .Mult) cY:=⟨Cm⟩
theorem BN:Q2 X (binaryOp .FloorDiv) cn:=⟨xP⟩
theorem Ex:Q2 X (binaryOp .Mod) cG:=⟨A0⟩
theorem C7:Q2 X (binaryOp .Pow) mR:=⟨AE⟩
theorem F5:Q2 X (compareOp .Lt) mW:=⟨EJ⟩
theorem Gv:Q2 X (compareOp .LtE) uz:=⟨D9⟩
theorem F7:Q2 X (compareOp .Gt) nR:=⟨DB⟩
theorem Gj:Q2 X (compareOp .GtE) re:=⟨EQ⟩
theorem Gs {k:Nat}(hr:bp k X.A):Q2 X (compareOp .Eq) (bE false):=⟨Ei hr.units⟩
theorem FA {k:Nat}(hr:bp k X.A):Q2 X (compareOp .NotEq) (bE true):=⟨DJ hr.units⟩
theorem yh:Q2 X (compareOp .IsNot) (lQ true):=⟨wx⟩
theorem FC:Q2 X (compareOp .In) (jD false):=⟨EY⟩
theorem Dl:QC X (.builtin "len") bT:=⟨Ct⟩
theorem DI (hc:X.calm=true:=by rfl):QC X (.builtin "min") mT:=⟨AF hc⟩
theorem Be {k:Nat}(hr:bp (k+1) X.A)(hc:X.calm=true:=by rfl):QC X (.builtin "max") j8:=⟨zD hr hc⟩
theorem Eg (hc:X.calm=true:=by rfl):QC X (.builtin "any") u7:=⟨B8 hc⟩
theorem CZ:QC X (.type "int") rl:=⟨BJ⟩
theorem BS:QC X (.type "list") jv:=⟨zk⟩
theorem yk:QC X (.type "tuple") bO:=⟨wL⟩
theorem qv (i:Nat){x:Str}{pos:Pos}(hN:X.N[i]?=some x:=by rfl)(hv:CN X.env.scope x:=by first|exact Or.inl rfl|exact Or.inr (Or.inl rfl)|exact Or.inr (Or.inr rfl))(hd:(x==("__debug__":Str))=false:=by decide)
  (hcd:(x==("__classdict__":Str))=false:=by decide):QE X (.Name x pos) (ae i):=⟨vv i hN hv hd hcd⟩
theorem Bo {i:Int}{j pos}:QE X (.Constant (.int i) j pos) (gC (.int i)):=⟨A1⟩
theorem Es {b j pos}:QE X (.Constant (.bool b) j pos) (gC (.bl b)):=⟨D4⟩
theorem CG {j pos}:QE X (.Constant .none j pos) (gC .non):=⟨AC⟩
theorem BL {x j pos}:QE X (.Constant (.str x) j pos) (gC (.str x)):=⟨Ce⟩
theorem Ay (h:QE X a g):QE X (.UnaryOp .USub a pos) (pq g):=⟨Cr h.h⟩
theorem Dn {op:Operator}{f:F2}(ho:Q2 X (binaryOp op) f)(ha:QE X a ga)(hb:QE X b gb):QE X (.BinOp a op b pos) (g2 f ga gb):=⟨D0 ho.h ha.h hb.h⟩
def AG:CmpOp→Bool
 | .In=>false
 | .NotIn=>false
 | _=>true
theorem nZ {op:CmpOp}{b:Expr}(h:AG op=true):behindInMarks op b=false:=by
 cases op <;> first|exact Co _|(cases h)
theorem AS {op:CmpOp}{f:F2}(ho:Q2 X (compareOp op) f)(ha:QE X a ga)(hb:QE X b gb)(hm:AG op=true:=by rfl):QE X (.Compare a [op] [b] pos) (g2 f ga gb):=⟨Cf ho.h ha.h hb.h (nZ hm)⟩
theorem A9 {op:CmpOp}{f:F2}(ho:Q2 X (compareOp op) f)(ha:QE X a ga)(hb:QE X b gb)(hm:AG op=true:=by rfl):QT X (.Compare a [op] [b] pos) (aI (g2 f ga gb)):=⟨vN ho.h ha.h hb.h (nZ hm)⟩
theorem zQ {op:CmpOp}{f:F2}(ho:Q2 X (compareOp op) f)(ha:QE X a ga)(hb:QE X b gb)(hm:behindInMarks op b=false:=by with_unfolding_all rfl):QT X (.Compare a [op] [b] pos) (aI (g2 f ga gb)):=⟨vN ho.h ha.h hb.h hm⟩
theorem vF {op op':CmpOp}{f f':F2}(ho:Q2 X (compareOp op) f)(ho':Q2 X (compareOp op') f')(ha:QE X a ga)(hb:QE X b gb)(hc:QE X c gc)(hm:lastMarks [op,op'] [b,c]=false:=by with_unfolding_all rfl):QT X (.Compare a [op,op'] [b,c] pos) (aI (uo f f' ga gb gc)):=⟨vO ho.h ho'.h ha.h hb.h hc.h hm⟩
theorem DK (hc:QT X c ta)(ha:QE X a ga)(hb:QE X b gb):QE X (.IfExp c a b pos) (mv ta ga gb):=⟨EW hc.h ha.h hb.h⟩
theorem yQ (ha:QT X a ta):QW X (.BoolOp .And [a] pos) ta:=⟨xQ ha.h⟩
theorem AY (ha:QT X a ta):QW X (.BoolOp .Or [a] pos) ta:=⟨AU ha.h⟩
theorem Cj (ha:QT X a ta)(hb:QW X (.BoolOp .And (b::rest) pos) tb):QW X (.BoolOp .And (a::b::rest) pos) (bW ta tb):=⟨Br ha.h hb.h⟩
theorem DQ (ha:QT X a ta)(hb:QW X (.BoolOp .Or (b::rest) pos) tb):QW X (.BoolOp .Or (a::b::rest) pos) (gQ ta tb):=⟨Dh ha.h hb.h⟩
theorem DT (h:QW X a ta):QT X a ta:=⟨PW.pt h.h⟩
theorem Cp (h:QT X a ta):QT X (.UnaryOp .Not a pos) (iJ ta):=⟨A2 h.h⟩
theorem By (h:QE X a g)(he:∀whole,isTrue a X.env whole=(do let v ←whole;standAt a.pos;holding [v] (truthy v)):=by intro _;rfl):QT X a (gT g):=⟨B7 h.h he⟩
theorem CI:QA X [] ag:=⟨BI⟩
theorem Ga {gr:GA}(ha:QE X e g)(hr:QA X es gr)(h:bP e=true:=by rfl):QA X (e::es) (aa g gr):=⟨Fq ha.h hr.h h⟩
theorem BQ {x1}(h:QA X es gA):QE X (.Tuple es x1 pos) (aV gA):=⟨A7 h.h⟩
theorem Bz (h:QA X es gA):QE X (.List es pos) (dE gA):=⟨B5 h.h⟩
theorem AJ (h:QA X es gA):QE X (.List es pos) (fW gA):=⟨B6 h.h⟩
theorem AQ {i:Int}{j p1 p2 p3 pos}(hi:i=1)(he:QE X e g):QE X (.Subscript e (.Slice none none (some (.UnaryOp .USub (.Constant (.int i) j p1) p2)) p3) pos) (sF g):=⟨Aw hi he.h⟩
theorem zK:QP X none de:=⟨yV⟩
theorem yo (h:QE X e g):QP X (some e) (iK g):=⟨xW h.h⟩
theorem xk {lo hi:Option Expr}{gl gh:GO}(he:QE X e g)(hl:QP X lo gl)(hh:QP X hi gh):QE X (.Subscript e (.Slice lo hi none p2) pos) (tJ g gl gh):=⟨wZ he.h hl.h hh.h⟩
theorem DP (ha:QE X a ga)(hb:QE X b gb)(hs:oU b:=by intro _ _;rfl):QE X (.Subscript a b pos) (g2 az ga gb):=⟨C9 ha.h hb.h hs⟩
section
variable {apos cpos:Pos}{k n:Nat}{f:Addr}{fd:FuncData}{ps:List Str}{F:FD}{T:String}{id:String}
theorem ve (ho:QE X o go)(he:QE X e ge)(h1:bP e=true:=by rfl)(hbase:attributeBase o "append" X.env (eval o X.env)=eval o X.env:=by rfl)(hline:(apos.endLine==cpos.line)=true:=by rfl):QE X (.Call (.Attribute o "append" apos) [e] [] cpos) (ia go ge):=⟨uy ho.h he.h hbase (Cy h1) hline (sE h1) rfl⟩
theorem Ds (Fn:eM X.prog X.w X.K X.mg X.base (gP X.prog X.w) k f fd ps (nl X.K n F))(hr:bp k X.A)(hg:Gl X x)(hm:X.mg x=some (.ref f))(hk:W.keepIn X.K (.ref f)=true)(hb:i7 X.K fd ps [])(ha:QA X (e::es) gA)
  (hdb:(x==("__debug__":Str))=false:=by decide) (h1:bP e=true:=by rfl) (h2:dJ es=true:=by rfl):QE X (.Call (.Name x p) (e::es) [] pos) (ap n F gA):=⟨Eb Fn hr hg hm hk hb ha.h hdb h1 h2⟩
theorem wv (hc:QC X (.builtin id) F)(hg:Gl X x)(hm:X.mg x=none)(hv:bootBuiltins x=some (.builtin id))(ha:QA X (e::es) gA)(hn:x≠"__name__":=by decide)(hdb:(x==("__debug__":Str))=false:=by decide)
  (h1:bP e=true:=by rfl) (h2:dJ es=true:=by rfl):QE X (.Call (.Name x p) (e::es) [] pos) (aO F gA):=⟨Dp hc.h hg hm hv ha.h hn hdb h1 h2⟩
theorem Eo (hc:QC X (.type T) F)(hg:Gl X x)(hm:X.mg x=none)(hv:bootBuiltins x=some (.type T))(ha:QA X (e::es) gA)(hn:x≠"__name__":=by decide)(hdb:(x==("__debug__":Str))=false:=by decide)
  (h1:bP e=true:=by rfl) (h2:dJ es=true:=by rfl):QE X (.Call (.Name x p) (e::es) [] pos) (aO F gA):=⟨ES hc.h hg hm hv ha.h hn hdb h1 h2⟩
theorem C2 (hT:kq T)(hv:bootBuiltins x=some (.type T))(hg:Gl X x)(hm:X.mg x=none)(hgi:Gl X "isinstance")(hmi:X.mg "isinstance"=none)(he:QE X e g)
  (h1:bP e=true:=by rfl) (hn:x≠"__name__":=by decide) (hd:(x==("__debug__":Str))=false:=by decide):QE X (.Call (.Name "isinstance" p) [e,.Name x p2] [] pos) (jQ T g):=⟨C4 hT hv hg hm hgi hmi he.h h1 hn hd⟩
end
theorem El {tg:Expr}(hg:Gl X "range")(hm:X.mg "range"=none)(ha:QA X [a] gA)(h1:bP a=true:=by rfl):QI X tg (.Call (.Name "range" p) [a] [] pos) (bA gA):=⟨Dj hg hm ha.h h1⟩
theorem Bb {tg:Expr}(h:QE X e g):QI X tg e (cm g):=⟨CD h.h⟩
theorem zn {es:List Expr}{kt:Nat}{tp:Pos}(hg:Gl X "enumerate")(hm:X.mg "enumerate"=none)(hv:bootBuiltins "enumerate"=some (.type "enumerate"))(ha:QA X [a] gA)(h1:bP a=true:=by rfl):QI X (.Tuple es kt tp) (.Call (.Name "enumerate" p) [a] [] pos) (lF gA):=⟨zq hg hm hv ha.h (sE h1)⟩
section
variable {scope:Scope}{R:List Str}{iter elt:Expr}{ifs:List Expr}{gI:GI}{gC:GT}{px:Pos}{mk:List D→aw→aM D}
theorem uK {xs:List Str}:xL X scope xs R [] a9:=⟨vZ⟩
theorem u4 {xs:List Str}(h:∀fp s2 H2 C,QT (aj X scope xs R fp s2 H2 C) c ta):xL X scope xs R [c] ta:=⟨xF fun fp s2 H2 C=>(h fp s2 H2 C).h⟩
theorem sL (hS:cj scope X.env.kindOf [x] R X.N=true)(hm:mk=aD∨mk=cL)(hi:QI X (.Name x px) iter gI)(hts:xL X scope [x] R ifs gC)(he:∀fp s H C,QE (aj X scope [x] R fp s H C) elt ge)
  (hc:X.calm=true:=by rfl) (hs:∀x,foldedSetIterable iter X.env x=pure x:=by intro _;rfl):QE X (.ListComp elt [⟨.Name x px,iter,ifs,0⟩] scope pos) (aH gI gC ge mk):=⟨zv hS hc hm hi.h hts.h (fun fp s H C=>(he fp s H C).h) hs⟩
theorem sH {j:Nat}{y:Str}{py spos:Pos}(hS:cj scope X.env.kindOf [x] R X.N=true)(hm:mk=aD∨mk=cL)(hN:X.N.Nodup)(hi:QI X (.Name x px) iter gI)(hts:xL X scope [x] R ifs gC)(he:∀fp s H C,QE (aj X scope [x] R fp s H C) elt ge)
  (hc:X.calm=true:=by rfl) (hj:X.N[j]?=some y:=by rfl) (hy:X.env.scope.names.lookup y=some .local:=by rfl) (hsw:swapsWith (.ListComp elt [⟨.Name x px,iter,ifs,0⟩] scope pos) (some (.Name y py)) spos.line X.env=pure true:=by rfl)
  (hs:∀x,foldedSetIterable iter X.env x=pure x:=by intro _;rfl):QS X (.Assign [.Name y py] (.ListComp elt [⟨.Name x px,iter,ifs,0⟩] scope pos) spos) (aA j (aH gI gC ge mk)):=⟨rG hS hc hm hi.h hts.h (fun fp s H C=>(he fp s H C).h) hN hj hy hsw hs⟩
theorem BW (n i:Nat)(h:i<n:=by decide):QO n (bo i):=⟨jY h⟩
theorem AD (n:Nat){is:List Nat}(h:is.all (fun i=>decide (i<n))=true:=by rfl):QO n (bF is):=⟨xU h⟩
theorem zG {n:Nat}:Et n []:=⟨.nil⟩
theorem Do {n:Nat}{sg:GG}{ss:List GG}(h:QO n sg)(t:Et n ss):Et n (sg::ss):=⟨.cons h.h t.h⟩
theorem zB {n:Nat}{ss:List GG}(h:Et n ss):QO n (i5 ss):=⟨xn h.h⟩
theorem nK {xs:List Str}{fp:List Addr}{s:Shared}{H:Hp}{C:Addr}{y:Str}(hS:cj scope X.env.kindOf xs R X.N=true)(h:y∈xs):(aj X scope xs R fp s H C).env.scope.names.lookup y=some .local:=lookup_relabel_local ((bx.of hS).own y h)
theorem GK {xs:List Str}{fp:List Addr}{s:Shared}{H:Hp}{C:Addr}{y:Str}(i:Nat)(hS:cj scope X.env.kindOf xs R X.N=true)(hi:(xs++R)[i]?=some y:=by rfl)(hx:y∈xs:=by simp):QG (aj X scope xs R fp s H C) (.Name y pos) (bo i):=
 ⟨l7 (X:=aj X scope xs R fp s H C) (bx.of hS).nd hi (.inl (nK hS hx)) (.inr (nK hS hx))⟩
end
def j1:Expr→Bool
 | .ListComp ..=>false
 | .SetComp ..=>false
 | .DictComp ..=>false
 | _=>true
theorem jU {t:Option Expr}{l:Nat}{env:Env}(h:j1 e=true):swapsWith e t l env=pure false:=by
 cases e <;> first|rfl|exact ff h
section
variable {st:Stmt}{stmts:List Stmt}{t u:GS}
theorem Bv:QB X [] ba:=⟨AX⟩
theorem yL (h1:QS X st t)(h2:QB X stmts u):QB X (st::stmts) (ar t u):=⟨zy h1.h h2.h⟩
theorem BO (h1:QS X st t):QB X [st] t:=⟨AZ h1.h⟩
theorem B9 (i:Nat){x:Str}(hN:X.N.Nodup)(he:QE X e g)(hi:X.N[i]?=some x:=by rfl)(hx:xK X.env.scope x:=by first|exact Or.inl rfl|exact Or.inr rfl)(hs:j1 e=true:=by rfl)(hf:X.fn x=true∨X.env.scope.names.lookup x=some .local:=by first|exact .inl rfl|exact .inr rfl) :
  QS X (.Assign [.Name x pos'] e pos) (aA i g):=⟨ss i hN he.h hi hx (jU hs) hf⟩
theorem B3 (he:QE X e g):QS X (.Return (some e) pos) (bh g):=⟨Ca he.h⟩
theorem yd (he:QE X e g)(hs:j1 e=true:=by rfl):QS X (.Expr e pos) (eN g):=⟨xV he.h (jU hs)⟩
theorem Du {a b:List Stmt}{tc:GT}(hc:QT X c tc)(ha:QB X a t)(hb:QB X b u):QS X (.If c a b pos) (fV tc t u):=⟨Ee hc.h ha.h hb.h⟩
theorem qn (i:Nat){x:Str}(hN:X.N.Nodup)(hi:X.N[i]?=some x:=by rfl)(hx:xK X.env.scope x:=by first|exact Or.inl rfl|exact Or.inr rfl)(hf:X.fn x=true∨X.env.scope.names.lookup x=some .local:=by first|exact .inl rfl|exact .inr rfl):QG X (.Name x pos) (bo i):=⟨gg i hN hi hx hf⟩
theorem yD:Ew X [] []:=⟨yX⟩
theorem D7 {i:Nat}{is:List Nat}(h1:QG X e (bo i))(h2:Ew X es is)(hs:(assignEach (e::es) X.env).map (·.2)=assign e X.env::(assignEach es X.env).map (·.2):=by rfl):Ew X (e::es) (i::is):=⟨vU h1.h h2.h hs⟩
theorem Au {is:List Nat}{k n:Nat}(h:Ew X es is)(hc:X.calm=true:=by rfl)(hl:is.length=n:=by rfl)(hn:(assignEach es X.env).length=n:=by rfl)(hst:(assignEach es X.env).findIdx? (·.1)=none:=by rfl):QG X (.Tuple es k pos) (bF is):=⟨BP hc h.h hl hn hst⟩
theorem zm:EN X [] []:=⟨wH⟩
theorem D3 {sg:GG}{ss:List GG}(h1:QG X e sg)(h2:EN X es ss)(hs:(assignEach (e::es) X.env).map (·.2)=assign e X.env::(assignEach es X.env).map (·.2):=by rfl):EN X (e::es) (sg::ss):=⟨vf h1.h h2.h hs⟩
theorem yN {ss:List GG}{k n:Nat}(h:EN X es ss)(hc:X.calm=true:=by rfl)(hl:ss.length=n:=by rfl)(hn:(assignEach es X.env).length=n:=by rfl)(hst:(assignEach es X.env).findIdx? (·.1)=none:=by rfl):QG X (.Tuple es k pos) (i5 ss):=⟨xR hc h.h hl hn hst⟩
theorem AN {tg:Expr}{s:GG}(he:QE X e g)(hg:QG X tg s)(hs:j1 e=true:=by rfl)(hw:swappedStores [tg] e X.env=pure none:=by rfl)(h1:(assignEach [tg] X.env).map (·.2)=[assign tg X.env]:=by rfl):QS X (.Assign [tg] e pos) (cu s g):=⟨Bj he.h hg.h (jU hs) hw h1⟩
theorem BK {ip:Pos}(he:QE X e g)(ho:QE X o go)(hi:QE X i gi)
  (ha:∀v,assign (.Subscript o i ip) X.env v=(do
   let ov ←holding [v] (eval o X.env)
   let iv ←holding [v,ov] (eval i X.env)
   standAt ip
   holding [v,ov,iv] (setItem ov iv v)
   release [v,ov,iv] []):=by intro _;rfl)
  (hs:j1 e=true:=by rfl) (hw:swappedStores [.Subscript o i ip] e X.env=pure none:=by rfl):QS X (.Assign [.Subscript o i ip] e pos) (iA go gi g):=⟨Ck he.h ho.h hi.h ha (by unfold swapsWithSole;exact jU hs) hw rfl⟩
theorem Bl {tg iter:Expr}{body:List Stmt}{gI:GI}{sg:GG}{gB:GS}(hp:PassesOwn (model X.prog X.w) X.A X.env X.xe)(hi:QI X tg iter gI)(hg:QG X tg sg)(hb:QB X body gB)(hc:X.calm=true:=by rfl)(hs:∀x,foldedSetIterable iter X.env x=pure x:=by intro _;rfl) :
  QS X (.For tg iter body [] pos) (gN gI sg gB):=⟨Bq hp hc hi.h hg.h hb.h hs⟩
end
end
structure Mf (K:W.Frag)(C:Addr)(x qual:Str)(st:Stmt)(f:Addr)(fd:FuncData)(ps:List Str):Prop where
 F:yy K x qual st f fd
 me:Fv K C x f
 b:i7 K fd ps []
theorem DE {P:Program}{w:World}{K:W.Frag}{mg:Str→Option Value}{base:Heap}{x qual:Str}{st:Stmt}{f:Addr}{fd:FuncData}{N ps:List Str}{k n:Nat}{g:GS}(F:yy K x qual st f fd)(S:c9 N ps (aK st))(hn:ps.length=n)
  (hbody:∀(cdv:Value) (A:Around) (outer:List Env) (s:Shared) (H:Hp) (E:XK),bp k (A.deeper (envOfC qual (aK st) s.heap.objs.size f cdv))→QB (fh (gP P w) P w K mg base N qual (aK st) f cdv A outer s H E) (cr st) g) :
  eM P w K mg base (gP P w) (k+1) f fd ps (nl K n (bD (N.length-n) g)):=Ge F S hn fun cdv A outer s H E hr=>(hbody cdv A outer s H E hr).h
theorem Av {P:Program}{w:World}{K:W.Frag}{mg:Str→Option Value}{base:Heap}{x:Str}{st:Stmt}{f c Pt:Addr}{fd:FuncData}{N ps:List Str}{k n:Nat}{g:GS}(F:yy K x x st f fd)(hns:W.nsIn K mainGlobals x=some (some (.ref f)))(T:qA K x c Pt)(S:c9 N ps (aK st))(hn:ps.length=n)
  (hbody:∀(A:Around) (outer:List Env) (s:Shared) (H:Hp) (E:XK),bp k (A.deeper (envOfC x (aK st) s.heap.objs.size f (.ref c)))→QB (fh (gP P w) P w K mg base N x (aK st) f (.ref c) A outer s H E) (cr st) g) :
  eM P w K mg base (gP P w) (k+1) f fd ps (nl K n (bD (N.length-n) g)):=DY F hns T S hn fun A outer s H E hr=>(hbody A outer s H E hr).h
theorem zI {X:Cx}{x px:Str}{c P:Addr}{params:Arguments}{body:Expr}{scope:Scope}{e:Expr}{g gb:GE}{p pos lpos kpos:Pos}{k:Nat}{N:List Str}
  (T:qA X.K x c P) (hr:bp (k+2) X.A) (hg:Gl X "min") (hm:X.mg "min"=none) (hv:bootBuiltins "min"=some (.builtin "min")) (S:c9 N [px] scope) (he:QE X e g)
  (hbody:∀(q c':Addr) (A:Around) (outer:List Env) (s:Shared) (H:Hp) (E:XK),bp k (A.deeper (envOfC (bG x) scope s.heap.objs.size q (.ref c')))→
   QE (fh (gP X.prog X.w) X.prog X.w X.K X.mg X.base N (bG x) scope q (.ref c') A outer s H E) body gb)
  (hb:∀(pm cv ctv:Value) (s:Shared) (u:Value),BindsTo s (nS (bG x) params body scope pm cv ctv) ⟨[u],[]⟩ [(px,u)]:=by intros;exact .of_eq rfl)
  (hcode:X.env.code=.ref c:=by rfl) (hglob:X.env.globals=mainGlobals:=by rfl) (hq:X.env.qual++("<lambda>":Str)=bG x:=by rfl)
  (hcl:closureFor scope X.env=pure []:=by rfl) (hd:defaultsOf params X.env=([],[]):=by rfl) (hcalm:X.calm=true:=by rfl) (h1:bP e=true:=by rfl) :
  QE X (.Call (.Name "min" p) [e] [⟨some "key",.Lambda params body scope lpos,kpos⟩] pos) (jP (rf (N.length-1) gb) g):=⟨yq T hr hg hm hv he.h hcode hglob hq hcl hd hcalm S (fun q c' A outer s H E hr=>(hbody q c' A outer s H E hr).h) hb h1⟩
theorem yl {l:W.OpenLaw}{n k:Nat}{q:Program}{loose:List Str}{XP:(Str→Option Value)→Heap→Prop}{YP:World→Heap→Prop}{d:DefRec}{K:Params→W.Frag}{x:Str}{F:FD}
  (hn:l.most=some n) (hn2:n≤sizeLine) (hdf:d.params.defaults=[]) (hr:bp k callerA) (hY:∀(w:World) (h:Heap),YP w h→(K w.params).In h)
  (hF:∀(w:World) (mg:Str→Option Value) (fa:Addr) (h:Heap),(K w.params).In h→h.Ns mainGlobals mg→mg d.name=some (.ref fa)→
   ∃fd:FuncData,(∀(s:Shared) (u:Value),BindsTo s fd ⟨[u],[]⟩ [(x,u)])∧∀base:Heap,(K w.params).In base→base.Ns mainGlobals mg→eM l.prog w (K w.params) mg base (gP l.prog w) k fa fd [x] (nl (K w.params) 1 F))
  (tabs:∀w:World,∃(ls:List (Str×DefRec×Addr×Addr)) (bm:Addr),(∀p∈ls,(recsOf q).find? (fun e=>e.name==p.1)=some p.2.1∧W.tabIn (K w.params) p.1=some (p.2.2.1,p.2.2.2)∧(K w.params).lookup p.2.2.2=none)∧
   (∀y,y∈bN→W.nsIn (K w.params) mainGlobals y=some none∨∃p∈ls,p.1=y)∧W.nsIn (K w.params) mainGlobals "__builtins__"=some (some (.ref bm))∧(K w.params).lookup bm=none)
  (ht:∀ns:List Int,ns.length≤n→∃M',F [.ro (ns.map D.int)] []=.ok (.bl true) M') :
  W.WalkO q loose XP YP l.row.toRowW d [] (fun f vs=>PySem.call f vs):=
 AB (CX:=fun w=>gP l.prog w) (sp:=fun w=>nl (K w.params) 1 F) hn hn2 hdf hr hY hF tabs (fun w H a ns hl tb hS=>Bu tb hS (ht ns hl)) fun w H s e s' z=>EM z
theorem wD {q:Program}{K:W.Frag}:∀p∈([]:List (Str×DefRec×Addr×Addr)),(recsOf q).find? (fun e=>e.name==p.1)=some p.2.1∧W.tabIn K p.1=some (p.2.2.1,p.2.2.2)∧K.lookup p.2.2.2=none:=fun _ h=>by cases h
theorem uS {q:Program}{K:W.Frag}{x:Str}{d:DefRec}{c P:Addr}{ls:List (Str×DefRec×Addr×Addr)}(h1:(recsOf q).find? (fun e=>e.name==x)=some d)(h2:W.tabIn K x=some (c,P))(h3:K.lookup P=none)
  (h:∀p∈ls,(recsOf q).find? (fun e=>e.name==p.1)=some p.2.1∧W.tabIn K p.1=some (p.2.2.1,p.2.2.2)∧K.lookup p.2.2.2=none) :
  ∀p∈(x,d,c,P)::ls,(recsOf q).find? (fun e=>e.name==p.1)=some p.2.1∧W.tabIn K p.1=some (p.2.2.1,p.2.2.2)∧K.lookup p.2.2.2=none:=fun p hp=>by
 rcases mem_cons.mp hp with rfl|hp
 ·exact⟨h1,h2,h3⟩
 ·exact h p hp
theorem pL {φ:Str→Prop}(h1:φ "ink_shown")(h2:φ "table_within")(h3:φ "slots_given")(h4:φ "cast_on_slots"):∀y,y∈bN→φ y:=fun y hy=>by
 simp only[bN,mem_cons,not_mem_nil,or_false] at hy;rcases hy with rfl|rfl|rfl|rfl <;> assumption
theorem yR {q:Program}{K:W.Frag}{ls:List (Str×DefRec×Addr×Addr)}{bm:Addr}(h:∀p∈ls,(recsOf q).find? (fun e=>e.name==p.1)=some p.2.1∧W.tabIn K p.1=some (p.2.2.1,p.2.2.2)∧K.lookup p.2.2.2=none)
  (h2:∀y,y∈bN→W.nsIn K mainGlobals y=some none∨∃p∈ls,p.1=y) (h3:W.nsIn K mainGlobals "__builtins__"=some (some (.ref bm))) (h4:K.lookup bm=none) :
  ∃(ls:List (Str×DefRec×Addr×Addr)) (bm:Addr),(∀p∈ls,(recsOf q).find? (fun e=>e.name==p.1)=some p.2.1∧W.tabIn K p.1=some (p.2.2.1,p.2.2.2)∧K.lookup p.2.2.2=none)∧
   (∀y,y∈bN→W.nsIn K mainGlobals y=some none∨∃p∈ls,p.1=y)∧W.nsIn K mainGlobals "__builtins__"=some (some (.ref bm))∧K.lookup bm=none:=⟨ls,bm,h,h2,h3,h4⟩
theorem AI {K:W.Frag}{x:Str}{f c P:Addr}{oc occ:Value}{od odc:Option Addr}{fd:FuncData}{sl slc:Array (Option Value)}{vs:Array Value}
  (a:W.nsIn K mainGlobals x=some (some (.ref f))) (l:K.lookup f=some ⟨oc,od,.func fd,sl⟩) (ec:fd.code=.ref c) (lc:K.lookup c=some ⟨occ,odc,.fields vs,slc⟩) (h11:vs[11]?=some (.ref P)):W.tabIn K x=some (c,P):=by
 unfold W.tabIn;rw[a];dsimp only;rw[l];dsimp only;rw[ec];dsimp only;rw[lc];dsimp only;rw[h11]
end DL
namespace PySem
end PySem
namespace L2
open PySem PySem.Spec PyProof.Rows List
def sortI (ns:List Int):List Int:=ns.mergeSort fun a b=>decide (a≤b)
end L2
namespace DL
open PySem PySem.Spec PyProof.Rows L2 List
section
variable {X:Cx}{pos apos cpos:Pos}{o e f:Expr}
def EB:List D→Option (List Int)
 | []=>some []
 | .int i::ds=>(EB ds).map (i::·)
 | _::_=>none
end
end DL
namespace L2
open PySem PySem.Spec PyProof.Rows List
end L2
namespace DL
open PySem PySem.Spec PyProof.Rows L2 List
end DL
namespace L2
open PySem PySem.Spec PyProof.Rows List
end L2
namespace DL
open PySem PySem.Spec PyProof.Rows L2 List
theorem bK {N ps:List Str}{sc:Scope}(h1:sc.kind=.function:=by rfl)(h2:sc.isCoroutine=false:=by rfl)(h3:sc.isGenerator=false:=by rfl)(h4:N.Nodup:=by decide +kernel)(h5:N.take ps.length=ps:=by rfl)
  (h6:∀x∈ps,sc.names.lookup x=some .local∨sc.names.lookup x=some .cell:=by decide +kernel) (h7:∀y∈sc.names,y.2≠.free:=by decide +kernel):c9 N ps sc:=⟨h1,h2,h3,h4,h5,h6,h7⟩
section
variable {X:Cx}{e:Expr}{es:List Expr}{x:Str}{p pos:Pos}{gA:GA}{k k' n:Nat}{f:Addr}{fd:FuncData}{ps:List Str}{F:FD}{st:Stmt}{id:String}{T:String}
theorem Df (hc:QC X (.builtin id) F)(hm:X.mg x=none)(hv:bootBuiltins x=some (.builtin id))(ha:QA X (e::es) gA)(hg:Gl X x:=by rfl)(hn:x≠"__name__":=by decide)(hdb:(x==("__debug__":Str))=false:=by decide)
  (h1:bP e=true:=by rfl) (h2:dJ es=true:=by rfl):QE X (.Call (.Name x p) (e::es) [] pos) (aO F gA):=wv hc hg hm hv ha hn hdb h1 h2
end
def FF (K:W.Frag)(mg:Str→Option Value)(x:Str)(st:Stmt)(ps:List Str):Prop:=∃f fd,Fn K mg x st f fd ps
def KC (K:W.Frag)(mg:Str→Option Value)(c:Str)(C:Addr):Prop:=Kc K mg c C∧W.makesIn K C=true∧W.keepIn K (.ref C)=true
def MF (K:W.Frag)(mg:Str→Option Value)(c m q:Str)(st:Stmt)(ps:List Str):Prop:=∃C f fd,KC K mg c C∧Mf K C m q st f fd ps
def LF (K:W.Frag)(mg:Str→Option Value)(x:Str)(st:Stmt)(ps:List Str):Prop:=∃f fd c P,Fn K mg x st f fd ps∧W.nsIn K mainGlobals x=some (some (.ref f))∧qA K x c P
def NA (K:W.Frag)(mg:Str→Option Value)(c f:Str):Prop:=∃C,KC K mg c C∧CB K C f
def EX (K:W.Frag)(mg:Str→Option Value)(x:Str):Prop:=∃C,Ec K mg x C
def IX (K:W.Frag)(mg:Str→Option Value)(x:Str)(tab:List (Str×Bool)):Prop:=∃G,Ec K mg x G∧∀p∈tab,∃C,Ec K mg p.1 C∧W.mroIn K C (.ref G)=some p.2
def IB (K:W.Frag)(mg:Str→Option Value)(x:String)(tab:List (Str×Bool)):Prop:=∀p∈tab,∃C,Ec K mg p.1 C∧W.mroIn K C (.type x)=some p.2
def Ls {α:Type}(P:α→Prop)(l:List α):Prop:=∀t∈l,P t
section
variable {α β γ:Type}{P:α→Prop}{l:List α}{a:α}
theorem Ls.nil:Ls P []:=fun _ h=>by cases h
theorem Ls.cons (h:P a)(t:Ls P l):Ls P (a::l):=fun x hx=>by
 rcases mem_cons.mp hx with e|e
 ·rw[e];exact h
 ·exact t x e
end
structure RN (l c:Nat)(xs R:List Str):Prop
theorem rn (l c:Nat)(xs R:List Str):RN l c xs R:=⟨⟩
def Ok (P:Program)(w:World)(K:W.Frag)(mg:Str→Option Value)(base:Heap)(x:Str)(k n:Nat)(F:FD):Prop:=
 ∃f fd ps,eM P w K mg base (gP P w) k f fd ps (nl K n F)∧mg x=some (.ref f)∧W.keepIn K (.ref f)=true∧i7 K fd ps []
section
variable {P:Program}{w:World}{K:W.Frag}{mg:Str→Option Value}{base:Heap}{x c m q:Str}{st:Stmt}{N ps:List Str}{k n:Nat}{g:GS}{F:FD}
theorem jy (h:Ok P w K mg base x k n F):Ok P w K mg base x k n fun ds M=>fJ M.length (F ds M):=by
 obtain⟨f,fd,ps,h1,h2,h3,h4⟩:=h;exact⟨f,fd,ps,B0 h1,h2,h3,h4⟩
theorem dr (T:FF K mg x st ps)(N:List Str)(S:c9 N ps (aK st))(hn:ps.length=n)
  (hb:∀(f:Addr) (cdv:Value) (A:Around) (outer:List Env) (s:Shared) (H:Hp) (E:XK),N.Nodup→bp k (A.deeper (envOfC x (aK st) s.heap.objs.size f cdv))→QB (fh (gP P w) P w K mg base N x (aK st) f cdv A outer s H E) (cr st) g) :
  Ok P w K mg base x (k+1) n (bD (N.length-n) g):=by
 obtain⟨f,fd,T⟩:=T;exact⟨f,fd,ps,DE T.F S hn fun cdv A outer s H E hr=>hb f cdv A outer s H E S.nd hr,T.m,T.F.kp,T.b⟩
theorem F1 (T:LF K mg x st ps)(N:List Str)(S:c9 N ps (aK st))(hn:ps.length=n)
  (hb:∀(f c Pt:Addr) (A:Around) (outer:List Env) (s:Shared) (H:Hp) (E:XK),N.Nodup→qA K x c Pt→bp k (A.deeper (envOfC x (aK st) s.heap.objs.size f (.ref c)))→QB (fh (gP P w) P w K mg base N x (aK st) f (.ref c) A outer s H E) (cr st) g) :
  Ok P w K mg base x (k+1) n (bD (N.length-n) g):=by
 obtain⟨f,fd,c,Pt,T,hns,tb⟩:=T;exact⟨f,fd,ps,Av T.F hns tb S hn fun A outer s H E hr=>hb f c Pt A outer s H E S.nd tb hr,T.m,T.F.kp,T.b⟩
end
section
variable {X:Cx}{e a o value:Expr}{es:List Expr}{x c m f:Str}{p p2 pos apos pos':Pos}{gA:GA}{g go gv:GE}{k k' n:Nat}{F:FD}{tab:List (Str×Bool)}{bs:List Str}
theorem C5 (h:Ok X.prog X.w X.K X.mg X.base x k n F)(hr:bp k' X.A)(ha:QA X (e::es) gA)(hk:k≤k':=by first|decide|omega)(hg:Gl X x:=by rfl)
  (hdb:(x==("__debug__":Str))=false:=by decide) (h1:bP e=true:=by rfl) (h2:dJ es=true:=by rfl):QE X (.Call (.Name x p) (e::es) [] pos) (ap n F gA):=by
 obtain⟨f,fd,ps,h1',h2',h3,h4⟩:=h;exact Ds h1' (hr.mono hk) hg h2' h3 h4 ha hdb h1 h2
end
section
variable {X:Cx}{x:Str}{pos px:Pos}{ge:GE}{scope:Scope}{xs R:List Str}{iter elt tg:Expr}{ifs:List Expr}{gI:GI}{gC:GT}{sg:GG}{mk:List D→aw→aM D}{j:Nat}{y:Str}{py spos:Pos}{n:Nat}
theorem xl (hS:cj scope X.env.kindOf [x] X.N X.N=true)(hm:mk=aD∨mk=cL)(hi:QI X (.Name x px) iter gI)(hts:xL X scope [x] X.N ifs gC)(he:∀fp s H C,QE (aj X scope [x] X.N fp s H C) elt ge)
  (hc:X.calm=true:=by rfl) (hs:∀x,foldedSetIterable iter X.env x=pure x:=by intro _;rfl):QE X (.ListComp elt [⟨.Name x px,iter,ifs,0⟩] scope pos) (aH gI gC ge mk):=sL hS hm hi hts he hc hs
theorem wK (_:RN pos.line pos.col [x] R)(hS:cj scope X.env.kindOf [x] R X.N=true)(hm:mk=aD∨mk=cL)(hi:QI X (.Name x px) iter gI)(hts:xL X scope [x] R ifs gC)(he:∀fp s H C,QE (aj X scope [x] R fp s H C) elt ge)
  (hc:X.calm=true:=by rfl) (hs:∀x,foldedSetIterable iter X.env x=pure x:=by intro _;rfl):QE X (.ListComp elt [⟨.Name x px,iter,ifs,0⟩] scope pos) (aH gI gC ge mk):=sL hS hm hi hts he hc hs
theorem qS (hS:cj scope X.env.kindOf [x] X.N X.N=true)(hm:mk=aD∨mk=cL)(hN:X.N.Nodup)(hi:QI X (.Name x px) iter gI)(hts:xL X scope [x] X.N ifs gC)(he:∀fp s H C,QE (aj X scope [x] X.N fp s H C) elt ge)
  (hc:X.calm=true:=by rfl) (hj:X.N[j]?=some y:=by rfl) (hy:X.env.scope.names.lookup y=some .local:=by rfl) (hsw:swapsWith (.ListComp elt [⟨.Name x px,iter,ifs,0⟩] scope pos) (some (.Name y py)) spos.line X.env=pure true:=by rfl)
  (hs:∀x,foldedSetIterable iter X.env x=pure x:=by intro _;rfl):QS X (.Assign [.Name y py] (.ListComp elt [⟨.Name x px,iter,ifs,0⟩] scope pos) spos) (aA j (aH gI gC ge mk)):=sH hS hm hN hi hts he hc hj hy hsw hs
end
structure Tx (tab:List (Str×Stmt×List Str))(mtab:List (Str×Str×Str×Stmt×List Str))(ls:List (Str×Stmt×List Str))(zs es:List Str)(rs:List (Str×List (Str×Bool)))(vt:List (Str×Bool))(nas:List (Str×Str))(cs:List (Str×Str))(ci:List (Str×Int))
  (P:Program) (w:World) (K:W.Frag) (mg:Str→Option Value) (base:Heap):Prop where
 f:Ls (fun t=>FF K mg t.1 t.2.1 t.2.2) tab
 m:Ls (fun t=>MF K mg t.1 t.2.1 t.2.2.1 t.2.2.2.1 t.2.2.2.2) mtab
 l:Ls (fun t=>LF K mg t.1 t.2.1 t.2.2) ls
 z:∀x∈zs,mg x=none
 e:∀x∈es,EX K mg x
 r:Ls (fun t=>IX K mg t.1 t.2) rs
 b:IB K mg "ValueError" vt
 a:∀t∈nas,NA K mg t.1 t.2
 s:Ls (fun t=>∃tk,mg t.1=some (.str t.2 tk)) cs
 i:Ls (fun t=>∃tk,mg t.1=some (.int t.2 tk)) ci
theorem zV {K:W.Frag}{mg:Str→Option Value}{l:List (Str×List (Str×Bool))}{x:Str}{t:List (Str×Bool)}(h:Ls (fun t=>IX K mg t.1 t.2) l)(e:l.lookup x=some t):IX K mg x t:=by
 refine h (x,t) ?_
 induction l with
 | nil=>cases e
 | cons p l ih=>
  obtain⟨y,u⟩:=p;rw[lookup_cons] at e;split at e
  ·rename_i q;cases e;rw[eq_of_beq q];exact .head _
  ·exact .tail _ (ih (fun t ht=>h t (.tail _ ht)) e)
section
variable {K:W.Frag}{mg:Str→Option Value}{x c m q:Str}{st:Stmt}{ps:List Str}{l:List (Str×Stmt×List Str)}{l':List (Str×Str×Str×Stmt×List Str)}
theorem dq (h:Ls (fun t=>FF K mg t.1 t.2.1 t.2.2) l)(i:Nat)(e:l[i]?=some (x,st,ps):=by rfl):FF K mg x st ps:=h _ (mem_of_getElem? e)
theorem FS (h:Ls (fun t=>LF K mg t.1 t.2.1 t.2.2) l)(i:Nat)(e:l[i]?=some (x,st,ps):=by rfl):LF K mg x st ps:=h _ (mem_of_getElem? e)
end
section
variable {K:W.Frag}{h:Heap}{mg:Str→Option Value}{x c m q f':Str}{st:Stmt}{ps:List Str}{f C G:Addr}{oc kV dc pm cd ct:Value}{od an:Option Addr}{sl:Array (Option Value)}
theorem DG (X:K.In h)(Gm:h.Ns mainGlobals mg)(a:W.nsIn K mainGlobals x=some (some (.ref f)))(l:K.lookup f=some ⟨oc,od,.func (W.fnOf x x (fg st) (cr st) (aK st) .none kV dc pm an cd ct),sl⟩)(c:W.codeIn K cd x=true)(k:W.keepIn K (.ref f)=true)
  (b:∀(kV doc pm:Value) (an:Option Addr) (cdv ct:Value) (us:List Value),us.length=ps.length→bindArgs (W.fnOf x x (fg st) (cr st) (aK st) .none kV doc pm an cdv ct) ⟨us,[]⟩=pure (ps.zip us)):FF K mg x st ps:=
 ⟨f,_,o7 (st:=st) l c k,W.mg_of X Gm a,(o7 (st:=st) l c k).binds b⟩
theorem Em (kC:KC K mg c C)(a:W.findIn K (.ref C) f'=some none):NA K mg c f':=⟨C,kC,a⟩
theorem Eh (h:Ec K mg x C):EX K mg x:=⟨C,h⟩
theorem C3 {tab:List (Str×Bool)}(h:Ec K mg x G)(t:Ls (fun p=>∃C,Ec K mg p.1 C∧W.mroIn K C (.ref G)=some p.2) tab):IX K mg x tab:=⟨G,h,t⟩
theorem Gk (X:K.In h)(Gm:h.Ns mainGlobals mg)(e:W.nsIn K mainGlobals x=some none):mg x=none:=W.mg_none_of X Gm e
theorem DR {u:Tok→Value}{tk:Tok}(X:K.In h)(Gm:h.Ns mainGlobals mg)(e:W.nsIn K mainGlobals x=some (some (u tk))):∃tk,mg x=some (u tk):=⟨tk,W.mg_of X Gm e⟩
end
theorem DD {K:W.Frag}{h:Heap}{mg:Str→Option Value}{x:Str}{st:Stmt}{ps:List Str}{f c P:Addr}{oc occ kV dc pm ct:Value}{od odc an:Option Addr}{sl slc:Array (Option Value)}{vs:Array Value}{file:Str}{tf tg tt:Tok}{flags text:Int}{inF:Bool}
  (X:K.In h) (Gm:h.Ns mainGlobals mg) (a:W.nsIn K mainGlobals x=some (some (.ref f))) (l:K.lookup f=some ⟨oc,od,.func (W.fnOf x x (fg st) (cr st) (aK st) .none kV dc pm an (.ref c) ct),sl⟩) (cc:W.codeIn K (.ref c) x=true) (k:W.keepIn K (.ref f)=true)
  (lc:K.lookup c=some ⟨occ,odc,.fields vs,slc⟩) (hcc:occ=.type "code") (h11:vs[11]?=some (.ref P)) (h18:vs.getD 18 .none=.str file tf) (h7:vs.getD 7 .none=.int flags tg) (h9:vs.getD 9 .none=.bool inF) (h10:vs.getD 10 .none=.int text tt) (ne:c≠P)
  (hm:x∈bN) (un:∀y,y∈bN→y≠x→W.nsIn K mainGlobals y=some none)
  (b:∀(kV doc pm:Value) (an:Option Addr) (cdv ct:Value) (us:List Value),us.length=ps.length→bindArgs (W.fnOf x x (fg st) (cr st) (aK st) .none kV doc pm an cdv ct) ⟨us,[]⟩=pure (ps.zip us)):LF K mg x st ps:=
 ⟨f,_,c,P,⟨o7 (st:=st) l cc k,W.mg_of X Gm a,(o7 (st:=st) l cc k).binds b⟩,a,zP hm a l rfl lc hcc h11 h18 h7 h9 h10 ne fun y hy n=>.inl (un y hy n)⟩
section
variable {P:List Value→Prop}
theorem GD (h:∀a b,P [a,b])(us:List Value)(hl:us.length=2):P us:=by
 match us,hl with
 | [a,b],_=>exact h a b
end
theorem BV {l:W.OpenLaw}{w:World}{K:W.Frag}{mg:Str→Option Value}{fa:Addr}{st:Stmt}{k:Nat}{F:FD}(hfa:mg "law"=some (.ref fa))(L:FF K mg "law" st ["script"])
  (h:∀(base:Heap) (f:Addr) (fd:FuncData),Fn K mg "law" st f fd ["script"]→eM l.prog w K mg base (gP l.prog w) k f fd ["script"] (nl K 1 F))
  (hb:∀(kV doc pm:Value) (an:Option Addr) (cdv ct:Value) (v:Value),bindArgs (W.fnOf "law" "law" (fg st) (cr st) (aK st) .none kV doc pm an cdv ct) ⟨[v],[]⟩=pure [(("script":Str),v)]) :
  ∃fd:FuncData,(∀(s:Shared) (v:Value),BindsTo s fd ⟨[v],[]⟩ [("script",v)])∧∀base:Heap,K.In base→base.Ns mainGlobals mg→eM l.prog w K mg base (gP l.prog w) k fa fd ["script"] (nl K 1 F):=by
 obtain⟨f,fd,L⟩:=L;have e:=hfa.symm.trans L.m;cases e;refine⟨fd,fun s v=>?_,fun base _ _=>h base _ fd L⟩;obtain⟨oc,od,kV,doc,pm,an,cdv,ct,osl,rfl,lk,hcd⟩:=L.F.ex;exact .of_eq (hb kV doc pm an cdv ct v)
end DL
namespace DL
open PySem PySem.Spec PyProof.Rows PySem.W L2 List
section
variable {key:Nat→Int}{N:Nat}{s:Shared}{cmp:Nat→Nat→(Bool→Shared→Prop)→Shared→Prop}
def kp (key:Nat→Int)(p:Array Nat)(k:Nat):Int:=key (p.getD k 0)
def up (key:Nat→Int)(p:Array Nat)(n:Nat):Prop:=∀k,k+1<n→kp key p k≤kp key p (k+1)
end
section
def rank (zs:List (List Int))(z:List Int):Int:=(zs.countP fun y=>HT.lexLt y z:Nat)
def D8 (zs:List (List Int)):List (List Int):=zs.mergeSort fun a b=>!HT.lexLt b a
end
def FN (z:List Int):D:=.tup (z.map D.int)
def Ao:List D→Option (List (List Int))
 | []=>some []
 | d::ds=>match g6 d,Ao ds with
  | some (i::z),some zs=>some ((i::z)::zs)
  | _,_=>none
def GC:FD:=fun ds M=>match ds with
 | [d]=>match sn d M with
  | some xs=>match EB xs with
   | some ns=>if ns.length<64 then .ok (.lst ((L2.sortI ns).map D.int)) M else .bad
   | none=>match Ao xs with
    | some zs=>if zs.length<64 then .ok (.lst ((D8 zs).map FN)) M else .bad
    | none=>.bad
  | none=>.bad
 | _=>.bad
def z8 (neg:Bool):F2:=fun x y M=>match aU y M with
 | some xs=>if aY 40 x&&xs.all (aY 40) then .ok (.bl ((xs.any fun y=>kE y x) != neg)) M else .bad
 | none=>.bad
section
variable {X:Cx}{af:List (Addr×Obj)}{σ:L2.St}{H:Hp}{s:Shared}{θ:List Addr}
noncomputable def inE (h:Heap) (px:PyData) (u:Value):Bool:=open Classical in decide (∃d as,Reads h u d as∧PyData.eqv d px=true)
theorem xH {h:Heap}{px d:PyData}{u:Value}{as:List Addr}(r:Reads h u d as)(l:d.canLay0=true):inE h px u=PyData.eqv d px:=by
 unfold inE;cases e:PyData.eqv d px with
 | true=>exact @decide_eq_true _ (Classical.propDecidable _) ⟨d,as,r,e⟩
 | false=>
  refine @decide_eq_false _ (Classical.propDecidable _) fun hxx=>?_
  obtain⟨d',as',r',e'⟩:=hxx;have:=SeqAt.Reads.unique d d' u as as' l r r';subst this;rw[e] at e';cases e'
theorem lW (I:L2.Inv X af σ H s){x:D}(hx:aY 40 x=true):∀{ds:List D} {vs:List V} {us:List Value},ds.all (aY 40)=true→aR X.K θ H ds vs→aQ vs us→us.any (inE s.heap (hO x))=(ds.any fun y=>kE y x)∧∀u∈us,∃d as,Reads s.heap u d as∧d.canLay0=true∧d.depth≤40
 | [],vs,us,_,r,v=>by
  have e:vs=[]:=r;subst e;cases v;exact⟨rfl,fun u hu=>by cases hu⟩
 | d::ds,vs,us,c,r,v=>by
  rw[all_cons,Bool.and_eq_true] at c;obtain⟨v1,vr,e1,r1,r2⟩:=r;subst e1;cases v with
  | cons h1 h2=>
   obtain⟨a,b⟩:=lW I hx c.2 r2 h2;obtain⟨as,R⟩:=iW I d 40 _ _ c.1 r1 h1;have l:=dS d 40 c.1;refine⟨?_,fun u hu=>?_⟩
   ·rw[any_cons,any_cons,a,xH R l.1,jk d x 40 40 c.1 hx]
   ·rcases mem_cons.mp hu with e|e
    ·rw[e];exact⟨_,as,R,l.1,l.2⟩
    ·exact b u e
end
end DL
namespace DL
open PySem PySem.Spec PyProof.Rows L2 List
end DL
namespace DL
open PySem PySem.Spec PyProof.Rows PySem.W L2 List
end DL
namespace DL
open PySem PySem.Spec PyProof.Rows L2 List
def jC (xs ys:List D):List D:=xs.zipWith (fun x y=>D.tup [x,y]) ys
theorem pS {xs ys:List D}{i:Nat}{d:D}(h:(jC xs ys)[i]?=some d):∃x y,xs[i]?=some x∧ys[i]?=some y∧d=.tup [x,y]:=by
 unfold jC at h;rw[getElem?_zipWith] at h;cases q:xs[i]? with
 | none=>rw[q] at h;cases h
 | some x=>
  cases q2:ys[i]? with
  | none=>rw[q,q2] at h;cases h
  | some y=>rw[q,q2] at h;exact⟨x,y,rfl,rfl,(Option.some.inj h).symm⟩
section
variable {X:Cx}{af:List (Addr×Obj)}{σ:L2.St}{H:Hp}{s:Shared}{θ:List Addr}
theorem sY (hu:X.A.units+64<cLine)(I:L2.Inv X af σ H s){dx:D}{x:V}{v:Value}{ds:List D}{vs:List V}{its:List Value}(hx:aY 40 dx=true)(hc:ds.all (aY 40)=true)(r1:c6 X.K θ H dx x)(rx:bi x v)(ra:aR X.K θ H ds vs)(r:aQ vs its) :
  ∀w∈its,SeqAt.EqAt X.A.in1 s w v (inE s.heap (hO dx) w):=fun w hw=>by
 obtain⟨bs,RX⟩:=iW I dx 40 x v hx r1 rx;have lx:=dS dx 40 hx;obtain⟨d,as,R,l1,l2⟩:=(lW I hx hc ra r).2 w hw;rw[xH R l1];exact SeqAt.eqAt_reads d (hO dx) X.A.in1 s w v as bs R RX l1 lx.1 (by
  show X.A.units+1+min d.depth (hO dx).depth<cLine;have:min d.depth (hO dx).depth≤d.depth:=Nat.min_le_left _ _;omega)
theorem uW (hu:X.A.units+64<cLine):gq X (compareOp .NotIn) (rD X (z8 true)):=by
 intro af s σ H x y v u Q I rx ry h;obtain⟨θ,M,dx,dy,hw,r1,r2,h⟩:=h;unfold z8 at h;cases q:aU dy M with
 | none=>rw[q] at h;exact h.elim
 | some xs=>
  rw[q] at h;dsimp only at h
  by_cases hc:(aY 40 dx&&xs.all (aY 40))=true
  ·rw[if_pos hc] at h;rw[Bool.and_eq_true] at hc;obtain⟨a,vs,ea,sq,ra⟩:=k7 hw r2 q;subst ea;cases ry;have k:=h _ θ H (.refl hw) rfl;rw[Bool.bne_true] at k;rcases sq with sq|sq
   ·obtain⟨its,r,pl,hz⟩:=I.list sq;refine SeqAt.notIn_listAt (inE s.heap (hO dx)) pl.isList (fun w hw=>sY hu I hc.1 hc.2 r1 rx ra r w (by simpa using hw)) ⟨.bl _,H,I,rfl,?_⟩;rw[show its.toArray.any (inE s.heap (hO dx))=its.any (inE s.heap (hO dx)) by simp,(lW I hc.1 hc.2 ra r).1];exact k
   ·obtain⟨its,r,pl,hz⟩:=I.tuple sq;refine SeqAt.notIn_tupleAt (inE s.heap (hO dx)) pl (fun w hw=>sY hu I hc.1 hc.2 r1 rx ra r w (by simpa using hw)) ⟨.bl _,H,I,rfl,?_⟩;rw[show its.toArray.any (inE s.heap (hO dx))=its.any (inE s.heap (hO dx)) by simp,(lW I hc.1 hc.2 ra r).1];exact k
  ·rw[if_neg hc] at h;exact h.elim
end
section
variable {X:Cx}{k:Nat}{o e:Expr}{go ge:GE}{apos cpos:Pos}
theorem vL (hr:bp k X.A):Q2 X (compareOp .NotIn) (z8 true):=⟨uW hr.units⟩
end
section
variable {prog:Program}{w:World}{A:Around}{R:Result→Shared→Prop}{s:Shared}
theorem eO {elt target:Expr}{gens:List Comprehension}{scope:Scope}{pos p:Pos}{dp:Nat}{it acc:Value}{env:Env}{cond:Sem Bool}{act:Sem Unit}
  (heq:compTurn (.ListComp elt gens scope pos) dp it acc env=(standAt p >>= fun _=>pyNext it >>= fun r=>match r with
   | none=>pure (.done .next)
   | some v=>letOwnedTupleGo target it v >>= fun _=>assign target env v >>= fun _=>cond >>= fun ok=>
    if ok=true then(act >>= fun _=>again (.compLoop (.ListComp elt gens scope pos) dp it acc env)) else again (.compLoop (.ListComp elt gens scope pos) dp it acc env))) (I:Nat→Shared→Prop)
  (turn:∀n s,I n s→wpAny (model prog w) A (pyNext it) (fun r s₁=>match r with
   | none=>R (.ok .next) s₁
   | some v=>wpAny (model prog w) A (letOwnedTupleGo target it v) (fun _ s₂=>wpAny (model prog w) A (assign target env v) (fun _ s₃=>wpAny (model prog w) A cond (fun ok s₄=>if ok=true then
     wpAny (model prog w) A act (fun _ s₅=>∃m,m<n∧I m s₅) (fun _ _=>False) s₄
     else∃m,m<n∧I m s₄) (fun _ _=>False) s₃) (fun _ _=>False) s₂) (fun _ _=>False) s₁) (fun _ _=>False) s)
  (n:Nat) (h:I n s):codeAny (model prog w) A (.compLoop (.ListComp elt gens scope pos) dp it acc env) R s:=by
 refine codeAny_loop rfl I (fun n s hI=>?_) n h;show wpAny _ _ ((compTurn (.ListComp elt gens scope pos) dp it acc env).onRaise (fun x=>do noteFrame x env;theTreesLotGoes x)) _ _ s;refine wpAny_noted ?_;rw[heq];refine wpAny_bind (wpAny_standAt (wpAny_bind (wpAny_mono (turn n s hI) (fun r s₁ h₁=>?_) fun _ _ z=>z.elim)));cases r with
 | none=>exact wpAny_pure h₁
 | some v=>
  refine wpAny_bind (wpAny_mono h₁ (fun _ s₂ h₂=>?_) fun _ _ z=>z.elim);refine wpAny_bind (wpAny_mono h₂ (fun _ s₃ h₃=>?_) fun _ _ z=>z.elim);refine wpAny_bind (wpAny_mono h₃ (fun ok s₄ h₄=>?_) fun _ _ z=>z.elim);cases ok with
  | true=>
   rw[if_pos rfl] at h₄;rw[if_pos rfl];exact wpAny_bind (wpAny_mono h₄ (fun x s₅ h₅=>wpAny_pure ⟨rfl,h₅⟩) fun _ _ z=>z.elim)
  | false=>
   rw[if_neg Bool.false_ne_true] at h₄;rw[if_neg Bool.false_ne_true];exact wpAny_pure ⟨rfl,h₄⟩
theorem jG {elt:Expr}{g1 g2:Comprehension}{scope:Scope}{pos:Pos}{it acc:Value}{env:Env}(ha:g2.is_async=0)
  (h0:codeAny (model prog w) A (.compLoop (.ListComp elt [g1,g2] scope pos) 1 it acc env) R s)
  (h:wpAny (model prog w) A (pyIter it) (fun it' s'=>codeAny (model prog w) A (.compLoop (.ListComp elt [g1,g2] scope pos) 1 it' acc env) R s')
   (notedBy (model prog w) A env fun x s'=>R (.error x) s') s):codeAny (model prog w) A (.compStart (.ListComp elt [g1,g2] scope pos) 1 it acc env) R s:=by
 obtain⟨t2,i2,f2,a2⟩:=g2;have ha:a2=0:=ha;subst ha;refine codeAny_of_tree ?_;show wpAny _ _ ((compStart (.ListComp elt [g1,⟨t2,i2,f2,0⟩] scope pos) 1 it acc env).onRaise (fun x=>do noteFrame x env;standAt theWindowsPlace)) _ _ s;refine wpAny_notedAt ?_;unfold compStart;show wpAny _ _ (ask >>= _) _ _ s;refine wpAny_bind (wpAny_askSetting (wpAny_ite ?_));split
 ·first
   | exact wpAny_bind (wpAny_pure (wpAny_pure (And.intro rfl h0)))
   | exact wpAny_pure (And.intro rfl h0)
 ·refine wpAny_bind (wpAny_rule ?_);show wpAny _ _ (standAt i2.pos >>= _) _ _ s;exact wpAny_bind (wpAny_standAt (wpAny_bind (wpAny_mono h (fun it' s' h'=>wpAny_pure (And.intro rfl h')) fun _ _ x=>x)))
end
def jm (t:jN)(sg:GG)(gc:GT)(ge:GE):List D→bj→aw→aM (List D)
 | [],_,M=>if t.ok M then .ok [] M else .bad
 | d::r,ρ,M=>if t.ok M then
   match sg d ρ with
   | none=>.bad
   | some ρ1=>match gc ρ1 M with
    | .ok true M1=>match ge ρ1 M1 with
     | .ok e M2=>(jm t sg gc ge r ρ1 M2).bind fun es M3=>.ok (e::es) M3
     | _=>.bad
    | .ok false M1=>jm t sg gc ge r ρ1 M1
    | _=>.bad
  else .bad
def bt (t:jN)(n:Nat)(sg:GG)(gc:GT)(gb:bj→aw→aM (List D)):List D→bj→aw→aM (List D)
 | [],_,M=>if t.ok M then .ok [] M else .bad
 | d::r,ρ,M=>if t.ok M then
   match sg d (List.replicate n none++ρ) with
   | none=>.bad
   | some ρ1=>match gc ρ1 M with
    | .ok true M1=>match gb ρ1 M1 with
     | .ok e M2=>(bt t n sg gc gb r ρ M2).bind fun es M3=>.ok (e++es) M3
     | _=>.bad
    | .ok false M1=>bt t n sg gc gb r ρ M1
    | _=>.bad
  else .bad
def rX (gi:GI)(sg:GG)(gc:GT)(ge:GE):bj→aw→aM (List D):=fun ρ M=>match gi ρ M with
 | .ok t M1=>jm t sg gc ge t.ds ρ M1
 | _=>.bad
def ja (gi:GI)(n:Nat)(sg:GG)(gc:GT)(gi2:GI)(sg2:GG)(gc2:GT)(ge:GE)(mk:List D→aw→aM D):GE:=fun ρ M=>(gi ρ M).bind fun t M1=>(bt t n sg gc (rX gi2 sg2 gc2 ge) t.ds ρ M1).bind mk
theorem qO (elt target iter:Expr)(g1:Comprehension)(ifs:List Expr)(scope:Scope)(pos:Pos)(it acc:Value)(env:Env)(cond:Sem Bool)
  (hc:(forIn (m:=Sem) ifs true fun c r=>if r=true then do let ok ←isTrue c env (eval c env);pure (ForInStep.yield ok) else pure (ForInStep.yield r))=cond) :
  compTurn (.ListComp elt [g1,⟨target,iter,ifs,0⟩] scope pos) 1 it acc env=(standAt iter.pos >>= fun _=>pyNext it >>= fun r=>match r with
   | none=>pure (.done .next)
   | some v=>letOwnedTupleGo target it v >>= fun _=>assign target env v >>= fun _=>cond >>= fun ok=>
    if ok=true then((eval elt env >>= fun x=>call (.builtin "list.append") [acc,x] >>= fun _=>pure ()) >>= fun _=>
     again (.compLoop (.ListComp elt [g1,⟨target,iter,ifs,0⟩] scope pos) 1 it acc env)) else again (.compLoop (.ListComp elt [g1,⟨target,iter,ifs,0⟩] scope pos) 1 it acc env)):=by
 subst hc;rfl
theorem o6 (elt target iter tg2 iter2:Expr)(ifs ifs2:List Expr)(scope:Scope)(pos:Pos)(it acc:Value)(env:Env)(cond:Sem Bool)
  (hc:(forIn (m:=Sem) ifs true fun c r=>if r=true then do let ok ←isTrue c env (eval c env);pure (ForInStep.yield ok) else pure (ForInStep.yield r))=cond) :
  compTurn (.ListComp elt [⟨target,iter,ifs,0⟩,⟨tg2,iter2,ifs2,0⟩] scope pos) 0 it acc env=(standAt iter.pos >>= fun _=>pyNext it >>= fun r=>match r with
   | none=>pure (.done .next)
   | some v=>letOwnedTupleGo target it v >>= fun _=>assign target env v >>= fun _=>cond >>= fun ok=>
    if ok=true then(eval iter2 env >>= fun x=>standAt iter2.pos >>= fun _=>foldedSetIterable iter2 env x >>= fun x=>holding [x] (pyIter x) >>= fun it2=>runOwn (.compStart (.ListComp elt [⟨target,iter,ifs,0⟩,⟨tg2,iter2,ifs2,0⟩] scope pos) 1 it2 acc env) env >>= fun _=>
     again (.compLoop (.ListComp elt [⟨target,iter,ifs,0⟩,⟨tg2,iter2,ifs2,0⟩] scope pos) 0 it acc env)) else again (.compLoop (.ListComp elt [⟨target,iter,ifs,0⟩,⟨tg2,iter2,ifs2,0⟩] scope pos) 0 it acc env)):=by
 subst hc;rfl
theorem oW (elt target iter tg2 iter2:Expr)(ifs ifs2:List Expr)(scope:Scope)(pos:Pos)(it acc:Value)(env:Env)(cond:Sem Bool)
  (hc:(forIn (m:=Sem) ifs true fun c r=>if r=true then do let ok ←isTrue c env (eval c env);pure (ForInStep.yield ok) else pure (ForInStep.yield r))=cond) :
  compTurn (.ListComp elt [⟨target,iter,ifs,0⟩,⟨tg2,iter2,ifs2,0⟩] scope pos) 0 it acc env=(standAt iter.pos >>= fun _=>pyNext it >>= fun r=>match r with
   | none=>pure (.done .next)
   | some v=>letOwnedTupleGo target it v >>= fun _=>assign target env v >>= fun _=>cond >>= fun ok=>
    if ok=true then((eval iter2 env >>= fun x=>standAt iter2.pos >>= fun _=>foldedSetIterable iter2 env x >>= fun x=>holding [x] (pyIter x) >>= fun it2=>runOwn (.compStart (.ListComp elt [⟨target,iter,ifs,0⟩,⟨tg2,iter2,ifs2,0⟩] scope pos) 1 it2 acc env) env >>= fun _=>pure ()) >>= fun _=>
     again (.compLoop (.ListComp elt [⟨target,iter,ifs,0⟩,⟨tg2,iter2,ifs2,0⟩] scope pos) 0 it acc env)) else again (.compLoop (.ListComp elt [⟨target,iter,ifs,0⟩,⟨tg2,iter2,ifs2,0⟩] scope pos) 0 it acc env)):=by
 rw[o6 _ _ _ _ _ _ _ _ _ _ _ _ _ hc];simp only[bind_assoc,pure_bind]
theorem vG {n:Nat}{K:W.Frag}{θ:List Addr}{H:Hp}{τ:L2.St}{ρ ρ1:bj}(a:ρ1.length=(List.replicate n none++ρ).length)(b:∀j,n≤j→ρ1[j]?=(List.replicate n none++ρ)[j]?)(h:fK K θ H τ ρ1):fK K θ H τ (List.replicate n none++ρ):=by
 refine⟨by rw[←a];exact h.len,fun i d' q=>?_⟩
 by_cases hi:i<n
 ·rw[getElem?_append_left (by rw[length_replicate];exact hi),getElem?_replicate,if_pos hi] at q;cases q
 ·rw[←b i (by omega)] at q;exact h.at_ i d' q
section
variable {X:Cx}{scope:Scope}{xs R:List Str}{f0:List Addr}{s0:Shared}{H0:Hp}{C:Addr}
inductive FQ (Y:Cx) (P0:List (Addr×Obj)) (acc:Addr) (its:List Value) (fp:List Addr) (tn:Nat→Heap→Prop) (t:jN) (nn:Nat) (ρ:bj) (θ:List Addr) (H:Hp) (es:List D) (go:List D→bj→aw→aM (List D)) (Mend:aw) (n:Nat) (s':Shared):Prop
 | mk (i:Nat) (τ:L2.St) (H':Hp) (θ':List Addr) (M':aw) (ρ':bj) (ds rest:List D) (vs:List V) (its':List Value) (na:Nat) (e1:n=t.ds.length-i) (e2:i≤t.ds.length)
   (e3:L2.Inv Y ((acc,aG (its++its') na)::P0) τ H' s') (e4:fK Y.K θ' H' τ ρ') (e5:tn i s'.heap) (e6:∀b∈fp,H' b=none) (e7:Go Y.K θ H θ' H' M') (e8:aR Y.K θ' H' ds vs) (e9:aQ vs its') (e10:go (t.ds.drop i) ρ' M'=.ok rest Mend) (e11:ds++rest=es) (e12:ρ'.length=ρ.length∧∀j,nn≤j→ρ'[j]?=ρ[j]?)
theorem yx {P0:List (Addr×Obj)}{acc it:Addr}{its:List Value}{na nn:Nat}{fp:List Addr}{tn:Nat→Heap→Prop}{J:It}{τ:L2.St}{H:Hp}{s:Shared}{t:jN}{M Mend:aw}{θ:List Addr}{ρ:bj}{gc:GT}{ge:GE}{es:List D}{tg elt iter:Expr}{sg:GG}{ifs:List Expr}{g1:Comprehension}{pos:Pos}{RR:Result→Shared→Prop}
  (hc:X.calm=true) (I:L2.Inv (aj X scope xs R f0 s0 H0 C) ((acc,aG its na)::P0) τ H s) (T:mZ X.prog X.w X.K tg J fp it tn) (st:tn 0 s.heap) (f:∀b∈fp,cA (aj X scope xs R f0 s0 H0 C) ((acc,aG its na)::P0) H b)
  (hw:Wr X.K θ H M) (hd:fK X.K θ H τ ρ) (hJ:rg X.K J θ H t) (hgo:jm t sg gc ge t.ds ρ M=.ok es Mend) (hlen:its.length+es.length≤sizeLine)
  (hcd:∃cond,(forIn (m:=Sem) ifs true fun c r=>if r=true then do let ok ←isTrue c (aj X scope xs R f0 s0 H0 C).env (eval c (aj X scope xs R f0 s0 H0 C).env);pure (ForInStep.yield ok) else pure (ForInStep.yield r))=cond∧
   ∀(af:List (Addr×Obj)) (s:Shared) (σ:L2.St) (H:Hp) (Q:Bool→Hp→Prop),L2.Inv (aj X scope xs R f0 s0 H0 C) af σ H s→tT (aj X scope xs R f0 s0 H0 C) gc σ H Q→wpAny (model X.prog X.w) X.A cond (TP (aj X scope xs R f0 s0 H0 C) af σ Q) (fun _ _=>False) s)
  (own:jw nn sg) (hg:PG (aj X scope xs R f0 s0 H0 C) tg (tG (aj X scope xs R f0 s0 H0 C) sg)) (he:PE (aj X scope xs R f0 s0 H0 C) elt (tE (aj X scope xs R f0 s0 H0 C) ge))
  (a1:acc≠C) (a2:acc∉(aj X scope xs R f0 s0 H0 C).fs) (a3:s0.heap.objs.size≤acc) (a4:∀x c,(aj X scope xs R f0 s0 H0 C).env.cells.lookup x=some c→c≠acc) (a5:∀p∈P0,p.1≠acc)
  (fin:∀τ' H' s' θ' ρ' vs its' na',L2.Inv (aj X scope xs R f0 s0 H0 C) ((acc,aG (its++its') na')::P0) τ' H' s'→fK X.K θ' H' τ' ρ'→(ρ'.length=ρ.length∧∀j,nn≤j→ρ'[j]?=ρ[j]?)→Go X.K θ H θ' H' Mend→aR X.K θ' H' es vs→aQ vs its'→RR (.ok .next) s') :
  codeAny (model X.prog X.w) X.A (.compLoop (.ListComp elt [g1,⟨tg,iter,ifs,0⟩] scope pos) 1 (.ref it) (.ref acc) (aj X scope xs R f0 s0 H0 C).env) RR s:=by
 obtain⟨cond,hcond,hct⟩:=hcd;have fpY:∀{H':Hp} {o:Obj},(∀b∈fp,H' b=none)→∀b∈fp,cA (aj X scope xs R f0 s0 H0 C) ((acc,o)::P0) H' b:=fun {H' o} hn b hb=>by
  obtain⟨_,q1,q2,q3,q4,q5⟩:=f b hb;refine⟨hn b hb,q1,q2,q3,q4,fun p hp=>?_⟩;have hp:p∈(acc,o)::P0:=hp;rcases mem_cons.mp hp with rfl|hp
  ·exact q5 (acc,aG its na) (show _∈(acc,aG its na)::P0 from mem_cons_self)
  ·exact q5 p (show _∈(acc,aG its na)::P0 from mem_cons_of_mem _ hp)
 have nea:∀b∈fp,b≠acc:=fun b hb z=>(f b hb).2.2.2.2.2 (acc,aG its na) (show _∈(acc,aG its na)::P0 from mem_cons_self) z.symm
 refine eO (qO _ _ _ _ _ _ _ _ _ _ _ hcond) (FQ (aj X scope xs R f0 s0 H0 C) P0 acc its fp tn t nn ρ θ H es (fun l r N=>jm t sg gc ge l r N) Mend) ?_ t.ds.length
  ⟨0,_,H,θ,M,ρ,[],es,[],[],na,rfl,Nat.zero_le _,by rw[append_nil];exact I,hd,st,fun b hb=>(f b hb).1,.refl hw,rfl,.nil,hgo,rfl,rfl,fun _ _=>rfl⟩
 rintro n s' ⟨i,τ',H',θ',M',ρ',ds,rest,vs,its',na',rfl,hil,I',dn',st',fr',g',rd',rv',hrest,hes,hag⟩;have hok:t.ok M'=true:=by
  cases hq:t.ok M' with
  | true=>rfl
  | false=>
   exfalso;cases hdr:t.ds.drop i with
   | nil=>rw[hdr,jm,if_neg (by rw[hq];exact Bool.false_ne_true)] at hrest;cases hrest
   | cons d r=>rw[hdr,jm,if_neg (by rw[hq];exact Bool.false_ne_true)] at hrest;cases hrest
 obtain⟨hy,hst⟩:=hJ θ' H' M' g' hok i
 by_cases hlt:i<t.ds.length
 ·have e1:t.ds[i]?=some t.ds[i]:=getElem?_eq_getElem hlt;obtain⟨hgo',hyl⟩:=hy _ e1;rw[drop_eq_getElem_cons hlt,jm,if_pos hok] at hrest;refine bR (T.item (aj X scope xs R f0 s0 H0 C) rfl rfl rfl hc i _ s' _ H' _ I' (fpY fr') st' hgo') fun r s4 hxx=>?_
  obtain⟨u,hr,h4⟩:=hxx;subst hr;refine bR h4 fun _ s5 hxx=>?_
  obtain⟨v,H5,I5,r5,y5,st5,fr5⟩:=hxx;obtain⟨gy,rx⟩:=hyl v H5 y5;have I5':=I5.pinned (fpY fr5) (T.obj _ _ st5);cases qs:sg t.ds[i] ρ' with
  | none=>rw[qs] at hrest;cases hrest
  | some ρ1=>
  rw[qs] at hrest;dsimp only at hrest;obtain⟨o1,o2⟩:=own _ _ _ qs;have hag1:ρ1.length=ρ.length∧∀j,nn≤j→ρ1[j]?=ρ[j]?:=⟨o1.trans hag.1,fun j hj=>(o2 j hj).trans (hag.2 j hj)⟩;refine bR (hg _ s5 _ H5 v u (fun σ6 H6=>fK X.K θ' H6 σ6 ρ1∧H6=H5) I5' r5 ⟨_,θ',M',t.ds[i],dn'.go gy,gy.wr,rx,ρ1,qs,fun σ6 d6=>⟨d6,rfl⟩⟩) fun _ s6 hxx=>?_
  obtain⟨σ6,H6,I6,hdY,eH6⟩:=hxx;subst eH6;cases qc:gc ρ1 M' with
  | bad=>rw[qc] at hrest;cases hrest
  | err c Mx=>rw[qc] at hrest;cases hrest
  | ok b Mb=>
   refine bR (hct _ s6 _ H6 (fun b' H7=>b'=b∧∃θ7,Go X.K θ' H6 θ7 H7 Mb) I6 ⟨_,θ',M',hdY,gy.wr,?_⟩) fun ok s7 ⟨H7,I7,eb,θ7,g7⟩=>?_
   ·rw[qc];exact fun θ7 H7 g7=>⟨rfl,θ7,g7⟩
   subst eb;have fpk:∀{s8:Shared} {σ8:L2.St} {H8:Hp},L2.Inv (aj X scope xs R f0 s0 H0 C) ((acc,aG (its++its') na')::P0++fO fp s5.heap) σ8 H8 s8→(∀b∈fp,H8 b=none)∧(∀b∈fp,∀o,s5.heap.get? b=some o→s8.heap.get? b=some o)∧s8.heap.get? acc=some (aG (its++its') na')∧H8 acc=none:=fun {s8 σ8 H8} I8=>by
    have pa:=I8.pin (acc,aG (its++its') na') (mem_append_right _ (mem_append_left _ mem_cons_self));refine⟨fun b hb=>?_,fun b hb o e=>(I8.pin (b,o) (mem_append_right _ (mem_append_right _ (bC hb e)))).1,pa.1,pa.2.1⟩;obtain⟨o,e,d⟩:=T.obj _ _ st5 b hb;exact(I8.pin (b,o) (mem_append_right _ (mem_append_right _ (bC hb e)))).2.1
   cases ok with
   | false=>
    rw[if_neg Bool.false_ne_true];rw[qc] at hrest;obtain⟨k1,k2,k3,k4⟩:=fpk I7;exact⟨t.ds.length-(i+1),by omega,i+1,σ6,H7,θ7,Mb,ρ1,ds,rest,vs,its',na',rfl,hlt,I7.unpinned,hdY.go g7,T.keep _ _ _ st5 k2,k1,g'.trans (gy.trans g7),rd'.go (gy.trans g7),rv',hrest,hes,hag1⟩
   | true=>
    rw[if_pos rfl];rw[qc] at hrest;have hrest:(match ge ρ1 Mb with
     | .ok e M2=>(jm t sg gc ge (t.ds.drop (i+1)) ρ1 M2).bind fun es M3=>.ok (e::es) M3
     | _=>.bad)=aM.ok rest Mend:=hrest
    cases qe:ge ρ1 Mb with
    | bad=>rw[qe] at hrest;cases hrest
    | err c Mx=>rw[qe] at hrest;cases hrest
    | ok dv Mv=>
     rw[qe] at hrest;have hrest:((jm t sg gc ge (t.ds.drop (i+1)) ρ1 Mv).bind fun es M3=>aM.ok (dv::es) M3)=aM.ok rest Mend:=hrest;refine wpAny_bind (bR (he _ s7 _ H7 (fun w H8=>∃θ8,Go X.K θ7 H7 θ8 H8 Mv∧c6 X.K θ8 H8 dv w) I7 ⟨_,θ7,Mb,hdY.go g7,g7.wr,?_⟩) fun uv s8 ⟨w,H8,I8,rw8,θ8,g8,rd8⟩=>?_)
     ·rw[qe];exact fun w θ8 H8 g8 rd8=>⟨θ8,g8,rd8⟩
     obtain⟨k1,k2,k3,k4⟩:=fpk I8;cases qr:jm t sg gc ge (t.ds.drop (i+1)) ρ1 Mv with
     | bad=>rw[qr] at hrest;cases hrest
     | err c Mx=>rw[qr] at hrest;cases hrest
     | ok rest' Mr=>
      rw[qr] at hrest;have hrest:aM.ok (dv::rest') Mr=aM.ok rest Mend:=hrest;cases hrest;have hsz:(its++its').length<sizeLine:=by
       have e2:its.length+(ds++dv::rest').length≤sizeLine:=by rw[hes];exact hlen
       rw[length_append,length_cons,aq rd',rv'.length] at e2;rw[length_append];omega
      refine wpAny_bind (call_meets F.slot_list_append ⟨_,k3,rfl⟩ F.entry_list_append (F.args_list_append_2 _ _) (PySem.list_append acc (its++its').toArray na' uv (by rw[size_toArray];omega)) ⟨k3,wpAny_pure ?_⟩);have qup:=PySem.IsL.update k3 (fun a=>a.push uv);have eup:((its++its').toArray.push uv)=(its++(its'++[uv])).toArray:=by simp
      have keepb:∀b o,b≠acc→s8.heap.get? b=some o→(s8.heap.update acc (Obj.mapSeq fun a=>a.push uv)).get? b=some o:=fun b o hb e=>(Heap.get?_update_other s8.heap _ (Ne.symm hb)).trans e
      have I9:L2.Inv (aj X scope xs R f0 s0 H0 C) P0 σ6 H8 {s8 with heap:=s8.heap.update acc (Obj.mapSeq fun a=>a.push uv),toks:=s8.toks}:=by
       refine Inv.turned (it:=acc) (I8.pins_of (pins':=P0) fun p hp=>I8.pin p (mem_append_right _ (mem_append_left _ (mem_cons_of_mem _ hp)))) keepb k4 a1 (.inr a3) a4 fun p hp=>a5 p (show p∈P0 from hp)
      obtain⟨n',eq'⟩:∃n',(s8.heap.update acc (Obj.mapSeq fun a=>a.push uv)).get? acc=some (aG (its++(its'++[uv])) n'):=by
       have q2:=qup;rw[eup] at q2;exact⟨_,q2⟩
      have I10:L2.Inv (aj X scope xs R f0 s0 H0 C) ((acc,aG (its++(its'++[uv])) n')::P0) σ6 H8 {s8 with heap:=s8.heap.update acc (Obj.mapSeq fun a=>a.push uv),toks:=s8.toks}:=I9.pins_of fun p hp=>by
       rcases mem_cons.mp hp with rfl|hp
       ·exact⟨eq',k4,a1,a2,fun v z=>by cases z⟩
       ·exact I9.pin p (mem_append_right _ hp)
      exact⟨t.ds.length-(i+1),by omega,i+1,σ6,H8,θ8,Mv,ρ1,ds++[dv],rest',vs++[w],its'++[uv],n',rfl,hlt,I10,hdY.go (g7.trans g8),T.keep _ _ _ st5 (fun b hb o e=>keepb b o (nea b hb) (k2 b hb o e)),k1,g'.trans (gy.trans (g7.trans g8)),bU (rd'.go (gy.trans (g7.trans g8))) ⟨w,[],rfl,rd8,rfl⟩,rv'.append (.cons rw8 .nil),qr,by rw[←hes];simp,hag1⟩
 ·have e:i=t.ds.length:=by omega
  subst e;rw[drop_length,jm,if_pos hok] at hrest;cases hrest;have hes:ds=es:=by rw[←hes];simp
  subst hes;refine bR (T.done (aj X scope xs R f0 s0 H0 C) rfl rfl rfl hc _ _ s' _ H' _ I' (fpY fr') st' (hst (Nat.le_refl _))) fun r s4 hxx=>?_
  obtain⟨hr,I4⟩:=hxx;subst hr;exact fin _ _ _ _ _ _ _ _ I4 dn' hag g' rd' rv'
end
section
variable {X:Cx}{af:List (Addr×Obj)}{σ:L2.St}{s:Shared}{scope:Scope}{xs:List Str}{tg:Expr}{sg:GG}{R:List Str}{elt iter:Expr}{ifs:List Expr}{pos:Pos}{E:Value→Shared→Prop}
theorem pX {fp:List Addr}{it:Addr}{tn:Nat→Heap→Prop}{J:It}{H2:Hp}{s2:Shared}{t:jN}{M1:aw}{θ1:List Addr}{ρ:bj}{gc gc2:GT}{gi2:GI}{sg2:GG}{ge:GE}{es:List D}{tg2 iter2:Expr}{ifs2:List Expr}{Mend:aw}{RR:Value→Addr→Result→Shared→Prop}
  (S:bx scope X.env.kindOf xs R X.N) (hc:X.calm=true) (I2:L2.Inv X af σ H2 s2) (T:mZ X.prog X.w X.K tg J fp it tn) (st2:tn 0 s2.heap) (f2:∀b∈fp,cA X af H2 b)
  (hw1:Wr X.K θ1 H2 M1) (hd1:fK X.K θ1 H2 σ ρ) (hJ:rg X.K J θ1 H2 t) (hgo:bt t xs.length sg gc (rX gi2 sg2 gc2 ge) t.ds ρ M1=.ok es Mend) (hlen:es.length≤sizeLine)
  (hcd:∀C,∃cond,(forIn (m:=Sem) ifs true fun c r=>if r=true then do let ok ←isTrue c (aj X scope xs R fp s2 H2 C).env (eval c (aj X scope xs R fp s2 H2 C).env);pure (ForInStep.yield ok) else pure (ForInStep.yield r))=cond∧
   ∀(af:List (Addr×Obj)) (s:Shared) (σ:L2.St) (H:Hp) (Q:Bool→Hp→Prop),L2.Inv (aj X scope xs R fp s2 H2 C) af σ H s→tT (aj X scope xs R fp s2 H2 C) gc σ H Q→wpAny (model X.prog X.w) X.A cond (TP (aj X scope xs R fp s2 H2 C) af σ Q) (fun _ _=>False) s)
  (hcd2:∀C,∃cond,(forIn (m:=Sem) ifs2 true fun c r=>if r=true then do let ok ←isTrue c (aj X scope xs R fp s2 H2 C).env (eval c (aj X scope xs R fp s2 H2 C).env);pure (ForInStep.yield ok) else pure (ForInStep.yield r))=cond∧
   ∀(af:List (Addr×Obj)) (s:Shared) (σ:L2.St) (H:Hp) (Q:Bool→Hp→Prop),L2.Inv (aj X scope xs R fp s2 H2 C) af σ H s→tT (aj X scope xs R fp s2 H2 C) gc2 σ H Q→wpAny (model X.prog X.w) X.A cond (TP (aj X scope xs R fp s2 H2 C) af σ Q) (fun _ _=>False) s)
  (hi2:∀C,PI (aj X scope xs R fp s2 H2 C) tg2 iter2 (tI (aj X scope xs R fp s2 H2 C) gi2)) (own2:jw xs.length sg2) (hg2:∀C,PG (aj X scope xs R fp s2 H2 C) tg2 (tG (aj X scope xs R fp s2 H2 C) sg2))
  (hs2:∀C x,foldedSetIterable iter2 (aj X scope xs R fp s2 H2 C).env x=pure x)
  (own:jw xs.length sg) (hg:∀C,PG (aj X scope xs R fp s2 H2 C) tg (tG (aj X scope xs R fp s2 H2 C) sg))
  (he:∀C,PE (aj X scope xs R fp s2 H2 C) elt (tE (aj X scope xs R fp s2 H2 C) ge))
  (fin:∀(acc C:Addr) (s':Shared) (H':Hp) (θ':List Addr) (vs:List V) (m:Str→Option Value),L2.Inv X af σ (bS H' acc (.lst vs)) s'→s'.heap.Ns C m→cA X af (bS H' acc (.lst vs)) C→Go X.K θ1 H2 θ' H' Mend→H' acc=none→aR X.K θ' H' es vs→RR (.ref acc) C (.ok .next) s') :
  wpAny (model X.prog X.w) X.A (newList []) (fun acc s₃=>wpAny (model X.prog X.w) X.A (newFunctionEnv scope X.env.globals (ce X.env.cells scope.names []) [] X.env.qual none .none (some X.env)) (fun cenv s₄=>
   codeAny (model X.prog X.w) X.A (.compStart (.ListComp elt [⟨tg,iter,ifs,0⟩,⟨tg2,iter2,ifs2,0⟩] scope pos) 0 (.ref it) acc {cenv with scope:=relabel scope X.env}) (RR acc cenv.locals) s₄) E s₃) E s2:=by
 refine wpAny_newObj_type (wpAny_newFunctionEnv S.nocell (by intro y hy;simp at hy) (fun h₁ hns₁ hsb₁=>?_) S.kind);dsimp only at hns₁ hsb₁ ⊢;generalize hHp:s2.heap.push {cls:=.type "list",dict:=none,data:=.seq ([]:List Value).toArray}=Hp2 at hns₁ hsb₁ ⊢;have hCe:Hp2.objs.size=s2.heap.objs.size+1:=by rw[←hHp,Heap.size_push]
 generalize hCd:Hp2.objs.size=C at hns₁ hsb₁ hCe ⊢;generalize hAd:s2.heap.objs.size=acc at hCe ⊢;have hDC:acc≠C:=by rw[hCe];exact Nat.ne_of_lt (Nat.lt_succ_self _)
 have old:∀b o,s2.heap.get? b=some o→h₁.get? b=some o:=fun b o e=>by
  have hb:b<acc:=by rw[←hAd];exact Heap.lt_size e
  refine hsb₁.extBut b o (tM hb hCe) (Heap.get?_push_of_some _ ?_);rw[←hHp];exact Heap.get?_push_of_some _ e
 have hacc0:h₁.get? acc=some (aG [] 0):=by
  refine hsb₁.extBut acc _ hDC (Heap.get?_push_of_some _ ?_);rw[←hHp,←hAd];exact Heap.get?_push_size _ rfl
 have hfl:∀b∈fp,b<s2.heap.objs.size:=fun b hb=>by
  obtain⟨o,e,_⟩:=T.obj 0 _ st2 b hb;exact Heap.lt_size e
 have hCs:s2.heap.objs.size≤C:=by omega
 have IY0:L2.Inv (aj X scope xs R fp s2 H2 C) [] (List.replicate xs.length none++σ) H2 {s2 with heap:=h₁,toks:=s2.toks+([]:List (Str×Value)).length}:=pE S I2 hCs old hns₁ f2 hfl;obtain⟨cond,hcond,hct⟩:=hcd C;have fpY:∀{H':Hp} {p:Obj},(∀b∈fp,H' b=none)→∀b∈fp,cA (aj X scope xs R fp s2 H2 C) [(acc,p)] H' b:=fun {H' p} hn b hb=>by
  refine⟨hn b hb,?_,fun z=>?_,.inl hb,fun y c e=>?_,fun q hq=>?_⟩
  ·exact Nat.ne_of_lt (Nat.lt_of_lt_of_le (hfl b hb) hCs)
  ·rcases mem_cons.mp (I2.stkSub b z) with e|e
   ·exact(f2 b hb).2.1 e
   ·exact(f2 b hb).2.2.1 e
  ·exact(f2 b hb).2.2.2.2.1 y c (bJ S I2 e)
  ·have hq:q∈([]:List (Addr×Obj))++[(acc,p)]:=hq;have e:q=(acc,p):=by simpa using hq
   rw[e];exact k9 (hfl b hb) hAd
 have accF:∀b∈kW X.stack,acc≠b:=fun b hb e=>by
  have:acc∉X.env.locals::X.fs:=by
   intro z;rcases mem_cons.mp z with z|z
   ·exact k9 I2.lt hAd z
   ·exact I2.nofs (Nat.le_of_eq hAd) z
  exact this (e▸I2.stkSub b hb)
 have loop:∀s₃:Shared,s₃={s2 with heap:=h₁,toks:=s2.toks+([]:List (Str×Value)).length}→
   codeAny (model X.prog X.w) X.A (.compLoop (.ListComp elt [⟨tg,iter,ifs,0⟩,⟨tg2,iter2,ifs2,0⟩] scope pos) 0 (.ref it) (.ref acc) (aj X scope xs R fp s2 H2 C).env) (RR (.ref acc) C) s₃:=by
  rintro s₃ rfl;have pin0:∀{σ':L2.St} {H':Hp} {s':Shared} {its:List Value} {n:Nat},L2.Inv (aj X scope xs R fp s2 H2 C) [] σ' H' s'→s'.heap.get? acc=some (aG its n)→H' acc=none→L2.Inv (aj X scope xs R fp s2 H2 C) [(acc,aG its n)] σ' H' s':=fun {σ' H' s' its n} I' e hn=>
   I'.pins_of fun p hp=>by
    have ep:p=(acc,aG its n):=by simpa using hp
    subst ep;exact⟨e,hn,hDC,fun z=>accF acc z rfl,fun v z=>by cases z⟩
  refine eO (oW _ _ _ _ _ _ _ _ _ _ _ _ _ hcond) (Fo (aj X scope xs R fp s2 H2 C) fp tn X.K acc t (List.replicate xs.length none++ρ) θ1 H2 es (fun l N=>bt t xs.length sg gc (rX gi2 sg2 gc2 ge) l ρ N) Mend) ?_ t.ds.length
   ⟨0,_,H2,θ1,M1,[],es,[],[],0,rfl,Nat.zero_le _,pin0 IY0 hacc0 (I2.hok.fresh (Nat.le_of_eq hAd)),oE hd1,T.keep 0 _ _ st2 (fun b hb o e=>old b o e),fun b hb=>(f2 b hb).1,.refl hw1,rfl,.nil,hgo,rfl⟩
  rintro n s' ⟨i,τ,H',θ',M',ds,rest,vs,its,na,rfl,hil,I',dn',st',fr',g',rd',rv',hrest,hes⟩;have hok:t.ok M'=true:=by
   cases hq:t.ok M' with
   | true=>rfl
   | false=>
    exfalso;cases hdr:t.ds.drop i with
    | nil=>rw[hdr,bt,if_neg (by rw[hq];exact Bool.false_ne_true)] at hrest;cases hrest
    | cons d r=>rw[hdr,bt,if_neg (by rw[hq];exact Bool.false_ne_true)] at hrest;cases hrest
  obtain⟨hy,hst⟩:=hJ θ' H' M' g' hok i
  by_cases hlt:i<t.ds.length
  ·have e1:t.ds[i]?=some t.ds[i]:=getElem?_eq_getElem hlt;obtain⟨hgo',hyl⟩:=hy _ e1;rw[drop_eq_getElem_cons hlt,bt,if_pos hok] at hrest;refine bR (T.item (aj X scope xs R fp s2 H2 C) rfl rfl rfl hc i _ s' _ H' _ I' (fpY fr') st' hgo') fun r s4 hxx=>?_
   obtain⟨u,hr,h4⟩:=hxx;subst hr;refine bR h4 fun _ s5 hxx=>?_
   obtain⟨v,H5,I5,r5,y5,st5,fr5⟩:=hxx;obtain⟨gy,rx⟩:=hyl v H5 y5;have I5':=I5.pinned (fpY fr5) (T.obj _ _ st5);cases qs:sg t.ds[i] (List.replicate xs.length none++ρ) with
   | none=>rw[qs] at hrest;cases hrest
   | some ρ1=>
   rw[qs] at hrest;dsimp only at hrest;refine bR (hg C _ s5 _ H5 v u (fun σ6 H6=>fK X.K θ' H6 σ6 ρ1∧H6=H5) I5' r5 ⟨_,θ',M',t.ds[i],dn'.go gy,gy.wr,rx,ρ1,qs,fun σ6 d6=>⟨d6,rfl⟩⟩) fun _ s6 hxx=>?_
   obtain⟨σ6,H6,I6,hdY,eH6⟩:=hxx;subst eH6;cases qc:gc ρ1 M' with
   | bad=>rw[qc] at hrest;cases hrest
   | err c Mx=>rw[qc] at hrest;cases hrest
   | ok b Mb=>
    refine bR (hct _ s6 _ H6 (fun b' H7=>b'=b∧∃θ7,Go X.K θ' H6 θ7 H7 Mb) I6 ⟨_,θ',M',hdY,gy.wr,?_⟩) fun ok s7 ⟨H7,I7,eb,θ7,g7⟩=>?_
    ·rw[qc];exact fun θ7 H7 g7=>⟨rfl,θ7,g7⟩
    subst eb;have fpk:∀{s8:Shared} {σ8:L2.St} {H8:Hp},L2.Inv (aj X scope xs R fp s2 H2 C) ([(acc,aG its na)]++fO fp s5.heap) σ8 H8 s8→(∀b∈fp,H8 b=none)∧(∀b∈fp,∀o,s5.heap.get? b=some o→s8.heap.get? b=some o)∧s8.heap.get? acc=some (aG its na)∧H8 acc=none:=fun {s8 σ8 H8} I8=>by
     have pa:=I8.pin (acc,aG its na) (mem_append_right _ (mem_append_left _ (by simp)));refine⟨fun b hb=>?_,fun b hb o e=>(I8.pin (b,o) (mem_append_right _ (mem_append_right _ (bC hb e)))).1,pa.1,pa.2.1⟩;obtain⟨o,e,d⟩:=T.obj _ _ st5 b hb;exact(I8.pin (b,o) (mem_append_right _ (mem_append_right _ (bC hb e)))).2.1
    cases ok with
    | false=>
     rw[if_neg Bool.false_ne_true];rw[qc] at hrest;obtain⟨k1,k2,k3,k4⟩:=fpk I7;exact⟨t.ds.length-(i+1),by omega,i+1,σ6,H7,θ7,Mb,ds,rest,vs,its,na,rfl,hlt,I7.unpinned,own.back qs (hdY.go g7),T.keep _ _ _ st5 k2,k1,g'.trans (gy.trans g7),rd'.go (gy.trans g7),rv',hrest,hes⟩
    | true=>
     rw[if_pos rfl];rw[qc] at hrest;have hrest:(match rX gi2 sg2 gc2 ge ρ1 Mb with
      | .ok e M2=>(bt t xs.length sg gc (rX gi2 sg2 gc2 ge) (t.ds.drop (i+1)) ρ M2).bind fun es M3=>.ok (e++es) M3
      | _=>.bad)=aM.ok rest Mend:=hrest
     cases qe:rX gi2 sg2 gc2 ge ρ1 Mb with
     | bad=>rw[qe] at hrest;cases hrest
     | err c Mx=>rw[qe] at hrest;cases hrest
     | ok dvs Mv=>
      rw[qe] at hrest;have hrest:((bt t xs.length sg gc (rX gi2 sg2 gc2 ge) (t.ds.drop (i+1)) ρ Mv).bind fun es M3=>aM.ok (dvs++es) M3)=aM.ok rest Mend:=hrest;cases qr:bt t xs.length sg gc (rX gi2 sg2 gc2 ge) (t.ds.drop (i+1)) ρ Mv with
      | bad=>rw[qr] at hrest;cases hrest
      | err c Mx=>rw[qr] at hrest;cases hrest
      | ok rest' Mr=>
      rw[qr] at hrest;have hrest:aM.ok (dvs++rest') Mr=aM.ok rest Mend:=hrest;cases hrest;unfold rX at qe;cases qi:gi2 ρ1 Mb with
      | bad=>rw[qi] at qe;cases qe
      | err c Mx=>rw[qi] at qe;cases qe
      | ok t2 M2=>
      rw[qi] at qe;have qe:jm t2 sg2 gc2 ge t2.ds ρ1 M2=.ok dvs Mv:=qe;refine wpAny_bind (bR (hi2 C _ s7 σ6 H7 (fun J2 H8=>∃θ8,Go X.K θ7 H7 θ8 H8 M2∧rg X.K J2 θ8 H8 t2) I7 ⟨ρ1,θ7,Mb,hdY.go g7,g7.wr,?_⟩) fun xv s8 h8=>wpAny_bind (wpAny_standAt (wpAny_bind (wpAny_of_eq (hs2 C xv) (wpAny_bind (wpAny_holding (bR h8 fun itv s9 h9=>?_)))))))
      ·rw[qi];exact fun J2 θ8 H8 g8 hJ2=>⟨θ8,g8,hJ2⟩
      obtain⟨it2,fp2,tn2,J2,H9,rfl,I9,T2,st9,f9,θ9,g9,hJ9⟩:=h9;have hsz:its.length+dvs.length≤sizeLine:=by
       have e2:(ds++(dvs++rest')).length≤sizeLine:=by rw[hes];exact hlen
       rw[length_append,length_append,aq rd',rv'.length] at e2;omega
      have a2':acc∉(aj X scope xs R fp s2 H2 C).fs:=fun z=>accF acc z rfl
      have a4':∀x c,(aj X scope xs R fp s2 H2 C).env.cells.lookup x=some c→c≠acc:=fun y c e z=>by
       obtain⟨v',o,ho,hdd⟩:=I2.cell y c (bJ S I2 e);exact fc (Heap.lt_size ho) hAd z
      have a5':∀p∈fO fp s5.heap,p.1≠acc:=fun p hp=>fc (hfl p.1 (nI hp).1) hAd
      have inl:∀RR:Result→Shared→Prop,(∀τ' H' s' θ' ρ' vs its' na',L2.Inv (aj X scope xs R fp s2 H2 C) ((acc,aG (its++its') na')::fO fp s5.heap) τ' H' s'→fK X.K θ' H' τ' ρ'→(ρ'.length=ρ1.length∧∀j,xs.length≤j→ρ'[j]?=ρ1[j]?)→Go X.K θ9 H9 θ' H' Mv→aR X.K θ' H' dvs vs→aQ vs its'→RR (.ok .next) s')→codeAny (model X.prog X.w) X.A (.compLoop (.ListComp elt [⟨tg,iter,ifs,0⟩,⟨tg2,iter2,ifs2,0⟩] scope pos) 1 (.ref it2) (.ref acc) (aj X scope xs R fp s2 H2 C).env) RR s9:=fun RR fin'=>
       yx hc I9 T2 st9 f9 g9.wr (hdY.go (g7.trans g9)) hJ9 qe hsz (hcd2 C) own2 (hg2 C) (he C) hDC a2' (Nat.le_of_eq hAd) a4' a5' fin'
      refine wpAny_bind (wpAny_runOwn (A:=X.A) (h:=none) ?_);have post:∀τ' H' s' θ' ρ' vs2 its2 na2,L2.Inv (aj X scope xs R fp s2 H2 C) ((acc,aG (its++its2) na2)::fO fp s5.heap) τ' H' s'→fK X.K θ' H' τ' ρ'→(ρ'.length=ρ1.length∧∀j,xs.length≤j→ρ'[j]?=ρ1[j]?)→Go X.K θ9 H9 θ' H' Mv→aR X.K θ' H' dvs vs2→aQ vs2 its2→
        ∃m,m<t.ds.length-i∧Fo (aj X scope xs R fp s2 H2 C) fp tn X.K acc t (List.replicate xs.length none++ρ) θ1 H2 es (fun l N=>bt t xs.length sg gc (rX gi2 sg2 gc2 ge) l ρ N) Mend m s':=fun τ' Hx s' θ' ρ' vs2 its2 na2 Ix dx agx gx rdx rvx=>by
       obtain⟨o1,o2⟩:=own _ _ _ qs;have kx:∀b∈fp,∀o,s5.heap.get? b=some o→s'.heap.get? b=some o:=fun b hb o e=>(Ix.pin (b,o) (mem_append_right _ (mem_cons_of_mem _ (bC hb e)))).1
       have k1:∀b∈fp,Hx b=none:=fun b hb=>by
        obtain⟨o,e,d⟩:=T.obj _ _ st5 b hb;exact(Ix.pin (b,o) (mem_append_right _ (mem_cons_of_mem _ (bC hb e)))).2.1
       have gg:=(gy.trans (g7.trans g9)).trans gx;exact⟨t.ds.length-(i+1),by omega,i+1,τ',Hx,θ',Mv,ds++dvs,rest',vs++vs2,its++its2,na2,rfl,hlt,Ix.pins_of (fun p hp=>Ix.pin p (mem_append_right _ (by rw[mem_singleton.mp hp];exact mem_cons_self))),vG (agx.1.trans o1) (fun j hj=>(agx.2 j hj).trans (o2 j hj)) dx,T.keep _ _ _ st5 kx,k1,g'.trans gg,bU (rd'.go gg) rdx,rv'.append rvx,qr,by rw[←hes];simp⟩
      exact jG rfl (inl _ fun τ' Hx s' θ' ρ' vs2 its2 na2 Ix dx agx gx rdx rvx=>wpAny_pure (post _ _ _ _ _ _ _ _ Ix dx agx gx rdx rvx)) (T2.self _ 0 _ _ _ st9 (inl _ fun τ' Hx s' θ' ρ' vs2 its2 na2 Ix dx agx gx rdx rvx=>wpAny_pure (post _ _ _ _ _ _ _ _ Ix dx agx gx rdx rvx)))
  ·have e:i=t.ds.length:=by omega
   subst e;rw[drop_length,bt,if_pos hok] at hrest;cases hrest;have hes:ds=es:=by rw[←hes];simp
   subst hes;refine bR (T.done (aj X scope xs R fp s2 H2 C) rfl rfl rfl hc _ _ s' _ H' _ I' (fpY fr') st' (hst (Nat.le_refl _))) fun r s4 hxx=>?_
   obtain⟨hr,I4⟩:=hxx;subst hr;have pa:=I4.pin (acc,aG its na) (mem_append_right _ (by simp));have e4:s4.heap.get? acc=some (aG its na):=pa.1;have n4:H' acc=none:=pa.2.1;have lv:vs.length≤sizeLine:=by rw[←aq rd'];exact hlen
   obtain⟨mC,hnC,_⟩:=I4.loc;have hHC:H' C=none:=I4.free;have li:Un (kW X.stack) fp H2 H' s2.heap s4.heap:=I4.base;have neA:∀{b:Addr} {o:Obj},s2.heap.get? b=some o→b≠acc:=fun {b o} e=>fc (Heap.lt_size e) hAd
   have neH:∀{b:Addr} {u:HO},H' b=some u→b≠acc:=fun {b u} e z=>by rw[z,n4] at e;cases e
   have un4:Un (kW X.stack) fp H2 (bS H' acc (.lst vs)) s2.heap s4.heap:=by
    refine⟨li.keep,li.slot,fun b o e n hx=>?_,li.there,fun b xs e=>?_,fun b o u e=>?_,fun b ps e=>?_⟩
    ·rw[au (neA e)];exact li.free b o e n hx
    ·have z:=li.tups b xs e;rw[au (neH z)];exact z
    ·have z:=li.frzs b o u e;rw[au (neH z)];exact z
    ·obtain⟨more,z⟩:=li.tbls b ps e;exact⟨more,by rw[au (neH z)];exact z⟩
   have hok4:jM X.prog X.w (bS H' acc (.lst vs)) s4.heap:=fun b u e=>by
    by_cases hb:b=acc
    ·subst hb;rw[bZ] at e;cases e;exact⟨lv,its,na,rv',e4⟩
    ·rw[au hb] at e;exact(I4.hok b u e).stay (fun c v _ q=>q) (fun c q=>by rw[au (neH q)];exact q) fun c xs q=>by rw[au (neH q)];exact q
   have IX:L2.Inv X af σ (bS H' acc (.lst vs)) s4:=I2.call' (ch:=fp) I4.os un4 hok4 I4.bare fun b hb=>⟨(f2 b hb).2.2.2.1,(f2 b hb).2.1,(f2 b hb).2.2.2.2.1,(f2 b hb).2.2.2.2.2⟩
   refine fin acc C s4 H' θ' vs mC IX hnC (I2.fpOk hCs ?_) g' n4 rd';rw[au (Ne.symm hDC)];exact hHC
 exact codeAny_compStart_list (loop _ rfl) (T.self _ 0 _ _ _ (T.keep 0 _ _ st2 fun b hb o e=>old b o e) (loop _ rfl))
end
section
variable {X:Cx}{scope:Scope}{xs:List Str}{tg tg2:Expr}{sg sg2:GG}{R:List Str}{elt iter iter2:Expr}{ifs ifs2:List Expr}{pos:Pos}{gi gi2:GI}{gc gc2:GT}{ge:GE}
theorem i4 {t:jN}{n:Nat}{gb:bj→aw→aM (List D)}{ρ:bj}{c:Str}{M':aw}:∀(ds:List D) (M:aw),bt t n sg gc gb ds ρ M=.err c M'→False
 | [],M,h=>by
  unfold bt at h;split at h <;> cases h
 | d::r,M,h=>by
  unfold bt at h;split at h
  ·split at h
   ·cases h
   ·split at h
    ·rename_i M1 q1;split at h
     ·rename_i e M2 q2;cases q:bt t n sg gc gb r ρ M2 with
      | ok es M3=>rw[q] at h;cases h
      | err c2 M3=>exact i4 r M2 q
      | bad=>rw[q] at h;cases h
     ·cases h
    ·rename_i M1 q1;exact i4 r M1 h
    ·cases h
  ·cases h
theorem wF {mk:List D→aw→aM D}(hS:cj scope X.env.kindOf xs R X.N=true)(hc:X.calm=true)(hm:mk=aD∨mk=cL)(hi:PI X tg iter (tI X gi))(own:jw xs.length sg)(hg:∀fp s H C,PG (aj X scope xs R fp s H C) tg (tG (aj X scope xs R fp s H C) sg))(hts:eX X scope xs R ifs gc)
  (hi2:∀fp s H C,PI (aj X scope xs R fp s H C) tg2 iter2 (tI (aj X scope xs R fp s H C) gi2)) (own2:jw xs.length sg2) (hg2:∀fp s H C,PG (aj X scope xs R fp s H C) tg2 (tG (aj X scope xs R fp s H C) sg2)) (hts2:eX X scope xs R ifs2 gc2)
  (he:∀fp s H C,PE (aj X scope xs R fp s H C) elt (tE (aj X scope xs R fp s H C) ge))
  (hs:∀x,foldedSetIterable iter X.env x=pure x:=by intro _;rfl) (hs2:∀fp s H C x,foldedSetIterable iter2 (aj X scope xs R fp s H C).env x=pure x:=by intro _ _ _ _ _;rfl):PE X (.ListComp elt [⟨tg,iter,ifs,0⟩,⟨tg2,iter2,ifs2,0⟩] scope pos) (tE X (ja gi xs.length sg gc gi2 sg2 gc2 ge mk)):=by
 have S:=bx.of hS;intro af s σ H Q I h;obtain⟨ρ,θ,M,hd,hw,h⟩:=h;rw[eval_ListComp];refine wpAny_comprehension_free (use:=none) rfl hs (fv (S.cells I)) S.kind S.lnames ?_;refine bR (hi af s σ H (fun J H2=>∃t M1 θ1,gi ρ M=.ok t M1∧Go X.K θ H θ1 H2 M1∧rg X.K J θ1 H2 t) I ⟨ρ,θ,M,hd,hw,?_⟩) fun v s1 h1=>bR h1 fun itv s2 h2=>?_
 ·cases q:gi ρ M with
  | ok t M1=>exact fun J θ1 H1 g1 hJ=>⟨t,M1,θ1,rfl,g1,hJ⟩
  | err c M1=>unfold ja at h;rw[q] at h;exact h
  | bad=>unfold ja at h;rw[q] at h;exact h
 obtain⟨it,fp,tn,J,H2,rfl,I2,T,st2,f2,t,M1,θ1,eg,g1,hJ⟩:=h2;unfold ja at h;rw[eg] at h;have h:aT X θ H Q ((bt t xs.length sg gc (rX gi2 sg2 gc2 ge) t.ds ρ M1).bind mk):=h;cases q:bt t xs.length sg gc (rX gi2 sg2 gc2 ge) t.ds ρ M1 with
 | bad=>rw[q] at h;exact h.elim
 | err c Mx=>exact(i4 _ _ q).elim
 | ok es Mend=>
  rw[q] at h;have h:aT X θ H Q (mk es Mend):=h;refine pX (RR:=fun acc C=>compPost (model X.prog X.w) X.A X.xe none (EP X af σ Q) acc C) S hc I2 T st2 f2 g1.wr (hd.go g1) hJ q (pf hm h) (fun C=>hts fp s2 H2 C) (fun C=>hts2 fp s2 H2 C) (fun C=>hi2 fp s2 H2 C) own2 (fun C=>hg2 fp s2 H2 C) (fun C=>hs2 fp s2 H2 C) own (fun C=>hg fp s2 H2 C) (fun C=>he fp s2 H2 C) ?_;intro acc C s' H' θ' vs m IX hnC fC g' na rd;refine⟨m,hnC,fun h' sb=>?_⟩;have I3:L2.Inv X af σ (bS H' acc (.lst vs)) {s' with heap:=h',toks:=s'.toks}:=IX.turned (it:=C) (fun b o hb e=>(sb.2 b hb).trans e) fC.1 fC.2.1 fC.2.2.2.1 fC.2.2.2.2.1 fC.2.2.2.2.2;exact⟨.ref acc,_,I3,rfl,(tx hm X θ' H' Q es Mend vs (aT.go (g1.trans g') h) g'.wr rd).2 acc na⟩
theorem tX {n:Nat}{mk:List D→aw→aM D}(_:RN pos.line pos.col xs R)(hS:cj scope X.env.kindOf xs R X.N=true)(hm:mk=aD∨mk=cL)(own:QO xs.length sg)(own2:QO xs.length sg2)(hi:QI X tg iter gi)(hg:∀fp s H C,QG (aj X scope xs R fp s H C) tg sg)(hts:xL X scope xs R ifs gc)
  (hi2:∀fp s H C,QI (aj X scope xs R fp s H C) tg2 iter2 gi2) (hg2:∀fp s H C,QG (aj X scope xs R fp s H C) tg2 sg2) (hts2:xL X scope xs R ifs2 gc2) (he:∀fp s H C,QE (aj X scope xs R fp s H C) elt ge)
  (hn:xs.length=n:=by rfl) (hc:X.calm=true:=by rfl) (hs:∀x,foldedSetIterable iter X.env x=pure x:=by intro _;rfl) (hs2:∀fp s H C x,foldedSetIterable iter2 (aj X scope xs R fp s H C).env x=pure x:=by intro _ _ _ _ _;rfl):QE X (.ListComp elt [⟨tg,iter,ifs,0⟩,⟨tg2,iter2,ifs2,0⟩] scope pos) (ja gi n sg gc gi2 sg2 gc2 ge mk):=by
 subst hn;exact⟨wF hS hc hm hi.h own.h (fun fp s H C=>(hg fp s H C).h) hts.h (fun fp s H C=>(hi2 fp s H C).h) own2.h (fun fp s H C=>(hg2 fp s H C).h) hts2.h (fun fp s H C=>(he fp s H C).h) hs hs2⟩
end
end DL
namespace DL
open PySem PySem.Spec PyProof.Rows L2 List
section
variable {prog:Program}{w:World}{A:Around}{E:Value→Shared→Prop}{s:Shared}{z TI TO i1 i2 l1 l2 e:Addr}{k:Nat}{xs ys:Array Value}{x y a b:Value}
def zO (f0 f1:Value)(TI TO:Addr):Obj:={cls:=.type "zip",dict:=none,data:=.fields #[f0,f1,.bool false,.ref TI,.ref TO],slots:=#[]}
structure qg (h:Heap)(z TI TO i1 i2 l1 l2:Addr)(k:Nat):Prop where
 z:∃f0 c,(f0=.none∨∃T:Nat,f0=rawInt T)∧h.get? z=some (zO f0 (.bool c) TI TO)
 ti:IsPair h TI (.ref i1) (.ref i2)
 to:∃a b,IsPair h TO a b
 i1:h.IsListIter i1 l1 k
 i2:h.IsListIter i2 l2 k
theorem vP {Q:Value→Shared→Prop}{f0 f1:Value}(D:ZipApart z TI TO i1 i2 l1 l2)(hz:s.heap.get? z=some (zO f0 f1 TI TO))(hTI:IsPair s.heap TI (.ref i1) (.ref i2))(hTO:IsPair s.heap TO a b)(h1:s.heap.IsListIter i1 l1 k)(h2:s.heap.IsListIter i2 l2 k)
  (hl1:s.heap.IsList l1 xs) (hl2:s.heap.IsList l2 ys) (hx:xs[k]?=some x) (hy:ys[k]?=some y) (hf:wpAny (model prog w) A (Builtin.SmallTypes.ownedTupleIsFree (.ref z)) (fun r s'=>r=true∧s'=s) (fun _ _=>False) s)
  (hQ:∀h',qg h' z TI TO i1 i2 l1 l2 (k+1)→IsPair h' s.heap.objs.size x y→h'.objs.size=s.heap.objs.size+1→(∀c o,c∉[z,TO,i1,i2]→s.heap.get? c=some o→h'.get? c=some o)→Q (.ref s.heap.objs.size) {s with heap:=h'}) :
  wpAny (model prog w) A (Builtin.«zip.__next__» ⟨[.ref z],[]⟩) (fun fin s'=>∃v,fin=.done (.ret v)∧Q v s') E s:=by
 show wpAny _ _ (field (.ref z) 2 >>= _) _ _ _;refine wpAny_bind (wpAny_field hz rfl (x:=.bool false) rfl ?_);show wpAny _ _ (field (.ref z) 3 >>= _) _ _ _;refine wpAny_bind (wpAny_field hz rfl (x:=.ref TI) rfl (wpAny_bind (wpAny_seqItems hTI rfl ?_)));show wpAny _ _ (Builtin.SmallTypes.ownedTupleIsFree (.ref z) >>= _) _ _ _;refine wpAny_bind (wpAny_mono hf (fun r s' hrs=>?_) fun _ _ q=>q.elim);obtain⟨rfl,rfl⟩:=hrs;simp only[if_true];refine wpAny_bind (wpAny_rule (wpAny_bind (wpAny_field hz rfl (x:=.ref TO) rfl (wpAny_bind (wpAny_setField_rec hz (by simp) fun ha za sa=>?_)))));have za:ha.get? z=some (zO .ellipsis f1 TI TO):=za;refine wpAny_bind ?_;simp only[zipIdx_cons,zipIdx_nil,forIn_cons,forIn_nil];refine wpAny_bind (wpAny_bind (wpAny_onRaise ?_));show wpAny _ _ (Builtin.SmallTypes.nextOf (.ref i1) >>= _) _ _ _;refine wpAny_bind (wpAny_nextOf_list_item (h1.extBut sa.extBut D.i1z) (hl1.extBut sa.extBut D.l1z) hx fun hb ib sb=>wpAny_pure ?_);have tb:IsPair hb TO a b:=sb.extBut _ _ D.TOi1 (sa.extBut _ _ D.TOz hTO);refine wpAny_bind (wpAny_seqItems tb rfl (wpAny_bind (wpAny_updateSeq_pair tb fun hc tc sc=>?_)));have tc:IsPair hc TO x b:=tc;refine wpAny_bind (wpAny_letGo (wpAny_pure (wpAny_bind (wpAny_bind (wpAny_onRaise ?_)))));show wpAny _ _ (Builtin.SmallTypes.nextOf (.ref i2) >>= _) _ _ _;refine wpAny_bind (wpAny_nextOf_list_item (((h2.extBut sa.extBut D.i2z).extBut sb.extBut D.i12.symm).extBut sc.extBut D.TOi2.symm) (((hl2.extBut sa.extBut D.l2z).extBut sb.extBut D.l2i1).extBut sc.extBut D.l2TO) hy fun hd id sd=>wpAny_pure ?_);have td:IsPair hd TO x b:=sd.extBut _ _ D.TOi2 tc;refine wpAny_bind (wpAny_seqItems td rfl (wpAny_bind (wpAny_updateSeq_pair td fun he te se=>?_)));have te:IsPair he TO x y:=te;refine wpAny_bind (wpAny_letGo (wpAny_pure (wpAny_pure (wpAny_bind (wpAny_seqItems te rfl (wpAny_bind (wpAny_newTuple ?_)))))));have hsz:he.objs.size=s'.heap.objs.size:=by rw[se.1,sd.1,sc.1,sb.1,sa.1]
 have ze:he.get? z=some (zO .ellipsis f1 TI TO):=se.extBut _ _ D.TOz.symm (sd.extBut _ _ D.i2z.symm (sc.extBut _ _ D.TOz.symm (sb.extBut _ _ D.i1z.symm za)));have ke:∀c o,c∉[z,TO,i1,i2]→s'.heap.get? c=some o→he.get? c=some o:=fun c o hc e=>by
  have c1:c≠z:=fun q=>hc (by simp[q])
  have c2:c≠TO:=fun q=>hc (by simp[q])
  have c3:c≠i1:=fun q=>hc (by simp[q])
  have c4:c≠i2:=fun q=>hc (by simp[q])
  exact se.extBut _ _ c2 (sd.extBut _ _ c4 (sc.extBut _ _ c2 (sb.extBut _ _ c3 (sa.extBut _ _ c1 e))))
 have ie1:he.IsListIter i1 l1 (k+1):=ib.at fun o e=>se.extBut _ o D.TOi1.symm (sd.extBut _ o D.i12 (sc.extBut _ o D.TOi1.symm e))
 have ie2:he.IsListIter i2 l2 (k+1):=id.at fun o e=>se.extBut _ o D.TOi2.symm e
 have zlt:z<he.objs.size:=Heap.lt_size ze;show wpAny _ _ (Builtin.SmallTypes.ownedTupleHandOut (.ref z) (.ref he.objs.size) >>= _) _ _ _;refine wpAny_bind ?_;unfold Builtin.SmallTypes.ownedTupleHandOut;have zf:(he.push {cls:=.type "tuple",data:=.seq #[x,y]}).get? z=some (zO .ellipsis f1 TI TO):=Heap.get?_push_of_some _ ze;refine wpAny_bind (wpAny_setField_rec zf (by simp) fun hg zg sg=>?_);have zg:hg.get? z=some (zO (rawInt he.objs.size) f1 TI TO):=zg;refine wpAny_setField_rec zg (by simp) fun hh zh sh=>?_
 have zh:hh.get? z=some (zO (rawInt he.objs.size) (.bool false) TI TO):=zh;have up:∀c o,c≠z→he.get? c=some o→hh.get? c=some o:=fun c o c1 e=>sh.extBut _ _ c1 (sg.extBut _ _ c1 (Heap.get?_push_of_some _ e))
 have th:IsPair hh he.objs.size x y:=sh.extBut _ _ (Nat.ne_of_gt zlt) (sg.extBut _ _ (Nat.ne_of_gt zlt) (Heap.get?_push_size _ rfl));have lh:hh.objs.size=he.objs.size+1:=by rw[sh.1,sg.1,Heap.size_push]
 rw[hsz] at th lh;refine wpAny_pure ⟨_,rfl,?_⟩;show Q (.ref he.objs.size) _;rw[hsz];exact hQ hh ⟨⟨_,_,.inr ⟨_,rfl⟩,zh⟩,up _ _ D.TIz (se.extBut _ _ D.TITO (sd.extBut _ _ D.TIi2 (sc.extBut _ _ D.TITO (sb.extBut _ _ D.TIi1 (sa.extBut _ _ D.TIz hTI))))),⟨_,_,up _ _ D.TOz te⟩,ie1.at fun o e=>up _ o D.i1z e,ie2.at fun o e=>up _ o D.i2z e⟩ th lh fun c o hc e=>up c o (fun q=>hc (by simp[q])) (ke c o hc e)
theorem xp {Q:Value→Shared→Prop}{f0:Value}{c:Bool}(D:ZipApart z TI TO i1 i2 l1 l2)(hz:s.heap.get? z=some (zO f0 (.bool c) TI TO))(h0:f0=.none∨∃T:Nat,f0=rawInt T)(hTI:IsPair s.heap TI (.ref i1) (.ref i2))(hTO:IsPair s.heap TO a b)(h1:s.heap.IsListIter i1 l1 k)(h2:s.heap.IsListIter i2 l2 k)
  (hl1:s.heap.IsList l1 xs) (hl2:s.heap.IsList l2 ys) (hx:xs[k]?=some x) (hy:ys[k]?=some y) (hf:wpAny (model prog w) A (Builtin.SmallTypes.ownedTupleIsFree (.ref z)) (fun r s'=>r=false∧∃h',s'={s with heap:=h'}∧Heap.SameBut z s.heap h'∧∃d,h'.get? z=some (zO f0 (.bool d) TI TO)) (fun _ _=>False) s)
  (hQ:∀h',qg h' z TI TO i1 i2 l1 l2 (k+1)→IsPair h' s.heap.objs.size x y→h'.objs.size=s.heap.objs.size+1→(∀c o,c∉[z,TO,i1,i2]→s.heap.get? c=some o→h'.get? c=some o)→Q (.ref s.heap.objs.size) {s with heap:=h'}) :
  wpAny (model prog w) A (Builtin.«zip.__next__» ⟨[.ref z],[]⟩) (fun fin s'=>∃v,fin=.done (.ret v)∧Q v s') E s:=by
 show wpAny _ _ (field (.ref z) 2 >>= _) _ _ _;refine wpAny_bind (wpAny_field hz rfl (x:=.bool false) rfl ?_);show wpAny _ _ (field (.ref z) 3 >>= _) _ _ _;refine wpAny_bind (wpAny_field hz rfl (x:=.ref TI) rfl (wpAny_bind (wpAny_seqItems hTI rfl ?_)));show wpAny _ _ (Builtin.SmallTypes.ownedTupleIsFree (.ref z) >>= _) _ _ _;refine wpAny_bind (wpAny_mono hf (fun r s' hrs=>?_) fun _ _ q=>q.elim);obtain⟨rfl,ha,rfl,sa,d,za⟩:=hrs;simp only[Bool.false_eq_true,if_false];rw[←Array.forIn_toList];simp only[forIn_cons,forIn_nil];refine wpAny_bind (wpAny_bind (wpAny_bind (wpAny_holding ?_)));show wpAny _ _ (Builtin.SmallTypes.nextOf (.ref i1) >>= _) _ _ _;refine wpAny_bind (wpAny_nextOf_list_item (h1.extBut sa.extBut D.i1z) (hl1.extBut sa.extBut D.l1z) hx fun hb ib sb=>wpAny_pure (wpAny_pure ?_));refine wpAny_bind (wpAny_bind (wpAny_holding ?_));show wpAny _ _ (Builtin.SmallTypes.nextOf (.ref i2) >>= _) _ _ _;refine wpAny_bind (wpAny_nextOf_list_item ((h2.extBut sa.extBut D.i2z).extBut sb.extBut D.i12.symm) ((hl2.extBut sa.extBut D.l2z).extBut sb.extBut D.l2i1) hy fun hc ic sc=>wpAny_pure (wpAny_pure ?_));refine wpAny_pure ?_;show wpAny _ _ (newTuple [x,y] >>= _) _ _ _;refine wpAny_bind (wpAny_newTuple (wpAny_pure ⟨_,rfl,?_⟩));have hsz:hc.objs.size=s.heap.objs.size:=by rw[sc.1,sb.1,sa.1]
 show Q (.ref hc.objs.size) _;rw[hsz];have up:∀c o,c≠i1→c≠i2→ha.get? c=some o→(hc.push {cls:=.type "tuple",data:=.seq #[x,y]}).get? c=some o:=fun c o c1 c2 e=>Heap.get?_push_of_some _ (sc.extBut _ _ c2 (sb.extBut _ _ c1 e))
 refine hQ _ ⟨⟨f0,d,h0,up _ _ D.i1z.symm D.i2z.symm za⟩,up _ _ D.TIi1 D.TIi2 (sa.extBut _ _ D.TIz hTI),⟨_,_,up _ _ D.TOi1 D.TOi2 (sa.extBut _ _ D.TOz hTO)⟩,ib.at fun o e=>Heap.get?_push_of_some _ (sc.extBut _ _ D.i12 e),ic.at fun o e=>Heap.get?_push_of_some _ e⟩ (by rw[←hsz];exact Heap.get?_push_size _ rfl) (by rw[Heap.size_push,hsz]) fun c o hc e=>up c o (fun q=>hc (by simp[q])) (fun q=>hc (by simp[q])) (sa.extBut _ _ (fun q=>hc (by simp[q])) e)
theorem lM {α:Type}{t:Addr}{f:Option Obj→Sem α}{Q:α→Shared→Prop}(h:wpAny (model prog w) A (f (s.heap.get? t)) Q E s):wpAny (model prog w) A (loadIfAlive t >>= f) Q E s:=fun Γ p hg=>by
 show Sem.wp _ _ (.loadIfAlive t _) _ _ _ _;rw[Sem.wp_loadIfAlive];exact h Γ p hg
theorem Dk {f0:Value}{c:Bool}(hz:s.heap.get? z=some (zO f0 (.bool c) TI TO))(h0:f0=.none∨∃T:Nat,f0=rawInt T) :
  wpAny (model prog w) A (Builtin.SmallTypes.ownedTupleIsFree (.ref z)) (fun r s'=>r=true∧s'=s) (fun _ _=>False) s∨
  wpAny (model prog w) A (Builtin.SmallTypes.ownedTupleIsFree (.ref z)) (fun r s'=>r=false∧∃h',s'={s with heap:=h'}∧Heap.SameBut z s.heap h'∧∃d,h'.get? z=some (zO f0 (.bool d) TI TO)) (fun _ _=>False) s:=by
 unfold Builtin.SmallTypes.ownedTupleIsFree;rcases h0 with rfl|⟨T,rfl⟩
 ·exact .inl (wpAny_bind (wpAny_field hz rfl (x:=.none) rfl (wpAny_pure ⟨rfl,rfl⟩)))
 ·cases q:s.heap.get? T with
  | none=>
   refine .inl (wpAny_bind (wpAny_field hz rfl (x:=rawInt T) rfl ?_));show wpAny _ _ (loadIfAlive ((T:Int)).toNat >>= _) _ _ _;refine lM ?_;rw[Int.toNat_natCast,q];exact wpAny_pure ⟨rfl,rfl⟩
  | some o=>
   refine .inr (wpAny_bind (wpAny_field hz rfl (x:=rawInt T) rfl ?_));show wpAny _ _ (loadIfAlive ((T:Int)).toNat >>= _) _ _ _;refine lM ?_;rw[Int.toNat_natCast,q];show wpAny _ _ (field (.ref z) 1 >>= _) _ _ _;refine wpAny_bind (wpAny_field hz rfl (x:=.bool c) rfl ?_);cases c with
   | true=>exact wpAny_pure ⟨rfl,s.heap,rfl,⟨rfl,fun _ _=>rfl⟩,_,hz⟩
   | false=>
    show wpAny _ _ (setField (.ref z) 1 (.bool true) >>= _) _ _ _;exact wpAny_bind (wpAny_setField_rec hz (by simp) fun h' z' s'=>wpAny_pure ⟨rfl,h',rfl,s',_,z'⟩)
theorem rS {Q:Value→Shared→Prop}(D:ZipApart z TI TO i1 i2 l1 l2)(t:qg s.heap z TI TO i1 i2 l1 l2 k)(hl1:s.heap.IsList l1 xs)(hl2:s.heap.IsList l2 ys)(hx:xs[k]?=some x)(hy:ys[k]?=some y)
  (hQ:∀h',qg h' z TI TO i1 i2 l1 l2 (k+1)→IsPair h' s.heap.objs.size x y→h'.objs.size=s.heap.objs.size+1→(∀c o,c∉[z,TO,i1,i2]→s.heap.get? c=some o→h'.get? c=some o)→Q (.ref s.heap.objs.size) {s with heap:=h'}) :
  wpAny (model prog w) A (Builtin.SmallTypes.nextOf (.ref z)) Q E s:=by
 obtain⟨⟨f0,c,h0,hz⟩,hTI,⟨a,b,hTO⟩,h1,h2⟩:=t;have hT:s.TypeIs (.ref z) "zip":=⟨_,hz,rfl⟩;unfold Builtin.SmallTypes.nextOf;refine wpAny_bind (wpAny_callSpecial?_slot (name:=Str.ofString "__next__") hT PySem.F.slot_zip_next (wpAny_call_entry PySem.F.slot_zip_next hT PySem.F.entry_zip_next ?_ (PySem.F.args_zip_next_1 _)));rcases Dk (prog:=prog) (w:=w) (A:=A.in1) hz h0 with hf|hf
 ·exact vP D hz hTI hTO h1 h2 hl1 hl2 hx hy hf fun h' a1 a2 a3 a4=>wpAny_pure (hQ h' a1 a2 a3 a4)
 ·exact xp D hz h0 hTI hTO h1 h2 hl1 hl2 hx hy hf fun h' a1 a2 a3 a4=>wpAny_pure (hQ h' a1 a2 a3 a4)
theorem vj {Q:Value→Shared→Prop}(hh:A.handled=none)(D:ZipApart z TI TO i1 i2 l1 l2)(t:qg s.heap z TI TO i1 i2 l1 l2 k)(hl1:s.heap.IsList l1 xs)(hx:xs[k]?=none)
  (hE:∀h' e,(∀c o,c∉[z,TO,i1,i2]→s.heap.get? c=some o→h'.get? c=some o)→(∃o,h'.get? e=some o∧o.cls=.type "StopIteration")→E (.ref e) {s with heap:=h'}) :
  wpAny (model prog w) A (Builtin.SmallTypes.nextOf (.ref z)) Q E s:=by
 obtain⟨⟨f0,c,h0,hz⟩,hTI,⟨a,b,hTO⟩,h1,h2⟩:=t;have hT:s.TypeIs (.ref z) "zip":=⟨_,hz,rfl⟩;unfold Builtin.SmallTypes.nextOf;refine wpAny_bind (wpAny_callSpecial?_slot (name:=Str.ofString "__next__") hT PySem.F.slot_zip_next (wpAny_call_entry PySem.F.slot_zip_next hT PySem.F.entry_zip_next ?_ (PySem.F.args_zip_next_1 _)));show wpAny _ _ (field (.ref z) 2 >>= _) _ _ _;refine wpAny_bind (wpAny_field hz rfl (x:=.bool false) rfl ?_);show wpAny _ _ (field (.ref z) 3 >>= _) _ _ _;refine wpAny_bind (wpAny_field hz rfl (x:=.ref TI) rfl (wpAny_bind (wpAny_seqItems hTI rfl ?_)));show wpAny _ _ (Builtin.SmallTypes.ownedTupleIsFree (.ref z) >>= _) _ _ _;rcases Dk (prog:=prog) (w:=w) (A:=A.in1) hz h0 with hf|hf
 ·refine wpAny_bind (wpAny_mono hf (fun r s' hrs=>?_) fun _ _ q=>q.elim);obtain⟨rfl,rfl⟩:=hrs;simp only[if_true];refine wpAny_bind (wpAny_rule (wpAny_bind (wpAny_field hz rfl (x:=.ref TO) rfl (wpAny_bind (wpAny_setField_rec hz (by simp) fun ha za sa=>?_)))));have za:ha.get? z=some (zO .ellipsis (.bool c) TI TO):=za;refine wpAny_bind ?_;simp only[zipIdx_cons,zipIdx_nil,forIn_cons,forIn_nil];refine wpAny_bind (wpAny_bind (wpAny_onRaise ?_));show wpAny _ _ (Builtin.SmallTypes.nextOf (.ref i1) >>= _) _ _ _;refine wpAny_bind (wpAny_nextOf_list_end (show A.in1.handled=none from hh) (h1.extBut sa.extBut D.i1z) (hl1.extBut sa.extBut D.l1z) hx fun hb e sb he=>?_);obtain⟨oe,hoe,hce⟩:=he;have zb:hb.get? z=some (zO .ellipsis (.bool c) TI TO):=sb _ _ D.i1z.symm za;have ez:e≠z:=fun q=>by rw[q,zb] at hoe;cases hoe;simp[zO] at hce
  exact wpAny_setField_rec zb (by simp) fun hc _ sc=>hE hc e (fun c o hx q=>sc.extBut _ _ (fun p=>hx (by simp[p])) (sb _ _ (fun p=>hx (by simp[p])) (sa.extBut _ _ (fun p=>hx (by simp[p])) q))) ⟨oe,sc.extBut _ _ ez hoe,hce⟩
 ·refine wpAny_bind (wpAny_mono hf (fun r s' hrs=>?_) fun _ _ q=>q.elim);obtain⟨rfl,ha,rfl,sa,d,za⟩:=hrs;simp only[Bool.false_eq_true,if_false];rw[←Array.forIn_toList];simp only[forIn_cons,forIn_nil];refine wpAny_bind (wpAny_bind (wpAny_bind (wpAny_holding ?_)));show wpAny _ _ (Builtin.SmallTypes.nextOf (.ref i1) >>= _) _ _ _;exact wpAny_bind (wpAny_nextOf_list_end (show A.in1.handled=none from hh) (h1.extBut sa.extBut D.i1z) (hl1.extBut sa.extBut D.l1z) hx fun hb e sb he=>hE hb e (fun c o hx q=>sb _ _ (fun p=>hx (by simp[p])) (sa.extBut _ _ (fun p=>hx (by simp[p])) q)) he)
theorem su {old:Value}{Q:Value→Shared→Prop}(D:ZipApart z TI TO i1 i2 l1 l2)(hez:e∉[z,TO,i1,i2,TI,l1,l2])(he:IsEnum s.heap e z k old)(t:qg s.heap z TI TO i1 i2 l1 l2 k)(hl1:s.heap.IsList l1 xs)(hl2:s.heap.IsList l2 ys)(hx:xs[k]?=some x)(hy:ys[k]?=some y)
  (hQ:∀h1 h' tk,qg h1 z TI TO i1 i2 l1 l2 (k+1)→IsPair h1 s.heap.objs.size x y→h1.objs.size=s.heap.objs.size+1→(∀c o,c∉[z,TO,i1,i2]→s.heap.get? c=some o→h1.get? c=some o)→
   IsEnumOut h' e z ((k:Int)+1) (.ref s.heap.objs.size) (s.heap.objs.size+1)→h'.get? (s.heap.objs.size+1)=some {cls:=.type "tuple",data:=.seq #[.int k tk,.ref s.heap.objs.size]}→(∀c o,c≠e→h1.get? c=some o→h'.get? c=some o)→
   Q (.ref (s.heap.objs.size+1)) {s with heap:=h',toks:=tk+1}) :
  wpAny (model prog w) A (Builtin.«enumerate.__next__» ⟨[.ref e],[]⟩) (fun fin s'=>∃v,fin=.done (.ret v)∧Q v s') E s:=by
 obtain⟨hp,g,d,tk,os⟩:=s;have hez':e∉[z,TO,i1,i2]:=fun q=>hez (by simp only[mem_cons,not_mem_nil,or_false] at q ⊢;rcases q with q|q|q|q <;> simp[q])
 show wpAny _ _ (field (.ref e) 2 >>= _) _ _ _;refine wpAny_bind (wpAny_field he rfl (x:=.ref z) rfl ?_);refine wpAny_bind (rS D t hl1 hl2 hx hy fun h₁ zt pr sz ke=>?_);have he₁:IsEnum h₁ e z k old:=ke e _ hez' he;have sz:h₁.objs.size=hp.objs.size+1:=sz;have pr:IsPair h₁ hp.objs.size x y:=pr;show wpAny _ _ (field (.ref e) 3 >>= _) _ _ ⟨h₁,g,d,tk,os⟩;refine wpAny_bind (wpAny_field he₁ rfl (x:=rawInt k) rfl ?_);show wpAny _ _ (field (.ref e) 4 >>= _) _ _ ⟨h₁,g,d,tk,os⟩;refine wpAny_bind (wpAny_field he₁ rfl (x:=.none) rfl ?_);show wpAny _ _ (mkInt k >>= _) _ _ ⟨h₁,g,d,tk,os⟩;refine wpAny_bind (wpAny_mkInt ?_);show wpAny _ _ (setField (.ref e) 3 (rawInt ((k:Int)+1)) >>= _) _ _ ⟨h₁,g,d,tk+1,os⟩;refine wpAny_bind (wpAny_setField_rec he₁ (by simp) fun h₂ he₂ hs₂=>?_)
 replace hs₂:Heap.SameBut e h₁ h₂:=hs₂
 replace he₂:IsEnum h₂ e z ((k:Int)+1) old:=he₂
 show wpAny _ _ (setField (.ref e) 4 .none >>= _) _ _ ⟨h₂,g,d,tk+1,os⟩;refine wpAny_bind (wpAny_setField_rec he₂ (by simp) fun h₃ he₃ hs₃=>?_)
 replace hs₃:Heap.SameBut e h₂ h₃:=hs₃
 replace he₃:IsEnum h₃ e z ((k:Int)+1) old:=he₃
 show wpAny _ _ (newTuple [.int k tk,.ref hp.objs.size] >>= _) _ _ ⟨h₃,g,d,tk+1,os⟩;refine wpAny_bind (wpAny_newTuple ?_);have he₄:IsEnum (h₃.push {cls:=.type "tuple",data:=.seq #[.int k tk,.ref hp.objs.size]}) e z ((k:Int)+1) old:=Heap.get?_push_of_some _ he₃;have hsz:h₃.objs.size=hp.objs.size+1:=by rw[hs₃.1,hs₂.1,sz]
 have hel:e<hp.objs.size:=Heap.lt_size he;have nel:hp.objs.size+1≠e:=Nat.ne_of_gt (Nat.lt_succ_of_lt hel);have ht₄:(h₃.push {cls:=.type "tuple",data:=.seq #[.int k tk,.ref hp.objs.size]}).get? (hp.objs.size+1)=some {cls:=.type "tuple",data:=.seq #[.int k tk,.ref hp.objs.size]}:=by rw[←hsz];exact Heap.get?_push_size _ rfl
 have hk₄:∀c o,c≠e→h₁.get? c=some o→(h₃.push {cls:=.type "tuple",data:=.seq #[.int k tk,.ref hp.objs.size]}).get? c=some o:=fun c o hc q=>Heap.get?_push_of_some _ (hs₃.extBut c o hc (hs₂.extBut c o hc q))
 generalize hh₄:h₃.push {cls:=.type "tuple",data:=.seq #[.int k tk,.ref hp.objs.size]}=h₄ at he₄ ht₄ hk₄;show wpAny _ _ (Builtin.SmallTypes.ownedTupleIsFree (.ref e) >>= _) _ _ ⟨h₄,g,d,tk+1,os⟩;rw[hsz];refine wpAny_bind ?_;unfold Builtin.SmallTypes.ownedTupleIsFree;refine wpAny_bind (wpAny_field he₄ rfl (x:=.none) rfl (wpAny_pure ?_));simp only[if_true];refine wpAny_bind (wpAny_rule ?_);refine wpAny_bind (wpAny_field he₄ rfl (x:=old) rfl ?_);refine wpAny_bind (wpAny_setField_rec he₄ (by simp) fun h₅ he₅ hs₅=>?_)
 replace hs₅:Heap.SameBut e h₄ h₅:=hs₅
 replace he₅:IsEnum h₅ e z ((k:Int)+1) (.ref hp.objs.size):=he₅
 show wpAny _ _ (Builtin.SmallTypes.ownedTupleHandOut (.ref e) (.ref (hp.objs.size+1)) >>= _) _ _ ⟨h₅,g,d,tk+1,os⟩;refine wpAny_bind ?_;unfold Builtin.SmallTypes.ownedTupleHandOut;refine wpAny_bind (wpAny_setField_rec he₅ (by simp) fun h₆ he₆ hs₆=>?_)
 replace hs₆:Heap.SameBut e h₅ h₆:=hs₆
 replace he₆:IsEnumOut h₆ e z ((k:Int)+1) (.ref hp.objs.size) (hp.objs.size+1):=he₆
 refine wpAny_setField_rec he₆ (by simp) fun h₇ he₇ hs₇=>?_
 replace hs₇:Heap.SameBut e h₆ h₇:=hs₇
 replace he₇:IsEnumOut h₇ e z ((k:Int)+1) (.ref hp.objs.size) (hp.objs.size+1):=he₇
 exact wpAny_bind (wpAny_letGo (wpAny_pure ⟨_,rfl,hQ h₁ h₇ tk zt pr sz ke he₇ (hs₇.extBut _ _ nel (hs₆.extBut _ _ nel (hs₅.extBut _ _ nel ht₄))) fun c o hc q=>hs₇.extBut c o hc (hs₆.extBut c o hc (hs₅.extBut c o hc (hk₄ c o hc q)))⟩))
end
def Cz (K:W.Frag)(a b:Addr):It:=
 ⟨fun i H=>∃xs ys x y,iM K H a xs∧iM K H b ys∧xs[i]?=some x∧ys[i]?=some y,
  fun i H v H'=>∃p q x y,H p=none∧bS H p (.tup [x,y]) q=none∧H'=bS (bS H p (.tup [x,y])) q (.tup [.int (i:Int),.ref p])∧v=.ref q∧(∀xs,iM K H a xs→xs[i]?=some x)∧∀ys,iM K H b ys→ys[i]?=some y,
  fun i H=>∃xs,iM K H a xs∧xs.length≤i⟩
theorem yO {P:Program}{w:World}{K:W.Frag}{es:List Expr}{kt:Nat}{pos:Pos}{e z TI TO i1 i2 a b:Addr}(D:ZipApart z TI TO i1 i2 a b)(hez:e∉[z,TO,i1,i2,TI,a,b]) :
  mZ P w K (.Tuple es kt pos) (Cz K a b) [e,z,TO,i1,i2,TI] e (fun i h=>(∃old,IsEnum h e z i old)∧qg h z TI TO i1 i2 a b i) where
 mem:=by simp
 obj:=fun i h st c hc=>by
  obtain⟨⟨old,he⟩,⟨f0,cc,h0,hz⟩,hTI,⟨x,y,hTO⟩,⟨o1,e1,_,d1⟩,⟨o2,e2,_,d2⟩⟩:=st;simp only[mem_cons,not_mem_nil,or_false] at hc;rcases hc with rfl|rfl|rfl|rfl|rfl|rfl
  ·exact⟨_,he,fun v q=>by cases q⟩
  ·exact⟨_,hz,fun v q=>by cases q⟩
  ·exact⟨_,hTO,fun v q=>by cases q⟩
  ·exact⟨o1,e1,fun v q=>by rw[d1] at q;cases q⟩
  ·exact⟨o2,e2,fun v q=>by rw[d2] at q;cases q⟩
  ·exact⟨_,hTI,fun v q=>by cases q⟩
 keep:=fun i h h' st k=>by
  obtain⟨⟨old,he⟩,⟨f0,cc,h0,hz⟩,hTI,⟨x,y,hTO⟩,h1,h2⟩:=st;exact⟨⟨old,k e (by simp) _ he⟩,⟨f0,cc,h0,k z (by simp) _ hz⟩,k TI (by simp) _ hTI,⟨x,y,k TO (by simp) _ hTO⟩,h1.at fun o e=>k i1 (by simp) o e,h2.at fun o e=>k i2 (by simp) o e⟩
 item:=by
  intro X hP hw hK hc i af s σ H E I hf st hg;subst hP hw hK;obtain⟨⟨old,he⟩,zt⟩:=st;obtain⟨xs,ys,x,y,hq1,hq2,hx,hy⟩:=hg;obtain⟨its1,rv1,p1,_⟩:=I.list hq1;obtain⟨its2,rv2,p2,_⟩:=I.list hq2;obtain⟨u1,hu1,ru1⟩:=rv1.get hx;obtain⟨u2,hu2,ru2⟩:=rv2.get hy;have hT:s.TypeIs (.ref e) "enumerate":=⟨_,he,rfl⟩;have lt:∀c∈[e,z,TO,i1,i2,TI],c<s.heap.objs.size:=fun c hc=>by
   obtain⟨⟨f0,cc,h0,hz⟩,hTI,⟨x,y,hTO⟩,⟨o1,e1,_,d1⟩,⟨o2,e2,_,d2⟩⟩:=zt;simp only[mem_cons,not_mem_nil,or_false] at hc;rcases hc with q|q|q|q|q|q <;> rw[q]
   ·exact Heap.lt_size he
   ·exact Heap.lt_size hz
   ·exact Heap.lt_size hTO
   ·exact Heap.lt_size e1
   ·exact Heap.lt_size e2
   ·exact Heap.lt_size hTI
  unfold pyNext;refine wpAny_bind (wpAny_attempt (wpAny_callSpecial?_slot (name:=Str.ofString "__next__") hT F.slot_enumerate_next (wpAny_call_entry F.slot_enumerate_next hT F.entry_enumerate_next
   (su D hez he zt p1.isList p2.isList (x:=u1) (y:=u2) (by simpa using hu1) (by simpa using hu2) fun h1 h' tk zt1 pr sz ke ho ht kh=>wpAny_pure ⟨_,rfl,wpAny_letOwnedTupleGo_enum ho fun h2 he2 hs2=>?_⟩) (F.args_enumerate_next_1 _))))
  have hs2:Heap.SameBut e h' h2:=hs2;have fr:H s.heap.objs.size=none:=I.hok.fresh (Nat.le_refl _);have sub:∀c,c∈[z,TO,i1,i2]→c∈[e,z,TO,i1,i2,TI]:=fun c hc=>by
   simp only[mem_cons,not_mem_nil,or_false] at hc ⊢;rcases hc with q|q|q|q <;> simp[q]
  have new1:dg X.prog X.w (bS H s.heap.objs.size (.tup [x,y])) h1 s.heap.objs.size (.tup [x,y]):=
   ⟨Nat.le_trans (by decide:2≤1000) (by rw[sizeLine_eq];decide),[u1,u2],.cons ru1 (.cons ru2 .nil),⟨_,pr,rfl,_,rfl⟩⟩
  have I1:=iu (t':=s.toks) I (fun c hc=>hf c (sub c hc)) ke (Nat.le_refl _) new1;have fr2:bS H s.heap.objs.size (.tup [x,y]) (s.heap.objs.size+1)=none:=I1.hok.fresh (show h1.objs.size≤_ by rw[sz];exact Nat.le_refl _);have k2:∀c o,c∉[e]→h1.get? c=some o→h2.get? c=some o:=fun c o hc q=>(hs2.2 c (fun z=>hc (by simp[z]))).trans (kh c o (fun z=>hc (by simp[z])) q)
  have elt:e<s.heap.objs.size:=lt e (by simp);have ht2:h2.get? (s.heap.objs.size+1)=some {cls:=.type "tuple",data:=.seq #[.int i tk,.ref s.heap.objs.size]}:=(hs2.2 _ (Nat.ne_of_gt (Nat.lt_succ_of_lt elt))).trans ht;have new2:dg X.prog X.w (bS (bS H s.heap.objs.size (.tup [x,y])) (s.heap.objs.size+1) (.tup [.int (i:Int),.ref s.heap.objs.size])) h2 (s.heap.objs.size+1) (.tup [.int (i:Int),.ref s.heap.objs.size]):=
   ⟨Nat.le_trans (by decide:2≤1000) (by rw[sizeLine_eq];decide),[.int i tk,.ref s.heap.objs.size],.cons ⟨tk,rfl⟩ (.cons rfl .nil),⟨_,ht2,rfl,_,rfl⟩⟩
  have I2:=iu (t':=tk+1) I1 (ch:=[e]) (fun c hc=>by
   rw[mem_singleton.mp hc];obtain⟨f1,f2⟩:=hf e (by simp);exact⟨by rw[au (Nat.ne_of_lt elt)];exact f1,f2⟩) k2 (show h1.objs.size≤s.heap.objs.size+1 by rw[sz];exact Nat.le_refl _) new2
  refine⟨.ref (s.heap.objs.size+1),_,I2,rfl,⟨_,_,x,y,fr,fr2,rfl,rfl,fun zs h=>by rw[I.list_inj h hq1];exact hx,fun zs h=>by rw[I.list_inj h hq2];exact hy⟩,⟨⟨_,by simpa using he2⟩,?_⟩,fun c hc=>?_⟩
  ·have ne:∀c,c∈[z,TO,i1,i2,TI,a,b]→c∉[e]:=fun c hc q=>hez (by rw[←mem_singleton.mp q];exact hc)
   obtain⟨⟨f0,cc,h0,hz⟩,hTI,⟨x,y,hTO⟩,h1',h2'⟩:=zt1;exact⟨⟨f0,cc,h0,k2 _ _ (ne z (by simp)) hz⟩,k2 _ _ (ne TI (by simp)) hTI,⟨x,y,k2 _ _ (ne TO (by simp)) hTO⟩,h1'.at fun o e=>k2 _ o (ne i1 (by simp)) e,h2'.at fun o e=>k2 _ o (ne i2 (by simp)) e⟩
  ·have l:=lt c hc;rw[au (Nat.ne_of_lt (Nat.lt_succ_of_lt l)),au (Nat.ne_of_lt l)];exact(hf c hc).1
 done:=by
  intro X hP hw hK hc i af s σ H E I hf st hg;subst hP hw hK;obtain⟨⟨old,he⟩,zt⟩:=st;obtain⟨xs,hq1,hx⟩:=hg;obtain⟨its1,rv1,p1,_⟩:=I.list hq1;have hl:=rv1.length;have hT:s.TypeIs (.ref e) "enumerate":=⟨_,he,rfl⟩;unfold pyNext;refine wpAny_bind (wpAny_attempt (wpAny_callSpecial?_slot (name:=Str.ofString "__next__") hT F.slot_enumerate_next (wpAny_call_entry F.slot_enumerate_next hT F.entry_enumerate_next ?_ (F.args_enumerate_next_1 _))));show wpAny _ _ (field (.ref e) 2 >>= _) _ _ _;refine wpAny_bind (wpAny_field he rfl (x:=.ref z) rfl (wpAny_bind (vj (show X.A.in1.handled=none from I.ok.hd hc) D zt p1.isList (by simp;omega) fun h' x hb hx'=>?_)));obtain⟨o,ho,hcl⟩:=hx';refine wpAny_bind (wpAny_isInstance (T:="StopIteration") (b:=true) ⟨o,ho,hcl⟩ isSubtype_stop ?_);exact wpAny_pure ⟨rfl,nV (t':=s.toks) I hf fun c o hc q=>hb c o (fun z=>hc (by simp only[mem_cons,not_mem_nil,or_false] at z ⊢;rcases z with z|z|z|z <;> simp[z])) q⟩
 self:=fun _ _ _ _ _ st h=>by
  obtain⟨⟨old,he⟩,_⟩:=st;exact wpAny_pyIter_enum he h
def C6 (z:Addr):Obj:={cls:=.type "enumerate",data:=.fields #[.none,.bool false,.ref z,rawInt 0,.none,.none]}
open AutoSeq1 (wpAny_loadPart') in
theorem oG (z TI TO:Addr) :
  Meets (Builtin.«enumerate.__new__» ⟨[.type "enumerate",.ref z],[]⟩) (fun _ R s=>IsZip s.heap z TI TO .none∧R (.ok (.ret (.ref s.heap.objs.size))) {s with heap:=s.heap.push (C6 z)}):=
 .of_wp fun prog w A R s hh=>by
  obtain⟨hp,g,d,tk,os⟩:=s;obtain⟨hz,hr⟩:=hh;have hsub:=sub_enumerate;have hT:IsZip (Shared.heap ⟨hp,g,d,tk,os⟩) z TI TO .none:=hz
  wp_walk using wpAny_loadPart' hz
  refine wpAny_stack_any fun st=>wpAny_pure ?_
  split
  ·rename_i c _ _ _ _ _;cases (c==Value.type "enumerate")
   all_goals
    wp_walk using wpAny_loadPart' hz,wpAny_pyIter_zip hT
    exact⟨_,rfl,hr⟩
  ·wp_walk using wpAny_loadPart' hz,wpAny_pyIter_zip hT
   exact⟨_,rfl,hr⟩
theorem mQ {prog:Program}{w:World}{A:Around}{E:Value→Shared→Prop}{s:Shared}{z TI TO:Addr}{Q:Value→Shared→Prop}(hz:IsZip s.heap z TI TO .none)
  (q:IsEnum (s.heap.push (C6 z)) s.heap.objs.size z 0 .none→Q (.ref s.heap.objs.size) {s with heap:=s.heap.push (C6 z)}):wpAny (model prog w) A (call (.type "enumerate") [.ref z]) Q E s:=by
 refine callType_new F.called_enumerate (by decide) (F.typeCall_enumerate_1 _) (F.newCall_enumerate_1 _) (fun obj=>F.args_object_init_2 obj _) F.entry_enumerate_new (oG z TI TO) ⟨hz,?_⟩;have he:IsEnum (s.heap.push (C6 z)) s.heap.objs.size z 0 .none:=Heap.get?_push_size _ rfl;exact⟨⟨_,he,rfl⟩,q he⟩
theorem DU {X:Cx}{es:List Expr}{kt:Nat}{tp:Pos}{l r:Expr}{tl:TA}{p pos p2 pos2:Pos}(hg:Gl X "enumerate")(hm:X.mg "enumerate"=none)(hv:bootBuiltins "enumerate"=some (.type "enumerate"))(hg2:Gl X "zip")(hm2:X.mg "zip"=none)(hv2:bootBuiltins "zip"=some (.type "zip"))(hl:PA X [l,r] tl)
  (hs0:starEach [.Call (.Name "zip" p2) [l,r] [] pos2] X.env=[(false,eval (.Call (.Name "zip" p2) [l,r] [] pos2) X.env)]:=by rfl) (hs:starEach [l,r] X.env=(false,eval l X.env)::starEach [r] X.env:=by rfl) (hp:(backTo pos2 (starEach [r] X.env)).any (·.1)=false:=by rfl) :
  PI X (.Tuple es kt tp) (.Call (.Name "enumerate" p) [.Call (.Name "zip" p2) [l,r] [] pos2] [] pos) (fun σ H R=>tl σ H fun xs H1=>∃a b,xs=[.ref a,.ref b]∧(∃xs,iM X.K H1 a xs)∧(∃ys,iM X.K H1 b ys)∧R (Cz X.K a b) H1):=by
 intro af s σ H R I h;refine Call_ (i9 I hg hm hv (PyProof.Rows.callWith_type1 ?_ hs0 rfl));rw[hs0];show wpAny _ _ (spliced ((false,eval (.Call (.Name "zip" p2) [l,r] [] pos2) X.env)::backTo pos [])) _ _ s;refine Calls.spliced_cons (Call_ (i9 I hg2 hm2 hv2 (PyProof.Rows.callWith_type1 (bR (hl pos2 af s σ H _ I h) fun us s1 hxx=>?_) hs hp)));obtain⟨vs,H1,I1,r1,a,b,e,⟨xs,hq1⟩,⟨ys,hq2⟩,q⟩:=hxx;subst e;cases r1 with
 | cons ra rr=>
  cases rr with
  | cons rb rr=>
   cases rr;rw[show _=Value.ref a from ra,show _=Value.ref b from rb];obtain⟨its1,rv1,p1,_⟩:=I1.list hq1;obtain⟨its2,rv2,p2,_⟩:=I1.list hq2;refine call_zip_2 p1.isList p2.isList fun h' z1 z2 z3 z4 z5 z6 z7=>Calls.spliced_nil (mQ (s:={s1 with heap:=h'}) z1 fun he=>?_)
   have la:a<s1.heap.objs.size:=by obtain⟨o,e,_⟩:=p1.isList;exact Heap.lt_size e
   have lb:b<s1.heap.objs.size:=by obtain⟨o,e,_⟩:=p2.isList;exact Heap.lt_size e
   have up:∀c o,h'.get? c=some o→(h'.push (C6 (s1.heap.objs.size+4))).get? c=some o:=fun c o e=>Heap.get?_push_of_some _ e
   have eh:(Shared.heap {s1 with heap:=h'}).objs.size=s1.heap.objs.size+5:=z6;rw[eh] at he ⊢;refine wpAny_pyIter_enum he ⟨s1.heap.objs.size+5,[s1.heap.objs.size+5,s1.heap.objs.size+4,s1.heap.objs.size+3,s1.heap.objs.size,s1.heap.objs.size+1,s1.heap.objs.size+2],_,_,H1,rfl,I1.kept (t':=s1.toks) (fun c o e=>up c o (z7 c o e)),yO (zipApart_new la lb) ?_,⟨⟨_,he⟩,⟨.none,false,.inl rfl,up _ _ z1⟩,up _ _ z2,⟨_,_,up _ _ z3⟩,z4.at fun o e=>up _ o e,z5.at fun o e=>up _ o e⟩,fun c hc=>?_,q⟩
   ·intro hc;simp only[mem_cons,not_mem_nil,or_false] at hc;have up5:∀c:Nat,c<s1.heap.objs.size+5→s1.heap.objs.size+5≠c:=fun c h=>Nat.ne_of_gt h
    have l5:∀c:Nat,c<s1.heap.objs.size→c<s1.heap.objs.size+5:=fun c h=>Nat.lt_of_lt_of_le h (Nat.le_add_right _ _)
    rcases hc with q|q|q|q|q|q|q
    ·exact up5 _ (Nat.add_lt_add_left (by decide) _) q
    ·exact up5 _ (Nat.add_lt_add_left (by decide) _) q
    ·exact up5 _ (Nat.lt_add_of_pos_right (by decide)) q
    ·exact up5 _ (Nat.add_lt_add_left (by decide) _) q
    ·exact up5 _ (Nat.add_lt_add_left (by decide) _) q
    ·exact up5 _ (l5 _ la) q
    ·exact up5 _ (l5 _ lb) q
   ·have hb:s1.heap.objs.size≤c:=by
     simp only[mem_cons,not_mem_nil,or_false] at hc;rcases hc with q|q|q|q|q|q <;> rw[q] <;> omega
    exact I1.fpOk hb (I1.hok.fresh hb)
def xf (ds:List D)(M:aw):aM jN:=match ds with
 | [.lst xs,.lst ys]=>if xs.length=ys.length then .ok ⟨cZ (jC xs ys),none⟩ M else .bad
 | _=>.bad
theorem yi (ds:List D)(M:aw):xf ds M=.bad∨∃xs ys,ds=[.lst xs,.lst ys]∧xs.length=ys.length∧xf ds M=.ok ⟨cZ (jC xs ys),none⟩ M:=by
 match ds with
 | []=>exact .inl rfl
 | [x]=>cases x <;> exact .inl rfl
 | _::_::_::_=>exact .inl (by unfold xf;split <;> first|rfl|(rename_i h;cases h))
 | [x,y]=>
  cases x with
  | lst xs=>
   cases y with
   | lst ys=>
    by_cases h:xs.length=ys.length
    ·exact .inr ⟨xs,ys,rfl,h,if_pos h⟩
    ·exact .inl (if_neg h)
   | _=>exact .inl rfl
  | _=>exact .inl rfl
def xJ (g:GA):GI:=fun ρ M=>(g ρ M).bind xf
theorem lN {xs ys:List D}(h:xs.length=ys.length):(jC xs ys).length=xs.length:=by
 unfold jC;rw[length_zipWith,←h,Nat.min_self]
theorem Bs {K:W.Frag}{θ:List Addr}{H:Hp}{a b:Addr}{xs ys:List D}{vs us:List V}(ta:∀θ1 H1,Grow θ H θ1 H1→iM K H1 a vs)(tb:∀θ1 H1,Grow θ H θ1 H1→iM K H1 b us)(hl:xs.length=ys.length)(r1:aR K θ H xs vs)(r2:aR K θ H ys us):rg K (Cz K a b) θ H ⟨cZ (jC xs ys),none⟩:=by
 intro θ1 H1 M1 g _ i;have t1:=ta θ1 H1 g.toGrow;have t2:=tb θ1 H1 g.toGrow;have r1:=r1.go g;have r2:=r2.go g;refine⟨fun d e=>?_,fun h=>⟨vs,t1,by
  have h:(cZ (jC xs ys)).length≤i:=h;rw[dL,lN hl,aq r1] at h;exact h⟩⟩
 obtain⟨xy,exy,ed⟩:=jj e;obtain⟨x,y,ex,ey,ed2⟩:=pS exy;obtain⟨v,ev,rv⟩:=bQ r1 ex;obtain⟨u,eu,ru⟩:=bQ r2 ey;refine⟨⟨vs,us,v,u,t1,t2,ev,eu⟩,fun x' H2 q=>?_⟩;obtain⟨p,q,x2,y2,np,nq,eH,exr,h1,h2⟩:=q;have e1:=h1 vs t1;rw[ev] at e1;cases e1;have e2:=h2 us t2;rw[eu] at e2;cases e2;subst eH exr ed ed2;have g2:=cH (o:=.tup [v,u]) g.wr np;have n1:=ej (ds:=[x,y]) g.wr np ⟨_,_,rfl,rv,_,_,rfl,ru,rfl⟩;exact⟨g2.trans (cH g2.wr nq),ej (ds:=[.int (i:Int),.tup [x,y]]) g2.wr nq ⟨_,_,rfl,rfl,_,_,rfl,n1,rfl⟩⟩
theorem DZ {X:Cx}{es:List Expr}{kt:Nat}{tp:Pos}{l r:Expr}{g:GA}{p pos p2 pos2:Pos}(hg:Gl X "enumerate")(hm:X.mg "enumerate"=none)(hv:bootBuiltins "enumerate"=some (.type "enumerate"))(hg2:Gl X "zip")(hm2:X.mg "zip"=none)(hv2:bootBuiltins "zip"=some (.type "zip"))(hl:PA X [l,r] (tA X g))
  (hs0:starEach [.Call (.Name "zip" p2) [l,r] [] pos2] X.env=[(false,eval (.Call (.Name "zip" p2) [l,r] [] pos2) X.env)]:=by rfl) (hs:starEach [l,r] X.env=(false,eval l X.env)::starEach [r] X.env:=by rfl) (hp:(backTo pos2 (starEach [r] X.env)).any (·.1)=false:=by rfl) :
  PI X (.Tuple es kt tp) (.Call (.Name "enumerate" p) [.Call (.Name "zip" p2) [l,r] [] pos2] [] pos) (tI X (xJ g)):=by
 intro af s σ H R I h;refine DU hg hm hv hg2 hm2 hv2 hl hs0 hs hp af s σ H R I ?_;obtain⟨ρ,θ,M,hd,hw,h⟩:=h;refine ko hd hw (uD X θ H R) (fun c M' h=>h) (fun h=>h) h fun ds M1 vs θ1 H1 g1 r1 h1=>?_
 rcases yi ds M1 with e|⟨xs,ys,rfl,hl,e⟩
 ·rw[e] at h1;exact h1.elim
 rw[e] at h1;obtain⟨v,rr,ev,⟨a,us,e2,ta,rs⟩,v2,rr2,ev2,⟨b,GD,e3,tb,rs2⟩,rr3⟩:=r1;have rr3:rr2=[]:=rr3;subst rr3 ev2 e2 e3;exact⟨a,b,ev,⟨us,ta.sq⟩,⟨GD,tb.sq⟩,h1 _ θ1 H1 g1 (Bs (fun θ2 H2 g2=>(ta.grow g2).sq) (fun θ2 H2 g2=>(tb.grow g2).sq) hl rs rs2)⟩
theorem ET {X:Cx}{es:List Expr}{kt:Nat}{tp p pos p2 pos2:Pos}{a b:Expr}{gA:GA}(hg:Gl X "enumerate")(hm:X.mg "enumerate"=none)(hv:bootBuiltins "enumerate"=some (.type "enumerate"))(hg2:Gl X "zip")(hm2:X.mg "zip"=none)(hv2:bootBuiltins "zip"=some (.type "zip"))(ha:QA X [a,b] gA)(h1:bP a=true:=by rfl)(h2:dJ [b]=true:=by rfl) :
  QI X (.Tuple es kt tp) (.Call (.Name "enumerate" p) [.Call (.Name "zip" p2) [a,b] [] pos2] [] pos) (xJ gA):=⟨DZ hg hm hv hg2 hm2 hv2 ha.h rfl (sE h1) (sS h2)⟩
def fF:List D→Int→Option Int
 | [],b=>some b
 | .int a::r,b=>if b<a then fF r a else fF r b
 | _::_,_=>none
def Am:List D→Option Int
 | .int a::r=>fF r a
 | _=>none
section
variable {X:Cx}{af:List (Addr×Obj)}{σ:L2.St}
theorem ur {l it S:Addr}{ds0:List D}{vs:List V}{Q:VK}{R:Result→Shared→Prop}{H:Hp}{θ:List Addr}{M:aw}{db:Int}{k:Nat}
  (hr:bp (k+1) X.A) (hcalm:X.calm=true) (hw:Wr X.K θ H M) (ta:j3 X.K θ H l vs) (r:aR X.K θ H ds0 vs)
  (hnI:S≠it) (hR:∀u s',EP X af σ Q u s'→R (.ok (.ret u)) s') (fi:cA X af H it) (fS:cA X af H S) (hQ:∀v,c6 X.K θ H (.int db) v→Q v H) :
  ∀(rest:List D) (j:Nat) (s:Shared) (b:Int) (vb:V) (ub:Value) (n:Nat),ds0.drop j=rest→L2.Inv X af σ H s→s.heap.IsListIter it l j→s.heap.get? S=some (seqObj "list" #[ub,ub] n)→
   c6 X.K θ H (.int b) vb→bi vb ub→fF rest b=some db→
   codeAny (model X.prog X.w) X.A (.builtin "max.loop" ⟨[.ref it,.none,.ref S],[]⟩) R s:=by
 have hname:(toString "max"++toString ".loop":String)="max.loop":=by decide
 have hr1:bp k X.A.in1:=hr.in1;intro rest
 induction rest with
 | nil=>
  intro j s b vb ub n hd I st eS rb rvb h;refine codeAny_builtin PySem.F.entry_max_loop ?_;rw[Around.under_plainId PySem.F.plain_max_loop _];show wpAny _ X.A.in1 (seqItems? (.ref S) >>= _) _ _ _;refine wpAny_bind (wpAny_seqItems eS rfl ?_);obtain⟨its,rv,p,hz⟩:=I.list ta.sq;have hlen:vs.length≤j:=by rw[←aq r];exact drop_eq_nil_iff.mp hd
  have hl:=rv.length;show wpAny _ X.A.in1 (tryCatch (pyNext (.ref it)) _ >>= _) _ _ _;refine wpAny_bind (wpAny_tryCatch (wpAny_pyNext_list_end (show X.A.in1.handled=none from I.ok.hd hcalm) st p.isList (by simp;omega) fun h' eb=>?_));have I1:L2.Inv X af σ H {s with heap:=h'}:=I.turned (t':=s.toks) (fun b o hb e=>eb b o hb e) fi.1 fi.2.1 fi.2.2.2.1 fi.2.2.2.2.1 fi.2.2.2.2.2;have eS':h'.get? S=some (seqObj "list" #[ub,ub] n):=eb S _ hnI eS;show wpAny _ X.A.in1 (updateSeq S (fun _=>#[]) >>= _) _ _ _;refine wpAny_bind (wpAny_updateSeq eS' rfl (wpAny_bind (wpAny_letGo (wpAny_pure ?_))));have I2:L2.Inv X af σ H {s with heap:=h'.update S (Obj.mapSeq fun _=>#[])}:=I1.turned (t':=s.toks) (fun b o hb e=>(Heap.get?_update_other h' _ (Ne.symm hb)).trans e) fS.1 fS.2.1 fS.2.2.2.1 fS.2.2.2.2.1 fS.2.2.2.2.2;have h:some b=some db:=h;cases h;exact hR ub _ ⟨vb,H,I2,rvb,hQ vb rb⟩
 | cons d rest ih=>
  intro j s b vb ub n hd I st eS rb rvb h;have hj:ds0[j]?=some d:=by
   have:=congrArg (·[0]?) hd;simpa using this
  have hd':ds0.drop (j+1)=rest:=by
   rw[←drop_drop,hd];rfl
  obtain⟨v,ev,rdv⟩:=bQ r hj;refine codeAny_builtin PySem.F.entry_max_loop ?_;rw[Around.under_plainId PySem.F.plain_max_loop _];show wpAny _ X.A.in1 (seqItems? (.ref S) >>= _) _ _ _;refine wpAny_bind (wpAny_seqItems eS rfl ?_);obtain⟨its,rv,p,hz⟩:=I.list ta.sq;obtain⟨u,eu,ru⟩:=rv.get ev;show wpAny _ X.A.in1 (tryCatch (pyNext (.ref it)) _ >>= _) _ _ _;refine wpAny_bind (wpAny_tryCatch (wpAny_pyNext_list_item st p.isList (x:=u) (by simpa using eu) fun h' st' sb=>?_));have I1:L2.Inv X af σ H {s with heap:=h'}:=I.turned (t':=s.toks) (fun b o hb e=>(sb.2 b hb).trans e) fi.1 fi.2.1 fi.2.2.2.1 fi.2.2.2.2.1 fi.2.2.2.2.2;have eS1:h'.get? S=some (seqObj "list" #[ub,ub] n):=(sb.2 S hnI).trans eS;cases d with
  | int ki=>
   have h:(if b<ki then fF rest ki else fF rest b)=some db:=h;have e1:v=.int ki:=rdv;have e2:vb=.int b:=rb;subst e1 e2;obtain⟨tk,rfl⟩:=ru;obtain⟨tb,rfl⟩:=rvb;refine wpAny_bind (wpAny_pure ?_);show wpAny _ X.A.in1 (tryCatch (holding [.int ki tk,.int ki tk] (richCompare .Gt (.int ki tk) (.int b tb) >>= _)) _ >>= _) _ _ _;refine wpAny_bind (wpAny_tryCatch (wpAny_holding (wpAny_bind (qI _ _ _ _ _ _ _ _ _ _ ?_))));refine wpAny_bind (wpAny_holding (wpAny_truthy_bool ?_));refine wpAny_bind (wpAny_letGo (wpAny_pure ?_))
   by_cases hlt:b<ki
   ·rw[if_pos hlt] at h;simp only[hlt,decide_true,if_true];refine wpAny_bind (wpAny_updateSeq eS1 rfl (wpAny_bind (wpAny_letGo ?_)));rw[hname];obtain⟨n3,eS3⟩:∃n3,(h'.update S (Obj.mapSeq fun _=>#[.int ki tk,.int ki tk])).get? S=some (seqObj "list" #[.int ki tk,.int ki tk] n3):=⟨_,get?_update_seq eS1 fun _=>#[.int ki tk,.int ki tk]⟩;have kp:∀b o,b≠S→h'.get? b=some o→(h'.update S (Obj.mapSeq fun _=>#[.int ki tk,.int ki tk])).get? b=some o:=fun b o hb e=>(Heap.get?_update_other h' _ (Ne.symm hb)).trans e
    have I3:L2.Inv X af σ H {s with heap:=h'.update S (Obj.mapSeq fun _=>#[.int ki tk,.int ki tk])}:=I1.turned (t':=s.toks) kp fS.1 fS.2.1 fS.2.2.2.1 fS.2.2.2.2.1 fS.2.2.2.2.2;obtain⟨oI,hoI,cI,dI⟩:=id st';exact wpAny_pure ⟨plainId_quiet PySem.F.plain_max_loop _,ih (j+1) _ ki _ (.int ki tk) n3 hd' I3 ⟨oI,kp it oI (Ne.symm hnI) hoI,cI,dI⟩ eS3 rfl ⟨tk,rfl⟩ h⟩
   ·rw[if_neg hlt] at h;simp only[hlt,decide_false,Bool.false_eq_true,if_false];refine wpAny_bind (wpAny_letGo ?_);rw[hname];exact wpAny_pure ⟨plainId_quiet PySem.F.plain_max_loop _,ih (j+1) _ b _ (.int b tb) n hd' I1 st' eS1 rfl ⟨tb,rfl⟩ h⟩
  | _=>cases h
theorem uP {l:Addr}{ds0:List D}{vs:List V}{Q:VK}{H:Hp}{θ:List Addr}{M:aw}{db:Int}{k:Nat}{s:Shared}
  (hr:bp (k+1) X.A) (hcalm:X.calm=true) (I:L2.Inv X af σ H s) (hw:Wr X.K θ H M) (ta:j3 X.K θ H l vs) (r:aR X.K θ H ds0 vs) (h:Am ds0=some db) (hQ:∀v,c6 X.K θ H (.int db) v→Q v H) :
  wpAny (model X.prog X.w) X.A (call (.builtin "max") [.ref l] []) (EP X af σ Q) X.xe s:=by
 have hname:(toString "max"++toString ".loop":String)="max.loop":=by decide
 cases ds0 with
 | nil=>cases h
 | cons d rest=>
  cases d with
  | int ks=>
   have h:fF rest ks=some db:=h;obtain⟨v,ev,rdv⟩:=bQ (i:=0) r rfl;obtain⟨its,rv,p,hz⟩:=I.list ta.sq;refine kmk_tree PySem.F.kind_max PySem.F.plain_max PySem.F.entry_max (nD _) ?_;show wpAny _ X.A.in1 (Builtin.Builtins.bindParams "max" ["key","default"] 0 ⟨[],[]⟩ >>= _) _ _ s;refine wpAny_bind (wpAny_of_eq (show Builtin.Builtins.bindParams "max" ["key","default"] 0 ⟨[],[]⟩=pure [none,none] from rfl) ?_);refine wpAny_bind (wpAny_pure ?_);refine wpAny_bind (wpAny_pyIter_list p.isList ?_);refine wpAny_bind (wpAny_newList ?_ (Nat.zero_le _));rw[hname];have hS:(s.heap.push {cls:=.type "list_iterator",data:=.fields #[.ref l,.int 0 0]}).objs.size=s.heap.objs.size+1:=size_push' ..;have fi:cA X af H s.heap.objs.size:=I.fpOk (Nat.le_refl _) (I.hok.fresh (Nat.le_refl _));have leS:s.heap.objs.size≤(s.heap.push {cls:=.type "list_iterator",data:=.fields #[.ref l,.int 0 0]}).objs.size:=by rw[hS];exact Nat.le_succ _
   have fS:cA X af H (s.heap.push {cls:=.type "list_iterator",data:=.fields #[.ref l,.int 0 0]}).objs.size:=I.fpOk leS (I.hok.fresh leS);have hnI:(s.heap.push {cls:=.type "list_iterator",data:=.fields #[.ref l,.int 0 0]}).objs.size≠s.heap.objs.size:=by rw[hS];exact Nat.ne_of_gt (Nat.lt_succ_self _)
   have gI:((s.heap.push {cls:=.type "list_iterator",data:=.fields #[.ref l,.int 0 0]}).push (seqObj "list" #[] 0)).get? s.heap.objs.size=some {cls:=.type "list_iterator",data:=.fields #[.ref l,.int 0 0]}:=Heap.get?_push_of_some _ (Heap.get?_push_size _ rfl);have gS:((s.heap.push {cls:=.type "list_iterator",data:=.fields #[.ref l,.int 0 0]}).push (seqObj "list" #[] 0)).get? (s.heap.push {cls:=.type "list_iterator",data:=.fields #[.ref l,.int 0 0]}).objs.size=some (seqObj "list" #[] 0):=Heap.get?_push_size _ rfl;have I0:L2.Inv X af σ H {s with heap:=(s.heap.push {cls:=.type "list_iterator",data:=.fields #[.ref l,.int 0 0]}).push (seqObj "list" #[] 0)}:=I.kept (t':=s.toks) fun b o e=>Heap.get?_push_of_some _ (Heap.get?_push_of_some _ e)
   generalize (s.heap.push {cls:=.type "list_iterator",data:=.fields #[.ref l,.int 0 0]}).objs.size=S at *;generalize hit:s.heap.objs.size=it at *;refine wpAny_pure ⟨plainId_quiet PySem.F.plain_max_loop _,?_⟩;refine codeAny_builtin PySem.F.entry_max_loop ?_;rw[Around.under_plainId PySem.F.plain_max_loop _];show wpAny _ X.A.in1 (seqItems? (.ref S) >>= _) _ _ _;refine wpAny_bind (wpAny_seqItems gS rfl ?_);obtain⟨its',rv',p',hz'⟩:=I0.list ta.sq;obtain⟨u',eu',ru'⟩:=rv'.get ev;show wpAny _ X.A.in1 (tryCatch (pyNext (.ref it)) _ >>= _) _ _ _;refine wpAny_bind (wpAny_tryCatch (wpAny_pyNext_list_item (i:=0) ⟨_,gI,rfl,rfl⟩ p'.isList (x:=u') (by simpa using eu') fun h' st' sb=>?_));have I1:L2.Inv X af σ H {s with heap:=h'}:=I0.turned (t':=s.toks) (fun b o hb e=>(sb.2 b hb).trans e) fi.1 fi.2.1 fi.2.2.2.1 fi.2.2.2.2.1 fi.2.2.2.2.2;have eS1:h'.get? S=some (seqObj "list" #[] 0):=(sb.2 S hnI).trans gS;obtain⟨oI,hoI,cI,dI⟩:=id st';refine wpAny_bind (wpAny_pure ?_);refine wpAny_bind ?_;show wpAny _ X.A.in1 (updateSeq S (fun _=>#[u',u'])) _ _ _;refine wpAny_updateSeq eS1 rfl ?_;rw[hname];obtain⟨n3,eS3⟩:∃n3,(h'.update S (Obj.mapSeq fun _=>#[u',u'])).get? S=some (seqObj "list" #[u',u'] n3):=⟨_,get?_update_seq eS1 fun _=>#[u',u']⟩;have kp:∀b o,b≠S→h'.get? b=some o→(h'.update S (Obj.mapSeq fun _=>#[u',u'])).get? b=some o:=fun b o hb e=>(Heap.get?_update_other h' _ (Ne.symm hb)).trans e
   have I3:L2.Inv X af σ H {s with heap:=h'.update S (Obj.mapSeq fun _=>#[u',u'])}:=I1.turned (t':=s.toks) kp fS.1 fS.2.1 fS.2.2.2.1 fS.2.2.2.2.1 fS.2.2.2.2.2;exact wpAny_pure ⟨plainId_quiet PySem.F.plain_max_loop _,ur hr hcalm hw ta r hnI (fun u s' e=>e) fi fS hQ rest 1 _ ks v u' n3 rfl I3 ⟨oI,kp it oI (Ne.symm hnI) hoI,cI,dI⟩ eS3 rdv ru' h⟩
  | _=>cases h
def nJ:FD:=fun ds M=>match ds with
 | [.lst xs]=>match Am xs with
  | some d=>.ok (.int d) M
  | none=>.bad
 | _=>.bad
theorem xY {k:Nat}(hr:bp (k+1) X.A)(hc:X.calm=true):cB X (.builtin "max") (rC X nJ):=by
 intro af s σ H xs us Q I r h;obtain⟨θ,M,ds,hw,rd,h⟩:=h;unfold nJ at h;split at h
 ·rename_i ys;split at h
  ·rename_i d q;obtain⟨v,rr,e,⟨a,vs,ea,ta,rs⟩,er⟩:=rd;have er:rr=[]:=er;subst er e ea;obtain⟨u,rfl,ru⟩:=iY r;have ru:u=.ref a:=ru;subst ru;exact uP hr hc I hw (.inl ⟨.inl ta.1,ta.2⟩) rs q fun v rv=>h v θ H (.refl hw) rv
  ·exact h.elim
 ·exact h.elim
theorem AR {k:Nat}(hr:bp (k+1) X.A)(hc:X.calm=true:=by rfl):QC X (.builtin "max") nJ:=⟨xY hr hc⟩
end
def lS (d:D)(M:aw):D:=match now d M with
 | .lst xs=>.lst (xs.map fun x=>now x M)
 | d=>d
def vn (neg:Bool):F2:=fun x y M=>if aY 40 (lS x M)&&aY 40 (lS y M) then .ok (.bl (kE (lS x M) (lS y M) != neg)) M else .bad
section
variable {X:Cx}
theorem jI {af:List (Addr×Obj)}{s:Shared}{σ:L2.St}{H:Hp}{θ:List Addr}{M:aw}(I:Inv X af σ H s)(hw:Wr X.K θ H M):∀(ds:List D) (n:Nat) (vs:List V) (us:List Value),aW n (ds.map fun x=>now x M)=true→aR X.K θ H ds vs→aQ vs us→∃as,ReadsAll s.heap us (kA (ds.map fun x=>now x M)) as
 | [],n,vs,us,h,r,q=>by have e:vs=[]:=r;subst e;cases q;exact⟨_,.nil⟩
 | d::ds,n,vs,us,h,r,q=>by
  have h:=Bool.and_eq_true_iff.mp (show(aY n (now d M)&&aW n (ds.map fun x=>now x M))=true from h);obtain⟨v,rr,e,r1,r2⟩:=r;subst e;cases q with
  | cons q1 q2=>
   obtain⟨as,R1⟩:=gR I hw h.1 r1 q1;obtain⟨bs,R2⟩:=jI I hw ds n rr _ h.2 r2 q2;exact⟨_,.cons R1 R2⟩
theorem ji {af:List (Addr×Obj)}{s:Shared}{σ:L2.St}{H:Hp}{θ:List Addr}{M:aw}(I:Inv X af σ H s)(hw:Wr X.K θ H M){d:D}{n:Nat}{v:V}{u:Value}(h:aY n (lS d M)=true)(r:c6 X.K θ H d v)(q:bi v u):∃as,Reads s.heap u (hO (lS d M)) as:=by
 cases d with
 | mr k=>
  obtain⟨a,e,ta⟩:=r;subst e;cases q;cases qm:M[k]? with
  | none=>
   have e:lS (.mr k) M=.mr k:=by simp[lS,now,qm]
   rw[e] at h;cases n <;> exact ff h
  | some m=>
   cases m with
   | lst xs=>
    have e:lS (.mr k) M=.lst (xs.map fun x=>now x M):=by simp[lS,now,qm]
    rw[e] at h ⊢;cases n with
    | zero=>exact ff h
    | succ n=>
     obtain⟨vs,hv,ra⟩:=hw.at_ k a _ ta qm;obtain⟨its,rv,⟨o,m,h1,h2,_,h3⟩,_⟩:=I.list (X:=X) (xs:=vs) (.inl (.inl hv));obtain⟨as,R⟩:=jI I hw xs n vs its h ra rv;exact⟨_,.list h1 h2 h3 (by simpa using R)⟩
   | _=>
    have e:lS (.mr k) M=.mr k:=by simp[lS,now,qm]
    rw[e] at h;cases n <;> exact ff h
 | lst xs=>
  have e:lS (.lst xs) M=.lst (xs.map fun x=>now x M):=rfl;rw[e] at h ⊢;cases n with
  | zero=>exact ff h
  | succ n=>
   obtain⟨a,vs,e,ta,ra⟩:=r;subst e;cases q;obtain⟨its,rv,⟨o,m,h1,h2,_,h3⟩,_⟩:=I.list (ta.sq (K:=X.K));obtain⟨as,R⟩:=jI I hw xs n vs its h ra rv;exact⟨_,.list h1 h2 h3 (by simpa using R)⟩
 | _=>exact iW I _ n v u h r q
theorem AL (hu:X.A.units+64<cLine):gq X (compareOp .Eq) (rD X (vn false)):=by
 intro af s σ H x y v u Q I rx ry h;obtain⟨θ,M,dx,dy,hw,r1,r2,h⟩:=h;unfold vn at h;split at h
 ·rename_i hc;rw[Bool.and_eq_true] at hc;obtain⟨as,R1⟩:=ji I hw hc.1 r1 rx;obtain⟨bs,R2⟩:=ji I hw hc.2 r2 ry;have l1:=dS _ _ hc.1;have l2:=dS _ _ hc.2;refine SeqAt.compareEq_reads R1 R2 l1.1 l2.1 (by have:=l1.2;have:min (hO (lS dx M)).depth (hO (lS dy M)).depth≤(hO (lS dx M)).depth:=Nat.min_le_left _ _;omega) ?_;rw[jk _ _ _ _ hc.1 hc.2];refine⟨.bl _,H,I,rfl,?_⟩;have:=h _ θ H (.refl hw) rfl;rw[Bool.bne_false] at this;exact this
 ·exact h.elim
theorem BC (hu:X.A.units+64<cLine):gq X (compareOp .NotEq) (rD X (vn true)):=by
 intro af s σ H x y v u Q I rx ry h;obtain⟨θ,M,dx,dy,hw,r1,r2,h⟩:=h;unfold vn at h;split at h
 ·rename_i hc;rw[Bool.and_eq_true] at hc;obtain⟨as,R1⟩:=ji I hw hc.1 r1 rx;obtain⟨bs,R2⟩:=ji I hw hc.2 r2 ry;have l1:=dS _ _ hc.1;have l2:=dS _ _ hc.2;refine SeqAt.compareNe_reads R1 R2 l1.1 l2.1 (by have:=l1.2;have:min (hO (lS dx M)).depth (hO (lS dy M)).depth≤(hO (lS dx M)).depth:=Nat.min_le_left _ _;omega) ?_;rw[jk _ _ _ _ hc.1 hc.2];refine⟨.bl _,H,I,rfl,?_⟩;have:=h _ θ H (.refl hw) rfl;rw[Bool.bne_true] at this;exact this
 ·exact h.elim
theorem D2 {k:Nat}(hr:bp k X.A):Q2 X (compareOp .Eq) (vn false):=⟨AL hr.units⟩
theorem En {k:Nat}(hr:bp k X.A):Q2 X (compareOp .NotEq) (vn true):=⟨BC hr.units⟩
end
end DL
namespace DL
open PySem PySem.Spec PyProof.Rows L2 List
def jV (sc:Scope)(fk:Str→Option NameKind)(x:Str)(R N:List Str):Bool:=
 decide (sc.kind=.function)&&sc.names.lookup x==some .cell&&(sc.names.filter fun p=>p.2==.cell)==[(x,.cell)] &&
 sc.names.all (fun p=>match p.2 with
  | .local=>p.1==(".0":Str)&&sc.names.lookup p.1==some .local
  | .free=>fk p.1==some .cell||fk p.1==some .free
  | _=>true) &&
 decide ((x::R).Nodup)&&!(R.contains (".0":Str))&&R.length==N.length &&
 (R.zip N).all (fun p=>p.1==p.2||sc.names.lookup p.1 != some .free)
structure b9 (sc:Scope)(fk:Str→Option NameKind)(x:Str)(R N:List Str):Prop where
 kind:sc.kind=.function
 own:sc.names.lookup x=some .cell
 one:(sc.names.filter fun p=>p.2==.cell)=[(x,.cell)]
 locs:∀p∈sc.names,p.2=.local→p.1=(".0":Str)
 lnames:∀p∈sc.names,p.2=.local→sc.names.lookup p.1=some .local
 free:∀p∈sc.names,p.2=.free→fk p.1=some .cell∨fk p.1=some .free
 nd:(x::R).Nodup
 no0:(".0":Str)∉R
 len:R.length=N.length
 same:∀(i:Nat) y,R[i]?=some y→sc.names.lookup y=some .free→N[i]?=some y
theorem b9.of {sc:Scope}{fk:Str→Option NameKind}{x:Str}{R N:List Str}(h:jV sc fk x R N=true):b9 sc fk x R N:=by
 unfold jV at h;rw[Bool.and_eq_true,Bool.and_eq_true,Bool.and_eq_true,Bool.and_eq_true,Bool.and_eq_true,Bool.and_eq_true,Bool.and_eq_true] at h;obtain⟨⟨⟨⟨⟨⟨⟨h1,h2⟩,h0⟩,h3⟩,h4⟩,h5⟩,h6⟩,h7⟩:=h;rw[all_eq_true] at h3 h7;rw[beq_iff_eq] at h2 h0 h6;refine⟨of_decide_eq_true h1,h2,h0,fun p hp e=>?_,fun p hp e=>?_,fun p hp e=>?_,of_decide_eq_true h4,?_,h6,fun i y hy hf=>?_⟩
 ·have:=h3 p hp;rw[e] at this;simp at this;exact this.1
 ·have:=h3 p hp;rw[e] at this;simp at this;exact this.2
 ·have:=h3 p hp;rw[e] at this;simp at this;exact this
 ·intro hm;have:R.contains (".0":Str)=true:=by simpa using hm
  rw[this] at h5;cases h5
 ·obtain⟨hi,e⟩:=List.getElem?_eq_some_iff.mp hy;have hn:i<N.length:=by rw[←h6];exact hi
  have hz:(R[i],N[i])∈R.zip N:=by
   rw[mem_iff_getElem];exact⟨i,by simp;omega,by simp⟩
  have:=h7 _ hz;simp only[Bool.or_eq_true,beq_iff_eq,bne_iff_ne,ne_eq] at this;rcases this with q|q
  ·rw[getElem?_eq_getElem hn,←q,e]
  ·rw[e] at q;exact absurd hf q
def br (X:Cx)(scope:Scope)(x:Str)(R:List Str)(fp:List Addr)(s:Shared)(H:Hp)(C:Addr):Cx where
 prog:=X.prog
 w:=X.w
 K:=X.K
 mg:=X.mg
 base:=X.base
 A:=X.A
 N:=[x]++R
 s₀:=s
 H₀:=H
 env:=compEnvC scope ((x,C+1)::ce X.env.cells scope.names []) C X.env
 outer:=X.stack
 stack:=X.stack
 ex:=fp
 fn:=fun y=>y==x
 calm:=X.calm
 pn:=[]
 xe:=fun _ _=>False
theorem ju {x:Str}{n:Nat}{acc:List (Str×Addr)}:∀{l:List (Str×NameKind)},(l.filter fun p=>p.2==.cell)=[(x,.cell)]→cellsFrom n l acc=(x,n)::acc
 | [],h=>by cases h
 | (y,k)::r,h=>by
  unfold cellsFrom
  by_cases q:(k==NameKind.cell)=true
  ·rw[filter_cons_of_pos (by exact q)] at h;obtain⟨e1,e2⟩:=List.cons.inj h;cases e1;rw[if_pos q];have go:∀(l:List (Str×NameKind)) (m:Nat) (a:List (Str×Addr)),(l.filter fun p=>p.2==.cell)=[]→cellsFrom m l a=a:=by
    intro l
    induction l with
    | nil=>intro m a _;rfl
    | cons p t ih=>
     intro m a hf;obtain⟨z,kz⟩:=p;unfold cellsFrom
     by_cases qz:(kz==NameKind.cell)=true
     ·rw[filter_cons_of_pos (by exact qz)] at hf;cases hf
     ·rw[if_neg qz];rw[filter_cons_of_neg (by exact qz)] at hf;exact ih m a hf
   exact go r _ _ e2
  ·rw[filter_cons_of_neg (by exact q)] at h;rw[if_neg q];exact ju h
theorem jt {x:Str}{hp:Heap}:∀{l:List (Str×NameKind)},(l.filter fun p=>p.2==.cell)=[(x,.cell)]→pushCells hp l=hp.push {cls:=.type "cell",data:=.cell none}
 | [],h=>by cases h
 | (y,k)::r,h=>by
  unfold pushCells
  by_cases q:(k==NameKind.cell)=true
  ·rw[filter_cons_of_pos (by exact q)] at h;obtain⟨e1,e2⟩:=List.cons.inj h;cases e1;rw[if_pos q];have go:∀(l:List (Str×NameKind)) (m:Heap),(l.filter fun p=>p.2==.cell)=[]→pushCells m l=m:=by
    intro l
    induction l with
    | nil=>intro m _;rfl
    | cons p t ih=>
     intro m hf;obtain⟨z,kz⟩:=p;unfold pushCells
     by_cases qz:(kz==NameKind.cell)=true
     ·rw[filter_cons_of_pos (by exact qz)] at hf;cases hf
     ·rw[if_neg qz];rw[filter_cons_of_neg (by exact qz)] at hf;exact ih m hf
   exact go r _ e2
  ·rw[filter_cons_of_neg (by exact q)] at h;rw[if_neg q];exact jt h
theorem nu {M:Model}{A:Around}{E:Value→Shared→Prop}{s:Shared}{scope:Scope}{globals:Addr}{closure:List (Str×Addr)}{qual:Str}{outer:Env}{x:Str}{Q:Env→Shared→Prop}
  (h1:(scope.names.filter fun p=>p.2==.cell)=[(x,.cell)])
  (hQ:Q (newEnv scope s.heap.objs.size globals ((x,s.heap.objs.size+1)::closure) qual none .none (some outer) builtinsNs) {s with heap:=(s.heap.push {cls:=.type "dict",data:=.dict #[]}).push {cls:=.type "cell",data:=.cell none}}) :
  wpAny M A (newFunctionEnv scope globals closure [] qual none .none (some outer)) Q E s:=by
 simp only[newFunctionEnv,Option.isSome_some,if_true];refine wpAny_bind (wpAny_alloc ?_);refine wpAny_bind (wpAny_layCells _ (fun name kind cells=>by cases hkc:kind==NameKind.cell <;> simp[hkc]) _ _ _ _ ?_);rw[show({s with heap:=s.heap.push {cls:=.type "dict",data:=.dict #[]}}:Shared).heap.objs.size=s.heap.objs.size+1 from Heap.size_push ..,ju h1,jt h1];rw[forIn_nil];exact wpAny_bind (wpAny_pure (wpAny_pure hQ))
section
variable {X:Cx}{af:List (Addr×Obj)}{σ:L2.St}{H:Hp}{s:Shared}{scope:Scope}{x:Str}{R:List Str}{fp:List Addr}{C:Addr}
theorem b9.cells (S:b9 scope X.env.kindOf x R X.N)(I:L2.Inv X af σ H s):∀p∈scope.names,p.2=.free→∃c,X.env.cells.lookup p.1=some c:=fun p hp e=>I.ok.has p.1 (S.free p hp e)
theorem jr (S:b9 scope X.env.kindOf x R X.N)(I:L2.Inv X af σ H s){y:Str}{c:Addr}(h:((x,C+1)::ce X.env.cells scope.names []).lookup y=some c):(y=x∧c=C+1)∨(y≠x∧X.env.cells.lookup y=some c):=by
 rw[lookup_cons] at h
 by_cases q:(y==x)=true
 ·rw[q] at h;cases h;exact .inl ⟨by simpa using q,rfl⟩
 ·rw[Bool.not_eq_true] at q;rw[q] at h;exact .inr ⟨by simpa using q,kH scope.names [] (fun _ z=>by cases z) (S.cells I) (y,c) (PySem.mem_of_lookup h)⟩
theorem wR (S:b9 scope X.env.kindOf x R X.N){y:Str}(h:scope.names.lookup y=some .cell):y=x:=by
 have m:(y,NameKind.cell)∈scope.names.filter fun p=>p.2==.cell:=mem_filter.mpr ⟨PySem.mem_of_lookup h,rfl⟩
 rw[S.one] at m;have:=mem_singleton.mp m;exact(Prod.mk.inj this).1
theorem u5 {h4:Heap}{m:Str→Option Value}{tk:Nat}(S:b9 scope X.env.kindOf x R X.N)(I:L2.Inv X af σ H s)(hC:s.heap.objs.size≤C)(k:∀b o,s.heap.get? b=some o→h4.get? b=some o)(hn:h4.Ns C m)(hcl:h4.IsCell (C+1) none)
  (hf:∀b∈fp,cA X af H b) (hfl:∀b∈fp,b<s.heap.objs.size):L2.Inv (br X scope x R fp s H C) [] ([none]++σ) H {s with heap:=h4,toks:=tk}:=by
 have hkn:∀y kk,(relabel scope X.env).names.lookup y=some kk→(kk=.cell∨kk=.free)→y=x∨scope.names.lookup y=some .free:=fun y kk e hk=>by
  rcases cM e with q|q
  ·rcases hk with z|z
   ·subst z;exact .inl (wR S q)
   ·subst z;exact .inr q
  ·exact .inr q.2
 have hasc:∀y,y=x∨scope.names.lookup y=some .free→∃c,((x,C+1)::ce X.env.cells scope.names []).lookup y=some c:=fun y e=>by
  by_cases q:y=x
  ·subst q;exact⟨C+1,by rw[lookup_cons,beq_self_eq_true]⟩
  ·rcases e with e|e
   ·exact absurd e q
   ·obtain⟨c,hc⟩:=kB (cells:=X.env.cells) scope.names [] y (PySem.mem_of_lookup e);obtain⟨c',hc'⟩:=fP hc;exact⟨c',by rw[lookup_cons,show(y==x)=false from beq_eq_false_iff_ne.mpr q];exact hc'⟩
 have oldc:∀y c,X.env.cells.lookup y=some c→c≠C+1:=fun y c e z=>by
  obtain⟨v,o,ho,_⟩:=I.cell y c e;exact absurd z (Nat.ne_of_lt (Nat.lt_of_lt_of_le (Heap.lt_size ho) (Nat.le_succ_of_le hC)))
 have fC:H (C+1)=none:=I.hok.fresh (Nat.le_succ_of_le hC);refine⟨⟨I.ok.mod,S.kind,I.ok.glob,I.ok.blt,hC,fun y z c h1 h2=>?_,fun y hy=>?_,fun y c z e=>?_,I.ok.hd,I.ok.frames,.inl rfl,fun b hb=>⟨?_,fun y c e=>?_⟩,I.bs,Nat.le_trans I.ok.bsz I.sz,fun b o e hb=>?_,fun b hb z=>?_,I.stack,I.stkFree⟩,
  rfl,I.bare,Un.kept k,⟨m,hn,fun i y v h1 h2 h3=>?_⟩,fun y c e=>?_,I.hok.fresh hC,fun y c e=>?_,fun p hp=>absurd (show p∈([]:List (Addr×Obj)) from hp) (by simp),I.hok.kept k,?_⟩
 ·rcases jr S I h1 with⟨rfl,rfl⟩|⟨n1,e1⟩
  ·rcases jr S I h2 with⟨rfl,_⟩|⟨_,e2⟩
   ·rfl
   ·exact absurd rfl (oldc _ _ e2)
  ·rcases jr S I h2 with⟨_,rfl⟩|⟨_,e2⟩
   ·exact absurd rfl (oldc _ _ e1)
   ·exact I.ok.inj y z c e1 e2
 ·rcases hy with e|e
  ·exact hasc y (hkn y _ e (.inl rfl))
  ·exact hasc y (hkn y _ e (.inr rfl))
 ·have z:(y==x)=true:=z;have z:y=x:=by simpa using z
  rcases jr S I e with⟨_,rfl⟩|⟨n,_⟩
  ·exact Nat.le_succ_of_le hC
  ·exact absurd z n
 ·exact Nat.ne_of_lt (Nat.lt_of_lt_of_le (hfl b hb) hC)
 ·rcases jr S I e with⟨_,rfl⟩|⟨_,e⟩
  ·exact fun z=>absurd z.symm (Nat.ne_of_lt (Nat.lt_of_lt_of_le (hfl b hb) (Nat.le_succ_of_le hC)))
  ·exact(hf b hb).2.2.2.2.1 y c e
 ·rcases(hf b hb).2.2.2.1 with z|z
  ·exact I.ok.noex b o e z
  ·exact absurd (Nat.lt_of_lt_of_le (Heap.lt_size e) (Nat.le_trans I.ok.bsz z)) (Nat.lt_irrefl _)
 ·rcases mem_cons.mp (I.stkSub b z) with e|e
  ·exact(hf b hb).2.1 e
  ·exact(hf b hb).2.2.1 e
 ·cases i with
  | zero=>cases h2
  | succ i=>
   have h1:R[i]?=some y:=h1;have h2:σ[i]?=some (some v):=h2;have hyR:y∈R:=mem_of_getElem? h1;have hyx:y≠x:=fun z=>(nodup_cons.mp S.nd).1 (z▸hyR)
   have hf':scope.names.lookup y=some .free∧((relabel scope X.env).names.lookup y=some .cell∨(relabel scope X.env).names.lookup y=some .free):=by
    have h3:(relabel scope X.env).names.lookup y=some .local∨(relabel scope X.env).names.lookup y=some .cell∨(relabel scope X.env).names.lookup y=some .free:=h3;rcases h3 with e|e|e
    ·rcases cM e with q|q
     ·exfalso;have z:y=(".0":Str):=S.locs _ (PySem.mem_of_lookup q) rfl;rw[z] at hyR;exact S.no0 hyR
     ·exact absurd q.1 (by intro z;cases z)
    ·exact⟨(hkn y _ e (.inl rfl)).resolve_left hyx,.inl e⟩
    ·exact⟨(hkn y _ e (.inr rfl)).resolve_left hyx,.inr e⟩
   have hN:=S.same i y h1 hf'.1;have hk:=S.free (y,.free) (PySem.mem_of_lookup hf'.1) rfl;obtain⟨mX,hnX,hl⟩:=I.loc;have vis:CN X.env.scope y:=by
    rcases hk with z|z
    ·exact .inr (.inl z)
    ·exact .inr (.inr z)
   obtain⟨u,r,l⟩:=hl i y v hN h2 vis;refine⟨u,r,.inr ⟨hf'.2,?_⟩⟩;rcases l with⟨z,_⟩|⟨_,c,hc,o,ho,hod⟩
   ·exfalso;rcases hk with q|q
    ·have q:X.env.kindOf y=some .cell:=q;rw[z] at q;cases q
    ·have q:X.env.kindOf y=some .free:=q;rw[z] at q;cases q
   ·obtain⟨c',hc'⟩:=hasc y (.inr hf'.1);have:c'=c:=by
     rcases jr S I hc' with⟨z,_⟩|⟨_,e⟩
     ·exact absurd z hyx
     ·rw[hc] at e;exact(Option.some.inj e).symm
    subst this;exact⟨c',hc',o,k _ _ ho,hod⟩
 ·rcases jr S I e with⟨_,rfl⟩|⟨_,e⟩
  ·exact⟨none,hcl⟩
  ·obtain⟨v,o,ho,hd⟩:=I.cell y c e;exact⟨v,o,k _ _ ho,hd⟩
 ·rcases jr S I e with⟨_,rfl⟩|⟨_,e⟩
  ·exact fC
  ·exact I.freeC y c e
 ·show([none]++σ).length=([x]++R).length;rw[length_append,length_append,I.len,S.len];rfl
end
section
variable {X:Cx}{af:List (Addr×Obj)}{σ:L2.St}{s:Shared}{scope:Scope}{x:Str}{tg:Expr}{R:List Str}{elt iter:Expr}{pos:Pos}{E:Value→Shared→Prop}
theorem p6 {fp:List Addr}{it:Addr}{tn:Nat→Heap→Prop}{J:It}{H2:Hp}{s2:Shared}{t:jN}{M1:aw}{θ1:List Addr}{ρ:bj}{ge:GE}{es:List D}{Mend:aw}{RR:Value→Addr→Result→Shared→Prop}
  (S:b9 scope X.env.kindOf x R X.N) (hc:X.calm=true) (I2:L2.Inv X af σ H2 s2) (T:mZ X.prog X.w X.K tg J fp it tn) (st2:tn 0 s2.heap) (f2:∀b∈fp,cA X af H2 b)
  (hw1:Wr X.K θ1 H2 M1) (hd1:fK X.K θ1 H2 σ ρ) (hJ:rg X.K J θ1 H2 t) (hgo:aJ t 1 (bo 0) a9 ge t.ds ρ M1=.ok es Mend) (hlen:es.length≤sizeLine)
  (hg:∀C,PG (br X scope x R fp s2 H2 C) tg (tG (br X scope x R fp s2 H2 C) (bo 0)))
  (he:∀C,PE (br X scope x R fp s2 H2 C) elt (tE (br X scope x R fp s2 H2 C) ge))
  (fin:∀(acc C:Addr) (s':Shared) (H':Hp) (θ':List Addr) (vs:List V) (m:Str→Option Value),L2.Inv X af σ (bS H' acc (.lst vs)) s'→s'.heap.Ns C m→cA X af (bS H' acc (.lst vs)) C→Go X.K θ1 H2 θ' H' Mend→H' acc=none→aR X.K θ' H' es vs→RR (.ref acc) C (.ok .next) s') :
  wpAny (model X.prog X.w) X.A (newList []) (fun acc s₃=>wpAny (model X.prog X.w) X.A (newFunctionEnv scope X.env.globals (ce X.env.cells scope.names []) [] X.env.qual none .none (some X.env)) (fun cenv s₄=>
   codeAny (model X.prog X.w) X.A (.compStart (.ListComp elt [⟨tg,iter,[],0⟩] scope pos) 0 (.ref it) acc {cenv with scope:=relabel scope X.env}) (RR acc cenv.locals) s₄) E s₃) E s2:=by
 refine wpAny_newObj_type (nu S.one ?_);dsimp only;generalize hHp:s2.heap.push {cls:=.type "list",dict:=none,data:=.seq ([]:List Value).toArray}=Hp2;have hCe:Hp2.objs.size=s2.heap.objs.size+1:=by rw[←hHp,Heap.size_push]
 have hns₁:((Hp2.push {cls:=.type "dict",data:=.dict #[]}).push {cls:=.type "cell",data:=.cell none}).Ns Hp2.objs.size (fun _=>none):=(Heap.Ns.new Hp2 (.type "dict")).keeps fun b o e=>Heap.get?_push_of_some _ e
 have hcl:((Hp2.push {cls:=.type "dict",data:=.dict #[]}).push {cls:=.type "cell",data:=.cell none}).IsCell (Hp2.objs.size+1) none:=by
  refine⟨{cls:=.type "cell",data:=.cell none},?_,rfl⟩;have e:=Heap.get?_push_size (h:=Hp2.push {cls:=.type "dict",data:=.dict #[]}) (o:={cls:=.type "cell",data:=.cell none}) rfl;rwa [Heap.size_push] at e
 have kp2:∀b o,Hp2.get? b=some o→((Hp2.push {cls:=.type "dict",data:=.dict #[]}).push {cls:=.type "cell",data:=.cell none}).get? b=some o:=fun b o e=>Heap.get?_push_of_some _ (Heap.get?_push_of_some _ e)
 generalize hh1:((Hp2.push {cls:=.type "dict",data:=.dict #[]}).push {cls:=.type "cell",data:=.cell none})=h₁ at hns₁ hcl kp2;generalize hCd:Hp2.objs.size=C at hns₁ hcl hCe ⊢;generalize hAd:s2.heap.objs.size=acc at hCe ⊢;have hDC:acc≠C:=by rw[hCe];exact Nat.ne_of_lt (Nat.lt_succ_self _)
 have old:∀b o,s2.heap.get? b=some o→h₁.get? b=some o:=fun b o e=>by
  refine kp2 b o ?_;rw[←hHp];exact Heap.get?_push_of_some _ e
 have hacc0:h₁.get? acc=some (aG [] 0):=by
  refine kp2 acc _ ?_;rw[←hHp,←hAd];exact Heap.get?_push_size _ rfl
 have hfl:∀b∈fp,b<s2.heap.objs.size:=fun b hb=>by
  obtain⟨o,e,_⟩:=T.obj 0 _ st2 b hb;exact Heap.lt_size e
 have hCs:s2.heap.objs.size≤C:=by omega
 have IY0:L2.Inv (br X scope x R fp s2 H2 C) [] ([none]++σ) H2 {s2 with heap:=h₁,toks:=s2.toks}:=u5 S I2 hCs old hns₁ hcl f2 hfl;have hct:∀(af:List (Addr×Obj)) (s:Shared) (σ:L2.St) (H:Hp) (Q:Bool→Hp→Prop),L2.Inv (br X scope x R fp s2 H2 C) af σ H s→tT (br X scope x R fp s2 H2 C) a9 σ H Q→wpAny (model X.prog X.w) X.A (pure true) (TP (br X scope x R fp s2 H2 C) af σ Q) (fun _ _=>False) s:=fun af s σ H Q I ⟨ρ,θ,M,hd,hw,h⟩=>wpAny_pure ⟨H,I,h θ H (.refl hw)⟩
 have fpY:∀{H':Hp} {p:Obj},(∀b∈fp,H' b=none)→∀b∈fp,cA (br X scope x R fp s2 H2 C) [(acc,p)] H' b:=fun {H' p} hn b hb=>by
  refine⟨hn b hb,?_,fun z=>?_,.inl hb,fun y c e=>?_,fun q hq=>?_⟩
  ·exact Nat.ne_of_lt (Nat.lt_of_lt_of_le (hfl b hb) hCs)
  ·rcases mem_cons.mp (I2.stkSub b z) with e|e
   ·exact(f2 b hb).2.1 e
   ·exact(f2 b hb).2.2.1 e
  ·rcases jr S I2 e with⟨_,rfl⟩|⟨_,e⟩
   ·exact fun z=>absurd z.symm (Nat.ne_of_lt (Nat.lt_of_lt_of_le (hfl b hb) (Nat.le_succ_of_le hCs)))
   ·exact(f2 b hb).2.2.2.2.1 y c e
  ·have hq:q∈([]:List (Addr×Obj))++[(acc,p)]:=hq;have e:q=(acc,p):=by simpa using hq
   rw[e];exact k9 (hfl b hb) hAd
 have accF:∀b∈kW X.stack,acc≠b:=fun b hb e=>by
  have:acc∉X.env.locals::X.fs:=by
   intro z;rcases mem_cons.mp z with z|z
   ·exact k9 I2.lt hAd z
   ·exact I2.nofs (Nat.le_of_eq hAd) z
  exact this (e▸I2.stkSub b hb)
 have loop:∀s₃:Shared,s₃={s2 with heap:=h₁,toks:=s2.toks}→
   codeAny (model X.prog X.w) X.A (.compLoop (.ListComp elt [⟨tg,iter,[],0⟩] scope pos) 0 (.ref it) (.ref acc) (br X scope x R fp s2 H2 C).env) (RR (.ref acc) C) s₃:=by
  rintro s₃ rfl;have pin0:∀{σ':L2.St} {H':Hp} {s':Shared} {its:List Value} {n:Nat},L2.Inv (br X scope x R fp s2 H2 C) [] σ' H' s'→s'.heap.get? acc=some (aG its n)→H' acc=none→L2.Inv (br X scope x R fp s2 H2 C) [(acc,aG its n)] σ' H' s':=fun {σ' H' s' its n} I' e hn=>
   I'.pins_of fun p hp=>by
    have ep:p=(acc,aG its n):=by simpa using hp
    subst ep;exact⟨e,hn,hDC,fun z=>accF acc z rfl,fun v z=>by cases z⟩
  refine eR mF (Fo (br X scope x R fp s2 H2 C) fp tn X.K acc t (List.replicate 1 none++ρ) θ1 H2 es (fun l N=>aJ t 1 (bo 0) a9 ge l ρ N) Mend) ?_ t.ds.length
   ⟨0,_,H2,θ1,M1,[],es,[],[],0,rfl,Nat.zero_le _,pin0 IY0 hacc0 (I2.hok.fresh (Nat.le_of_eq hAd)),oE (n:=1) hd1,T.keep 0 _ _ st2 (fun b hb o e=>old b o e),fun b hb=>(f2 b hb).1,.refl hw1,rfl,.nil,hgo,rfl⟩
  rintro n s' ⟨i,τ,H',θ',M',ds,rest,vs,its,na,rfl,hil,I',dn',st',fr',g',rd',rv',hrest,hes⟩;have hok:t.ok M'=true:=by
   cases hq:t.ok M' with
   | true=>rfl
   | false=>
    exfalso;cases hdr:t.ds.drop i with
    | nil=>rw[hdr,aJ,if_neg (by rw[hq];exact Bool.false_ne_true)] at hrest;cases hrest
    | cons d r=>rw[hdr,aJ,if_neg (by rw[hq];exact Bool.false_ne_true)] at hrest;cases hrest
  obtain⟨hy,hst⟩:=hJ θ' H' M' g' hok i
  by_cases hlt:i<t.ds.length
  ·have e1:t.ds[i]?=some t.ds[i]:=getElem?_eq_getElem hlt;obtain⟨hgo',hyl⟩:=hy _ e1;rw[drop_eq_getElem_cons hlt,aJ,if_pos hok] at hrest;refine bR (T.item (br X scope x R fp s2 H2 C) rfl rfl rfl hc i _ s' _ H' _ I' (fpY fr') st' hgo') fun r s4 hxx=>?_
   obtain⟨u,hr,h4⟩:=hxx;subst hr;refine bR h4 fun _ s5 hxx=>?_
   obtain⟨v,H5,I5,r5,y5,st5,fr5⟩:=hxx;obtain⟨gy,rx⟩:=hyl v H5 y5;have I5':=I5.pinned (fpY fr5) (T.obj _ _ st5);cases qs:bo 0 t.ds[i] (List.replicate 1 none++ρ) with
   | none=>rw[qs] at hrest;cases hrest
   | some ρ1=>
   rw[qs] at hrest;dsimp only at hrest;refine bR (hg C _ s5 _ H5 v u (fun σ6 H6=>fK X.K θ' H6 σ6 ρ1∧H6=H5) I5' r5 ⟨_,θ',M',t.ds[i],dn'.go gy,gy.wr,rx,ρ1,qs,fun σ6 d6=>⟨d6,rfl⟩⟩) fun _ s6 hxx=>?_
   obtain⟨σ6,H6,I6,hdY,eH6⟩:=hxx;subst eH6;cases qc:a9 ρ1 M' with
   | bad=>rw[qc] at hrest;cases hrest
   | err c Mx=>rw[qc] at hrest;cases hrest
   | ok b Mb=>
    refine bR (hct _ s6 _ H6 (fun b' H7=>b'=b∧∃θ7,Go X.K θ' H6 θ7 H7 Mb) I6 ⟨_,θ',M',hdY,gy.wr,?_⟩) fun ok s7 ⟨H7,I7,eb,θ7,g7⟩=>?_
    ·rw[qc];exact fun θ7 H7 g7=>⟨rfl,θ7,g7⟩
    subst eb;have fpk:∀{s8:Shared} {σ8:L2.St} {H8:Hp},L2.Inv (br X scope x R fp s2 H2 C) ([(acc,aG its na)]++fO fp s5.heap) σ8 H8 s8→(∀b∈fp,H8 b=none)∧(∀b∈fp,∀o,s5.heap.get? b=some o→s8.heap.get? b=some o)∧s8.heap.get? acc=some (aG its na)∧H8 acc=none:=fun {s8 σ8 H8} I8=>by
     have pa:=I8.pin (acc,aG its na) (mem_append_right _ (mem_append_left _ (by simp)));refine⟨fun b hb=>?_,fun b hb o e=>(I8.pin (b,o) (mem_append_right _ (mem_append_right _ (bC hb e)))).1,pa.1,pa.2.1⟩;obtain⟨o,e,d⟩:=T.obj _ _ st5 b hb;exact(I8.pin (b,o) (mem_append_right _ (mem_append_right _ (bC hb e)))).2.1
    cases ok with
    | false=>
     rw[if_neg Bool.false_ne_true];rw[qc] at hrest;obtain⟨k1,k2,k3,k4⟩:=fpk I7;exact⟨t.ds.length-(i+1),by omega,i+1,σ6,H7,θ7,Mb,ds,rest,vs,its,na,rfl,hlt,I7.unpinned,(jY (n:=1) (i:=0) Nat.zero_lt_one).back qs (hdY.go g7),T.keep _ _ _ st5 k2,k1,g'.trans (gy.trans g7),rd'.go (gy.trans g7),rv',hrest,hes⟩
    | true=>
     rw[if_pos rfl];rw[qc] at hrest;have hrest:(match ge ρ1 Mb with
      | .ok e M2=>(aJ t 1 (bo 0) a9 ge (t.ds.drop (i+1)) ρ M2).bind fun es M3=>.ok (e::es) M3
      | _=>.bad)=aM.ok rest Mend:=hrest
     cases qe:ge ρ1 Mb with
     | bad=>rw[qe] at hrest;cases hrest
     | err c Mx=>rw[qe] at hrest;cases hrest
     | ok dv Mv=>
      rw[qe] at hrest;have hrest:((aJ t 1 (bo 0) a9 ge (t.ds.drop (i+1)) ρ Mv).bind fun es M3=>aM.ok (dv::es) M3)=aM.ok rest Mend:=hrest;refine bR (he C _ s7 _ H7 (fun w H8=>∃θ8,Go X.K θ7 H7 θ8 H8 Mv∧c6 X.K θ8 H8 dv w) I7 ⟨_,θ7,Mb,hdY.go g7,g7.wr,?_⟩) fun uv s8 ⟨w,H8,I8,rw8,θ8,g8,rd8⟩=>?_
      ·rw[qe];exact fun w θ8 H8 g8 rd8=>⟨θ8,g8,rd8⟩
      obtain⟨k1,k2,k3,k4⟩:=fpk I8;cases qr:aJ t 1 (bo 0) a9 ge (t.ds.drop (i+1)) ρ Mv with
      | bad=>rw[qr] at hrest;cases hrest
      | err c Mx=>rw[qr] at hrest;cases hrest
      | ok rest' Mr=>
       rw[qr] at hrest;have hrest:aM.ok (dv::rest') Mr=aM.ok rest Mend:=hrest;cases hrest;have hsz:its.length<sizeLine:=by
        have e2:(ds++dv::rest').length≤sizeLine:=by rw[hes];exact hlen
        rw[length_append,length_cons,aq rd',rv'.length] at e2;omega
       refine call_meets F.slot_list_append ⟨_,k3,rfl⟩ F.entry_list_append (F.args_list_append_2 _ _) (PySem.list_append acc its.toArray na uv (by rw[size_toArray];omega)) ⟨k3,?_⟩;have qup:=PySem.IsL.update k3 (fun a=>a.push uv);have eup:(its.toArray.push uv)=(its++[uv]).toArray:=by simp
       have keepb:∀b o,b≠acc→s8.heap.get? b=some o→(s8.heap.update acc (Obj.mapSeq fun a=>a.push uv)).get? b=some o:=fun b o hb e=>(Heap.get?_update_other s8.heap _ (Ne.symm hb)).trans e
       have I9:L2.Inv (br X scope x R fp s2 H2 C) [] σ6 H8 {s8 with heap:=s8.heap.update acc (Obj.mapSeq fun a=>a.push uv),toks:=s8.toks}:=by
        refine Inv.turned (it:=acc) (I8.pins_of (pins':=[]) fun p hp=>absurd hp (by simp)) keepb k4 hDC (.inr (Nat.le_of_eq hAd)) (fun y c e z=>?_) fun p hp=>absurd (show p∈([]:List (Addr×Obj)) from hp) (by simp)
        rcases jr S I2 e with⟨_,rfl⟩|⟨_,e⟩
        ·exact absurd z.symm (Nat.ne_of_lt (Nat.lt_succ_of_lt (by rw[hCe];exact Nat.lt_succ_self _)))
        ·obtain⟨v',o,ho,hdd⟩:=I2.cell y c e;exact fc (Heap.lt_size ho) hAd z
       obtain⟨n',eq'⟩:∃n',(s8.heap.update acc (Obj.mapSeq fun a=>a.push uv)).get? acc=some (aG (its++[uv]) n'):=by
        have q2:=qup;rw[eup] at q2;exact⟨_,q2⟩
       exact⟨t.ds.length-(i+1),by omega,i+1,σ6,H8,θ8,Mv,ds++[dv],rest',vs++[w],its++[uv],n',rfl,hlt,pin0 I9 eq' k4,(jY (n:=1) (i:=0) Nat.zero_lt_one).back qs (hdY.go (g7.trans g8)),T.keep _ _ _ st5 (fun b hb o e=>keepb b o (fc (hfl b hb) hAd) (k2 b hb o e)),k1,g'.trans (gy.trans (g7.trans g8)),bU (rd'.go (gy.trans (g7.trans g8))) ⟨w,[],rfl,rd8,rfl⟩,rv'.append (.cons rw8 .nil),qr,by rw[←hes];simp⟩
  ·have e:i=t.ds.length:=by omega
   subst e;rw[drop_length,aJ,if_pos hok] at hrest;cases hrest;have hes:ds=es:=by rw[←hes];simp
   subst hes;refine bR (T.done (br X scope x R fp s2 H2 C) rfl rfl rfl hc _ _ s' _ H' _ I' (fpY fr') st' (hst (Nat.le_refl _))) fun r s4 hxx=>?_
   obtain⟨hr,I4⟩:=hxx;subst hr;have pa:=I4.pin (acc,aG its na) (mem_append_right _ (by simp));have e4:s4.heap.get? acc=some (aG its na):=pa.1;have n4:H' acc=none:=pa.2.1;have lv:vs.length≤sizeLine:=by rw[←aq rd'];exact hlen
   obtain⟨mC,hnC,_⟩:=I4.loc;have hHC:H' C=none:=I4.free;have li:Un (kW X.stack) fp H2 H' s2.heap s4.heap:=I4.base;have neA:∀{b:Addr} {o:Obj},s2.heap.get? b=some o→b≠acc:=fun {b o} e=>fc (Heap.lt_size e) hAd
   have neH:∀{b:Addr} {u:HO},H' b=some u→b≠acc:=fun {b u} e z=>by rw[z,n4] at e;cases e
   have un4:Un (kW X.stack) fp H2 (bS H' acc (.lst vs)) s2.heap s4.heap:=by
    refine⟨li.keep,li.slot,fun b o e n hx=>?_,li.there,fun b xs e=>?_,fun b o u e=>?_,fun b ps e=>?_⟩
    ·rw[au (neA e)];exact li.free b o e n hx
    ·have z:=li.tups b xs e;rw[au (neH z)];exact z
    ·have z:=li.frzs b o u e;rw[au (neH z)];exact z
    ·obtain⟨more,z⟩:=li.tbls b ps e;exact⟨more,by rw[au (neH z)];exact z⟩
   have hok4:jM X.prog X.w (bS H' acc (.lst vs)) s4.heap:=fun b u e=>by
    by_cases hb:b=acc
    ·subst hb;rw[bZ] at e;cases e;exact⟨lv,its,na,rv',e4⟩
    ·rw[au hb] at e;exact(I4.hok b u e).stay (fun c v _ q=>q) (fun c q=>by rw[au (neH q)];exact q) fun c xs q=>by rw[au (neH q)];exact q
   have IX:L2.Inv X af σ (bS H' acc (.lst vs)) s4:=I2.call' (ch:=fp) I4.os un4 hok4 I4.bare fun b hb=>⟨(f2 b hb).2.2.2.1,(f2 b hb).2.1,(f2 b hb).2.2.2.2.1,(f2 b hb).2.2.2.2.2⟩
   refine fin acc C s4 H' θ' vs mC IX hnC (I2.fpOk hCs ?_) g' n4 rd';rw[au (Ne.symm hDC)];exact hHC
 exact codeAny_compStart_list (loop _ rfl) (T.self _ 0 _ _ _ (T.keep 0 _ _ st2 fun b hb o e=>old b o e) (loop _ rfl))
end
section
variable {X:Cx}{scope:Scope}{x:Str}{px:Pos}{R:List Str}{elt iter:Expr}{pos:Pos}{gi:GI}{ge:GE}{mk:List D→aw→aM D}
theorem uB (S:b9 scope X.env.kindOf x R X.N):(relabel scope X.env).names.lookup x=some .cell:=by
 have go:∀names:List (Str×NameKind),names.lookup x=some .cell→(names.map fun(n,k)=>if(k==NameKind.free&&X.env.scope.kind==.function&&X.env.kindOf n==some .cell) then(n,NameKind.cell) else(n,k)).lookup x=some .cell:=by
  intro names
  induction names with
  | nil=>intro h;cases h
  | cons p r ih=>
   intro h;obtain⟨n,k⟩:=p;show List.lookup x ((if(k==NameKind.free&&X.env.scope.kind==.function&&X.env.kindOf n==some .cell)=true then(n,NameKind.cell) else(n,k))::_)=_;cases hx:x==n with
   | true=>
    simp only[lookup_cons,hx] at h;cases h;rw[if_neg (by simp)];simp[lookup_cons,hx]
   | false=>
    simp only[lookup_cons,hx] at h
    by_cases hc:(k==NameKind.free&&X.env.scope.kind==.function&&X.env.kindOf n==some .cell)=true
    ·rw[if_pos hc];simp only[lookup_cons,hx];exact ih h
    ·rw[if_neg hc];simp only[lookup_cons,hx];exact ih h
 exact go scope.names S.own
theorem wX (hS:jV scope X.env.kindOf x R X.N=true)(hc:X.calm=true)(hm:mk=aD∨mk=cL)(hi:PI X (.Name x px) iter (tI X gi))
  (he:∀fp s H C,PE (br X scope x R fp s H C) elt (tE (br X scope x R fp s H C) ge))
  (hs:∀x,foldedSetIterable iter X.env x=pure x:=by intro _;rfl):PE X (.ListComp elt [⟨.Name x px,iter,[],0⟩] scope pos) (tE X (aH gi a9 ge mk)):=by
 rw[oz];have S:=b9.of hS;intro af s σ H Q I h;obtain⟨ρ,θ,M,hd,hw,h⟩:=h;rw[eval_ListComp];refine wpAny_comprehension_free (use:=none) rfl hs (fv (S.cells I)) S.kind S.lnames ?_;refine bR (hi af s σ H (fun J H2=>∃t M1 θ1,gi ρ M=.ok t M1∧Go X.K θ H θ1 H2 M1∧rg X.K J θ1 H2 t) I ⟨ρ,θ,M,hd,hw,?_⟩) fun v s1 h1=>bR h1 fun itv s2 h2=>?_
 ·cases q:gi ρ M with
  | ok t M1=>exact fun J θ1 H1 g1 hJ=>⟨t,M1,θ1,rfl,g1,hJ⟩
  | err c M1=>unfold dU at h;rw[q] at h;exact h
  | bad=>unfold dU at h;rw[q] at h;exact h
 obtain⟨it,fp,tn,J,H2,rfl,I2,T,st2,f2,t,M1,θ1,eg,g1,hJ⟩:=h2;unfold dU at h;rw[eg] at h;have h:aT X θ H Q ((aJ t 1 (bo 0) a9 ge t.ds ρ M1).bind mk):=h;cases q:aJ t 1 (bo 0) a9 ge t.ds ρ M1 with
 | bad=>rw[q] at h;exact h.elim
 | err c Mx=>exact(fH _ _ q).elim
 | ok es Mend=>
  rw[q] at h;have h:aT X θ H Q (mk es Mend):=h;refine p6 (RR:=fun acc C=>compPost (model X.prog X.w) X.A X.xe none (EP X af σ Q) acc C) S hc I2 T st2 f2 g1.wr (hd.go g1) hJ q (pf hm h) (fun C=>?_) (fun C=>he fp s2 H2 C) ?_
  ·exact l7 (X:=br X scope x R fp s2 H2 C) S.nd (i:=0) rfl (.inr (uB S)) (.inl (show(x==x)=true from beq_self_eq_true x))
  intro acc C s' H' θ' vs m IX hnC fC g' na rd;refine⟨m,hnC,fun h' sb=>?_⟩;have I3:L2.Inv X af σ (bS H' acc (.lst vs)) {s' with heap:=h',toks:=s'.toks}:=IX.turned (it:=C) (fun b o hb e=>(sb.2 b hb).trans e) fC.1 fC.2.1 fC.2.2.2.1 fC.2.2.2.2.1 fC.2.2.2.2.2;exact⟨.ref acc,_,I3,rfl,(tx hm X θ' H' Q es Mend vs (aT.go (g1.trans g') h) g'.wr rd).2 acc na⟩
def oj (gi:GI)(ge:GE)(mk:List D→aw→aM D):GE:=aH gi a9 ge mk
theorem u6 (hS:jV scope X.env.kindOf x X.N X.N=true)(hm:mk=aD∨mk=cL)(hi:QI X (.Name x px) iter gi)(he:∀fp s H C,QE (br X scope x X.N fp s H C) elt ge)
  (hc:X.calm=true:=by rfl) (hs:∀x,foldedSetIterable iter X.env x=pure x:=by intro _;rfl):QE X (.ListComp elt [⟨.Name x px,iter,[],0⟩] scope pos) (oj gi ge mk):=⟨wX hS hc hm hi.h (fun fp s H C=>(he fp s H C).h) hs⟩
end
end DL
namespace DL
open PySem L2
def bf:Nat→D→Bool
 | 0,_=>false
 | f+1,d=>match d with
  | .mr _=>false
  | .tup xs=>xs.all (bf f)
  | .lst xs=>xs.all (bf f)
  | .ro xs=>xs.all (bf f)
  | _=>true
theorem bM {f:D→Option D}:∀{xs:List D},(∀x∈xs,f x=some x)→bc f xs=some xs
 | [],_=>rfl
 | x::xs,h=>by
  unfold bc;rw[h x List.mem_cons_self,bM fun y hy=>h y (List.mem_cons_of_mem _ hy)]
theorem gU {n:Nat}{M:aw}:∀(f:Nat) (d:D),bf f d=true→frz n M f d=some d
 | 0,d,h=>by cases h
 | f+1,d,h=>by
  cases d with
  | mr k=>cases h
  | tup xs=>
   have h:xs.all (bf f)=true:=h;show(bc (frz n M f) xs).map D.tup=_;rw[bM fun x hx=>gU f x (List.all_eq_true.mp h x hx)];rfl
  | lst xs=>
   have h:xs.all (bf f)=true:=h;show(bc (frz n M f) xs).map D.lst=_;rw[bM fun x hx=>gU f x (List.all_eq_true.mp h x hx)];rfl
  | ro xs=>
   have h:xs.all (bf f)=true:=h;show(bc (frz n M f) xs).map D.ro=_;rw[bM fun x hx=>gU f x (List.all_eq_true.mp h x hx)];rfl
  | _=>rfl
def wf:MO→Bool
 | .lst xs=>xs.all (bf 30)
 | .obj _ fs=>fs.all fun p=>bf 30 p.2
 | .dK fs=>fs.all fun p=>bf 30 p.2
 | .dT fs=>fs.all fun p=>bf 30 p.2
theorem lC {κ:Type}{f:D→Option D}:∀{fs:List (κ×D)},(∀p∈fs,f p.2=some p.2)→nh f fs=some fs
 | [],_=>rfl
 | (x,d)::fs,h=>by
  unfold nh;rw[h (x,d) List.mem_cons_self,lC fun y hy=>h y (List.mem_cons_of_mem _ hy)]
theorem nY {f:D→Option D}:∀{fs:List (Str×D)},(∀p∈fs,f p.2=some p.2)→qM f fs=some fs
 | [],_=>rfl
 | (x,d)::fs,h=>by
  unfold qM;rw[h (x,d) List.mem_cons_self,nY fun y hy=>h y (List.mem_cons_of_mem _ hy)]
@[simp] theorem CV (f:Nat) (i:Int):bf (f+1) (.int i)=true:=rfl
@[simp] theorem Ed (f:Nat) (i:Bool):bf (f+1) (.bl i)=true:=rfl
@[simp] theorem CQ (f:Nat):bf (f+1) .non=true:=rfl
@[simp] theorem CP (f:Nat) (x:Str):bf (f+1) (.str x)=true:=rfl
theorem lB (f:Nat)(xs:List D):bf (f+1) (.tup xs)=xs.all (bf f):=rfl
theorem ux (f:Nat)(xs:List D):bf (f+1) (.lst xs)=xs.all (bf f):=rfl
theorem gV (f:Nat)(l:List Int):(l.map D.int).all (bf (f+1))=true:=by
 rw[List.all_map];exact List.all_eq_true.mpr fun x _=>rfl
theorem zH {α:Type}(xs:List α)(x:α):jW (xs++[x]) (-1)=some x:=by
 unfold jW uC;have h:-((xs++[x]).length:Int)≤-1:=by simp;omega
 rw[if_neg (by decide),if_pos h];have e:(-1+((xs++[x]).length:Int)).toNat=xs.length:=by simp;omega
 rw[e];simp
end DL
namespace DL
open PySem L2
theorem ax {a b:GS}{ρ ρ1:bj}{M M1:aw}(h:a ρ M=.ok (.nx ρ1) M1):ar a b ρ M=b ρ1 M1:=by
 unfold ar;rw[h];rfl
theorem mD {a b:GS}{ρ:bj}{d:D}{M M1:aw}(h:a ρ M=.ok (.rt d) M1):ar a b ρ M=.ok (.rt d) M1:=by
 unfold ar;rw[h];rfl
theorem iz {t:GT}{a b:GS}{ρ:bj}{M M1:aw}(h:t ρ M=.ok true M1):fV t a b ρ M=a ρ M1:=by
 unfold fV;rw[h,ao,if_pos rfl]
theorem fm {t:GT}{a b:GS}{ρ:bj}{M M1:aw}(h:t ρ M=.ok false M1):fV t a b ρ M=b ρ M1:=by
 unfold fV;rw[h,ao,if_neg Bool.false_ne_true]
theorem aF {i:Nat}{g:GE}{ρ:bj}{M M1:aw}{d:D}(h:g ρ M=.ok d M1):aA i g ρ M=.ok (.nx (ρ.set i (some d))) M1:=by
 unfold aA;rw[h,ao]
theorem iw {g:GE}{ρ:bj}{M M1:aw}{d:D}(h:g ρ M=.ok d M1):eN g ρ M=.ok (.nx ρ) M1:=by
 unfold eN;rw[h,ao]
theorem bH {g:GE}{ρ:bj}{M M1:aw}{d:D}(h:g ρ M=.ok d M1):bh g ρ M=.ok (.rt d) M1:=by
 unfold bh;rw[h,ao]
theorem c8 {a b:GT}{ρ:bj}{M:aw}{x y:Bool}(ha:a ρ M=.ok x M)(hb:x=true→b ρ M=.ok y M):bW a b ρ M=.ok (x&&y) M:=by
 unfold bW;rw[ha,ao];cases x with
 | true=>exact hb rfl
 | false=>rfl
theorem kT {a b:GT}{ρ:bj}{M:aw}{x y:Bool}(ha:a ρ M=.ok x M)(hb:x=false→b ρ M=.ok y M):gQ a b ρ M=.ok (x||y) M:=by
 unfold gQ;rw[ha,ao];cases x with
 | true=>rfl
 | false=>exact hb rfl
theorem yT {a:GT}{ρ:bj}{M:aw}{x:Bool}(ha:a ρ M=.ok x M):iJ a ρ M=.ok (!x) M:=by
 unfold iJ;rw[ha,ao]
theorem AT {a:GE}{ρ:bj}{M M1:aw}{x:Bool}(ha:a ρ M=.ok (.bl x) M1):gT a ρ M=.ok x M1:=by
 unfold gT;rw[ha,ao];rfl
theorem aP {a:GE}{ρ:bj}{M M1:aw}{x:Bool}(ha:a ρ M=.ok (.bl x) M1):aI a ρ M=.ok x M1:=by
 unfold aI;rw[ha,ao];rfl
theorem am {f:F2}{a b:GE}{ρ:bj}{M M1 M2:aw}{x y:D}{o:aM D}(ha:a ρ M=.ok x M1)(hb:b ρ M1=.ok y M2)(h:f x y M2=o):g2 f a b ρ M=o:=by
 unfold g2;rw[ha,ao,hb,ao,h]
theorem iF {F:FD}{a:GE}{ρ:bj}{M M1:aw}{x:D}{o:aM D}(ha:a ρ M=.ok x M1)(h:F [x] M1=o):aO F (aa a ag) ρ M=o:=by
 unfold aO aa ag;rw[ha,ao,ao,ao,h]
theorem Dq {F:FD}{a:GE}{ρ:bj}{M M1:aw}{x:D}{o:aM D}(ha:a ρ M=.ok x M1)(h:F [x] M1=o):ap 1 F (aa a ag) ρ M=o:=by
 unfold ap aa ag;rw[ha,ao,ao,ao,if_pos (show [x].length=1 from rfl),h]
theorem cD {F:FD}{a b:GE}{ρ:bj}{M M1 M2:aw}{x y:D}{o:aM D}(ha:a ρ M=.ok x M1)(hb:b ρ M1=.ok y M2)(h:F [x,y] M2=o):ap 2 F (aa a (aa b ag)) ρ M=o:=by
 unfold ap aa ag;rw[ha,ao,hb,ao,ao,ao,ao,if_pos (show [x,y].length=2 from rfl),h]
theorem mI {F:FD}{a b c:GE}{ρ:bj}{M M1 M2 M3:aw}{x y z:D}{o:aM D}(ha:a ρ M=.ok x M1)(hb:b ρ M1=.ok y M2)(hc:c ρ M2=.ok z M3)(h:F [x,y,z] M3=o):ap 3 F (aa a (aa b (aa c ag))) ρ M=o:=by
 unfold ap aa ag;rw[ha,ao,hb,ao,hc,ao,ao,ao,ao,ao,if_pos (show [x,y,z].length=3 from rfl),h]
theorem Ad {F:FD}{a b c d:GE}{ρ:bj}{M M1 M2 M3 M4:aw}{x y z u:D}{o:aM D}(ha:a ρ M=.ok x M1)(hb:b ρ M1=.ok y M2)(hc:c ρ M2=.ok z M3)(hd:d ρ M3=.ok u M4)(h:F [x,y,z,u] M4=o):ap 4 F (aa a (aa b (aa c (aa d ag)))) ρ M=o:=by
 unfold ap aa ag;rw[ha,ao,hb,ao,hc,ao,hd,ao,ao,ao,ao,ao,ao,if_pos (show [x,y,z,u].length=4 from rfl),h]
theorem yt {i:Nat}{ρ:bj}{M:aw}{xs:List D}(h:ρ[i]?=some (some (.tup xs))):cm (ae i) ρ M=.ok ⟨xs,none⟩ M:=by
 unfold cm ae;rw[h];rfl
theorem j4 {i:Nat}{ρ:bj}{M:aw}{xs:List D}(h:ρ[i]?=some (some (.lst xs))):cm (ae i) ρ M=.ok ⟨xs,none⟩ M:=by
 unfold cm ae;rw[h];rfl
theorem mj (a b:Int)(M:aw):bE false (.int a) (.int b) M=.ok (.bl (decide (a=b))) M:=by
 show aM.ok (D.bl ((a==b) != false)) M=_
 by_cases q:a=b <;> simp[q]
theorem xr (a b:Int)(M:aw):bE true (.int a) (.int b) M=.ok (.bl (!decide (a=b))) M:=by
 show aM.ok (D.bl ((a==b) != true)) M=_
 by_cases q:a=b <;> simp[q]
theorem qX (M:aw)(E:List D):(M++[MO.lst E])[M.length]?=some (.lst E):=by simp
theorem Bf (M:aw)(E E':List D):(M++[MO.lst E]).set M.length (.lst E')=M++[MO.lst E']:=by simp
theorem B4 {M:aw}{E:List D}{d:D}(h:E.length<1000000):pM M.length d (M++[MO.lst E])=.ok .non (M++[MO.lst (E++[d])]):=by
 have l:E.length<sizeLine:=Nat.lt_of_lt_of_le h (by rw[sizeLine_eq];decide);unfold pM;rw[qX];dsimp only;rw[if_pos l,Bf]
theorem lq {go ge:GE}{ρ:bj}{M:aw}{E:List D}{d:D}(h1:go ρ (M++[MO.lst E])=.ok (.mr M.length) (M++[MO.lst E]))(h2:ge ρ (M++[MO.lst E])=.ok d (M++[MO.lst E]))(h:E.length<1000000) :
  ia go ge ρ (M++[MO.lst E])=.ok .non (M++[MO.lst (E++[d])]):=by
 unfold ia;rw[h1,ao];dsimp only;rw[qX];dsimp only;rw[h2,ao,B4 h]
theorem iV {xs:List D}{k:Nat}{d:D}{M:aw}(h:xs[k]?=some d):az (.lst xs) (.int k) M=.ok d M:=by
 have a:=jg (xs:=xs) (j:=k) h;unfold az aU;dsimp only;rw[a]
theorem aB {xs:List D}{k:Nat}{d:D}{M:aw}(h:xs[k]?=some d):az (.tup xs) (.int k) M=.ok d M:=by
 have a:=jg (xs:=xs) (j:=k) h;unfold az aU;dsimp only;rw[a]
theorem hZ {ρ:bj}{M:aw}:fW ag ρ M=.ok (.mr M.length) (M++[.lst []]):=by
 show(if([]:List D).length≤sizeLine then aM.ok (D.mr M.length) (M++[.lst []]) else .bad)=_;rw[if_pos (show([]:List D).length≤sizeLine from Nat.zero_le _)]
theorem cb {ga:GA}{ρ:bj}{M M1:aw}{ds:List D}(h:ga ρ M=.ok ds M1)(hl:ds.length≤100000:=by exact Nat.le_of_ble_eq_true rfl):aV ga ρ M=.ok (.tup ds) M1:=by
 have:ds.length≤sizeLine:=bn (by omega);unfold aV;rw[h,ao];unfold mq;rw[if_pos this]
theorem jE {ga:GA}{ρ:bj}{M M1:aw}{ds:List D}(h:ga ρ M=.ok ds M1)(hl:ds.length≤100000:=by exact Nat.le_of_ble_eq_true rfl):dE ga ρ M=.ok (.lst ds) M1:=by
 have:ds.length≤sizeLine:=bn (by omega);unfold dE;rw[h,ao];unfold aD;rw[if_pos this]
theorem av {g:GE}{r:GA}{ρ:bj}{M M1 M2:aw}{d:D}{ds:List D}(h:g ρ M=.ok d M1)(hr:r ρ M1=.ok ds M2):aa g r ρ M=.ok (d::ds) M2:=by
 unfold aa;rw[h,ao,hr,ao]
theorem CF {go ge:GE}{ρ:bj}{M M1:aw}{k:Nat}{E E1:List D}{d:D}(h1:go ρ M=.ok (.mr k) M)(h2:M[k]?=some (.lst E))(h3:ge ρ M=.ok d M1)(h4:M1[k]?=some (.lst E1))(h:E1.length<1000000) :
  ia go ge ρ M=.ok .non (M1.set k (.lst (E1++[d]))):=by
 have l:E1.length<sizeLine:=Nat.lt_of_lt_of_le h (by rw[sizeLine_eq];decide);unfold ia;rw[h1,ao];dsimp only;rw[h2];dsimp only;rw[h3,ao];unfold pM;rw[h4];dsimp only;rw[if_pos l]
theorem cE {ga:GA}{ρ:bj}{M M1:aw}{n:Nat}(h:ga ρ M=.ok [.int (n:Int)] M1)(hn:n≤1000000):bA ga ρ M=.ok ⟨ay 0 n,none⟩ M1:=by
 unfold bA;rw[h,ao,xt hn]
theorem il {gi:GI}{sg:GG}{b:GS}{ρ:bj}{M M1:aw}{t:jN}{o:aM Fl}(h:gi ρ M=.ok t M1)(e:gX t sg b t.ds ρ M1=o):gN gi sg b ρ M=o:=by
 unfold gN;rw[h,ao,e]
theorem oD {i j:Int}(h0:-1000000≤i)(h1:i≤1000000)(M:aw):cY (.int i) (.int j) M=.ok (.int (i*j)) M:=by
 have a:-(2 ^ 64:Int)<i:=Int.lt_of_lt_of_le (by decide) h0;have b:i<(2 ^ 64:Int):=Int.lt_of_le_of_lt h1 (by decide);unfold cY;dsimp only;rw[if_pos (.inl ⟨a,b⟩)]
theorem pd {i j:Int}(h0:0<j)(h1:j≤1000000)(M:aw):cn (.int i) (.int j) M=.ok (.int (i / j)) M:=by
 have h2:j.natAbs<2 ^ 20:=by omega
 have h3:j.natAbs≠0:=by omega
 have h4:=(Nat.log2_lt h3).mpr h2;unfold cn;dsimp only;rw[if_pos ⟨h0,by omega⟩]
theorem sV {d:D}(h:aY 40 d=true)(hs:kE d d=true)(hm:∀M,now d M=d)(M:aw):bE true d d M=.ok (.bl false) M:=by
 unfold bE;rw[hm,h,hs];rfl
end DL
namespace DL
open PySem L2
def eQ (n:Nat):Nat→D→Bool
 | 0,_=>false
 | f+1,d=>match d with
  | .mr k=>decide (k<n)
  | .tup xs=>xs.all (eQ n f)
  | .lst xs=>xs.all (eQ n f)
  | .ro xs=>xs.all (eQ n f)
  | _=>true
theorem iG {n:Nat}{M:aw}:∀(f:Nat) (d:D),eQ n f d=true→frz n M f d=some d
 | 0,d,h=>by cases h
 | f+1,d,h=>by
  cases d with
  | mr k=>
   have h:decide (k<n)=true:=h;show(if k<n then some (D.mr k) else _)=_;rw[if_pos (of_decide_eq_true h)]
  | tup xs=>
   have h:xs.all (eQ n f)=true:=h;show(bc (frz n M f) xs).map D.tup=_;rw[bM fun x hx=>iG f x (List.all_eq_true.mp h x hx)];rfl
  | lst xs=>
   have h:xs.all (eQ n f)=true:=h;show(bc (frz n M f) xs).map D.lst=_;rw[bM fun x hx=>iG f x (List.all_eq_true.mp h x hx)];rfl
  | ro xs=>
   have h:xs.all (eQ n f)=true:=h;show(bc (frz n M f) xs).map D.ro=_;rw[bM fun x hx=>iG f x (List.all_eq_true.mp h x hx)];rfl
  | _=>rfl
theorem fE {n:Nat}:∀(f:Nat) (d:D),bf f d=true→eQ n f d=true
 | 0,d,h=>by cases h
 | f+1,d,h=>by
  cases d with
  | mr k=>cases h
  | tup xs=>exact List.all_eq_true.mpr fun x hx=>fE f x (List.all_eq_true.mp (show xs.all (bf f)=true from h) x hx)
  | lst xs=>exact List.all_eq_true.mpr fun x hx=>fE f x (List.all_eq_true.mp (show xs.all (bf f)=true from h) x hx)
  | ro xs=>exact List.all_eq_true.mpr fun x hx=>fE f x (List.all_eq_true.mp (show xs.all (bf f)=true from h) x hx)
  | _=>rfl
theorem fI {n m:Nat}(hn:n≤m):∀(f:Nat) (d:D),eQ n f d=true→eQ m f d=true
 | 0,d,h=>by cases h
 | f+1,d,h=>by
  cases d with
  | mr k=>exact decide_eq_true (Nat.lt_of_lt_of_le (of_decide_eq_true (show decide (k<n)=true from h)) hn)
  | tup xs=>exact List.all_eq_true.mpr fun x hx=>fI hn f x (List.all_eq_true.mp (show xs.all (eQ n f)=true from h) x hx)
  | lst xs=>exact List.all_eq_true.mpr fun x hx=>fI hn f x (List.all_eq_true.mp (show xs.all (eQ n f)=true from h) x hx)
  | ro xs=>exact List.all_eq_true.mpr fun x hx=>fI hn f x (List.all_eq_true.mp (show xs.all (eQ n f)=true from h) x hx)
  | _=>rfl
def qE (n:Nat):MO→Bool
 | .lst xs=>xs.all (eQ n 30)
 | .obj _ fs=>fs.all fun p=>eQ n 30 p.2
 | .dK fs=>fs.all fun p=>eQ n 30 p.2
 | .dT fs=>fs.all fun p=>eQ n 30 p.2
theorem nB {n m:Nat}(hn:n≤m){o:MO}(h:qE n o=true):qE m o=true:=by
 cases o with
 | lst xs=>exact List.all_eq_true.mpr fun x hx=>fI hn 30 x (List.all_eq_true.mp (show xs.all (eQ n 30)=true from h) x hx)
 | obj c fs=>exact List.all_eq_true.mpr fun x hx=>fI hn 30 x.2 (List.all_eq_true.mp (show(fs.all fun p=>eQ n 30 p.2)=true from h) x hx)
 | dK fs=>exact List.all_eq_true.mpr fun x hx=>fI hn 30 x.2 (List.all_eq_true.mp (show(fs.all fun p=>eQ n 30 p.2)=true from h) x hx)
 | dT fs=>exact List.all_eq_true.mpr fun x hx=>fI hn 30 x.2 (List.all_eq_true.mp (show(fs.all fun p=>eQ n 30 p.2)=true from h) x hx)
theorem kQ {n:Nat}{o:MO}(h:wf o=true):qE n o=true:=by
 cases o with
 | lst xs=>exact List.all_eq_true.mpr fun x hx=>fE 30 x (List.all_eq_true.mp (show xs.all (bf 30)=true from h) x hx)
 | obj c fs=>exact List.all_eq_true.mpr fun x hx=>fE 30 x.2 (List.all_eq_true.mp (show(fs.all fun p=>bf 30 p.2)=true from h) x hx)
 | dK fs=>exact List.all_eq_true.mpr fun x hx=>fE 30 x.2 (List.all_eq_true.mp (show(fs.all fun p=>bf 30 p.2)=true from h) x hx)
 | dT fs=>exact List.all_eq_true.mpr fun x hx=>fE 30 x.2 (List.all_eq_true.mp (show(fs.all fun p=>bf 30 p.2)=true from h) x hx)
theorem fG {n:Nat}{M:aw}:∀{l:List MO},l.all (qE n)=true→eV n M l=some l
 | [],_=>rfl
 | .lst xs::r,h=>by
  rw[List.all_cons,Bool.and_eq_true] at h;unfold eV;rw[fG h.2];have h1:xs.all (eQ n 30)=true:=h.1;rw[bM fun x hx=>iG 30 x (List.all_eq_true.mp h1 x hx)]
 | .obj c fs::r,h=>by
  rw[List.all_cons,Bool.and_eq_true] at h;unfold eV;rw[fG h.2];have h1:(fs.all fun p=>eQ n 30 p.2)=true:=h.1;rw[nY fun p hp=>iG 30 p.2 (List.all_eq_true.mp h1 p hp)]
 | .dK fs::r,h=>by
  rw[List.all_cons,Bool.and_eq_true] at h;unfold eV;rw[fG h.2];have h1:(fs.all fun p=>eQ n 30 p.2)=true:=h.1;rw[lC fun p hp=>iG 30 p.2 (List.all_eq_true.mp h1 p hp)]
 | .dT fs::r,h=>by
  rw[List.all_cons,Bool.and_eq_true] at h;unfold eV;rw[fG h.2];have h1:(fs.all fun p=>eQ n 30 p.2)=true:=h.1;rw[lC fun p hp=>iG 30 p.2 (List.all_eq_true.mp h1 p hp)]
def eY (M:aw):Prop:=M.all (qE M.length)=true
theorem sN {d:D}{M E:aw}(hd:bf 30 d=true)(hM:eY M):fJ M.length (.ok d (M++E))=.ok d M:=by
 unfold fJ
 by_cases h:(M++E).length=M.length
 ·have:E=[]:=by
   rw[List.length_append] at h;exact List.length_eq_zero_iff.mp (by omega)
  subst this;simp
 ·simp only[if_neg h];rw[List.take_left,gU 30 d hd,fG hM]
theorem kJ {M:aw}{xs:List D}(hx:xs.all (bf 29)=true)(hM:eY M):fJ M.length (.ok (.mr M.length) (M++[.lst xs]))=.ok (.lst xs) M:=by
 have f1:=fG (n:=M.length) (M:=M++[.lst xs]) hM;have f2:frz M.length (M++[.lst xs]) 30 (.mr M.length)=some (.lst xs):=by
  have o:bc (frz M.length (M++[.lst xs]) 29) xs=some xs:=bM fun x h=>gU 29 x (List.all_eq_true.mp hx x h)
  show(if M.length<M.length then some (D.mr M.length) else match (M++[MO.lst xs])[M.length]? with|some (MO.lst ys)=>(bc (frz M.length (M++[MO.lst xs]) 29) ys).map D.lst|_=>none)=_;rw[if_neg (Nat.lt_irrefl _)];simp;rw[o]
 show(if(M++[MO.lst xs]).length=M.length then aM.ok (D.mr M.length) (M++[MO.lst xs]) else match frz M.length (M++[MO.lst xs]) 30 (.mr M.length),eV M.length (M++[MO.lst xs]) ((M++[MO.lst xs]).take M.length) with|some d',some M'=>.ok d' M'|_,_=>.bad)=_;rw[if_neg (by simp),List.take_left,f1,f2]
end DL
namespace Hd
open PySem PySem.W PySem.Calls PyProof.Rows
def topRunT (tb:String→Option Builtin)(p:Program)(w:World)(n0:Nat)(ann:Option Value):Nat→SharedT→Thread→Option SharedT
 | 0,_,_=>none
 | n+1,s,t=>match through t with
  | true=>some s
  | false=>match stepOk n0 ann t with
   | false=>none
   | true=>match stepT (denote tb) p w s t with
    | some (s',t')=>topRunT tb p w n0 ann n s' t'
    | none=>none
theorem nH {tb:String→Option Builtin}{p:Program}{w:World}{n0:Nat}{ann:Option Value}:∀{n:Nat} {s s':SharedT} {t:Thread},topRunT tb p w n0 ann n s t=some s'→topRun tb p w n0 ann n s.abs t=some s'.abs
 | 0,_,_,_,h=>by cases h
 | n+1,s,s',t,h=>by
  unfold topRunT at h;unfold topRun;cases he:through t with
  | true=>rw[he] at h;cases h;rfl
  | false=>
   rw[he] at h;cases hk:stepOk n0 ann t with
   | false=>rw[hk] at h;cases h
   | true=>
    rw[hk] at h;cases hs:stepT (denote tb) p w s t with
    | none=>rw[hs] at h;cases h
    | some r=>obtain⟨s2,t2⟩:=r;rw[hs] at h;rw[stepT_spec hs];exact nH h
def grow:List Obj→BT→Nat→BT
 | [],t,_=>t
 | o::r,t,n=>grow r (t.ins n o) (n+1)
def Ah:List Obj→BT→Nat→Bool
 | [],_,_=>true
 | o::r,t,n=>((t.ins n o).get n).isSome&&Ah r (t.ins n o) (n+1)
theorem qY (life:Life):∀(l:List Obj) (t:BT) (n:Nat),Ah l t n=true→absHeap (grow l t n) (n+l.length) life=⟨(absHeap t n life).objs++l.toArray,life⟩
 | [],t,n,_=>by simp[grow,absHeap]
 | o::r,t,n,h=>by
  obtain⟨h1,h2⟩:=Bool.and_eq_true_iff.mp h;have e:=qY life r (t.ins n o) (n+1) h2;have e2:absHeap (t.ins n o) (n+1) life=(absHeap t n life).push o:=absHeap_ins h1;show absHeap (grow r (t.ins n o) (n+1)) (n+(r.length+1)) life=_;rw[show n+(r.length+1)=n+1+r.length by omega,e,e2];simp[Heap.push]
theorem sG {p q:Program}{loose:List Str}{Xt:Shared→Bool}{A:Type}{Yf:Shared→A}{Ya:World→A}{N:Nat}{g0:Bool}{H:Params→Heap}{gs:Array GenState}{d:Drawn}{k:Nat}{m:Nat}{ann:Option Value}{T:Params→BT}{lf:Life}
  (open_:∀w:World,(fencedOpening treeTable p w N).map (fun s=>(s.heap,s.gens,s.drawn,s.toks))=some (H w.params,gs,d,k))
  (size:∀w:World,((H w.params).isNs mainGlobals&&gs.size==0,(H w.params).objs.size,(H w.params).nsMap mainGlobals "__annotations__")=(true,m,ann))
  (tree:∀P,H P=absHeap (T P) m lf)
  (run:∀(w:World) (os:OsState),(topRunT treeTable p w m ann N ⟨T w.params,m,lf,gs,d,k,os⟩ (topStub p)).map (fun s=>
    ((staticsOk (importedModules p.main.body) (H w.params) s.abs.heap&&namesBound p s.abs.heap&&gensDone s.abs&&laidKept (H w.params) s.abs.heap),
    openSeen q loose (importedModules p.main.body) Xt g0 s.abs,Yf s.abs))=some (true,openGood q loose,Ya w)):LeftO p q loose Xt Yf Ya N g0:=fun w=>by
 obtain⟨⟨h,gs',d',k',os⟩,e,e'⟩:=Option.map_eq_some_iff.mp (open_ w);obtain⟨rfl,rfl,rfl,rfl⟩:h=H w.params∧gs'=gs∧d'=d∧k'=k:=by simpa using e'
 obtain⟨z1,z2,z3⟩:_∧_∧_:=by simpa only[Prod.mk.injEq] using size w
 obtain⟨s,r1,r2⟩:=Option.map_eq_some_iff.mp (run w os);obtain⟨l1,l2,l3⟩:_∧_∧_:=by simpa only[Prod.mk.injEq] using r2
 have r:=nH r1;have ea:SharedT.abs ⟨T w.params,m,lf,gs',d',k',os⟩=⟨H w.params,gs',d',k',os⟩:=by rw[tree];rfl
 rw[ea] at r;have t:topFrom treeTable p w N ⟨H w.params,gs',d',k',os⟩=some s.abs:=by
  unfold topFrom;dsimp only;rw[z1,z2,z3,r];show(match staticsOk (importedModules p.main.body) (H w.params) s.abs.heap&&namesBound p s.abs.heap&&gensDone s.abs&&laidKept (H w.params) s.abs.heap with|true=>_|false=>_)=_;rw[l1]
 unfold openEnds;rw[e];show(topFrom treeTable p w N _).map _=_;rw[t];exact congrArg some (Prod.ext l2 l3)
noncomputable def bootT (P:Params):BT:=grow (boot_heap P).objs.toList .nil 0
lay_quick Hd.topRunT W.topStub
theorem uV (P:Params):boot_heap P=absHeap (bootT P) 11 {}:=by
 have h:=qY {} (boot_heap P).objs.toList .nil 0 (by kernel_rfl);exact h.symm
noncomputable def RT (p:Program) (w:World) (N:Nat) (os:OsState):Option SharedT:=topRunT treeTable p w 11 (some (Value.ref 6)) N ⟨bootT w.params,11,{},Array.mk [],boot_drawn,boot_toks,os⟩ (topStub p)
noncomputable def pA (p:Program) (P:Params) (s:Shared):Bool:=staticsOk (importedModules p.main.body) (boot_heap P) s.heap&&namesBound p s.heap&&gensDone s&&laidKept (boot_heap P) s.heap
def pB (q:Program)(mods:List Str)(Xt:Shared→Bool)(s:Shared):Bool:=(s.heap.keysOk (looseW q []) ((recsOf q).map (·.name)) ((litsOf q).map (·.1)) ((clssOf q (looseW q [])).map (·.name))&&s.heap.accountedOkI mods&&s.heap.isNs mainGlobals&&s.heap.isNs builtinsNs&&tablesOk q s.heap&&Xt s&&(if true then s.gens.size==0 else !leftWithCleanup s.gens))&&tabsOk q s
def pC (q:Program)(s:Shared):=(seen ((recsOf q).map (·.name)) (ownsOf q) [] {s with gens:=#[]},s.heap.bltView,wideSeen q s)
def pD (q:Program)(s:Shared):=(pinSeenD q (drecsOf q) s,plainSeenE q (looseW q []) s,plainSeenD q [] s,clsSeenW q [] s)
lay_quick Hd.pB
lay_quick Hd.pC
lay_quick Hd.pD
theorem o9 {α A B:Type}{x:Option α}{f:α→A}{g:α→B}{a:A}{b:B}(h1:x.map f=some a)(h2:x.map g=some b):x.map (fun s=>(f s,g s))=some (a,b):=by
 cases x with
 | none=>cases h1
 | some s=>exact congrArg some (Prod.ext (Option.some.inj h1) (Option.some.inj h2))
theorem sr {p q:Program}{Xt:Shared→Bool}{A:Type}{Yf:Shared→A}{Ya:World→A}{N:Nat}
  (open_:∀w:World,(fencedOpening treeTable p w N).map (fun s=>(s.heap,s.gens,s.drawn,s.toks))=some (boot_heap w.params,Array.mk [],boot_drawn,boot_toks))
  (size:∀w:World,((boot_heap w.params).isNs mainGlobals&&(Array.mk ([]:List GenState)).size==0,(boot_heap w.params).objs.size,(boot_heap w.params).nsMap mainGlobals "__annotations__")=(true,11,some (Value.ref 6)))
  (r1:∀(w:World) (os:OsState),(RT p w N os).map (fun s=>pA p w.params s.abs&&pB q (importedModules p.main.body) Xt s.abs)=some true)
  (r2:∀(w:World) (os:OsState),(RT p w N os).map (fun s=>pC q s.abs)=some (expectedOf q,bltViewBooted,wideGood q))
  (r3:∀(w:World) (os:OsState),(RT p w N os).map (fun s=>pD q s.abs)=some (pinGoodD (drecsOf q),plainGoodE q (looseW q []),plainGoodD q [],clsGoodW q []))
  (r4:∀(w:World) (os:OsState),(RT p w N os).map (fun s=>Yf s.abs)=some (Ya w)):LeftO p q [] Xt Yf Ya N true:=
 sG open_ size uV fun w os=>by
  show(RT p w N os).map _=_;have h:=o9 (o9 (r1 w os) (r2 w os)) (o9 (r3 w os) (r4 w os));cases e:RT p w N os with
  | none=>rw[e] at h;cases h
  | some s=>
   rw[e] at h;obtain⟨h1,h2⟩:=Prod.mk.inj (Option.some.inj h);obtain⟨h1,h3⟩:=Prod.mk.inj h1;obtain⟨h4,h5⟩:=Prod.mk.inj h2;obtain⟨a,b⟩:=Bool.and_eq_true_iff.mp h1;obtain⟨b,c⟩:=Bool.and_eq_true_iff.mp b;obtain⟨c1,c2⟩:=Prod.mk.inj h3;obtain⟨c2,c3⟩:=Prod.mk.inj c2;obtain⟨d1,d2⟩:=Prod.mk.inj h4;obtain⟨d2,d3⟩:=Prod.mk.inj d2;obtain⟨d3,d4⟩:=Prod.mk.inj d3;exact congrArg some (Prod.ext a (Prod.ext (Prod.ext c1 (Prod.ext c2 (Prod.ext b (Prod.ext c (Prod.ext d1 (Prod.ext d2 (Prod.ext d3 (Prod.ext c3 d4)))))))) h5))
def lk (s:SharedT)(a:Nat):Option Obj:=match Nat.blt a s.n with
 | true=>(match s.tree.get a with
  | some o=>alive o
  | none=>none)
 | false=>none
theorem EK {s:SharedT}{a:Nat}{o:Obj}(h:lk s a=some o):s.abs.heap.get? a=some o:=by
 unfold lk at h;cases b:Nat.blt a s.n with
 | false=>rw[b] at h;cases h
 | true=>
  rw[b] at h;cases g:s.tree.get a with
  | none=>rw[g] at h;cases h
  | some x=>rw[g] at h;exact(abs_get (Nat.blt_eq.mp b) g).trans h
theorem sB {s:SharedT}{β:Type}{f:β→Obj}:∀{as:List Nat} {l:List β},as.map (lk s)=l.map (fun p=>some (f p))→as.map s.abs.heap.get?=l.map (fun p=>some (f p))
 | [],[],_=>rfl
 | [],_::_,h=>by cases h
 | _::_,[],h=>by cases h
 | a::as,p::l,h=>by
  obtain⟨x,y⟩:=List.cons.inj h;show s.abs.heap.get? a::as.map s.abs.heap.get?=_;rw[EK x,sB y];rfl
theorem left_km {p q:Program}{Xt:Shared→Bool}{N:Nat}{K:Params→Frag}{as:List Addr}{e:∀P,as=(K P).map (·.1)}{ts:List Addr}
  (open_:∀w:World,(fencedOpening treeTable p w N).map (fun s=>(s.heap,s.gens,s.drawn,s.toks))=some (boot_heap w.params,Array.mk [],boot_drawn,boot_toks))
  (size:∀w:World,((boot_heap w.params).isNs mainGlobals&&(Array.mk ([]:List GenState)).size==0,(boot_heap w.params).objs.size,(boot_heap w.params).nsMap mainGlobals "__annotations__")=(true,11,some (Value.ref 6)))
  (r1:∀(w:World) (os:OsState),(RT p w N os).map (fun s=>pA p w.params s.abs&&pB q (importedModules p.main.body) Xt s.abs)=some true)
  (r2:∀(w:World) (os:OsState),(RT p w N os).map (fun s=>pC q s.abs)=some (expectedOf q,bltViewBooted,wideGood q))
  (r3:∀(w:World) (os:OsState),(RT p w N os).map (fun s=>pD q s.abs)=some (pinGoodD (drecsOf q),plainGoodE q (looseW q []),plainGoodD q [],clsGoodW q []))
  (r4:∀(w:World) (os:OsState),(RT p w N os).map (fun s=>(as.map (lk s),ts.map (lk s)))=some ((K w.params).map (fun p=>some p.2),ts.map fun _=>some (tabObj #[]))) :
  LeftO p q [] Xt (kmHook K as e ts).obs (kmHook K as e ts).val N true:=
 sr open_ size r1 r2 r3 fun w os=>by
  obtain⟨s,h1,h2⟩:=Option.map_eq_some_iff.mp (r4 w os);obtain⟨a,b⟩:=Prod.mk.inj h2;rw[h1];exact congrArg some (Prod.ext (sB a) (sB b))
end Hd
namespace K37
open PySem PySem.Spec PyProof.Rows L2 DL List
noncomputable def top (i:Nat):Stmt:=PySem.Challenge.pw_glowrow_k37_whole_lone_pots.main.body.getD i (.Pass ⟨0,0,0,0⟩)
noncomputable abbrev zW:Stmt:=top 36
noncomputable abbrev TX:=Tx (("_law_draw",top 19,["tape","many"])::("_law_size",top 20,["tape","most"])::("_law_frame",top 21,["tape","most"])::("_law_inks",top 22,["tape","wide","thin"])::("_law_inked",top 23,["tape","most"])::("_law_far",top 24,["tape","size"])::("_law_mover",top 25,["tape","frame","shapes"])::("_law_stand",top 26,["tape","frame","movers_most"])::("_law_lying",top 28,["stand","row"])::("_law_strip",top 27,["shape","turn","row"])::("_law_taken",top 29,["frame","stand","row"])::("_law_cover",top 30,["row_here","x"])::("_law_ink",top 31,["row_here","x"])::("_law_inks_laid",top 32,["frame","stand"])::("_law_lays",top 33,["frame","inks","pots","deed","tick"])::("row_ticks",top 1,["frame"])::("begin_of",top 2,["frame","row"])::("strip_of",top 4,["shape","turn","row"])::("strip_taken",top 10,["stand","number","row"])::("floor_inks",top 9,["frame","stand","row"])::("lying_on",top 6,["stand","row"])::("kept_on",top 7,["frame","stand","row"])::("taken",top 8,["frame","stand","row"])::("covers_at",top 11,["row_taken","x"])::("ink_at",top 12,["row_taken","x"])::("inks_shown",top 15,["frame","stand"])::("spots_of",top 17,["frame","stand","picture"])::("lone_pot",top 16,["frame","stand","picture"])::("_law_could",top 34,["frame","inks","pots","picture"])::("_law_due",top 35,["frame","inks","pots","picture"])::[])
 ([])
 [("ink_shown",top 13,["floor_ink","covers"])]
 ("any"::"bool"::"enumerate"::"int"::"isinstance"::"len"::"list"::"max"::"min"::"range"::"tuple"::"zip"::[]) []
 ([]) []
 ([]) [] []
set_option hygiene false
local macro_rules | `(tactic| walk_at "o") => `(tactic| first | with_reducible exact Er | with_reducible exact q_addM | with_reducible exact Dw | with_reducible exact EE | with_reducible exact BN | with_reducible exact Ex | with_reducible exact C7 | with_reducible exact F5 | with_reducible exact Gv | with_reducible exact F7 | with_reducible exact Gj | with_reducible exact q_is | with_reducible exact yh | with_reducible exact FC | with_reducible exact q_notin | with_reducible exact q_mulT | with_reducible exact q_inA | ((with_reducible show Q2 _ _ (z8 _)); first | exact q_inG hr | exact vL hr) | ((with_reducible show Q2 _ _ (dIn _)); first | exact q_din hr | exact q_dnotin hr) | ((with_reducible show Q2 _ _ (vn _)); first | exact D2 hr | exact En hr) | ((with_reducible show Q2 _ (compareOp .Eq) _); exact Gs hr) | exact FA hr)
local macro_rules | `(tactic| walk_at "c") => `(tactic| first | ((with_reducible refine Eg ?_); rfl) | ((with_reducible refine CZ)) | ((with_reducible refine q_lenT)) | ((with_reducible refine Dl)) | ((with_reducible refine q_listT ?_); rfl) | ((with_reducible refine q_listM)) | ((with_reducible refine BS)) | ((with_reducible refine q_max ?_); rfl) | ((with_reducible refine DI ?_); rfl) | ((with_reducible refine yk)))
local macro_rules | `(tactic| walk_at "b") => `(tactic| with_reducible first | exact Boot.«any» | exact Boot.«bool» | exact Boot.«enumerate» | exact Boot.«int» | exact Boot.«isinstance» | exact Boot.«len» | exact Boot.«list» | exact Boot.«max» | exact Boot.«min» | exact Boot.«range» | exact Boot.«tuple» | exact Boot.«zip»)
local macro_rules | `(tactic| walk_at "E") => `(tactic| first
  | ((with_reducible show QE _ _ (ae _));exact qv _)
  | ((with_reducible show QE _ _ (gC _));first|exact Bo|exact BL|exact CG|exact Es)
  | ((with_reducible show QE _ _ (g2 dGet _ _));refine qe_dget hr ?_ ?_)
  | ((with_reducible show QE _ _ (g2 az _ _));refine DP ?_ ?_)
  | ((with_reducible show QE _ _ (g2 _ _ _));first|refine Dn (by walk_at "o") ?_ ?_|refine AS (by walk_at "o") ?_ ?_|refine qe_cmpI (by walk_at "o") ?_ ?_)
  | ((with_reducible show QE _ _ (ap _ _ _));refine C5 (by assumption) hr ?_)
  | ((with_reducible show QE _ _ (aV _));refine BQ ?_)
  | ((with_reducible show QE _ _ (jQ _ _));refine C2 (by first|exact .inl rfl|exact .inr (.inl rfl)|exact .inr (.inr (.inl rfl))|exact .inr (.inr (.inr (.inl rfl)))|exact .inr (.inr (.inr (.inr rfl)))) (by walk_at "b") (by rfl) (T.z _ (by decide +kernel)) (by rfl) (T.z _ (by decide +kernel)) ?_)
  | ((with_reducible show QE _ _ (aO nJ _));refine wv (AR (k:=0) (hr.mono (by decide))) (by rfl) (T.z _ (by decide +kernel)) (by walk_at "b") ?_)
  | ((with_reducible show QE _ _ (aO j8 _));refine wv (Be (k:=0) (hr.mono (by decide))) (by rfl) (T.z _ (by decide +kernel)) (by walk_at "b") ?_)
  | ((with_reducible show QE _ _ (aO _ _));first|refine Df (by walk_at "c") (T.z _ (by decide +kernel)) (by walk_at "b") ?_|refine Eo (by walk_at "c") (by rfl) (T.z _ (by decide +kernel)) (by walk_at "b") ?_)
  | ((with_reducible show QE _ _ (dE _));refine Bz ?_)
  | ((with_reducible show QE _ _ (fW _));refine AJ ?_)
  | ((with_reducible show QE _ _ (pq _));refine Ay ?_)
  | ((with_reducible show QE _ _ (uo _ _ _ _ _));refine qe_chain (by walk_at "o") (by walk_at "o") ?_ ?_ ?_)
  | ((with_reducible show QE _ _ (mv _ _ _));refine DK ?_ ?_ ?_)
  | ((with_reducible show QE _ _ (tJ _ _ _));refine xk ?_ ?_ ?_)
  | ((with_reducible show QE _ _ (sF _));refine AQ rfl ?_)
  | ((with_reducible show QE _ _ (oj _ _ _));first|refine qe_compKR (by assumption) (by kernel_rfl) (by first|exact .inl rfl|exact .inr rfl) ?_ ?_|refine u6 (by kernel_rfl) (by first|exact .inl rfl|exact .inr rfl) ?_ ?_)
  | ((with_reducible show QE _ _ (aH _ _ _ _));first|refine wK (by assumption) (by kernel_rfl) (by first|exact .inl rfl|exact .inr rfl) ?_ ?_ ?_|refine xl (by kernel_rfl) (by first|exact .inl rfl|exact .inr rfl) ?_ ?_ ?_)
  | ((with_reducible show QE _ _ (ja _ _ _ _ _ _ _ _ _));refine tX (by assumption) (by kernel_rfl) (by first|exact .inl rfl|exact .inr rfl) ?_ ?_ ?_ ?_ ?_ ?_ ?_ ?_ ?_)
  | ((with_reducible show QE _ _ (ia _ _));refine ve ?_ ?_)
  | ((with_reducible show QE _ _ (jP _ _));refine zI (px:="cover") (N:=["cover"]) (by assumption) (k:=0) (hr.mono (by decide)) (by rfl) (T.z _ (by decide +kernel)) (by walk_at "b") ⟨rfl,rfl,rfl,by decide +kernel,rfl,by decide +kernel,by decide +kernel⟩ ?_ fun _ _ _ _ _ _ _ hr=>?_))
local macro_rules | `(tactic| walk_at "S") => `(tactic| first
  | ((with_reducible show QS _ _ (bh _));refine B3 ?_)
  | ((with_reducible show QS _ _ (fV _ _ _));refine Du ?_ ?_ ?_)
  | ((with_reducible show QS _ _ (aA _ (aH _ _ _ _)));first|refine qs_setCompR (by assumption) (by kernel_rfl) (by first|exact .inl rfl|exact .inr rfl) nd ?_ ?_ ?_|refine qS (by kernel_rfl) (by first|exact .inl rfl|exact .inr rfl) nd ?_ ?_ ?_|refine qs_setC _ nd ?_)
  | ((with_reducible show QS _ _ (aA _ _));refine B9 _ nd ?_)
  | ((with_reducible show QS _ _ (cu _ _));refine AN ?_ ?_)
  | ((with_reducible show QS _ _ (gN _ _ _));refine Bl PassesOwn.leaving ?_ ?_ ?_)
  | ((with_reducible show QS _ _ (eN _));refine yd ?_)
  | ((with_reducible show QS _ _ (iA _ _ _));refine BK ?_ ?_ ?_)
  | ((with_reducible show QS _ _ (ba));first|exact qs_pass|exact qs_doc))
local macro_rules | `(tactic| walk_at "Q") => `(tactic| first
  | ((with_reducible show QE _ _ _);first|walk_at "E"|refine qe_one ?_|refine qe_and ?_ ?_|refine qe_or ?_ ?_|refine qe_fstr1 ?_)
  | ((with_reducible show QA _ _ _);first|exact CI|refine Ga ?_ ?_)
  | ((with_reducible show QT _ _ _);first
  | ((with_reducible show QT _ _ (aI (uo _ _ _ _ _)));refine vF (by walk_at "o") (by walk_at "o") ?_ ?_ ?_)
  | ((with_reducible show QT _ _ (aI _));first|refine A9 (by walk_at "o") ?_ ?_|refine zQ (by walk_at "o") ?_ ?_)
  | ((with_reducible show QT _ _ (iJ _));refine Cp ?_)
  | ((with_reducible show QT _ _ (gT _));refine By ?_)
  | ((with_reducible show QT _ _ (bW _ _));refine DT ?_)
  | ((with_reducible show QT _ _ (gQ _ _));refine DT ?_))
  | ((with_reducible show QB _ _ _);first|exact Bv|refine BO ?_|refine yL ?_ ?_)
  | ((with_reducible show QS _ _ _);walk_at "S")
  | ((with_reducible show QW _ _ _);first|refine Cj ?_ ?_|refine DQ ?_ ?_|refine yQ ?_|refine AY ?_)
  | ((with_reducible show QI _ _ _ _);first|((with_reducible show QI _ _ _ (bA _));refine El (by rfl) (T.z _ (by decide +kernel)) ?_)|((with_reducible show QI _ _ _ (gRng2 _));refine qi_r2 (by rfl) (T.z _ (by decide +kernel)) ?_)|((with_reducible show QI _ _ _ (lF _));refine zn (by rfl) (T.z _ (by decide +kernel)) (by walk_at "b") ?_)|((with_reducible show QI _ _ _ (xJ _));refine ET (by rfl) (T.z _ (by decide +kernel)) (by walk_at "b") (by rfl) (T.z _ (by decide +kernel)) (by walk_at "b") ?_)|((with_reducible show QI _ _ _ (gZip _));refine qi_zip (by rfl) (T.z _ (by decide +kernel)) (by walk_at "b") ?_)|refine Bb ?_)
  | ((with_reducible show QG _ _ _);first|exact qn _ nd|exact GK _ (by kernel_rfl)|refine Au ?_|refine yN ?_)
  | ((with_reducible show Ew _ _ _);first|exact yD|refine D7 ?_ ?_)
  | ((with_reducible show EN _ _ _);first|exact zm|refine D3 ?_ ?_)
  | ((with_reducible show QP _ _ _);first|exact zK|refine yo ?_)
  | ((with_reducible show xL _ _ _ _ _ _);first|exact uK|refine u4 ?_)
  | ((with_reducible show QO _ _);first|exact BW _ _|exact AD _|refine zB ?_)
  | ((with_reducible show Et _ _);first|exact zG|refine Do ?_ ?_)
  | ((with_reducible show QF _ _ _);first|exact qf_nil|refine qf_c ?_ ?_)
  | ((with_reducible show QD _ _ _ _ _);first|exact qd_nil|refine qd_c ?_)
  | intro _)
section
variable {P:Program}{w:World}{K:W.Frag}{mg:Str→Option Value}{base:Heap}
noncomputable def fX:GS:=(ar (aA 2 (gC (.int 2305843009213693951))) (ar (fV (aI (g2 mW (g2 az (ae 0) (gC (.int 2))) (ae 1))) (ar (aA 3 (gC (.int 0))) (ar (fV (aI (g2 nR (aO bT (aa (g2 az (ae 0) (gC (.int 0))) ag)) (gC (.int 0)))) (aA 3 (g2 az (g2 az (ae 0) (gC (.int 0))) (g2 cG (g2 az (ae 0) (gC (.int 1))) (aO bT (aa (g2 az (ae 0) (gC (.int 0))) ag))))) ba) (ar (fV (gQ (aI (g2 re (g2 az (ae 0) (gC (.int 1))) (aO bT (aa (g2 az (ae 0) (gC (.int 0))) ag)))) (aI (g2 mW (ae 3) (g2 mR (gC (.int 10)) (gC (.int 18)))))) (ar (aA 3 (g2 cG (g2 bu (ae 3) (g2 cY (gC (.int 1000003)) (g2 az (ae 0) (gC (.int 1))))) (ae 2))) (ar (aA 3 (g2 cG (g2 bu (g2 bu (g2 cY (ae 3) (ae 3)) (g2 cY (gC (.int 1181783497276652981)) (ae 3))) (gC (.int 2049848353892358983))) (ae 2))) (aA 3 (g2 cG (g2 bu (g2 cY (ae 3) (ae 3)) (gC (.int 1442695040888963407))) (ae 2))))) ba) (ar (iA (ae 0) (gC (.int 1)) (g2 bu (g2 az (ae 0) (gC (.int 1))) (gC (.int 1)))) (iA (ae 0) (gC (.int 2)) (ae 3)))))) ba) (ar (aA 4 (g2 cG (g2 az (ae 0) (gC (.int 2))) (ae 1))) (ar (iA (ae 0) (gC (.int 2)) (g2 cn (g2 az (ae 0) (gC (.int 2))) (ae 1))) (bh (ae 4))))))
noncomputable def ah:FD:=bD 3 fX
theorem bX (T:TX P w K mg base):Ok P w K mg base "_law_draw" 1 2 ah:=dr (dq T.f 0 rfl) ["tape","many","prime","cell","found"] bK rfl fun f _ A _ s H E nd hr=>by delta fX;repeat' walk_at "Q"
noncomputable def jd:GS:=(bh (g2 bu (gC (.int 1)) (g2 az (dE (aa (ap 2 ah (aa (ae 0) (aa (aO mT (aa (ae 1) (aa (gC (.int 6)) ag))) ag))) (aa (ap 2 ah (aa (ae 0) (aa (ae 1) ag))) (aa (g2 d0 (ae 1) (gC (.int 1))) ag)))) (g2 cn (g2 cY (ap 2 ah (aa (ae 0) (aa (gC (.int 8)) ag))) (gC (.int 3))) (gC (.int 10))))))
noncomputable def cJ:FD:=bD 0 jd
theorem jS (T:TX P w K mg base):Ok P w K mg base "_law_size" 2 2 cJ:=dr (dq T.f 1 rfl) ["tape","most"] bK rfl fun f _ A _ s H E nd hr=>by have:=bX T;delta jd;repeat' walk_at "Q"
noncomputable def ig:GS:=(ar (aA 2 (g2 az (dE (aa (gC (.int 0)) (aa (ap 2 ah (aa (ae 0) (aa (gC (.int 21)) ag))) ag))) (ap 2 ah (aa (ae 0) (aa (gC (.int 2)) ag))))) (bh (aV (aa (ap 2 cJ (aa (ae 0) (aa (ae 1) ag))) (aa (ap 2 cJ (aa (ae 0) (aa (ae 1) ag))) (aa (ae 2) (aa (ap 2 ah (aa (ae 0) (aa (gC (.int 13)) ag))) ag)))))))
noncomputable def cX:FD:=bD 1 ig
theorem m4 (T:TX P w K mg base):Ok P w K mg base "_law_frame" 3 2 cX:=dr (dq T.f 2 rfl) ["tape","most","gap"] bK rfl fun f _ A _ s H E nd hr=>by have:=bX T;have:=jS T;delta ig;repeat' walk_at "Q"
noncomputable def dN:GE:=(g2 cY (ap 2 ah (aa (ae 1) (aa (gC (.int 16)) ag))) (aO rl (aa (g2 nR (ap 2 ah (aa (ae 1) (aa (ae 3) ag))) (gC (.int 0))) ag)))
noncomputable def iT:GS:=(bh (aO bO (aa (aH (bA (aa (ae 1) ag)) a9 dN aD) ag)))
noncomputable def gz:FD:=bD 0 iT
theorem oT (T:TX P w K mg base):Ok P w K mg base "_law_inks" 2 3 gz:=dr (dq T.f 3 rfl) ["tape","wide","thin"] bK rfl fun f _ A _ s H E nd hr=>by have:=bX T;delta iT dN;repeat' walk_at "Q"
noncomputable def eJ:GE:=(ap 3 gz (aa (ae 1) (aa (ae 3) (aa (ae 4) ag))))
noncomputable def ii:GS:=(ar (aA 2 (ap 2 cJ (aa (ae 0) (aa (ae 1) ag)))) (ar (aA 3 (g2 bu (gC (.int 1)) (ap 2 ah (aa (ae 0) (aa (gC (.int 4)) ag))))) (bh (aO bO (aa (aH (bA (aa (ap 2 cJ (aa (ae 0) (aa (ae 1) ag))) ag)) a9 eJ aD) ag)))))
noncomputable def dF:FD:=bD 2 ii
theorem m5 (T:TX P w K mg base):Ok P w K mg base "_law_inked" 3 2 dF:=dr (dq T.f 4 rfl) ["tape","most","wide","thin"] bK rfl fun f _ A _ s H E nd hr=>by have:=bX T;have:=jS T;have:=oT T;delta ii eJ;repeat' walk_at "Q"
noncomputable def jB:GS:=(bh (g2 az (dE (aa (g2 d0 (ap 2 ah (aa (ae 0) (aa (g2 bu (ae 1) (gC (.int 16))) ag))) (gC (.int 8))) (aa (g2 d0 (ap 2 ah (aa (ae 0) (aa (gC (.int 2001)) ag))) (gC (.int 1000))) ag))) (g2 cn (ap 2 ah (aa (ae 0) (aa (gC (.int 8)) ag))) (gC (.int 7)))))
noncomputable def bv:FD:=bD 0 jB
theorem lJ (T:TX P w K mg base):Ok P w K mg base "_law_far" 2 2 bv:=dr (dq T.f 5 rfl) ["tape","size"] bK rfl fun f _ A _ s H E nd hr=>by have:=bX T;delta jB;repeat' walk_at "Q"
noncomputable def bV:GS:=(ar (aA 3 (gC .non)) (ar (fV (bW (aI (g2 nR (ae 2) (gC (.int 0)))) (aI (g2 nR (ap 2 ah (aa (ae 0) (aa (gC (.int 8)) ag))) (gC (.int 0))))) (aA 3 (ap 2 ah (aa (ae 0) (aa (ae 2) ag)))) ba) (bh (aV (aa (ae 3) (aa (ap 2 bv (aa (ae 0) (aa (g2 az (ae 1) (gC (.int 0))) ag))) (aa (ap 2 bv (aa (ae 0) (aa (g2 az (ae 1) (gC (.int 1))) ag))) (aa (ap 2 ah (aa (ae 0) (aa (gC (.int 4)) ag))) (aa (ap 2 ah (aa (ae 0) (aa (gC (.int 4)) ag))) ag)))))))))
noncomputable def im:FD:=bD 1 bV
theorem ni (T:TX P w K mg base):Ok P w K mg base "_law_mover" 3 3 im:=dr (dq T.f 6 rfl) ["tape","frame","shapes","shape"] bK rfl fun f _ A _ s H E nd hr=>by have:=bX T;have:=lJ T;delta bV;repeat' walk_at "Q"
noncomputable def el:GE:=(ap 2 dF (aa (ae 1) (aa (gC (.int 8)) ag)))
noncomputable def eE:GE:=(ap 3 im (aa (ae 1) (aa (ae 2) (aa (aO bT (aa (ae 7) ag)) ag))))
noncomputable def eG:GE:=(ap 2 ah (aa (ae 1) (aa (gC (.int 64)) ag)))
noncomputable def eW:GS:=(ar (aA 3 (ap 2 dF (aa (ae 0) (aa (gC (.int 16)) ag)))) (ar (aA 4 (aV (aa (ap 2 bv (aa (ae 0) (aa (gC (.int 9)) ag))) (aa (ap 2 bv (aa (ae 0) (aa (gC (.int 9)) ag))) ag)))) (ar (aA 5 (g2 az (dE (aa (ap 2 ah (aa (ae 0) (aa (gC (.int 4)) ag))) (aa (ap 2 ah (aa (ae 0) (aa (gC (.int 9)) ag))) ag))) (g2 cn (ap 2 ah (aa (ae 0) (aa (gC (.int 4)) ag))) (gC (.int 3))))) (ar (aA 6 (aO bO (aa (aH (bA (aa (ae 5) ag)) a9 el aD) ag))) (ar (aA 7 (aO bO (aa (aH (bA (aa (ap 2 ah (aa (ae 0) (aa (g2 bu (ae 2) (gC (.int 1))) ag))) ag)) a9 eE aD) ag))) (bh (aV (aa (ae 3) (aa (ae 4) (aa (ae 6) (aa (ae 7) (aa (aO bO (aa (aH (bA (aa (gC (.int 16)) ag)) a9 eG aD) ag)) ag))))))))))))
noncomputable def dz:FD:=bD 5 eW
theorem mY (T:TX P w K mg base):Ok P w K mg base "_law_stand" 4 3 dz:=dr (dq T.f 7 rfl) ["tape","frame","movers_most","floor","shift","shapes","book","movers"] bK rfl fun f _ A _ s H E nd hr=>by have:=bX T;have:=m5 T;have:=lJ T;have:=ni T;delta eW el eE eG;repeat' walk_at "Q"
noncomputable def cw:GS:=(ar (cu (bF [4,5,6,7,8]) (g2 az (g2 az (ae 0) (gC (.int 3))) (ae 3))) (fV (bW (aI (g2 (lQ true) (ae 4) (gC .non))) (bW (aI (g2 uz (ae 6) (ae 1))) (aI (g2 mW (ae 1) (g2 bu (ae 6) (aO bT (aa (g2 az (g2 az (ae 0) (gC (.int 2))) (ae 4)) ag))))))) (eN (ia (ae 2) (ae 3))) ba))
noncomputable def dG:GS:=(ar (aA 2 (fW ag)) (ar (gN (bA (aa (aO bT (aa (g2 az (ae 0) (gC (.int 3))) ag)) ag)) (bo 3) cw) (bh (ae 2))))
noncomputable def dA:FD:=fun ds M=>fJ M.length (bD 7 dG ds M)
theorem mU (T:TX P w K mg base):Ok P w K mg base "_law_lying" 1 2 dA:=jy (F:=bD 7 dG) <| dr (dq T.f 8 rfl) ["stand","row","found","number","shape","x","y","rank","turn"] bK rfl fun f _ A _ s H E nd hr=>by delta dG cw;repeat' walk_at "Q"
noncomputable def gJ:GE:=(g2 az (g2 az (ae 1) (ae 3)) (g2 d0 (g2 d0 (aO bT (aa (g2 az (ae 1) (ae 3)) ag)) (gC (.int 1))) (ae 0)))
noncomputable def fo:GS:=(ar (fV (aI (g2 (bE false) (g2 cn (ae 1) (gC (.int 2))) (gC (.int 1)))) (aA 2 (g2 d0 (g2 d0 (aO bT (aa (ae 0) ag)) (gC (.int 1))) (ae 2))) ba) (ar (fV (aI (g2 (bE false) (g2 cG (ae 1) (gC (.int 2))) (gC (.int 0)))) (bh (g2 az (ae 0) (ae 2))) ba) (bh (aO bO (aa (aH (bA (aa (aO bT (aa (g2 az (ae 0) (ae 2)) ag)) ag)) a9 gJ aD) ag)))))
noncomputable def fq:FD:=bD 0 fo
theorem ng (T:TX P w K mg base):Ok P w K mg base "_law_strip" 1 3 fq:=dr (dq T.f 9 rfl) ["shape","turn","row"] bK rfl fun f _ A _ s H E nd hr=>by delta fo gJ;repeat' walk_at "Q"
noncomputable def cx:GS:=(ar (cu (bF [8,9,10,11,12]) (g2 az (g2 az (ae 1) (gC (.int 3))) (ae 7))) (eN (ia (ae 6) (aV (aa (ae 7) (aa (ae 9) (aa (ae 11) (aa (ap 3 fq (aa (g2 az (g2 az (ae 1) (gC (.int 2))) (ae 8)) (aa (ae 12) (aa (g2 d0 (ae 2) (ae 10)) ag)))) ag))))))))
noncomputable def en:GE:=(g2 az (ae 6) (g2 cG (g2 bu (ae 0) (g2 az (ae 5) (gC (.int 0)))) (aO bT (aa (ae 6) ag))))
noncomputable def dD:GS:=(ar (cu (bF [3,4]) (tJ (ae 1) de (iK (gC (.int 2))))) (ar (aA 5 (g2 az (ae 3) (g2 cG (g2 bu (ae 2) (g2 az (ae 4) (gC (.int 1)))) (aO bT (aa (ae 3) ag))))) (ar (aA 6 (fW ag)) (ar (gN (cm (tJ (ap 2 dA (aa (ae 1) (aa (ae 2) ag))) de (iK (g2 az (ae 0) (gC (.int 3)))))) (bo 7) cx) (bh (aV (aa (aO bO (aa (aH (bA (aa (g2 az (ae 0) (gC (.int 0))) ag)) a9 en aD) ag)) (aa (aO bO (aa (ae 6) ag)) ag))))))))
noncomputable def iD:FD:=fun ds M=>fJ M.length (bD 10 dD ds M)
theorem nv (T:TX P w K mg base):Ok P w K mg base "_law_taken" 2 3 iD:=jy (F:=bD 10 dD) <| dr (dq T.f 10 rfl) ["frame","stand","row","floor","shift","inks","strips","number","shape","x","y","rank","turn"] bK rfl fun f _ A _ s H E nd hr=>by have:=mU T;have:=ng T;have:=rn 131 18 ["x"] ["frame","stand","row","floor","shift","inks","strips","number","shape","x.","y","rank","turn"];delta dD cx en;repeat' walk_at "Q"
noncomputable def b0:GS:=(fV (bW (aI (g2 uz (ae 4) (ae 1))) (bW (aI (g2 mW (ae 1) (g2 bu (ae 4) (aO bT (aa (ae 6) ag))))) (aI (g2 (bE true) (g2 az (ae 6) (g2 d0 (ae 1) (ae 4))) (gC (.int 0)))))) (eN (ia (ae 2) (aV (aa (ae 5) (aa (g2 d0 (gC (.int 0)) (ae 3)) (aa (g2 az (ae 6) (g2 d0 (ae 1) (ae 4))) ag)))))) ba)
noncomputable def cV:GS:=(ar (aA 2 (fW ag)) (ar (gN (cm (g2 az (ae 0) (gC (.int 1)))) (bF [3,4,5,6]) b0) (bh (ae 2))))
noncomputable def iE:FD:=fun ds M=>fJ M.length (bD 5 cV ds M)
theorem m6 (T:TX P w K mg base):Ok P w K mg base "_law_cover" 1 2 iE:=jy (F:=bD 5 cV) <| dr (dq T.f 11 rfl) ["row_here","x","found","number","left","rank","inks"] bK rfl fun f _ A _ s H E nd hr=>by delta cV b0;repeat' walk_at "Q"
noncomputable def eP:GE:=(ae 0)
noncomputable def dh:GT:=(aI (g2 nR (g2 az (ae 0) (gC (.int 0))) (gC (.int 0))))
noncomputable def dW:GS:=(ar (aA 2 (ap 2 iE (aa (ae 0) (aa (ae 1) ag)))) (ar (aA 3 (aH (cm (ae 2)) dh eP aD)) (ar (fV (aI (g2 (bE true) (ae 3) (dE ag))) (bh (g2 az (aO j8 (aa (ae 3) ag)) (gC (.int 2)))) ba) (ar (fV (gQ (aI (g2 (bE true) (g2 az (g2 az (ae 0) (gC (.int 0))) (ae 1)) (gC (.int 0)))) (aI (g2 (bE false) (ae 2) (dE ag)))) (bh (g2 az (g2 az (ae 0) (gC (.int 0))) (ae 1))) ba) (bh (g2 az (aO j8 (aa (ae 2) ag)) (gC (.int 2))))))))
noncomputable def cF:FD:=bD 2 dW
theorem qq (T:TX P w K mg base):Ok P w K mg base "_law_ink" 2 2 cF:=dr (dq T.f 12 rfl) ["row_here","x","found","above"] bK rfl fun f _ A _ s H E nd hr=>by have:=m6 T;delta dW eP dh;repeat' walk_at "Q"
noncomputable def dP:GE:=(ap 3 iD (aa (ae 1) (aa (ae 2) (aa (ae 0) ag))))
noncomputable def dB:GE:=(ap 2 cF (aa (ae 1) (aa (ae 0) ag)))
noncomputable def cC:GE:=(aH (bA (aa (g2 az (ae 1) (gC (.int 0))) ag)) a9 dB aD)
noncomputable def cT:GS:=(ar (aA 2 (aH (bA (aa (g2 az (ae 0) (gC (.int 1))) ag)) a9 dP aD)) (bh (oj (cm (ae 2)) cC aD)))
noncomputable def cQ:FD:=bD 1 cT
theorem ku (T:TX P w K mg base):Ok P w K mg base "_law_inks_laid" 3 2 cQ:=dr (dq T.f 13 rfl) ["frame","stand","rows"] bK rfl fun f _ A _ s H E nd hr=>by have:=nv T;have:=qq T;delta cT dP dB cC;repeat' walk_at "Q"
noncomputable def cR:GS:=(ar (aA 9 (g2 az (ae 2) (g2 az (g2 az (ae 1) (ae 6)) (ae 8)))) (ar (fV (bW (aI (g2 (lQ true) (ae 3) (gC .non))) (bW (aI (g2 (bE false) (g2 az (g2 az (ae 1) (ae 6)) (ae 8)) (g2 az (ae 3) (gC (.int 0))))) (aI (g2 re (g2 bu (g2 cY (ae 6) (g2 bu (g2 az (ae 0) (gC (.int 0))) (g2 az (ae 0) (gC (.int 2))))) (ae 8)) (ae 4))))) (aA 9 (g2 az (ae 3) (gC (.int 1)))) ba) (eN (ia (ae 7) (ae 9)))))
noncomputable def fA:GS:=(ar (aA 7 (fW ag)) (ar (gN (bA (aa (g2 az (ae 0) (gC (.int 0))) ag)) (bo 8) cR) (eN (ia (ae 5) (ae 7)))))
noncomputable def gj:GS:=(ar (aA 5 (fW ag)) (ar (gN (bA (aa (g2 az (ae 0) (gC (.int 1))) ag)) (bo 6) fA) (bh (ae 5))))
noncomputable def cK:FD:=bD 5 gj
theorem ik (T:TX P w K mg base):Ok P w K mg base "_law_lays" 1 5 cK:=dr (dq T.f 14 rfl) ["frame","inks","pots","deed","tick","found","row","line","x","hue"] bK rfl fun f _ A _ s H E nd hr=>by delta gj cR fA;repeat' walk_at "Q"
noncomputable def lL:GS:=(ar (cu (bF [1,2,3,4]) (ae 0)) (bh (g2 bu (ae 1) (ae 3))))
noncomputable def lK:FD:=bD 4 lL
theorem ot (T:TX P w K mg base):Ok P w K mg base "row_ticks" 1 1 lK:=dr (dq T.f 15 rfl) ["frame","wide","high","gap","most"] bK rfl fun f _ A _ s H E nd hr=>by delta lL;repeat' walk_at "Q"
noncomputable def ij:GS:=(bh (g2 cY (ae 1) (ap 1 lK (aa (ae 0) ag))))
noncomputable def jz:FD:=bD 0 ij
theorem qj (T:TX P w K mg base):Ok P w K mg base "begin_of" 2 2 jz:=dr (dq T.f 16 rfl) ["frame","row"] bK rfl fun f _ A _ s H E nd hr=>by have:=ot T;delta ij;repeat' walk_at "Q"
noncomputable def iy:GS:=(ar (fV (gQ (aI (g2 mW (ae 2) (gC (.int 0)))) (aI (g2 re (ae 2) (aO bT (aa (ae 0) ag))))) (bh (aV ag)) ba) (ar (aA 3 (mv (aI (g2 (jD false) (ae 1) (aV (aa (gC (.int 2)) (aa (gC (.int 3)) ag))))) (g2 az (ae 0) (g2 d0 (g2 d0 (aO bT (aa (ae 0) ag)) (gC (.int 1))) (ae 2))) (g2 az (ae 0) (ae 2)))) (bh (mv (aI (g2 (jD false) (ae 1) (aV (aa (gC (.int 1)) (aa (gC (.int 3)) ag))))) (sF (ae 3)) (ae 3)))))
noncomputable def ie:FD:=bD 1 iy
theorem qZ (T:TX P w K mg base):Ok P w K mg base "strip_of" 1 3 ie:=dr (dq T.f 17 rfl) ["shape","turn","row","strip"] bK rfl fun f _ A _ s H E nd hr=>by delta iy;repeat' walk_at "Q"
noncomputable def d7:GS:=(ar (cu (bF [3,4,5,6,7]) (ae 0)) (ar (cu (bF [8,9,10,11,12]) (g2 az (ae 6) (ae 1))) (bh (aV (aa (ae 1) (aa (ae 9) (aa (ae 11) (aa (ap 3 ie (aa (g2 az (ae 5) (ae 8)) (aa (ae 12) (aa (g2 d0 (ae 2) (ae 10)) ag)))) ag))))))))
noncomputable def gK:FD:=bD 10 d7
theorem mE (T:TX P w K mg base):Ok P w K mg base "strip_taken" 2 3 gK:=dr (dq T.f 18 rfl) ["stand","number","row","floor","shift","book","movers","pots","shape","x","y","rank","turn"] bK rfl fun f _ A _ s H E nd hr=>by have:=qZ T;delta d7;repeat' walk_at "Q"
noncomputable def c0:GE:=(g2 az (ae 14) (g2 cG (g2 bu (ae 0) (ae 9)) (aO bT (aa (ae 14) ag))))
noncomputable def fz:GS:=(ar (cu (bF [3,4,5,6]) (ae 0)) (ar (cu (i5 [(bo 7),(bF [8,9]),(bo 10),(bo 11),(bo 12)]) (ae 1)) (ar (aA 13 (g2 az (ae 7) (g2 cG (g2 bu (ae 2) (ae 9)) (aO bT (aa (ae 7) ag))))) (bh (aO bO (aa (aH (bA (aa (ae 3) ag)) a9 c0 aD) ag))))))
noncomputable def iB:FD:=bD 11 fz
theorem mP (T:TX P w K mg base):Ok P w K mg base "floor_inks" 1 3 iB:=dr (dq T.f 19 rfl) ["frame","stand","row","wide","high","gap","most","floor","across","down","book","movers","pots","inks"] bK rfl fun f _ A _ s H E nd hr=>by delta fz c0;repeat' walk_at "Q"
noncomputable def dj:GS:=(fV (bW (aI (g2 (lQ true) (ae 9) (gC .non))) (aI (uo uz mW (ae 11) (ae 1) (g2 bu (ae 11) (aO bT (aa (g2 az (ae 4) (ae 9)) ag)))))) (eN (ia (ae 7) (ae 8))) ba)
noncomputable def fM:GS:=(ar (cu (bF [2,3,4,5,6]) (ae 0)) (ar (aA 7 (fW ag)) (ar (gN (lF (aa (ae 5) ag)) (i5 [(bo 8),(bF [9,10,11,12,13])]) dj) (bh (ae 7)))))
noncomputable def jK:FD:=fun ds M=>fJ M.length (bD 12 fM ds M)
theorem qQ (T:TX P w K mg base):Ok P w K mg base "lying_on" 1 2 jK:=jy (F:=bD 12 fM) <| dr (dq T.f 20 rfl) ["stand","row","floor","shift","book","movers","pots","told","number","shape","x","y","rank","turn"] bK rfl fun f _ A _ s H E nd hr=>by delta fM dj;repeat' walk_at "Q"
noncomputable def k8:GS:=(ar (cu (bF [3,4,5,6]) (ae 0)) (bh (tJ (ap 2 jK (aa (ae 1) (aa (ae 2) ag))) de (iK (ae 6)))))
noncomputable def je:FD:=bD 4 k8
theorem rF (T:TX P w K mg base):Ok P w K mg base "kept_on" 2 3 je:=dr (dq T.f 21 rfl) ["frame","stand","row","wide","high","gap","most"] bK rfl fun f _ A _ s H E nd hr=>by have:=qQ T;delta k8;repeat' walk_at "Q"
noncomputable def ka:GE:=(ap 3 gK (aa (ae 2) (aa (ae 0) (aa (ae 3) ag))))
noncomputable def o3:GS:=(ar (aA 3 (aH (cm (ap 3 je (aa (ae 0) (aa (ae 1) (aa (ae 2) ag))))) a9 ka aD)) (bh (aV (aa (ap 3 iB (aa (ae 0) (aa (ae 1) (aa (ae 2) ag)))) (aa (aO bO (aa (ae 3) ag)) ag)))))
noncomputable def lZ:FD:=bD 1 o3
theorem v8 (T:TX P w K mg base):Ok P w K mg base "taken" 3 3 lZ:=dr (dq T.f 22 rfl) ["frame","stand","row","strips"] bK rfl fun f _ A _ s H E nd hr=>by have:=mE T;have:=mP T;have:=rF T;delta o3 ka;repeat' walk_at "Q"
noncomputable def bI:GE:=(aV (aa (pq (g2 az (ae 0) (gC (.int 0)))) (aa (g2 az (ae 0) (gC (.int 1))) ag)))
noncomputable def fZ:GS:=(ar (fV (gT (ae 1)) (ar (cu (bF [2,3,4]) (jP (rf 0 bI) (ae 1))) (fV (gQ (aI (g2 re (ae 2) (gC (.int 1)))) (aI (g2 (bE false) (ae 0) (gC (.int 0))))) (bh (ae 4)) ba)) ba) (bh (ae 0)))
noncomputable def dk:FD:=bD 3 fZ
theorem oo (T:TX P w K mg base):Ok P w K mg base "ink_shown" 3 2 dk:=F1 (FS T.l 0 rfl) ["floor_ink","covers","rank","number","ink"] bK rfl fun f _ _ A _ s H E nd tb hr=>by delta fZ bI;repeat' walk_at "Q"
noncomputable def cW:GS:=(fV (bW (aI (uo uz mW (ae 6) (ae 1) (g2 bu (ae 6) (aO bT (aa (ae 8) ag))))) (aI (g2 (bE true) (g2 az (ae 8) (g2 d0 (ae 1) (ae 6))) (gC (.int 0))))) (eN (ia (ae 4) (aV (aa (ae 7) (aa (ae 5) (aa (g2 az (ae 8) (g2 d0 (ae 1) (ae 6))) ag)))))) ba)
noncomputable def eU:GS:=(ar (cu (bF [2,3]) (ae 0)) (ar (aA 4 (fW ag)) (ar (gN (cm (ae 3)) (bF [5,6,7,8]) cW) (bh (ae 4)))))
noncomputable def iZ:FD:=fun ds M=>fJ M.length (bD 7 eU ds M)
theorem n9 (T:TX P w K mg base):Ok P w K mg base "covers_at" 1 2 iZ:=jy (F:=bD 7 eU) <| dr (dq T.f 23 rfl) ["row_taken","x","inks","strips","told","number","left","rank","strip"] bK rfl fun f _ A _ s H E nd hr=>by delta eU cW;repeat' walk_at "Q"
noncomputable def iR:GS:=(ar (cu (bF [2,3]) (ae 0)) (bh (ap 2 dk (aa (g2 az (ae 2) (ae 1)) (aa (ap 2 iZ (aa (ae 0) (aa (ae 1) ag))) ag)))))
noncomputable def fQ:FD:=bD 2 iR
theorem ue (T:TX P w K mg base):Ok P w K mg base "ink_at" 4 2 fQ:=dr (dq T.f 24 rfl) ["row_taken","x","inks","strips"] bK rfl fun f _ A _ s H E nd hr=>by have:=oo T;have:=n9 T;delta iR;repeat' walk_at "Q"
noncomputable def gH:GE:=(ap 3 lZ (aa (ae 1) (aa (ae 2) (aa (ae 0) ag))))
noncomputable def gL:GE:=(ap 2 fQ (aa (ae 1) (aa (ae 0) ag)))
noncomputable def d9:GE:=(aH (bA (aa (ae 3) ag)) a9 gL aD)
noncomputable def fu:GS:=(ar (cu (bF [2,3,4,5]) (ae 0)) (ar (aA 6 (aH (bA (aa (ae 3) ag)) a9 gH aD)) (bh (oj (cm (ae 6)) d9 aD))))
noncomputable def dC:FD:=bD 5 fu
theorem nk (T:TX P w K mg base):Ok P w K mg base "inks_shown" 5 2 dC:=dr (dq T.f 25 rfl) ["frame","stand","wide","high","gap","most","rows"] bK rfl fun f _ A _ s H E nd hr=>by have:=v8 T;have:=ue T;delta fu gH gL d9;repeat' walk_at "Q"
noncomputable def f7:GE:=(aV (aa (g2 bu (ap 2 jz (aa (ae 6) (aa (ae 0) ag))) (ae 3)) (aa (ae 4) (aa (ae 5) ag))))
noncomputable def iC:GS:=(bh (ja (xJ (aa (ap 2 dC (aa (ae 0) (aa (ae 1) ag))) (aa (ae 2) ag))) 6 (i5 [(bo 0),(bF [1,2])]) a9 (xJ (aa (ae 1) (aa (ae 2) ag))) (i5 [(bo 3),(bF [4,5])]) a9 f7 aD))
noncomputable def fN:FD:=bD 0 iC
theorem qt (T:TX P w K mg base):Ok P w K mg base "spots_of" 6 3 fN:=dr (dq T.f 26 rfl) ["frame","stand","picture"] bK rfl fun f _ A _ s H E nd hr=>by have:=qj T;have:=nk T;have:=rn 69 11 ["row","inks","hues","x","ink","hue"] ["frame","stand","picture"];delta iC f7;repeat' walk_at "Q"
noncomputable def fY:GE:=(ae 0)
noncomputable def gf:GT:=(aI (g2 (bE true) (g2 az (ae 0) (gC (.int 2))) (g2 az (ae 8) (g2 az (ae 0) (gC (.int 1))))))
noncomputable def gE:GE:=(g2 bu (g2 az (ae 0) (gC (.int 0))) (gC (.int 1)))
noncomputable def gD:GT:=(bW (aI (g2 (bE false) (g2 az (ae 0) (gC (.int 1))) (ae 12))) (aI (g2 (bE false) (g2 az (ae 0) (gC (.int 2))) (g2 az (ae 8) (ae 12)))))
noncomputable def jb:GE:=(g2 (bE true) (tJ (ae 0) (iK (gC (.int 1))) de) (aV (aa (ae 12) (aa (ae 13) ag))))
noncomputable def hV:GS:=(ar (cu (bF [3,4,5,6,7]) (ae 1)) (ar (aA 8 (ap 3 fN (aa (ae 0) (aa (ae 1) (aa (ae 2) ag))))) (ar (aA 9 (aH (cm (ae 8)) gf fY aD)) (ar (fV (iJ (gT (ae 9))) (bh (aV (aa (gC (.str "same")) ag))) ba) (ar (cu (bF [10,11,12]) (g2 az (ae 9) (gC (.int 0)))) (ar (aA 13 (aO nJ (aa (g2 bu (dE (aa (gC (.int 0)) ag)) (aH (cm (ae 8)) gD gE aD)) ag))) (ar (fV (gQ (aI (g2 nR (ae 13) (ae 10))) (gT (aO u7 (aa (aH (cm (ae 9)) a9 jb aD) ag)))) (bh (aV (aa (gC (.str "none")) ag))) ba) (bh (aV (aa (gC (.str "pot")) (aa (ae 11) (aa (ae 12) (aa (ae 13) (aa (ae 10) ag))))))))))))))
noncomputable def fU:FD:=bD 11 hV
theorem pV (T:TX P w K mg base):Ok P w K mg base "lone_pot" 7 3 fU:=dr (dq T.f 27 rfl) ["frame","stand","picture","floor","shift","book","movers","pots","spots","other","last","ink","hue","first"] bK rfl fun f _ A _ s H E nd hr=>by have:=qt T;delta hV fY gf gE gD jb;repeat' walk_at "Q"
noncomputable def c5:GS:=(fV (bW (aI (g2 (bE true) (g2 az (g2 az (ae 4) (ae 6)) (ae 7)) (g2 az (g2 az (ae 3) (ae 6)) (ae 7)))) (aI (g2 (z8 true) (aV (aa (g2 az (g2 az (ae 1) (ae 6)) (ae 7)) (aa (g2 az (g2 az (ae 3) (ae 6)) (ae 7)) ag))) (ae 5)))) (eN (ia (ae 5) (aV (aa (g2 az (g2 az (ae 1) (ae 6)) (ae 7)) (aa (g2 az (g2 az (ae 3) (ae 6)) (ae 7)) ag))))) ba)
noncomputable def gF:GS:=(gN (bA (aa (g2 az (ae 0) (gC (.int 0))) ag)) (bo 7) c5)
noncomputable def dH:GS:=(ar (aA 4 (ap 5 cK (aa (ae 0) (aa (ae 1) (aa (ae 2) (aa (gC .non) (aa (gC (.int 0)) ag))))))) (ar (aA 5 (fW ag)) (ar (gN (bA (aa (g2 az (ae 0) (gC (.int 1))) ag)) (bo 6) gF) (bh (ae 5)))))
noncomputable def fj:FD:=fun ds M=>fJ M.length (bD 4 dH ds M)
theorem mV (T:TX P w K mg base):Ok P w K mg base "_law_could" 2 4 fj:=jy (F:=bD 4 dH) <| dr (dq T.f 28 rfl) ["frame","inks","pots","picture","base","found","row","x"] bK rfl fun f _ A _ s H E nd hr=>by have:=ik T;delta dH c5 gF;repeat' walk_at "Q"
noncomputable def iQ:GE:=(ae 0)
noncomputable def iS:GT:=(aI (g2 (vn false) (ap 5 cK (aa (ae 1) (aa (ae 2) (aa (ae 3) (aa (g2 az (ae 5) (gC (.int 0))) (aa (ae 0) ag)))))) (ae 4)))
noncomputable def dY:GS:=(ar (aA 4 (ap 4 fj (aa (ae 0) (aa (ae 1) (aa (ae 2) (aa (ae 3) ag)))))) (ar (fV (aI (g2 (bE false) (ae 4) (dE ag))) (bh (aV (aa (gC (.str "same")) ag))) ba) (ar (fV (aI (g2 nR (aO bT (aa (ae 4) ag)) (gC (.int 1)))) (bh (aV (aa (gC (.str "none")) ag))) ba) (ar (aA 5 (g2 cY (g2 az (ae 0) (gC (.int 1))) (g2 bu (g2 az (ae 0) (gC (.int 0))) (g2 az (ae 0) (gC (.int 2)))))) (ar (aA 6 (aH (bA (aa (ae 5) ag)) iS iQ aD)) (ar (fV (aI (g2 (bE false) (ae 6) (dE ag))) (bh (aV (aa (gC (.str "none")) ag))) ba) (bh (g2 bu (g2 bu (aV (aa (gC (.str "pot")) ag)) (g2 az (ae 4) (gC (.int 0)))) (aV (aa (g2 az (ae 6) (gC (.int 0))) (aa (g2 az (ae 6) (pq (gC (.int 1)))) ag)))))))))))
noncomputable def iH:FD:=fun ds M=>fJ M.length (bD 3 dY ds M)
theorem pF (T:TX P w K mg base):Ok P w K mg base "_law_due" 3 4 iH:=jy (F:=bD 3 dY) <| dr (dq T.f 29 rfl) ["frame","inks","pots","picture","some","total","good"] bK rfl fun f _ A _ s H E nd hr=>by have:=ik T;have:=mV T;delta dY iQ iS;repeat' walk_at "Q"
noncomputable def kY:GE:=(aO jv (aa (ae 0) ag))
noncomputable def jL:GE:=(jQ "bool" (ae 0))
noncomputable def o8:GS:=(ar (cu (bF [3,4,5,6]) (ap 2 cX (aa (ae 1) (aa (gC (.int 10)) ag)))) (ar (aA 7 (aV (aa (ae 3) (aa (ae 4) (aa (aO mT (aa (ae 5) (aa (gC (.int 5)) ag))) (aa (ae 6) ag)))))) (ar (aA 8 (ap 3 dz (aa (ae 1) (aa (ae 7) (aa (gC (.int 4)) ag))))) (ar (aA 9 (ap 2 cQ (aa (ae 7) (aa (ae 8) ag)))) (ar (aA 10 (ap 2 ah (aa (ae 1) (aa (ae 4) ag)))) (ar (aA 11 (ap 2 ah (aa (ae 1) (aa (ae 3) ag)))) (ar (aA 12 (g2 az (dE (aa (g2 az (g2 az (ae 9) (ae 10)) (ae 11)) (aa (ap 2 ah (aa (ae 1) (aa (gC (.int 16)) ag))) ag))) (g2 cn (ap 2 ah (aa (ae 1) (aa (gC (.int 5)) ag))) (gC (.int 4))))) (ar (aA 13 (g2 az (dE (aa (aV (aa (ae 12) (aa (ap 2 ah (aa (ae 1) (aa (gC (.int 64)) ag))) ag))) (aa (gC .non) ag))) (g2 cn (ap 2 ah (aa (ae 1) (aa (gC (.int 6)) ag))) (gC (.int 5))))) (ar (aA 14 (ap 5 cK (aa (ae 7) (aa (ae 9) (aa (g2 az (ae 8) (gC (.int 4))) (aa (ae 13) (aa (ap 2 ah (aa (ae 1) (aa (g2 cY (ae 4) (g2 bu (ae 3) (g2 az (ae 7) (gC (.int 2))))) ag))) ag))))))) (ar (fV (aI (g2 (bE false) (ap 2 ah (aa (ae 1) (aa (gC (.int 4)) ag))) (gC (.int 0)))) (iA (g2 az (ae 14) (ap 2 ah (aa (ae 1) (aa (ae 4) ag)))) (ap 2 ah (aa (ae 1) (aa (ae 3) ag))) (g2 az (dE (aa (ap 2 ah (aa (ae 1) (aa (gC (.int 64)) ag))) (aa (g2 az (g2 az (ae 8) (gC (.int 4))) (ae 12)) ag))) (g2 cG (ae 2) (gC (.int 2))))) ba) (ar (aA 15 (aH (cm (ae 14)) a9 kY aD)) (ar (aA 16 (ap 3 fU (aa (ae 7) (aa (ae 8) (aa (ae 15) ag))))) (ar (fV (gQ (iJ (gT (jQ "tuple" (ae 16)))) (gQ (aI (g2 (bE true) (ae 16) (ap 4 iH (aa (ae 7) (aa (ae 9) (aa (g2 az (ae 8) (gC (.int 4))) (aa (ae 14) ag))))))) (aI (g2 (vn true) (ae 15) (ae 14))))) (bh (gC (.bl false))) ba) (fV (aI (g2 (jD false) (gC (.bl true)) (aH (cm (ae 16)) a9 jL aD))) (bh (gC (.bl false))) ba))))))))))))))
noncomputable def sR:GS:=(ar (aA 1 (fW (aa (aO jv (aa (ae 0) ag)) (aa (gC (.int 0)) (aa (gC (.int 0)) ag))))) (ar (gN (bA (aa (gC (.int 4)) ag)) (bo 2) o8) (bh (gC (.bl true)))))
noncomputable def tj:FD:=bD 16 sR
theorem Ba (T:TX P w K mg base){f:Addr}{fd:FuncData}(F:Fn K mg "law" zW f fd ["script"]):eM P w K mg base (gP P w) 8 f fd ["script"] (nl K 1 tj):=DE F.F (N:=["script","tape","turn","wide","high","gap","kept","frame","stand","inks","row","x","shown","deed","picture","handed","found"]) bK rfl fun _ A _ s H E hr=>by
 have nd:(["script","tape","turn","wide","high","gap","kept","frame","stand","inks","row","x","shown","deed","picture","handed","found"]:List Str).Nodup:=by decide +kernel
 have:=bX T;have:=m4 T;have:=mY T;have:=ku T;have:=ik T;have:=pV T;have:=pF T;delta sR kY jL o8;repeat' walk_at "Q"
end
end K37
section
open PySem PySem.W PyProof.Rows
noncomputable abbrev K37.VV:Program:=(view PySem.Challenge.pw_glowrow_k37_whole_lone_pots [1,2,4,6,7,8,9,10,11,12,13,15,16,17,19,20,21,22,23,24,25,26,27,28,29,30,31,32,33,34,35,36])
set_option maxHeartbeats 0 in
theorem K37.h1:∀(w:World) (os:OsState),(Hd.RT (OpenLaw.row PySem.Challenge.rw_glowrow_k37_whole_lone_pots).prog w 2178 os).map (fun s=>Hd.pA (OpenLaw.row PySem.Challenge.rw_glowrow_k37_whole_lone_pots).prog w.params s.abs&&Hd.pB K37.VV (importedModules (OpenLaw.row PySem.Challenge.rw_glowrow_k37_whole_lone_pots).prog.main.body) (fun s=>xlAt K37.VV [] s&&recOk (RowW.records (OpenRow.toRowW (OpenLaw.row PySem.Challenge.rw_glowrow_k37_whole_lone_pots))) s) s.abs)=some true:=by
 intro w os;unfold Hd.RT;rw[W.Fast.te15732481512506401174,W.Fast.te2530740449226627131,W.Fast.te13930993214811372802];kernel_rfl
set_option maxHeartbeats 0 in
theorem K37.h2:∀(w:World) (os:OsState),(Hd.RT (OpenLaw.row PySem.Challenge.rw_glowrow_k37_whole_lone_pots).prog w 2178 os).map (fun s=>Hd.pC K37.VV s.abs)=some (expectedOf K37.VV,bltViewBooted,wideGood K37.VV):=by
 intro w os;unfold Hd.RT;rw[W.Fast.te15732481512506401174,W.Fast.te2530740449226627131,W.Fast.te7338995916957470747];kernel_rfl
set_option maxHeartbeats 0 in
theorem K37.h3:∀(w:World) (os:OsState),(Hd.RT (OpenLaw.row PySem.Challenge.rw_glowrow_k37_whole_lone_pots).prog w 2178 os).map (fun s=>Hd.pD K37.VV s.abs)=some (pinGoodD (drecsOf K37.VV),plainGoodE K37.VV (looseW K37.VV []),plainGoodD K37.VV [],clsGoodW K37.VV []):=by
 intro w os;unfold Hd.RT;rw[W.Fast.te15732481512506401174,W.Fast.te2530740449226627131,W.Fast.te4913325751328045840];kernel_rfl
local macro_rules | `(tactic| o_head $H) => `(tactic| (
 refine holds_open (q:=K37.VV) (loose:=[]) (Xt:=(fun s=>xlAt K37.VV [] s&&recOk (RowW.records (OpenRow.toRowW (OpenLaw.row PySem.Challenge.rw_glowrow_k37_whole_lone_pots))) s)) (XP:=XL K37.VV []) (Yf:=Hook.obs $H) (Ya:=Hook.val $H) (YP:=Hook.says $H) (N:=2178) ?hl (Hook.of $H) (Hook.keeps $H) (fun s e=>xl_of s (Bool.and_eq_true_iff.mp e).1) XL.keeps (by rfl) (by rfl) (by rfl) (fun s e=>recFacts_of (Bool.and_eq_true_iff.mp e).2) (by rfl) (by first|assumption|decide +kernel) (by decide +kernel) ⟨rfl,rfl,rfl,rfl,rfl,by decide +kernel⟩ ?hw ?hc;
 (case hl=>
  refine Hd.left_km (boot_open (by kernel_rfl) rfl (fun s=>by kernel_rfl)) (fun w=>by kernel_rfl) K37.h1 K37.h2 K37.h3 ?_;intro w os;unfold Hd.RT;rw[W.Fast.te15732481512506401174,W.Fast.te2530740449226627131];kernel_rfl)))
set_option hygiene false
local macro_rules | `(tactic| walk_at "us") => `(tactic| first | rfl | (exfalso; simp at hl; done) | (cases us with | nil => (first | rfl | cases hl) | cons _ us => walk_at "us"))
local macro_rules | `(tactic| walk_at "kc") => `(tactic| refine' DL.kc_mk KX G ?y0 ?y1 ?y2 ?y3 ?y4 ?y5 ?y6; (case y0 => k_is); (case y1 => k_is); (case y2 => k_is); (case y3 => k_is); (case y4 => k_is); (case y5 => k_is); (case y6 => k_is))
local macro_rules | `(tactic| walk_at "ec") => `(tactic| refine' DL.ec_mk KX G ?w0 ?w1 ?w2 ?w3 ?w4 ?w5 ?w6 ?w7 ?w8 ?w9 ?w10 ?w11; (case w0 => k_is); (case w1 => k_is); (case w2 => k_is); (case w3 => k_is); (case w4 => k_is); (case w5 => k_is); (case w6 => k_is); (case w7 => k_is); (case w8 => k_is); (case w9 => k_exc); (case w10 => k_is); (case w11 => k_is))
local macro_rules | `(tactic| walk_at "ff") => `(tactic| (refine' DL.DG KX G ?x0 ?x1 ?x2 ?x3 ?x4; (case x0 => k_is); (case x1 => k_is); (case x2 => k_is); (case x3 => k_is); (case x4 => (intro _ _ _ _ _ _ us hl; walk_at "us"))))
local macro_rules | `(tactic| walk_at "mf") => `(tactic| (refine' DL.mf_mk ?x0 ?x1 ?x2 ?x3 ?x4 ?x5 ?x6; (case x0 => walk_at "kc"); (case x1 => k_is); (case x2 => k_is); (case x3 => k_is); (case x4 => k_is); (case x5 => k_is); (case x6 => (intro _ _ _ _ _ _ us hl; walk_at "us"))))
local macro_rules | `(tactic| walk_at "im") => `(tactic| (refine' DL.im_mk ?v0 ?v1; (case v0 => walk_at "ec"); (case v1 => k_is)))
local macro_rules | `(tactic| walk_at "lf") => `(tactic| (refine' DL.DD KX G ?x0 ?x1 ?x2 ?x3 ?x4 ?x5 ?x6 ?x7 ?x8 ?x9 ?x10 ?x11 ?x12 ?x13 ?x14; (case x0 => k_is); (case x1 => k_is); (case x2 => k_is); (case x3 => k_is); (case x4 => k_is); (case x5 => rfl); (case x6 => rfl); (case x7 => rfl); (case x8 => rfl); (case x9 => rfl); (case x10 => rfl); (case x11 => decide); (case x12 => decide); (case x13 => (refine DL.pL (fun z => absurd rfl z) (fun _ => ?y_table_within) (fun _ => ?y_slots_given) (fun _ => ?y_cast_on_slots); (case y_table_within => k_is); (case y_slots_given => k_is); (case y_cast_on_slots => k_is))); (case x14 => (intro _ _ _ _ _ _ us hl; walk_at "us"))))
set_option maxRecDepth 100000 in
set_option maxHeartbeats 0 in
theorem K37.pre (ht:∀ns:List Int,ns.length≤63→∃M',K37.tj [.ro (ns.map DL.D.int)] []=.ok (.bl true) M'):PySem.Challenge.rw_glowrow_k37_whole_lone_pots.Holds:=by
 w_on;o_law;k_head;(case hw=>w_witness2)
 k_fill
 refine DL.yl (l:=PySem.Challenge.rw_glowrow_k37_whole_lone_pots) (n:=63) (k:=8) (x:="script") (F:=K37.tj) rfl (by decide) rfl ⟨rfl,by decide,by decide⟩ (fun w h Y=>W.km_in_of Y) ?F ?T ht
 case F=>
  intro w mg fa h KX G hmg;refine DL.BV (st:=K37.zW) hmg ?L (fun base f fd L=>K37.Ba ?TT L) (fun _ _ _ _ _ _ _=>rfl)
  (case TT=>
   refine DL.Tx.mk ?q0 ?q1 ?q2 ?q3 ?q4 ?q5 ?q6 ?q7 ?q8 ?q9
   (case q0=>((repeat (refine' DL.Ls.cons ?x ?_;(case x=>(walk_at "ff"))));exact DL.Ls.nil))
   (case q1=>((repeat (refine' DL.Ls.cons ?x ?_;(case x=>(walk_at "mf"))));exact DL.Ls.nil))
   (case q2=>((repeat (refine' DL.Ls.cons ?x ?_;(case x=>(walk_at "lf"))));exact DL.Ls.nil))
   (case q3=>((repeat (refine' DL.Ls.cons ?x ?_;(case x=>(refine' DL.Gk KX G ?x0;(case x0=>k_is)))));exact DL.Ls.nil))
   (case q4=>((repeat (refine' DL.Ls.cons ?x ?_;(case x=>(refine' DL.Eh ?x0;(case x0=>walk_at "ec")))));exact DL.Ls.nil))
   (case q5=>((repeat (refine' DL.Ls.cons ?x ?_;(case x=>(refine' DL.C3 ?u0 ?u1;(case u0=>walk_at "ec");(case u1=>((repeat (refine' DL.Ls.cons ?u2 ?_;(case u2=>walk_at "im")));exact DL.Ls.nil))))));exact DL.Ls.nil))
   (case q6=>((repeat (refine' DL.Ls.cons ?x ?_;(case x=>(walk_at "im"))));exact DL.Ls.nil))
   (case q7=>((repeat (refine' DL.Ls.cons ?x ?_;(case x=>(refine' DL.Em ?x0 ?x1;(case x0=>walk_at "kc");(case x1=>k_is)))));exact DL.Ls.nil))
   (case q8=>((repeat (refine' DL.Ls.cons ?x ?_;(case x=>(refine' DL.DR (u:=PySem.Value.str _) KX G ?x0;(case x0=>k_is)))));exact DL.Ls.nil))
   (case q9=>((repeat (refine' DL.Ls.cons ?x ?_;(case x=>(refine' DL.DR (u:=PySem.Value.int _) KX G ?x0;(case x0=>k_is)))));exact DL.Ls.nil)))
  (case L=>walk_at "ff")
 case T=>
  intro w;refine' DL.yR (DL.uS (x:="ink_shown") ?qD (DL.AI ?oH ?o4 ?oX ?oy ?oR) ?qU DL.wD) (DL.pL (.inr ⟨_,.head _,rfl⟩) (.inl ?e_table_within) (.inl ?e_slots_given) (.inl ?e_cast_on_slots)) ?bm ?bl
  (case qD=>rfl)
  (case oH=>k_is)
  (case o4=>k_is)
  (case oX=>rfl)
  (case oy=>k_is)
  (case oR=>rfl)
  (case qU=>kernel_rfl)
  (case e_table_within=>k_is)
  (case e_slots_given=>k_is)
  (case e_cast_on_slots=>k_is)
  (case bm=>k_is)
  (case bl=>kernel_rfl)
end
namespace K37
open PySem PySem.Spec PyProof.Rows L2 DL List
local macro_rules | `(tactic| simp_arith [$args,*] $[$loc]?) => `(tactic| first | (dsimp only [aM.bind, ar, aA, fV, bh, iA, eN, ba, cu, ae, gC, DL.g2, ap, aO, aa, ag, aI, EG, gT, zl, gQ, bW, iJ, mv, aV, dE, fW, mq, aD, cL, pq, sF, uo, jQ, Fm, rT, aE, bD, i8, qW, bu, d0, cY, cn, cG, mR, mW, uz, nR, re, az, aU, bT, mT, rj, rl, jv, bO, Bi, cm, tD, bA, bo, bF, kI, iK, de, tJ, mL, jD, i3, lQ, CW, a9, pM, ia, li, zr, sn, i5, iO, lF, wt, jP, kZ, rf, j8] $[$loc]?; simp [ar, aA, fV, bh, iA, eN, ba, cu, ae, gC, DL.g2, ap, aO, aa, ag, aI, EG, gT, zl, gQ, bW, iJ, mv, aV, dE, fW, mq, aD, cL, pq, sF, uo, jQ, Fm, rT, aE, bD, i8, qW, bu, d0, cY, cn, cG, mR, mW, uz, nR, re, az, aU, bT, mT, rj, rl, jv, bO, Bi, cm, tD, bA, bo, bF, kI, iK, de, tJ, mL, jD, i3, lQ, CW, a9, pM, ia, li, zr, sn, i5, iO, lF, wt, jP, kZ, rf, j8, $args,*] $[$loc]?) | simp [ar, aA, fV, bh, iA, eN, ba, cu, ae, gC, DL.g2, ap, aO, aa, ag, aI, EG, gT, zl, gQ, bW, iJ, mv, aV, dE, fW, mq, aD, cL, pq, sF, uo, jQ, Fm, rT, aE, bD, i8, qW, bu, d0, cY, cn, cG, mR, mW, uz, nR, re, az, aU, bT, mT, rj, rl, jv, bO, Bi, cm, tD, bA, bo, bF, kI, iK, de, tJ, mL, jD, i3, lQ, CW, a9, pM, ia, li, zr, sn, i5, iO, lF, wt, jP, kZ, rf, j8, $args,*] $[$loc]?)
noncomputable def tp (l:List Int)(i c:Int):MO:=.lst [.lst (l.map D.int),.int i,.int c]
noncomputable def cp (l:List Int)(rest:aw)(M:aw):Prop:=∃i c,0≤i∧M=tp l i c::rest
theorem vH {l:List Int}{k:Int}(h0:0≤k)(h1:k<l.length):∃v,jW (l.map D.int) k=some (.int v):=by
 obtain⟨n,rfl⟩:=Int.eq_ofNat_of_zero_le h0;have hn:n<l.length:=by omega
 exact⟨l[n],jg (by simp[hn])⟩
noncomputable def FL:GS:=ar (aA 4 (g2 cG (g2 az (ae 0) (gC (.int 2))) (ae 1))) (ar (iA (ae 0) (gC (.int 2)) (g2 cn (g2 az (ae 0) (gC (.int 2))) (ae 1))) (bh (ae 4)))
noncomputable def Fk:GS:=ar (aA 3 (g2 cG (g2 bu (ae 3) (g2 cY (gC (.int 1000003)) (g2 az (ae 0) (gC (.int 1))))) (ae 2))) (ar (aA 3 (g2 cG (g2 bu (g2 bu (g2 cY (ae 3) (ae 3)) (g2 cY (gC (.int 1181783497276652981)) (ae 3))) (gC (.int 2049848353892358983))) (ae 2))) (aA 3 (g2 cG (g2 bu (g2 cY (ae 3) (ae 3)) (gC (.int 1442695040888963407))) (ae 2))))
noncomputable def FE:GS:=fV (aI (g2 nR (aO bT (aa (g2 az (ae 0) (gC (.int 0))) ag)) (gC (.int 0)))) (aA 3 (g2 az (g2 az (ae 0) (gC (.int 0))) (g2 cG (g2 az (ae 0) (gC (.int 1))) (aO bT (aa (g2 az (ae 0) (gC (.int 0))) ag))))) ba
noncomputable def GB:GT:=gQ (aI (g2 re (g2 az (ae 0) (gC (.int 1))) (aO bT (aa (g2 az (ae 0) (gC (.int 0))) ag)))) (aI (g2 mW (ae 3) (g2 mR (gC (.int 10)) (gC (.int 18)))))
noncomputable def FJ:GS:=ar (aA 3 (gC (.int 0))) (ar FE (ar (fV GB Fk ba) (ar (iA (ae 0) (gC (.int 1)) (g2 bu (g2 az (ae 0) (gC (.int 1))) (gC (.int 1)))) (iA (ae 0) (gC (.int 2)) (ae 3)))))
theorem EA (ρ:bj)(M:aw):fX ρ M=ar (aA 2 (gC (.int 2305843009213693951))) (ar (fV (aI (g2 mW (g2 az (ae 0) (gC (.int 2))) (ae 1))) FJ ba) FL) ρ M:=rfl
theorem ft {i j:Int}(h:0<j)(M:aw):cG (.int i) (.int j) M=.ok (.int (i % j)) M:=by
 unfold cG;dsimp only;rw[if_pos h]
theorem lV {i j:Int}(h:-18446744073709551616<i∧i<18446744073709551616)(M:aw):cY (.int i) (.int j) M=.ok (.int (i*j)) M:=by
 unfold cY;dsimp only;rw[if_pos (.inl ⟨Int.lt_of_le_of_lt (by decide) h.1,Int.lt_of_lt_of_le h.2 (by decide)⟩)]
theorem pe {go gi g:GE}{ρ:bj}{M M1:aw}{x:D}(h:g ρ M=.ok x M)(h2:(go ρ M).bind (fun o M2=>(gi ρ M2).bind fun i M3=>(qW o i x M3).bind fun _ M4=>.ok (Fl.nx ρ) M4)=.ok (Fl.nx ρ) M1):iA go gi g ρ M=.ok (.nx ρ) M1:=by
 unfold iA;rw[h,ao,h2]
theorem bq {l:List Int}{rest M:aw}{many:Int}(hm:0<many)(hlog:many.natAbs.log2<9000)(h:cp l rest M) :
  ∃f M',0≤f∧f<many∧cp l rest M'∧ah [.mr 0,.int many] M=.ok (.int f) M':=by
 obtain⟨i,c,hi,rfl⟩:=h;have i0:∀(i c:Int) (x1 x2 x3 x4:Option D),g2 az (ae 0) (gC (.int 0)) [some (.mr 0),x1,x2,x3,x4] (tp l i c::rest)=.ok (.lst (l.map D.int)) (tp l i c::rest):=fun _ _ _ _ _ _=>rfl
 have i1:∀(i c:Int) (x1 x2 x3 x4:Option D),g2 az (ae 0) (gC (.int 1)) [some (.mr 0),x1,x2,x3,x4] (tp l i c::rest)=.ok (.int i) (tp l i c::rest):=fun _ _ _ _ _ _=>rfl
 have i2:∀(i c:Int) (x1 x2 x3 x4:Option D),g2 az (ae 0) (gC (.int 2)) [some (.mr 0),x1,x2,x3,x4] (tp l i c::rest)=.ok (.int c) (tp l i c::rest):=fun _ _ _ _ _ _=>rfl
 have ln:∀(i c:Int) (x1 x2 x3 x4:Option D),aO bT (aa (g2 az (ae 0) (gC (.int 0))) ag) [some (.mr 0),x1,x2,x3,x4] (tp l i c::rest)=.ok (.int (l.length:Int)) (tp l i c::rest):=fun i c x1 x2 x3 x4=>by
  refine iF (i0 i c x1 x2 x3 x4) ?_;show aM.ok (D.int ((l.map D.int).length:Int)) _=_;rw[length_map]
 have tail:∀(c i:Int) (x2 x3 x4:Option D),0≤i→∃f M',0≤f∧f<many∧cp l rest M'∧aE (FL [some (.mr 0),some (.int many),x2,x3,x4] (tp l i c::rest))=.ok (.int f) M':=fun c i x2 x3 x4 hi=>by
  refine⟨c % many,tp l i (c / many)::rest,Int.emod_nonneg _ (by omega),Int.emod_lt_of_pos _ hm,⟨i,c / many,hi,rfl⟩,?_⟩;unfold FL;rw[ax (aF (am (i2 i c (some (.int many)) x2 x3 x4) rfl (ft hm _)))];have fd:cn (.int c) (.int many) (tp l i c::rest)=.ok (.int (c / many)) (tp l i c::rest):=by
   unfold cn;dsimp only;rw[if_pos ⟨hm,hlog⟩]
  have k:iA (ae 0) (gC (.int 2)) (g2 cn (g2 az (ae 0) (gC (.int 2))) (ae 1)) [some (.mr 0),some (.int many),x2,x3,some (.int (c % many))] (tp l i c::rest)=.ok (.nx [some (.mr 0),some (.int many),x2,x3,some (.int (c % many))]) (tp l i (c / many)::rest):=
   pe (am (i2 i c (some (.int many)) x2 x3 _) rfl fd) rfl
  exact(congrArg aE (ax k)).trans rfl
 show∃f M',_∧_∧_∧aE (fX [some (.mr 0),some (.int many),none,none,none] (tp l i c::rest))=_;rw[EA];have e0:∀b:GS,ar (aA 2 (gC (.int 2305843009213693951))) b [some (.mr 0),some (.int many),none,none,none] (tp l i c::rest)=b [some (.mr 0),some (.int many),some (.int 2305843009213693951),none,none] (tp l i c::rest):=fun b=>ax rfl
 rw[e0];have tst:aI (g2 mW (g2 az (ae 0) (gC (.int 2))) (ae 1)) [some (.mr 0),some (.int many),some (.int 2305843009213693951),none,none] (tp l i c::rest)=.ok (decide (c<many)) (tp l i c::rest):=aP (am (i2 i c _ _ _ _) rfl rfl)
 by_cases h1:c<many
 ·rw[decide_eq_true h1] at tst;obtain⟨v,ev⟩:∃v:Int,FE [some (.mr 0),some (.int many),some (.int 2305843009213693951),some (.int 0),none] (tp l i c::rest)=.ok (.nx [some (.mr 0),some (.int many),some (.int 2305843009213693951),some (.int v),none]) (tp l i c::rest):=by
   unfold FE;have t0:aI (g2 nR (aO bT (aa (g2 az (ae 0) (gC (.int 0))) ag)) (gC (.int 0))) [some (.mr 0),some (.int many),some (.int 2305843009213693951),some (.int 0),none] (tp l i c::rest)=.ok (decide ((l.length:Int)>0)) (tp l i c::rest):=aP (am (ln i c _ _ _ _) rfl rfl)
   by_cases hl:(l.length:Int)>0
   ·rw[decide_eq_true hl] at t0;obtain⟨v,hv⟩:=vH (l:=l) (Int.emod_nonneg _ (by omega)) (Int.emod_lt_of_pos _ hl);refine⟨v,(iz t0).trans (aF (am (f:=az) (i0 i c _ _ _ _) (am (i1 i c _ _ _ _) (ln i c _ _ _ _) (ft hl _)) ?_))⟩;show(match jW (l.map D.int) (i % (l.length:Int)) with|some d=>aM.ok d (tp l i c::rest)|none=>.bad)=_;rw[hv]
   ·rw[decide_eq_false hl] at t0;exact⟨0,(fm t0).trans rfl⟩
  have bd:∀x:Int,-18446744073709551616<x % 2305843009213693951∧x % 2305843009213693951<18446744073709551616:=fun x=>by
   have h0:=Int.emod_nonneg x (show(2305843009213693951:Int)≠0 by decide);have h1:=Int.emod_lt_of_pos x (show(0:Int)<2305843009213693951 by decide);omega
  have md:∀x:Int,∀M,cG (.int x) (.int 2305843009213693951) M=.ok (.int (x % 2305843009213693951)) M:=fun x M=>ft (by decide) M
  obtain⟨u,eu⟩:∃u:Int,fV GB Fk ba [some (.mr 0),some (.int many),some (.int 2305843009213693951),some (.int v),none] (tp l i c::rest)=.ok (.nx [some (.mr 0),some (.int many),some (.int 2305843009213693951),some (.int u),none]) (tp l i c::rest):=by
   have po:∀ρ,g2 mR (gC (.int 10)) (gC (.int 18)) ρ (tp l i c::rest)=.ok (.int (10 ^ 18)) (tp l i c::rest):=fun ρ=>by
    refine am rfl rfl ?_;unfold mR;dsimp only;rw[if_pos (by decide)];rfl
   have to:=kT (aP (am (f:=re) (i1 i c (some (.int many)) (some (.int 2305843009213693951)) (some (.int v)) none) (ln i c _ _ _ _) rfl)) fun _=>aP (am (f:=mW) (a:=ae 3) rfl (po _) rfl)
   generalize (decide (i≥(l.length:Int))||decide (v<10 ^ 18))=b at to;cases b with
   | false=>exact⟨v,(fm to).trans rfl⟩
   | true=>
    suffices hs:∃u:Int,Fk [some (.mr 0),some (.int many),some (.int 2305843009213693951),some (.int v),none] (tp l i c::rest)=.ok (.nx [some (.mr 0),some (.int many),some (.int 2305843009213693951),some (.int u),none]) (tp l i c::rest) from hs.elim fun u e=>⟨u,(iz to).trans e⟩
    unfold Fk;rw[ax (aF (am (am (f:=bu) (a:=ae 3) rfl (am (f:=cY) (a:=gC (.int 1000003)) rfl (i1 i c _ _ _ _) (lV (by decide) _)) rfl) rfl (md _ _)))];generalize hz:(v+1000003*i) % 2305843009213693951=z;have bz:=hz▸bd (v+1000003*i);have k2:aA 3 (g2 cG (g2 bu (g2 bu (g2 cY (ae 3) (ae 3)) (g2 cY (gC (.int 1181783497276652981)) (ae 3))) (gC (.int 2049848353892358983))) (ae 2)) [some (.mr 0),some (.int many),some (.int 2305843009213693951),some (.int z),none] (tp l i c::rest)=.ok (.nx [some (.mr 0),some (.int many),some (.int 2305843009213693951),some (.int ((z*z+1181783497276652981*z+2049848353892358983) % 2305843009213693951)),none]) (tp l i c::rest):=
     aF (am (am (f:=bu) (am (f:=bu) (am (f:=cY) (a:=ae 3) rfl rfl (lV bz _)) (am (f:=cY) (a:=gC (.int 1181783497276652981)) rfl rfl (lV (by decide) _)) rfl) rfl rfl) rfl (md _ _))
    refine Exists.imp (fun u e=>(ax k2).trans e) ?_;generalize hy:(z*z+1181783497276652981*z+2049848353892358983) % 2305843009213693951=y;have byy:=hy▸bd (z*z+1181783497276652981*z+2049848353892358983);exact⟨_,aF (am (am (f:=bu) (am (f:=cY) (a:=ae 3) rfl rfl (lV byy _)) rfl rfl) rfl (md _ _))⟩
  have kb:FJ [some (.mr 0),some (.int many),some (.int 2305843009213693951),none,none] (tp l i c::rest)=.ok (.nx [some (.mr 0),some (.int many),some (.int 2305843009213693951),some (.int u),none]) (tp l (i+1) u::rest):=by
   unfold FJ;have e3:∀b:GS,ar (aA 3 (gC (.int 0))) b [some (.mr 0),some (.int many),some (.int 2305843009213693951),none,none] (tp l i c::rest)=b [some (.mr 0),some (.int many),some (.int 2305843009213693951),some (.int 0),none] (tp l i c::rest):=fun b=>ax rfl
   rw[e3,ax ev,ax eu];have k1:iA (ae 0) (gC (.int 1)) (g2 bu (g2 az (ae 0) (gC (.int 1))) (gC (.int 1))) [some (.mr 0),some (.int many),some (.int 2305843009213693951),some (.int u),none] (tp l i c::rest)=.ok (.nx [some (.mr 0),some (.int many),some (.int 2305843009213693951),some (.int u),none]) (tp l (i+1) c::rest):=
    pe (am (i1 i c _ _ _ _) rfl rfl) rfl
   rw[ax k1];exact pe rfl rfl
  rw[ax ((iz tst).trans kb)];exact tail u (i+1) _ _ _ (by omega)
 ·rw[decide_eq_false h1] at tst;rw[ax ((fm tst).trans rfl)];exact tail c i _ _ _ hi
theorem aC {x:Int}(h0:0<x)(h1:x≤1000000):x.natAbs.log2<9000:=by
 have h2:x.natAbs<2 ^ 20:=by omega
 have h3:x.natAbs≠0:=by omega
 have:=(Nat.log2_lt h3).mpr h2;omega
theorem l6 {l:List Int}{rest M:aw}{most:Int}(hm:1≤most)(hm2:most≤1000)(h:cp l rest M) :
  ∃f M',1≤f∧f≤most∧cp l rest M'∧cJ [.mr 0,.int most] M=.ok (.int f) M':=by
 have lg:∀x:Int,0<x→x≤1000→x.natAbs.log2<9000:=fun x h0 h1=>by
  have h2:x.natAbs<2 ^ 10:=by omega
  have h3:x.natAbs≠0:=by omega
  have:=(Nat.log2_lt h3).mpr h2;omega
 have hmin:0<(if 6<most then 6 else most)∧(if 6<most then 6 else most)≤most∧(if 6<most then(6:Int) else most)≤1000:=by split <;> omega
 obtain⟨f1,M1,a1,b1,t1,e1⟩:=bq hmin.1 (lg _ hmin.1 hmin.2.2) h;obtain⟨f2,M2,a2,b2,t2,e2⟩:=bq (many:=most) (by omega) (lg _ (by omega) hm2) t1;obtain⟨f3,M3,a3,b3,t3,e3⟩:=bq (many:=8) (by decide) (lg _ (by decide) (by decide)) t2;have l3:(3:Nat)≤sizeLine:=bn (by decide);have hix:0≤f3*3 / 10∧f3*3 / 10<3:=by omega
 have c3:Nat.log2 10<9000:=by decide
 have c4:-18446744073709551616<f3∧f3<18446744073709551616:=by omega
 have pick:∃f,1≤f∧f≤most∧∃y,f=1+y∧jW [D.int f1,D.int f2,D.int (most-1)] (f3*3 / 10)=some (.int y):=by
  have:f3*3 / 10=0∨f3*3 / 10=1∨f3*3 / 10=2:=by omega
  rcases this with q|q|q <;> rw[q]
  ·exact⟨1+f1,by omega,by omega,f1,rfl,rfl⟩
  ·exact⟨1+f2,by omega,by omega,f2,rfl,rfl⟩
  ·exact⟨1+(most-1),by omega,by omega,most-1,rfl,rfl⟩
 obtain⟨f,hf1,hf2,y,ey,ha⟩:=pick;refine⟨f,M3,hf1,hf2,t3,?_⟩;unfold cJ jd;simp_arith [e1,e2,e3,l3,c3,c4,ha,ey]
theorem yj {l:List Int}{rest M:aw}{wide thin:Int}(hw:0≤wide)(hw2:wide≤1000)(ht:1≤thin)(ht2:thin≤1000)(h:cp l rest M) :
  ∃(ks:List Int) (M':aw),(ks.length:Int)=wide∧(∀k∈ks,0≤k∧k≤15)∧cp l rest M'∧gz [.mr 0,.int wide,.int thin] M=.ok (.tup (ks.map D.int)) M':=by
 obtain⟨es,M',t',le,qe,ee⟩:=gW (ds0:=ay 0 wide.toNat) (ge:=dN) (ρ:=[some (.mr 0),some (.int wide),some (.int thin)])
  (P:=cp l rest) (Q:=fun e=>∃k,e=.int k∧0≤k∧k≤15) (ay 0 wide.toNat) (fun d hd M hM=>by
   obtain⟨f1,M1,a1,b1,t1,e1⟩:=bq (many:=16) (by decide) (aC (by decide) (by decide)) hM;obtain⟨f2,M2,a2,b2,t2,e2⟩:=bq (many:=thin) (by omega) (aC (by omega) (by omega)) t1;have c4:-18446744073709551616<f1∧f1<18446744073709551616:=by omega
   by_cases hz:0<f2
   ·exact⟨.int (f1*1),M2,t2,⟨_,rfl,by omega,by omega⟩,by simp_arith [dN,e1,e2,c4,hz]⟩
   ·exact⟨.int (f1*0),M2,t2,⟨_,rfl,by omega,by omega⟩,by simp_arith [dN,e1,e2,c4,hz]⟩) M h
 obtain⟨ks,ek,qk⟩:=yb qe;refine⟨ks,M',?_,qk,t',?_⟩
 ·have:ks.length=es.length:=by rw[ek];simp
  rw[aS] at le;omega
 ·have l3:es.length≤sizeLine:=by rw[le,aS];exact bn (by omega)
  have l4:ks.length≤sizeLine:=by rw[ek] at l3;simpa using l3
  have b1:=fun M=>pc (j:=wide) (by omega) M
  unfold gz iT;simp_arith [aH,b1,ee,l4,ek]
theorem qF {l:List Int}{rest M:aw}{most:Int}(hm:1≤most)(hm2:most≤1000)(h:cp l rest M) :
  ∃(rs:List (List Int)) (w:Nat) (M':aw),1≤rs.length∧(rs.length:Int)≤most∧1≤w∧(w:Int)≤most∧(∀r∈rs,r.length=w∧∀k∈r,0≤k∧k≤15)∧cp l rest M'∧
   dF [.mr 0,.int most] M=.ok (.tup (rs.map fun r=>D.tup (r.map D.int))) M':=by
 obtain⟨wide,M1,w1,w2,t1,e1⟩:=l6 hm hm2 h;obtain⟨f4,M2,a2,b2,t2,e2⟩:=bq (many:=4) (by decide) (aC (by decide) (by decide)) t1;obtain⟨high,M3,h1,h2,t3,e3⟩:=l6 hm hm2 t2;obtain⟨es,M',t',le,qe,ee⟩:=gW (ds0:=ay 0 high.toNat) (ge:=eJ) (ρ:=[some (.mr 0),some (.int most),some (.int wide),some (.int (1+f4))])
  (P:=cp l rest) (Q:=fun e=>∃ks:List Int,e=.tup (ks.map D.int)∧(ks.length:Int)=wide∧∀k∈ks,0≤k∧k≤15) (ay 0 high.toNat) (fun d hd M hM=>by
   obtain⟨ks,M1,lk,qk,t1,e1⟩:=yj (wide:=wide) (thin:=1+f4) (by omega) (by omega) (by omega) (by omega) hM;exact⟨_,M1,t1,⟨ks,rfl,lk,qk⟩,by simp_arith [eJ,e1]⟩) M3 t3
 obtain⟨rs,er,qr⟩:=zN qe;refine⟨rs,wide.toNat,M',?_,?_,by omega,by omega,fun r hr=>⟨by have:=(qr r hr).1;omega,(qr r hr).2⟩,t',?_⟩
 ·have:rs.length=es.length:=by rw[er];simp
  rw[aS] at le;omega
 ·have:rs.length=es.length:=by rw[er];simp
  rw[aS] at le;omega
 ·have l3:es.length≤sizeLine:=by rw[le,aS];exact bn (by omega)
  have l4:rs.length≤sizeLine:=by rw[er] at l3;simpa using l3
  have b1:=fun M=>pc (j:=high) (by omega) M
  unfold dF ii;simp_arith [aH,b1,e1,e2,e3,ee,l4,er]
theorem v4 {l:List Int}{rest M:aw}{most:Int}(hm:1≤most)(hm2:most≤1000)(h:cp l rest M) :
  ∃(w hh g m:Int) (M':aw),(1≤w∧w≤most)∧(1≤hh∧hh≤most)∧(0≤g∧g≤20)∧(0≤m∧m≤12)∧cp l rest M'∧cX [.mr 0,.int most] M=.ok (.tup [.int w,.int hh,.int g,.int m]) M':=by
 obtain⟨f1,M1,a1,b1,t1,e1⟩:=bq (many:=21) (by decide) (aC (by decide) (by decide)) h;obtain⟨f2,M2,a2,b2,t2,e2⟩:=bq (many:=2) (by decide) (aC (by decide) (by decide)) t1;obtain⟨w,M3,a3,b3,t3,e3⟩:=l6 hm hm2 t2;obtain⟨hh,M4,a4,b4,t4,e4⟩:=l6 hm hm2 t3;obtain⟨m,M5,a5,b5,t5,e5⟩:=bq (many:=13) (by decide) (aC (by decide) (by decide)) t4;have l3:(2:Nat)≤sizeLine:=bn (by decide);have l4:(4:Nat)≤sizeLine:=bn (by decide);have pick:∃g,0≤g∧g≤20∧jW [D.int 0,D.int f1] f2=some (.int g):=by
  have:f2=0∨f2=1:=by omega
  rcases this with q|q <;> rw[q]
  ·exact⟨0,by omega,by omega,rfl⟩
  ·exact⟨f1,by omega,by omega,rfl⟩
 obtain⟨g,g1,g2,ha⟩:=pick;refine⟨w,hh,g,m,M5,⟨a3,b3⟩,⟨a4,b4⟩,⟨g1,g2⟩,⟨a5,by omega⟩,t5,?_⟩;unfold cX ig;simp_arith [e1,e2,e3,e4,e5,l3,l4,ha]
theorem oZ {l:List Int}{rest M:aw}{size:Int}(hm:0≤size)(hm2:size≤900)(h:cp l rest M) :
  ∃(f:Int) (M':aw),(-1000≤f∧f≤1000)∧cp l rest M'∧bv [.mr 0,.int size] M=.ok (.int f) M':=by
 obtain⟨f1,M1,a1,b1,t1,e1⟩:=bq (many:=size+16) (by omega) (aC (by omega) (by omega)) h;obtain⟨f2,M2,a2,b2,t2,e2⟩:=bq (many:=2001) (by decide) (aC (by decide) (by decide)) t1;obtain⟨f3,M3,a3,b3,t3,e3⟩:=bq (many:=8) (by decide) (aC (by decide) (by decide)) t2;have l3:(2:Nat)≤sizeLine:=bn (by decide);have c3:Nat.log2 7<9000:=by decide
 have pick:∃g,-1000≤g∧g≤1000∧jW [D.int (f1-8),D.int (f2-1000)] (f3 / 7)=some (.int g):=by
  have:f3 / 7=0∨f3 / 7=1:=by omega
  rcases this with q|q <;> rw[q]
  ·exact⟨_,by omega,by omega,rfl⟩
  ·exact⟨_,by omega,by omega,rfl⟩
 obtain⟨g,g1,g2,ha⟩:=pick;refine⟨g,M3,⟨g1,g2⟩,t3,?_⟩;unfold bv jB;simp_arith [e1,e2,e3,l3,c3,ha]
structure Mv where
 shape:Option Nat
 x:Int
 y:Int
 rank:Int
 turn:Int
noncomputable def Mv.d (m:Mv):D:=.tup [match m.shape with|some k=>.int k|none=>.non,.int m.x,.int m.y,.int m.rank,.int m.turn]
structure yz (n:Nat)(m:Mv):Prop where
 s:∀k,m.shape=some k→k<n
 x:-1000≤m.x∧m.x≤1000
 y:-1000≤m.y∧m.y≤1000
 r:0≤m.rank∧m.rank≤3
 t:0≤m.turn∧m.turn≤3
theorem wG {a b:Int}{M:aw}(h:b<a):nR (.int a) (.int b) M=.ok (.bl true) M:=by
 show aM.ok (D.bl (decide (a>b))) M=_;rw[decide_eq_true h]
theorem Ar {a b:Int}{M:aw}(h:¬b<a):nR (.int a) (.int b) M=.ok (.bl false) M:=by
 show aM.ok (D.bl (decide (a>b))) M=_;rw[decide_eq_false h]
theorem yE {a b:GT}{ρ:bj}{M M1:aw}(ha:a ρ M=.ok false M1):bW a b ρ M=.ok false M1:=by
 unfold bW;rw[ha,ao];rfl
theorem pp {a b:GT}{ρ:bj}{M M1:aw}{y:Bool}(ha:a ρ M=.ok true M)(hb:b ρ M=.ok y M1):bW a b ρ M=.ok y M1:=by
 unfold bW;rw[ha,ao];exact hb
theorem cq {gi:GI}{ge:GE}{ρ:bj}{ds es:List D}{M M1 M2:aw}(hi:gi ρ M=.ok ⟨ds,none⟩ M1)(he:bb ⟨ds,none⟩ a9 ge ds ρ M1=.ok es M2)(hl:es.length≤1000000):aH gi a9 ge aD ρ M=.ok (.lst es) M2:=by
 unfold aH;rw[hi,ao];dsimp only;rw[he,ao];unfold aD;rw[if_pos (bn hl)]
theorem sw {w hh x y r t:Int}{more:List D}{d2 d3:D}{M M2 M3 M4 M5:aw}(q1:bv [.mr 0,.int w] M=.ok (.int x) M2)(q2:bv [.mr 0,.int hh] M2=.ok (.int y) M3)(q3:ah [.mr 0,.int 4] M3=.ok (.int r) M4)(q4:ah [.mr 0,.int 4] M4=.ok (.int t) M5) :
  bh (aV (aa (ae 3) (aa (ap 2 bv (aa (ae 0) (aa (g2 az (ae 1) (gC (.int 0))) ag))) (aa (ap 2 bv (aa (ae 0) (aa (g2 az (ae 1) (gC (.int 1))) ag))) (aa (ap 2 ah (aa (ae 0) (aa (gC (.int 4)) ag))) (aa (ap 2 ah (aa (ae 0) (aa (gC (.int 4)) ag))) ag)))))) [some (.mr 0),some (.tup (.int w::.int hh::more)),some d2,some d3] M=.ok (.rt (.tup [d3,.int x,.int y,.int r,.int t])) M5:=
 bH (cb (av rfl (av (cD rfl (am rfl rfl (aB rfl)) q1) (av (cD rfl (am rfl rfl (aB rfl)) q2) (av (cD rfl rfl q3) (av (cD rfl rfl q4) rfl))))))
theorem wA {l:List Int}{rest M:aw}{w hh:Int}{more:List D}{n:Nat}(hw:0≤w∧w≤900)(hh2:0≤hh∧hh≤900)(hn:n≤1000)(h:cp l rest M) :
  ∃(m:Mv) (M':aw),yz n m∧cp l rest M'∧im [.mr 0,.tup (.int w::.int hh::more),.int n] M=.ok m.d M':=by
 have go:∀(s:Option Nat) (M:aw),cp l rest M→(∀k,s=some k→k<n)→∃(m:Mv) (M':aw),yz n m∧m.shape=s∧cp l rest M'∧
   ∃M2 M3 M4,bv [.mr 0,.int w] M=.ok (.int m.x) M2∧bv [.mr 0,.int hh] M2=.ok (.int m.y) M3∧ah [.mr 0,.int 4] M3=.ok (.int m.rank) M4∧ah [.mr 0,.int 4] M4=.ok (.int m.turn) M':=by
  intro s M h hs;obtain⟨x,M2,a2,t2,e2⟩:=oZ hw.1 hw.2 h;obtain⟨y,M3,a3,t3,e3⟩:=oZ hh2.1 hh2.2 t2;obtain⟨r,M4,a4,b4,t4,e4⟩:=bq (many:=4) (by decide) (aC (by decide) (by decide)) t3;obtain⟨t,M5,a5,b5,t5,e5⟩:=bq (many:=4) (by decide) (aC (by decide) (by decide)) t4;have r3:r≤3:=by omega
  have q3:t≤3:=by omega
  exact⟨⟨s,x,y,r,t⟩,M5,⟨hs,a2,a3,⟨a4,r3⟩,⟨a5,q3⟩⟩,rfl,t5,M2,M3,M4,e2,e3,e4,e5⟩
 by_cases h0:0<n
 ·obtain⟨f1,M1,a1,b1,t1,e1⟩:=bq (many:=8) (by decide) (aC (by decide) (by decide)) h;have h0':(0:Int)<n:=by omega
  by_cases hf:0<f1
  ·obtain⟨f2,M2,a2,b2,t2,e2⟩:=bq (many:=(n:Int)) (by omega) (aC (by omega) (by omega)) t1;obtain⟨k,rfl⟩:=Int.eq_ofNat_of_zero_le a2;obtain⟨m,M',ok,sm,t',M3,M4,M5,q1,q2,q3,q4⟩:=go (some k) M2 t2 (fun j hj=>by cases hj;omega);refine⟨m,M',ok,t',?_⟩;show aE (bV [some (.mr 0),some (.tup (.int w::.int hh::more)),some (.int n),none] M)=_;unfold bV;rw[ax (aF rfl)];rw[ax ((iz (pp (aP (am rfl rfl (wG (by omega)))) (aP (am (cD rfl rfl e1) rfl (wG hf))))).trans (aF (cD rfl rfl e2)))];refine(congrArg aE (sw q1 q2 q3 q4)).trans ?_;unfold Mv.d;rw[sm];rfl
  ·obtain⟨m,M',ok,sm,t',M3,M4,M5,q1,q2,q3,q4⟩:=go none M1 t1 (fun j hj=>by cases hj);refine⟨m,M',ok,t',?_⟩;show aE (bV [some (.mr 0),some (.tup (.int w::.int hh::more)),some (.int n),none] M)=_;unfold bV;rw[ax (aF rfl)];rw[ax ((fm (pp (aP (am rfl rfl (wG (by omega)))) (aP (am (cD rfl rfl e1) rfl (Ar hf))))).trans rfl)];refine(congrArg aE (sw q1 q2 q3 q4)).trans ?_;unfold Mv.d;rw[sm];rfl
 ·have h0':¬(0:Int)<n:=by omega
  obtain⟨m,M',ok,sm,t',M3,M4,M5,q1,q2,q3,q4⟩:=go none M h (fun j hj=>by cases hj);refine⟨m,M',ok,t',?_⟩;show aE (bV [some (.mr 0),some (.tup (.int w::.int hh::more)),some (.int n),none] M)=_;unfold bV;rw[ax (aF rfl)];rw[ax ((fm (yE (aP (am rfl rfl (Ar h0'))))).trans rfl)];refine(congrArg aE (sw q1 q2 q3 q4)).trans ?_;unfold Mv.d;rw[sm];rfl
theorem oC {α:Type}{f:α→D}{P:α→Prop}:∀{es:List D},(∀e∈es,∃a,e=f a∧P a)→∃as:List α,es=as.map f∧∀a∈as,P a
 | [],_=>⟨[],rfl,fun _ z=>by cases z⟩
 | e::es,h=>by
  obtain⟨a,ea,pa⟩:=h e (mem_cons_self ..);obtain⟨as,eas,pas⟩:=oC fun e' he=>h e' (mem_cons_of_mem _ he)
  refine⟨a::as,by rw[ea,eas];rfl,fun b hb=>?_⟩;rcases mem_cons.mp hb with q|q
  ·rw[q];exact pa
  ·exact pas b q
noncomputable def aZ (rs:List (List Int)):D:=.tup (rs.map fun r=>D.tup (r.map D.int))
noncomputable def oV (most:Int)(rs:List (List Int)):Prop:=1≤rs.length∧(rs.length:Int)≤most∧∃w:Nat,1≤w∧(w:Int)≤most∧∀r∈rs,r.length=w∧∀k∈r,0≤k∧k≤15
structure df where
 floor:List (List Int)
 sx:Int
 sy:Int
 book:List (List (List Int))
 movers:List Mv
 pots:List Int
noncomputable def df.d (s:df):D:=.tup [aZ s.floor,.tup [.int s.sx,.int s.sy],.tup (s.book.map aZ),.tup (s.movers.map Mv.d),.tup (s.pots.map D.int)]
structure dR (most:Int)(s:df):Prop where
 floor:oV 16 s.floor
 sx:-1000≤s.sx∧s.sx≤1000
 sy:-1000≤s.sy∧s.sy≤1000
 bl:s.book.length≤8
 book:∀b∈s.book,oV 8 b
 ml:(s.movers.length:Int)≤most
 movers:∀m∈s.movers,yz s.book.length m
 pl:s.pots.length=16
 pots:∀k∈s.pots,0≤k∧k≤63
theorem mn {ρ:bj}{M:aw}:ag ρ M=.ok [] M:=rfl
theorem zV {xs:List D}{i:Int}{d:D}{M:aw}(h:jW xs i=some d):az (.lst xs) (.int i) M=.ok d M:=by
 unfold az aU;dsimp only;rw[h]
theorem xa {l:List Int}{rest M:aw}{w hh:Int}{more:List D}{mm:Int}(hw:0≤w∧w≤900)(hh2:0≤hh∧hh≤900)(hm:0≤mm∧mm≤900)(h:cp l rest M) :
  ∃(s:df) (M':aw),dR mm s∧cp l rest M'∧dz [.mr 0,.tup (.int w::.int hh::more),.int mm] M=.ok s.d M':=by
 obtain⟨fl,fw,M1,f1,f2,f3,f4,f5,t1,e1⟩:=qF (most:=16) (by decide) (by decide) h;obtain⟨sx,M2,a2,t2,e2⟩:=oZ (size:=9) (by decide) (by decide) t1;obtain⟨sy,M3,a3,t3,e3⟩:=oZ (size:=9) (by decide) (by decide) t2;obtain⟨d4,M4,a4,b4,t4,e4⟩:=bq (many:=4) (by decide) (aC (by decide) (by decide)) t3;obtain⟨d5,M5,a5,b5,t5,e5⟩:=bq (many:=9) (by decide) (aC (by decide) (by decide)) t4;obtain⟨d6,M6,a6,b6,t6,e6⟩:=bq (many:=4) (by decide) (aC (by decide) (by decide)) t5;have pick:∃g,0≤g∧g≤8∧jW [D.int d4,D.int d5] (d6 / 3)=some (.int g):=by
  have:d6 / 3=0∨d6 / 3=1:=by omega
  rcases this with q|q <;> rw[q]
  ·exact⟨_,by omega,by omega,rfl⟩
  ·exact⟨_,by omega,by omega,rfl⟩
 obtain⟨g,g1,g2,ha⟩:=pick;obtain⟨eb,M7,t7,lb,qb,ee1⟩:=gW (ds0:=ay 0 g.toNat) (ge:=el) (ρ:=[some (.mr 0),some (.tup (.int w::.int hh::more)),some (.int mm),some (aZ fl),some (.tup [.int sx,.int sy]),some (.int g),none,none])
  (P:=cp l rest) (Q:=fun e=>∃b,e=aZ b∧oV 8 b) (ay 0 g.toNat) (fun d hd M hM=>by
   obtain⟨rs,rw',M1,q1,q2,q3,q4,q5,t1,e1⟩:=qF (most:=8) (by decide) (by decide) hM;exact⟨_,M1,t1,⟨rs,rfl,q1,q2,rw',q3,q4,q5⟩,by simp_arith [el,e1,aZ]⟩) M6 t6
 obtain⟨book,hb,okb⟩:=oC qb;have lbk:book.length=g.toNat:=by rw[←aS 0 g.toNat,←lb,hb,length_map]
 obtain⟨d8,M8,a8,b8,t8,e8⟩:=bq (many:=mm+1) (by omega) (aC (by omega) (by omega)) t7;obtain⟨em,M9,t9,lm,qm,ee2⟩:=gW (ds0:=ay 0 d8.toNat) (ge:=eE) (ρ:=[some (.mr 0),some (.tup (.int w::.int hh::more)),some (.int mm),some (aZ fl),some (.tup [.int sx,.int sy]),some (.int g),some (.tup (book.map aZ)),none])
  (P:=cp l rest) (Q:=fun e=>∃m,e=Mv.d m∧yz book.length m) (ay 0 d8.toNat) (fun d hd M hM=>by
   obtain⟨m,M1,ok,t1,e1⟩:=wA (more:=more) (n:=book.length) hw hh2 (by omega) hM;exact⟨_,M1,t1,⟨m,rfl,ok⟩,by simp_arith [eE,e1]⟩) M8 t8
 obtain⟨movers,hmv,okm⟩:=oC qm;have lmv:movers.length=d8.toNat:=by rw[←aS 0 d8.toNat,←lm,hmv,length_map]
 obtain⟨ep,M10,t10,lp,qp,ee3⟩:=gW (ds0:=ay 0 16) (ge:=eG) (ρ:=[some (.mr 0),some (.tup (.int w::.int hh::more)),some (.int mm),some (aZ fl),some (.tup [.int sx,.int sy]),some (.int g),some (.tup (book.map aZ)),some (.tup (movers.map Mv.d))])
  (P:=cp l rest) (Q:=fun e=>∃k,e=D.int k∧0≤k∧k≤63) (ay 0 16) (fun d hd M hM=>by
   obtain⟨f1,M1,a1,b1,t1,e1⟩:=bq (many:=64) (by decide) (aC (by decide) (by decide)) hM;exact⟨_,M1,t1,⟨f1,rfl,a1,by omega⟩,by simp_arith [eG,e1]⟩) M9 t9
 obtain⟨pots,hp,okp⟩:=oC qp;have lpt:pots.length=16:=by rw[←aS 0 16,←lp,hp,length_map]
 refine⟨⟨fl,sx,sy,book,movers,pots⟩,M10,⟨⟨f1,f2,fw,f3,f4,f5⟩,a2,a3,?_,okb,?_,okm,lpt,okp⟩,t10,?_⟩
 ·show book.length≤8;omega
 ·show(movers.length:Int)≤mm;omega
 ·rw[hb] at ee1;rw[hmv] at ee2;rw[hp] at ee3;obtain⟨gn,rfl⟩:=Int.eq_ofNat_of_zero_le g1;obtain⟨dn,rfl⟩:=Int.eq_ofNat_of_zero_le a8;rw[Int.toNat_natCast] at ee1 ee2;show aE (eW [some (.mr 0),some (.tup (.int w::.int hh::more)),some (.int mm),none,none,none,none,none] M)=_;unfold eW;rw[ax (aF (cD rfl rfl e1))];rw[ax (aF (cb (av (cD rfl rfl e2) (av (cD rfl rfl e3) mn))))];rw[ax (aF (am (jE (av (cD rfl rfl e4) (av (cD rfl rfl e5) mn))) (am (cD rfl rfl e6) rfl (pd (by decide) (by decide) M6)) (zV ha)))];show aE (ar _ _ [some (.mr 0),some (.tup (.int w::.int hh::more)),some (.int mm),some (aZ fl),some (.tup [.int sx,.int sy]),some (.int gn),none,none] M6)=_;rw[ax (aF (iF (F:=bO) (cq (cE (n:=gn) (av (g:=ae 5) rfl mn) (by omega)) ee1 (by rw[length_map];omega)) rfl))];show aE (ar _ _ [some (.mr 0),some (.tup (.int w::.int hh::more)),some (.int mm),some (aZ fl),some (.tup [.int sx,.int sy]),some (.int gn),some (.tup (book.map aZ)),none] M7)=_;rw[ax (aF (iF (F:=bO) (cq (cE (n:=dn) (av (cD rfl rfl e8) mn) (by omega)) ee2 (by rw[length_map];omega)) rfl))];show aE (bh _ [some (.mr 0),some (.tup (.int w::.int hh::more)),some (.int mm),some (aZ fl),some (.tup [.int sx,.int sy]),some (.int gn),some (.tup (book.map aZ)),some (.tup (movers.map Mv.d))] M9)=_;refine(congrArg aE (bH (cb (ds:=[aZ fl,.tup [.int sx,.int sy],.tup (book.map aZ),.tup (movers.map Mv.d),.tup (pots.map D.int)]) (av rfl (av rfl (av rfl (av rfl (av (iF (F:=bO) (cq (cE (n:=16) (av (g:=gC (.int 16)) rfl mn) (by decide)) ee3 (by rw[length_map];omega)) rfl) rfl)))))))).trans ?_;rfl
theorem fR {ds0:List D}{s:GG}{body:GS}{W:Nat→bj→aw→Prop}:∀(ds:List D) (i:Nat),(∀j d,ds[j]?=some d→∀ρ M,W (i+j) ρ M→∃ρ1 ρ2 M2,s d ρ=some ρ1∧body ρ1 M=.ok (.nx ρ2) M2∧W (i+j+1) ρ2 M2)→∀ρ M,W i ρ M→
  ∃ρ' M',W (i+ds.length) ρ' M'∧gX ⟨ds0,none⟩ s body ds ρ M=.ok (.nx ρ') M'
 | [],i,h,ρ,M,hW=>⟨ρ,M,hW,rfl⟩
 | d::ds,i,h,ρ,M,hW=>by
  obtain⟨ρ1,ρ2,M2,e1,e2,h2⟩:=h 0 d rfl ρ M hW;obtain⟨ρ',M',h3,e3⟩:=fR (ds0:=ds0) (body:=body) (W:=W) ds (i+1) (fun j d' hd ρ M hW=>by
   have e:i+1+j=i+(j+1):=by omega
   rw[e] at hW ⊢;exact h (j+1) d' hd ρ M hW) ρ2 M2 h2
  refine⟨ρ',M',?_,by simp[gX,gG,e1,e2,e3]⟩;have e:i+(d::ds).length=i+1+ds.length:=by simp;omega
  rw[e];exact h3
theorem dX {lo:Int}{n j:Nat}{d:D}(h:(ay lo n)[j]?=some d):j<n∧d=.int (lo+j):=by
 unfold ay at h;rw[getElem?_map] at h;cases q:(List.range n)[j]? with
 | none=>rw[q] at h;cases h
 | some k=>
  rw[q] at h;obtain⟨hj,ek⟩:=List.getElem?_eq_some_iff.mp q;rw[length_range] at hj;rw[getElem_range] at ek;subst ek;cases h;exact⟨hj,rfl⟩
noncomputable def kl (s:df)(row:Int)(m:Mv):Bool:=match m.shape with
 | none=>false
 | some k=>decide (m.y≤row)&&decide (row<m.y+((s.book.getD k []).length:Int))
noncomputable def iN (s:df)(row:Int):Nat→List Int
 | 0=>[]
 | n+1=>iN s row n++(match s.movers[n]? with|some m=>if kl s row m then [(n:Int)] else []|none=>[])
theorem g5 (s:df)(row:Int):∀n,(iN s row n).length≤n
 | 0=>Nat.le_refl _
 | n+1=>by
  have:=g5 s row n;unfold iN;rw[length_append];split
  ·split <;> simp <;> omega
  ·simp;omega
noncomputable def cz (s:df)(row:Int):List Int:=iN s row s.movers.length
noncomputable abbrev qH (rs:List (List Int)):D:=.tup (rs.map fun r=>D.tup (r.map D.int))
noncomputable def fL (rs:List (List Int))(way:Int)(n:Nat):List Int:=
 let r:=if way=2∨way=3 then rs.getD (rs.length-1-n) [] else rs.getD n []
 if way=1∨way=3 then r.reverse else r
theorem Dc {way:Int}(h0:0≤way)(h1:way<4):way=0∨way=1∨way=2∨way=3:=by omega
theorem kG {s:df}{row:Int}:∀{j:Nat} {n:Int},n∈iN s row j→∃i:Nat,n=i∧i<j∧∃m,s.movers[i]?=some m∧kl s row m=true
 | 0,n,h=>by cases h
 | j+1,n,h=>by
  unfold iN at h;rcases mem_append.mp h with z|z
  ·obtain⟨i,e,hi,r⟩:=kG z;exact⟨i,e,by omega,r⟩
  ·split at z
   ·rename_i m hm;split at z
    ·rename_i hl;exact⟨j,by simpa using z,by omega,m,hm,hl⟩
    ·cases z
   ·cases z
theorem pU (xs:List Int)(lo hi:Option Int):∃ys:List Int,jH (xs.map D.int) lo hi=ys.map D.int∧ys.length≤xs.length∧∀y∈ys,y∈xs:=by
 refine⟨(xs.drop (HT.sIx xs.length 0 lo)).take (HT.sIx xs.length xs.length hi-HT.sIx xs.length 0 lo),by simp[jH],?_,fun y hy=>mem_of_mem_drop (mem_of_mem_take hy)⟩;rw[length_take,length_drop];omega
noncomputable def bg (s:df)(row n:Int):D:=match s.movers[n.toNat]? with
 | some m=>.tup [.int n,.int m.x,.int m.rank,.tup ((fL (s.book.getD (m.shape.getD 0) []) m.turn (row-m.y).toNat).map D.int)]
 | none=>.non
noncomputable def aL (s:df)(row:Int):List Int:=s.floor.getD ((row+s.sy) % (s.floor.length:Int)).toNat []
noncomputable def aX (s:df)(row x:Int):Int:=(aL s row).getD ((x+s.sx) % ((aL s row).length:Int)).toNat 0
noncomputable def jJ (s:df)(m row:Int):List D:=(jH ((cz s row).map D.int) none (some m)).map fun d=>match d with | .int n=>bg s row n|d=>d
noncomputable def ck (s:df)(w m row:Int):D:=.tup [.tup ((List.range w.toNat).map fun(x:Nat)=>D.int (aX s row x)),.tup (jJ s m row)]
theorem rE {s:df}{row:Int}(n:Int):bf 28 (bg s row n)=true:=by
 unfold bg;split
 ·rename_i m _;have:=gV 25 (fL (s.book.getD (m.shape.getD 0) []) m.turn (row-m.y).toNat);simp only[lB,all_cons,all_nil,this];rfl
 ·rfl
theorem zZ {a b c:GE}{ρ:bj}{M:aw}{x y z:Int}(ha:a ρ M=.ok (.int x) M)(hb:b ρ M=.ok (.int y) M)(hc:x≤y→c ρ M=.ok (.int z) M):uo uz mW a b c ρ M=.ok (.bl (decide (x≤y)&&decide (y<z))) M:=by
 unfold uo;rw[ha,ao,hb,ao];show(aM.ok (D.bl (decide (x≤y))) M).bind _=_;rw[ao]
 by_cases q:x≤y
 ·rw[decide_eq_true q];dsimp only;rw[hc q,ao];rfl
 ·rw[decide_eq_false q];rfl
theorem wI {M E:aw}(h:eY M)(hE:E.all (qE (M.length+E.length))=true):eY (M++E):=by
 unfold eY;rw[length_append,all_append,hE,Bool.and_true];exact all_eq_true.mpr fun x hx=>nB (Nat.le_add_right _ _) (all_eq_true.mp h x hx)
theorem wn {M:aw}{o:MO}(h:eY M)(hp:wf o=true):eY (M++[o]):=wI h (by rw[all_cons,kQ hp];rfl)
theorem iP {sg:GG}{g:GE}{ρ ρ1:bj}{M M1:aw}{d:D}(h:g ρ M=.ok d M1)(h2:sg d ρ=some ρ1):cu sg g ρ M=.ok (.nx ρ1) M1:=by
 unfold cu;rw[h,ao,h2]
theorem Cd {s:df}{row:Int}{M:aw}:cu (bF [2,3,4,5,6]) (ae 0) [some s.d,some (.int row),none,none,none,none,none,none,none,none,none,none,none,none] M=.ok (.nx [some s.d,some (.int row),some (aZ s.floor),some (.tup [.int s.sx,.int s.sy]),some (.tup (s.book.map aZ)),some (.tup (s.movers.map Mv.d)),some (.tup (s.pots.map D.int)),none,none,none,none,none,none,none]) M:=rfl
noncomputable def Aq (o:Option Nat):D:=match o with|some k=>.int k|none=>.non
noncomputable def Ez (bk:List (List (List Int)))(row y:Int):Option Nat→Bool
 | none=>false
 | some k=>decide (y≤row)&&decide (row<y+((bk.getD k []).length:Int))
theorem yf {x0 x2 x3 x5 x6 x10 x12 x13:Option D}{row y:Int}{bk:List (List (List Int))}{o:Option Nat}{j:Nat}{M:aw}{E:List Int}{b:Bool}(ho:∀k,o=some k→k<bk.length)(hE:E.length<1000)
  (hb:b=Ez bk row y o) :
  dj [x0,some (.int row),x2,x3,some (.tup (bk.map aZ)),x5,x6,some (.mr M.length),some (.int j),some (Aq o),x10,some (.int y),x12,x13] (M++[.lst (E.map D.int)]) =
   .ok (.nx [x0,some (.int row),x2,x3,some (.tup (bk.map aZ)),x5,x6,some (.mr M.length),some (.int j),some (Aq o),x10,some (.int y),x12,x13]) (M++[.lst ((E++if b then [(j:Int)] else []).map D.int)]):=by
 unfold dj;have t:bW (aI (g2 (lQ true) (ae 9) (gC .non))) (aI (uo uz mW (ae 11) (ae 1) (g2 bu (ae 11) (aO bT (aa (g2 az (ae 4) (ae 9)) ag))))) [x0,some (.int row),x2,x3,some (.tup (bk.map aZ)),x5,x6,some (.mr M.length),some (.int j),some (Aq o),x10,some (.int y),x12,x13] (M++[.lst (E.map D.int)])=.ok b (M++[.lst (E.map D.int)]):=by
  subst hb;cases o with
  | none=>exact c8 (x:=false) (y:=true) rfl (fun z=>by cases z)
  | some k=>
   have hk:=ho k rfl;have gb:bk[k]?=some bk[k]:=getElem?_eq_getElem hk;have e:bk.getD k []=bk[k]:=by rw[List.getD,gb];rfl
   have ln:aO bT (aa (g2 az (ae 4) (ae 9)) ag) [x0,some (.int row),x2,x3,some (.tup (bk.map aZ)),x5,x6,some (.mr M.length),some (.int j),some (.int k),x10,some (.int y),x12,x13] (M++[.lst (E.map D.int)])=.ok (.int (bk[k].length:Int)) (M++[.lst (E.map D.int)]):=by
    refine iF (am (x:=.tup (bk.map aZ)) (y:=.int k) rfl rfl (aB (by rw[getElem?_map,gb];rfl))) ?_;show aM.ok (D.int ((bk[k].map fun r=>D.tup (r.map D.int)).length:Int)) _=_;rw[length_map]
   show _=aM.ok (decide (y≤row)&&decide (row<y+((bk.getD k []).length:Int))) _;rw[e];exact c8 (x:=true) rfl fun _=>aP (zZ (x:=y) (y:=row) (z:=y+(bk[k].length:Int)) rfl rfl fun _=>am (x:=.int y) rfl ln rfl)
 cases b with
 | false=>
  refine(fm t).trans ?_;rw[if_neg Bool.false_ne_true,append_nil];rfl
 | true=>
  refine(iz t).trans ?_;rw[if_pos rfl,map_append];exact iw (lq (go:=ae 7) (d:=.int j) rfl rfl (by rw[length_map];omega))
theorem AO {s:df}{mm row:Int}{M:aw}(ok:dR mm s)(hm:mm≤900)(hM:eY M):jK [s.d,.int row] M=.ok (.lst ((cz s row).map D.int)) M:=by
 have lm:=ok.ml;generalize hx0:some s.d=x0;generalize hx2:some (aZ s.floor)=x2;generalize hx3:some (D.tup [.int s.sx,.int s.sy])=x3;generalize hx6:some (D.tup (s.pots.map D.int))=x6;obtain⟨ρ',M',⟨y,rfl,rfl⟩,ef⟩:=fR (ds0:=cZ (s.movers.map Mv.d)) (s:=i5 [(bo 8),(bF [9,10,11,12,13])]) (body:=dj)
  (W:=fun i ρ N=>∃y:Nat→Option D,ρ=[x0,some (.int row),x2,x3,some (.tup (s.book.map aZ)),some (.tup (s.movers.map Mv.d)),x6,some (.mr M.length),y 0,y 1,y 2,y 3,y 4,y 5]∧N=M++[.lst ((iN s row i).map D.int)])
  (cZ (s.movers.map Mv.d)) 0 (fun j d hd ρ N hW=>by
   obtain⟨y,rfl,rfl⟩:=hW;obtain⟨dx,ex,rfl⟩:=jj hd;rw[Nat.zero_add];rw[getElem?_map] at ex;cases gm:s.movers[j]? with
   | none=>rw[gm] at ex;cases ex
   | some m=>
   rw[gm] at ex;cases ex;have hj:=(List.getElem?_eq_some_iff.mp gm).1;have om:=ok.movers _ (mem_of_getElem? gm);have ll:(iN s row j).length<1000:=Nat.lt_of_le_of_lt (g5 s row j) (by omega);have e:=yf (x0:=x0) (x2:=x2) (x3:=x3) (x5:=some (.tup (s.movers.map Mv.d))) (x6:=x6) (x10:=some (.int m.x)) (x12:=some (.int m.rank)) (x13:=some (.int m.turn)) (row:=row) (bk:=s.book) (j:=j) (M:=M) (E:=iN s row j) (b:=kl s row m) om.s ll (by unfold kl Ez;cases m.shape <;> rfl);have ey:iN s row (j+1)=iN s row j++(if kl s row m then [(j:Int)] else []):=by
    show iN s row j++(match s.movers[j]? with|some m=>if kl s row m then [(j:Int)] else []|none=>[])=_;rw[gm]
   exact⟨_,_,_,rfl,e,fun i=>[some (.int j),some (Aq m.shape),some (.int m.x),some (.int m.y),some (.int m.rank),some (.int m.turn)][i]?.getD none,rfl,by rw[ey]⟩)
  [x0,some (.int row),x2,x3,some (.tup (s.book.map aZ)),some (.tup (s.movers.map Mv.d)),x6,some (.mr M.length),none,none,none,none,none,none] (M++[.lst []]) ⟨fun _=>none,rfl,rfl⟩
 rw[dL,length_map,Nat.zero_add] at ef;have rt:=kJ (M:=M) (xs:=(cz s row).map D.int) (gV 28 _) hM;have a1:=Cd (s:=s) (row:=row) (M:=M);rw[hx0,hx2,hx3,hx6] at a1;show fJ M.length (aE (fM [some s.d,some (.int row),none,none,none,none,none,none,none,none,none,none,none,none] M))=_;rw[hx0];unfold fM;have s7:∀b:GS,ar (aA 7 (fW ag)) b [x0,some (.int row),x2,x3,some (.tup (s.book.map aZ)),some (.tup (s.movers.map Mv.d)),x6,none,none,none,none,none,none,none] M=b [x0,some (.int row),x2,x3,some (.tup (s.book.map aZ)),some (.tup (s.movers.map Mv.d)),x6,some (.mr M.length),none,none,none,none,none,none] (M++[.lst []]):=fun b=>ax (aF hZ)
 have kf:gN (lF (aa (ae 5) ag)) (i5 [(bo 8),(bF [9,10,11,12,13])]) dj [x0,some (.int row),x2,x3,some (.tup (s.book.map aZ)),some (.tup (s.movers.map Mv.d)),x6,some (.mr M.length),none,none,none,none,none,none] (M++[.lst []])=_:=il (t:=⟨cZ (s.movers.map Mv.d),none⟩) rfl ef;rw[ax a1,s7,ax kf];exact rt
theorem vE {t:GT}{a b:GE}{ρ:bj}{M:aw}{x:Bool}{o:aM D}(h:t ρ M=.ok x M)(hk:(if x then a ρ M else b ρ M)=o):mv t a b ρ M=o:=by
 unfold mv;rw[h,ao];exact hk
theorem DC {rs:List (List Int)}{n:Nat}{M:aw}(h:n<rs.length):az (qH rs) (.int n) M=.ok (.tup ((rs.getD n []).map D.int)) M:=aB (by rw[getElem?_map,List.getD,getElem?_eq_getElem h];rfl)
theorem kM {rs:List (List Int)}{way:Int}{n:Nat}{a b:Bool}{M:aw}(ha:jD false (.int way) (.tup [.int 2,.int 3]) M=.ok (.bl a) M)(hb:jD false (.int way) (.tup [.int 1,.int 3]) M=.ok (.bl b) M)(hn:n<rs.length) :
  ie [qH rs,.int way,.int n] M=.ok (.tup ((if b then(if a then rs.getD (rs.length-1-n) [] else rs.getD n []).reverse else(if a then rs.getD (rs.length-1-n) [] else rs.getD n [])).map D.int)) M:=by
 have ln:aO bT (aa (ae 0) ag) [some (qH rs),some (.int way),some (.int n),none] M=.ok (.int rs.length) M:=by
  show aM.ok (D.int ((rs.map fun r=>D.tup (r.map D.int)).length:Int)) M=_;rw[length_map]
 have e2:(rs.length:Int)-1-n=((rs.length-1-n:Nat):Int):=by omega
 have t1:gQ (aI (g2 mW (ae 2) (gC (.int 0)))) (aI (g2 re (ae 2) (aO bT (aa (ae 0) ag)))) [some (qH rs),some (.int way),some (.int n),none] M=.ok (false||false) M:=kT (aP (am rfl rfl (by show aM.ok (D.bl (decide ((n:Int)<0))) M=_;rw[decide_eq_false (by omega)]))) fun _=>aP (am rfl ln (by show aM.ok (D.bl (decide ((rs.length:Int)≤n))) M=_;rw[decide_eq_false (by omega)]))
 have two:∀(u v:Int) (ρ:bj),aV (aa (gC (.int u)) (aa (gC (.int v)) ag)) ρ M=.ok (.tup [.int u,.int v]) M:=fun u v ρ=>cb rfl
 have k3:mv (aI (g2 (jD false) (ae 1) (aV (aa (gC (.int 2)) (aa (gC (.int 3)) ag))))) (g2 az (ae 0) (g2 d0 (g2 d0 (aO bT (aa (ae 0) ag)) (gC (.int 1))) (ae 2))) (g2 az (ae 0) (ae 2)) [some (qH rs),some (.int way),some (.int n),none] M=.ok (.tup ((if a then rs.getD (rs.length-1-n) [] else rs.getD n []).map D.int)) M:=by
  refine vE (aP (am rfl (two 2 3 _) ha)) ?_;cases a with
  | true=>exact am rfl (am (am ln rfl rfl) rfl (by show aM.ok (D.int ((rs.length:Int)-1-n)) M=_;rw[e2])) (DC (by omega))
  | false=>exact am rfl rfl (DC hn)
 show aE (iy [some (qH rs),some (.int way),some (.int n),none] M)=_;unfold iy;refine(congrArg aE ((ax ((fm t1).trans rfl)).trans ((ax (aF k3)).trans (bH (vE (aP (am rfl (two 1 3 _) hb)) ?_))))).trans rfl;cases b with
 | true=>exact congrArg (fun z=>aM.ok (D.tup z) M) (map_reverse ..).symm
 | false=>rfl
theorem v3 {rs:List (List Int)}{way:Int}{n:Nat}{M:aw}(h0:0≤way)(h1:way<4)(hn:n<rs.length) :
  ie [qH rs,.int way,.int n] M=.ok (.tup ((fL rs way n).map D.int)) M:=by
 rcases Dc h0 h1 with rfl|rfl|rfl|rfl
 ·exact kM rfl rfl hn
 ·exact kM rfl rfl hn
 ·exact kM rfl rfl hn
 ·exact kM rfl rfl hn
theorem vh {s:df}{mm row n:Int}{M:aw}(ok:dR mm s)(hn:n∈cz s row):gK [s.d,.int n,.int row] M=.ok (bg s row n) M:=by
 obtain⟨i,rfl,hi,m,gm,lz⟩:=kG hn;have om:=ok.movers m (mem_of_getElem? gm);unfold kl at lz;cases hs:m.shape with
 | none=>rw[hs] at lz;cases lz
 | some k=>
  rw[hs] at lz;have hk:=om.s k hs;have gb:s.book[k]?=some s.book[k]:=getElem?_eq_getElem hk;have gd:s.book.getD k []=s.book[k]:=by rw[List.getD,gb];rfl
  have lz:(decide (m.y≤row)&&decide (row<m.y+((s.book.getD k []).length:Int)))=true:=lz;rw[gd,Bool.and_eq_true,decide_eq_true_eq,decide_eq_true_eq] at lz;obtain⟨r,hr⟩:=Int.eq_ofNat_of_zero_le (by omega:0≤row-m.y);have ls:=v3 (rs:=s.book[k]) (way:=m.turn) (n:=r) (M:=M) om.t.1 (by have:=om.t.2;omega) (by omega);have es:bg s row (i:Int)=.tup [.int i,.int m.x,.int m.rank,.tup ((fL s.book[k] m.turn r).map D.int)]:=by
   unfold bg;rw[Int.toNat_natCast,gm];have:(row-m.y).toNat=r:=by omega
   simp only[hs,Option.getD_some,gd,this]
  rw[es];clear es;have md:m.d=.tup [.int k,.int m.x,.int m.y,.int m.rank,.int m.turn]:=by unfold Mv.d;rw[hs]
  show aE (d7 [some s.d,some (.int i),some (.int row),none,none,none,none,none,none,none,none,none,none] M)=_;unfold d7;have k1:cu (bF [3,4,5,6,7]) (ae 0) [some s.d,some (.int i),some (.int row),none,none,none,none,none,none,none,none,none,none] M=.ok (.nx [some s.d,some (.int i),some (.int row),some (aZ s.floor),some (.tup [.int s.sx,.int s.sy]),some (.tup (s.book.map aZ)),some (.tup (s.movers.map Mv.d)),some (.tup (s.pots.map D.int)),none,none,none,none,none]) M:=rfl;refine(congrArg aE ((ax k1).trans ((ax (iP (am rfl rfl (aB (by rw[getElem?_map,gm];exact congrArg some md))) rfl)).trans (bH (cb (ds:=[.int i,.int m.x,.int m.rank,.tup ((fL s.book[k] m.turn r).map D.int)]) (av rfl (av rfl (av rfl (av (mI (am rfl rfl (aB (by rw[getElem?_map,gb];rfl))) rfl (am rfl rfl (by show aM.ok (D.int (row-m.y)) M=_;rw[hr])) ls) rfl))))))))).trans rfl
noncomputable abbrev fe (s:df)(row w hh g m:Int)(x:Option D):bj:=[some (.tup [.int w,.int hh,.int g,.int m]),some s.d,some (.int row),some (.int w),some (.int hh),some (.int g),some (.int m),some (aZ s.floor),some (.int s.sx),some (.int s.sy),some (.tup (s.book.map aZ)),some (.tup (s.movers.map Mv.d)),some (.tup (s.pots.map D.int)),x]
theorem kL {α:Type}{f:α→D}{i:Nat}{l:List α}{ρ:bj}{M:aw}(h:ρ[i]?=some (some (.tup (l.map f)))):aO bT (aa (ae i) ag) ρ M=.ok (.int (l.length:Int)) M:=by
 refine iF (x:=.tup (l.map f)) (M1:=M) (by unfold ae;rw[h]) ?_;show aM.ok (D.int ((l.map f).length:Int)) M=_;rw[length_map]
theorem uf {s:df}{w hh g m row mm:Int}{M:aw}(ok:dR mm s)(hw:1≤w∧w≤900) :
  iB [.tup [.int w,.int hh,.int g,.int m],s.d,.int row] M=.ok (.tup ((List.range w.toNat).map fun(x:Nat)=>D.int (aX s row x))) M:=by
 obtain⟨f1,f2,fw,f3,f4,f5⟩:=ok.floor;have hfl:0≤(row+s.sy) % (s.floor.length:Int)∧(row+s.sy) % (s.floor.length:Int)<s.floor.length:=⟨Int.emod_nonneg _ (by omega),Int.emod_lt_of_pos _ (by omega)⟩;obtain⟨r,hr⟩:=Int.eq_ofNat_of_zero_le hfl.1;have hr2:r<s.floor.length:=by omega
 have er:aL s row=s.floor[r]:=by
  unfold aL;rw[hr,Int.toNat_natCast,List.getD,getElem?_eq_getElem hr2];rfl
 obtain⟨lw,lk⟩:=f5 _ (getElem_mem hr2);rw[←er] at lw lk;have kx:∀x:Int,c0 (some (.int x)::fe s row w hh g m (some (.tup ((aL s row).map D.int)))) M=.ok (.int (aX s row x)) M:=fun x=>by
  have hx:0≤(x+s.sx) % ((aL s row).length:Int)∧(x+s.sx) % ((aL s row).length:Int)<(aL s row).length:=⟨Int.emod_nonneg _ (by omega),Int.emod_lt_of_pos _ (by omega)⟩;obtain⟨q,hq⟩:=Int.eq_ofNat_of_zero_le hx.1;refine am (f:=az) (a:=ae 14) (x:=.tup ((aL s row).map D.int)) (y:=.int q) rfl (am (f:=cG) (x:=.int (x+s.sx)) rfl (kL (l:=aL s row) rfl) ((ft (by omega) M).trans (by rw[hq]))) (aB ?_);unfold aX;rw[hq,Int.toNat_natCast,getElem?_map,List.getD,getElem?_eq_getElem (by omega)];rfl
 have ec:=gY (ds0:=ay 0 w.toNat) (ge:=c0) (ρ:=fe s row w hh g m (some (.tup ((aL s row).map D.int)))) (f:=fun d=>match d with | .int x=>.int (aX s row x)|d=>d) (M:=M) (ay 0 w.toNat) (fun d hd=>by
  obtain⟨x,rfl,x0,x1⟩:=ir hd;exact kx x)
 have em:(ay 0 w.toNat).map (fun d=>match d with | .int x=>.int (aX s row x)|d=>d)=(List.range w.toNat).map fun(x:Nat)=>D.int (aX s row x):=by
  unfold ay;rw[map_map];apply map_congr_left;intro x _;simp
 rw[em] at ec;show aE (fz [some (.tup [.int w,.int hh,.int g,.int m]),some s.d,some (.int row),none,none,none,none,none,none,none,none,none,none,none] M)=_;have k2:fz [some (.tup [.int w,.int hh,.int g,.int m]),some s.d,some (.int row),none,none,none,none,none,none,none,none,none,none,none] M=(ar (aA 13 (g2 az (ae 7) (g2 cG (g2 bu (ae 2) (ae 9)) (aO bT (aa (ae 7) ag))))) (bh (aO bO (aa (aH (bA (aa (ae 3) ag)) a9 c0 aD) ag)))) (fe s row w hh g m none) M:=(ax (show cu (bF [3,4,5,6]) (ae 0) _ M=.ok (.nx [some (.tup [.int w,.int hh,.int g,.int m]),some s.d,some (.int row),some (.int w),some (.int hh),some (.int g),some (.int m),none,none,none,none,none,none,none]) M from rfl)).trans (ax (show cu (i5 [(bo 7),(bF [8,9]),(bo 10),(bo 11),(bo 12)]) (ae 1) _ M=.ok (.nx (fe s row w hh g m none)) M from rfl));rw[k2];refine(congrArg aE ((ax (aF (d:=.tup ((aL s row).map D.int)) (am (f:=az) (a:=ae 7) (x:=aZ s.floor) (y:=.int r) rfl (am (f:=cG) (x:=.int (row+s.sy)) rfl (kL (l:=s.floor) rfl) ((ft (by omega) M).trans (by rw[hr]))) (aB (by rw[getElem?_map,getElem?_eq_getElem hr2,er];rfl))))).trans (bH (iF (x:=.lst ((List.range w.toNat).map fun(x:Nat)=>D.int (aX s row x))) (cq (ρ:=fe s row w hh g m (some (.tup ((aL s row).map D.int)))) (cE (n:=w.toNat) (av (d:=.int (w.toNat:Int)) (by show aM.ok (D.int w) M=_;rw[Int.toNat_of_nonneg (by omega)]) rfl) (by omega)) ec (by rw[length_map,length_range];omega)) rfl)))).trans rfl
theorem wW {s:df}{mm w hh g m row:Int}{M:aw}(ok:dR mm s)(hm:mm≤900)(hM:eY M) :
  je [.tup [.int w,.int hh,.int g,.int m],s.d,.int row] M=.ok (.lst (jH ((cz s row).map D.int) none (some m))) M:=by
 have e:=AO (row:=row) ok hm hM;unfold je k8;simp_arith [e]
theorem xu {s:df}{mm w hh g m row:Int}{M:aw}(ok:dR mm s)(hm:mm≤900)(hw:1≤w∧w≤900)(hmo:0≤m∧m≤12)(hM:eY M) :
  lZ [.tup [.int w,.int hh,.int g,.int m],s.d,.int row] M=.ok (ck s w m row) M:=by
 obtain⟨ys,ey,ly,qy⟩:=pU (cz s row) none (some m);have ll:(cz s row).length≤900:=by
  have:=g5 s row s.movers.length;have:=ok.ml;unfold cz;omega
 have etk:jJ s m row=ys.map (bg s row):=by unfold jJ;rw[ey,map_map];rfl
 have ek:=wW (w:=w) (hh:=hh) (g:=g) (m:=m) (row:=row) ok hm hM;rw[ey] at ek;have ef:=uf (w:=w) (hh:=hh) (g:=g) (m:=m) (row:=row) (M:=M) ok hw;have ec:=gY (ds0:=ys.map D.int) (ge:=ka) (ρ:=[some (.tup [.int w,.int hh,.int g,.int m]),some s.d,some (.int row),none])
  (f:=fun d=>match d with | .int n=>bg s row n|d=>d) (M:=M) (ys.map D.int) (fun d hd=>by
   obtain⟨n,hn,rfl⟩:=mem_map.mp hd;have e:=vh (M:=M) ok (qy n hn);simp_arith [ka,e])
 have em:(ys.map D.int).map (fun d=>match d with | .int n=>bg s row n|d=>d)=ys.map (bg s row):=by
  rw[map_map];rfl
 rw[em] at ec;have l1:ys.length≤sizeLine:=bn (by omega);have l2:(2:Nat)≤sizeLine:=bn (by decide);unfold ck lZ o3;rw[etk];simp_arith [aH,ek,ef,ec,l1,l2]
structure Sn where
 n:Int
 x:Int
 r:Int
 ks:List Int
noncomputable def Sn.d (s:Sn):D:=.tup [.int s.n,.int s.x,.int s.r,.tup (s.ks.map D.int)]
noncomputable def bL (x:Int)(s:Sn):Int:=if s.x≤x∧x<s.x+(s.ks.length:Int) then s.ks.getD (x-s.x).toNat 0 else 0
noncomputable def dZ (x:Int)(ss:List Sn):List Sn:=ss.filter fun s=>bL x s != 0
noncomputable def kP (x:Int)(s:Sn):D:=.tup [.int s.r,.int s.n,.int (bL x s)]
theorem ox (x:Int)(ss:List Sn):(dZ x ss).length≤ss.length:=length_filter_le _ _
theorem pK {x:Int}{ss:List Sn}{s:Sn}{j:Nat}(h:ss[j]?=some s):dZ x (ss.take (j+1))=dZ x (ss.take j)++(if bL x s=0 then [] else [s]):=by
 rw[take_succ,h];unfold dZ;rw[filter_append];congr 1
 by_cases hz:bL x s=0 <;> simp[hz]
theorem qK {x:Int}{s:Sn}(h1:s.x≤x)(h2:x<s.x+(s.ks.length:Int)):∃i:Nat,x-s.x=i∧jW (s.ks.map D.int) (i:Int)=some (.int (bL x s)):=by
 obtain⟨i,hi⟩:=Int.eq_ofNat_of_zero_le (by omega:0≤x-s.x);have hl:i<s.ks.length:=by omega
 refine⟨i,hi,?_⟩;have e:bL x s=s.ks[i]:=by
  unfold bL;rw[if_pos ⟨h1,h2⟩,hi,Int.toNat_natCast,List.getD,getElem?_eq_getElem hl];rfl
 rw[e];exact jg (by simp[hl])
theorem lA {x:Int}{s:Sn}(h:¬(s.x≤x∧x<s.x+(s.ks.length:Int))):bL x s=0:=by unfold bL;rw[if_neg h]
theorem tR {f:Sn→D}(h:∀s,bf 29 (f s)=true)(l:List Sn):(l.map f).all (bf 29)=true:=by
 rw[all_eq_true];intro d hd;obtain⟨s,_,e⟩:=mem_map.mp hd;rw[←e];exact h s
theorem wd {x0 x2 x3:Option D}{x:Int}{s:Sn}{M:aw}{E:List D}(hE:E.length<1000) :
  cW [x0,some (.int x),x2,x3,some (.mr M.length),some (.int s.n),some (.int s.x),some (.int s.r),some (.tup (s.ks.map D.int))] (M++[.lst E]) =
   .ok (.nx [x0,some (.int x),x2,x3,some (.mr M.length),some (.int s.n),some (.int s.x),some (.int s.r),some (.tup (s.ks.map D.int))]) (M++[.lst (E++if bL x s=0 then [] else [kP x s])]):=by
 unfold cW;have ln:aO bT (aa (ae 8) ag) [x0,some (.int x),x2,x3,some (.mr M.length),some (.int s.n),some (.int s.x),some (.int s.r),some (.tup (s.ks.map D.int))] (M++[.lst E])=.ok (.int (s.ks.length:Int)) (M++[.lst E]):=by
  refine iF (a:=ae 8) rfl ?_;show aM.ok (D.int ((s.ks.map D.int).length:Int)) _=_;rw[length_map]
 have c1:=aP (zZ (a:=ae 6) (b:=ae 1) (y:=x) (z:=s.x+(s.ks.length:Int)) rfl rfl fun _=>am (f:=bu) (a:=ae 6) rfl ln rfl)
 by_cases h:s.x≤x∧x<s.x+(s.ks.length:Int)
 ·obtain⟨i,hi,ai⟩:=qK h.1 h.2;have ix:g2 az (ae 8) (g2 d0 (ae 1) (ae 6)) [x0,some (.int x),x2,x3,some (.mr M.length),some (.int s.n),some (.int s.x),some (.int s.r),some (.tup (s.ks.map D.int))] (M++[.lst E])=.ok (.int (bL x s)) (M++[.lst E]):=by
   refine am (f:=az) (a:=ae 8) (y:=.int (x-s.x)) rfl rfl ?_;rw[hi];show(match jW (s.ks.map D.int) (i:Int) with|some d=>aM.ok d (M++[MO.lst E])|none=>.bad)=_;rw[ai]
  have t:=c8 c1 fun _=>aP (am (f:=bE true) ix (b:=gC (.int 0)) (y:=.int 0) rfl (xr (bL x s) 0 _))
  rw[decide_eq_true h.1,decide_eq_true h.2] at t
  by_cases hz:bL x s=0
  ·rw[decide_eq_true hz] at t;rw[if_pos hz,append_nil];exact(fm t).trans rfl
  ·rw[decide_eq_false hz] at t;rw[if_neg hz];exact(iz t).trans (iw (lq (go:=ae 4) (d:=kP x s) rfl (cb (av rfl (av rfl (av ix rfl))) (by simp)) (by omega)))
 ·have hz:=lA h;have b:(decide (s.x≤x)&&decide (x<s.x+(s.ks.length:Int)))=false:=by
   rw[←Bool.decide_and];exact decide_eq_false h
  rw[b] at c1;rw[if_pos hz,append_nil];exact(fm ((c8 (y:=true) c1 fun z=>by cases z).trans rfl)).trans rfl
theorem mf {fl:D}{ss:List Sn}{x:Int}{M:aw}(hs:ss.length≤900)(hM:eY M) :
  iZ [.tup [fl,.tup (ss.map Sn.d)],.int x] M=.ok (.lst ((dZ x ss).map (kP x))) M:=by
 obtain⟨ρ',M',⟨x5,x6,x7,x8,rfl,rfl⟩,ef⟩:=fR (ds0:=ss.map Sn.d) (s:=bF [5,6,7,8]) (body:=cW)
  (W:=fun i ρ N=>∃x5 x6 x7 x8,ρ=[some (.tup [fl,.tup (ss.map Sn.d)]),some (.int x),some fl,some (.tup (ss.map Sn.d)),some (.mr M.length),x5,x6,x7,x8]∧N=M++[.lst ((dZ x (ss.take i)).map (kP x))])
  (ss.map Sn.d) 0 (fun j d hd ρ N hW=>by
   obtain⟨x5,x6,x7,x8,rfl,rfl⟩:=hW;rw[Nat.zero_add];rw[getElem?_map] at hd;cases gs:ss[j]? with
   | none=>rw[gs] at hd;cases hd
   | some s=>
   rw[gs] at hd;cases hd;rw[pK gs];have ll:((dZ x (ss.take j)).map (kP x)).length<1000:=by
    rw[length_map];exact Nat.lt_of_le_of_lt (ox x _) (by rw[length_take];omega)
   have e:=wd (x0:=some (.tup [fl,.tup (ss.map Sn.d)])) (x2:=some fl) (x3:=some (.tup (ss.map Sn.d))) (x:=x) (s:=s) (M:=M) ll;refine⟨_,_,_,rfl,e,_,_,_,_,rfl,?_⟩;rw[map_append]
   by_cases hz:bL x s=0
   ·rw[if_pos hz,if_pos hz];rfl
   ·rw[if_neg hz,if_neg hz];rfl)
  [some (.tup [fl,.tup (ss.map Sn.d)]),some (.int x),some fl,some (.tup (ss.map Sn.d)),some (.mr M.length),none,none,none,none] (M++[.lst []]) ⟨_,_,_,_,rfl,rfl⟩
 have e0:(0:Nat)+(ss.map Sn.d).length=ss.length:=by simp
 rw[e0,take_length] at ef;have rt:=kJ (M:=M) (xs:=(dZ x ss).map (kP x)) (tR (fun _=>rfl) _) hM;show fJ M.length (aE (eU [some (.tup [fl,.tup (ss.map Sn.d)]),some (.int x),none,none,none,none,none,none,none] M))=_;unfold eU;have a1:cu (bF [2,3]) (ae 0) [some (.tup [fl,.tup (ss.map Sn.d)]),some (.int x),none,none,none,none,none,none,none] M=.ok (.nx [some (.tup [fl,.tup (ss.map Sn.d)]),some (.int x),some fl,some (.tup (ss.map Sn.d)),none,none,none,none,none]) M:=rfl;have s4:∀b:GS,ar (aA 4 (fW ag)) b [some (.tup [fl,.tup (ss.map Sn.d)]),some (.int x),some fl,some (.tup (ss.map Sn.d)),none,none,none,none,none] M=b [some (.tup [fl,.tup (ss.map Sn.d)]),some (.int x),some fl,some (.tup (ss.map Sn.d)),some (.mr M.length),none,none,none,none] (M++[.lst []]):=fun b=>ax (aF hZ)
 have kf:gN (cm (ae 3)) (bF [5,6,7,8]) cW [some (.tup [fl,.tup (ss.map Sn.d)]),some (.int x),some fl,some (.tup (ss.map Sn.d)),some (.mr M.length),none,none,none,none] (M++[.lst []])=_:=il (t:=⟨ss.map Sn.d,none⟩) (yt rfl) ef;rw[ax a1,s4,ax kf];exact rt
noncomputable def pv (a b:Sn):Prop:=b.r<a.r∨(a.r=b.r∧a.n≤b.n)
theorem vJ {x:Int}{s:Sn}{M:aw}:rf 0 bI [kP x s] M=.ok (.tup [.int (-s.r),.int s.n]) M:=by
 have l2:(2:Nat)≤sizeLine:=bn (by decide);have a0:∀a b c:D,jW [a,b,c] 0=some a:=fun _ _ _=>rfl
 have a1:∀a b c:D,jW [a,b,c] 1=some b:=fun _ _ _=>rfl
 simp_arith [bI,kP,a0,a1,l2]
theorem EV (a b c d:Int):HT.lexLt [a,b] [c,d]=decide (a<c∨(a=c∧b<d)):=by
 by_cases h1:a<c <;> by_cases h2:a=c <;> by_cases h3:b<d <;> simp[HT.lexLt,h1,h2,h3] <;> omega
theorem tH (b:Sn):∀s∈[b],pv b s:=fun s hs=>by
 rcases mem_cons.mp hs with z|z
 ·subst z;exact .inr ⟨rfl,Int.le_refl _⟩
 ·cases z
theorem rR {x:Int}{M:aw}:∀(cs:List Sn) (b:Sn),∃b',b'∈b::cs∧(∀s∈b::cs,pv b' s)∧lI (rf 0 bI) (cs.map (kP x)) (kP x b) [-b.r,b.n] M=.ok (kP x b') M
 | [],b=>⟨b,mem_cons_self ..,tH b,rfl⟩
 | s::r,b=>by
  have hk:=vJ (x:=x) (s:=s) (M:=M);have hi:g6 (.tup [.int (-s.r),.int s.n])=some [-s.r,s.n]:=rfl
  by_cases h:-s.r < -b.r∨(-s.r=-b.r∧s.n<b.n)
  ·obtain⟨b',h1,h2,h3⟩:=rR (x:=x) (M:=M) r s;refine⟨b',mem_cons_of_mem _ h1,fun t ht=>?_,?_⟩
   ·rcases mem_cons.mp ht with z|z
    ·subst z;have:=h2 s (mem_cons_self ..);unfold pv at *;omega
    ·exact h2 t z
   ·rw[map_cons];unfold lI;rw[hk];dsimp only;rw[hi];dsimp only;rw[EV,if_pos (decide_eq_true h)];exact h3
  ·obtain⟨b',h1,h2,h3⟩:=rR (x:=x) (M:=M) r b;have hb:=h2 b (mem_cons_self ..);refine⟨b',?_,fun t ht=>?_,?_⟩
   ·rcases mem_cons.mp h1 with z|z
    ·exact z▸mem_cons_self ..
    ·exact mem_cons_of_mem _ (mem_cons_of_mem _ z)
   ·rcases mem_cons.mp ht with z|z
    ·exact z▸hb
    ·rcases mem_cons.mp z with z|z
     ·subst z;unfold pv at *;omega
     ·exact h2 t (mem_cons_of_mem _ z)
   ·rw[map_cons];unfold lI;rw[hk];dsimp only;rw[hi];dsimp only;rw[EV,if_neg (by simpa using h)];exact h3
theorem pH {x fl:Int}{cs:List Sn}{M:aw}:(cs=[]∧dk [.int fl,.lst (cs.map (kP x))] M=.ok (.int fl) M)∨
  ∃b∈cs,(∀s∈cs,pv b s)∧dk [.int fl,.lst (cs.map (kP x))] M=.ok (.int (if 1≤b.r∨fl=0 then bL x b else fl)) M:=by
 cases cs with
 | nil=>
  exact .inl ⟨rfl,rfl⟩
 | cons s r=>
  obtain⟨b,h1,h2,h3⟩:=rR (x:=x) (M:=M) r s;refine .inr ⟨b,h1,h2,?_⟩;have hk:=vJ (x:=x) (s:=s) (M:=M);have hm:kZ (rf 0 bI) (kP x s::r.map (kP x)) M=.ok (kP x b) M:=by
   unfold kZ;dsimp only;rw[hk];exact h3
  have hg:∀ρ,jP (rf 0 bI) (ae 1) (some (.int fl)::some (.lst (kP x s::r.map (kP x)))::ρ) M=.ok (.tup [.int b.r,.int b.n,.int (bL x b)]) M:=fun ρ=>by
   show kZ (rf 0 bI) (kP x s::r.map (kP x)) M=_;exact hm
  rw[map_cons];show aE (fZ [some (.int fl),some (.lst (kP x s::r.map (kP x))),none,none,none] M)=_;unfold fZ;have t:=kT (aP (am (f:=re) (a:=ae 2) (b:=gC (.int 1)) (ρ:=[some (.int fl),some (.lst (kP x s::r.map (kP x))),some (.int b.r),some (.int b.n),some (.int (bL x b))]) (x:=.int b.r) (M:=M) rfl rfl rfl)) fun _=>aP (am (f:=bE false) (a:=ae 0) (b:=gC (.int 0)) (x:=.int fl) rfl rfl (mj fl 0 M))
  have run:∀{o},_=o→fV (gT (ae 1)) (ar (cu (bF [2,3,4]) (jP (rf 0 bI) (ae 1))) (fV (gQ (aI (g2 re (ae 2) (gC (.int 1)))) (aI (g2 (bE false) (ae 0) (gC (.int 0))))) (bh (ae 4)) ba)) ba [some (.int fl),some (.lst (kP x s::r.map (kP x))),none,none,none] M=o:=fun {o} ho=>((iz (M1:=M) rfl).trans (ax (iP (hg [none,none,none]) rfl))).trans ho
  by_cases q:1≤b.r∨fl=0
  ·rw[if_pos q,mD (run ((iz (t.trans (by rw[←Bool.decide_or,decide_eq_true q]))).trans (bH rfl)))];rfl
  ·rw[if_neg q,ax (run ((fm (t.trans (by rw[←Bool.decide_or,decide_eq_false q]))).trans rfl))];rfl
theorem rL {s:df}{m:Mv}{row:Int}{j:Nat}{M:aw}{E:List Int}{x4 x5 x6 x7 x8:Option D}(gm:s.movers[j]?=some m)(om:∀k,m.shape=some k→k<s.book.length)(hE:E.length<1000) :
  cw [some s.d,some (.int row),some (.mr M.length),some (.int j),x4,x5,x6,x7,x8] (M++[.lst (E.map D.int)]) =
   .ok (.nx [some s.d,some (.int row),some (.mr M.length),some (.int j),some (Aq m.shape),some (.int m.x),some (.int m.y),some (.int m.rank),some (.int m.turn)]) (M++[.lst ((E++if kl s row m then [(j:Int)] else []).map D.int)]):=by
 have k1:cu (bF [4,5,6,7,8]) (g2 az (g2 az (ae 0) (gC (.int 3))) (ae 3)) [some s.d,some (.int row),some (.mr M.length),some (.int j),x4,x5,x6,x7,x8] (M++[.lst (E.map D.int)])=.ok (.nx [some s.d,some (.int row),some (.mr M.length),some (.int j),some (Aq m.shape),some (.int m.x),some (.int m.y),some (.int m.rank),some (.int m.turn)]) (M++[.lst (E.map D.int)]):=
  iP (am (am (x:=s.d) (y:=.int 3) rfl rfl (aB (k:=3) rfl)) rfl (aB (by rw[getElem?_map,gm];rfl))) rfl
 unfold cw;refine(ax k1).trans ?_;have t:bW (aI (g2 (lQ true) (ae 4) (gC .non))) (bW (aI (g2 uz (ae 6) (ae 1))) (aI (g2 mW (ae 1) (g2 bu (ae 6) (aO bT (aa (g2 az (g2 az (ae 0) (gC (.int 2))) (ae 4)) ag)))))) [some s.d,some (.int row),some (.mr M.length),some (.int j),some (Aq m.shape),some (.int m.x),some (.int m.y),some (.int m.rank),some (.int m.turn)] (M++[.lst (E.map D.int)])=.ok (kl s row m) (M++[.lst (E.map D.int)]):=by
  unfold kl;cases hs:m.shape with
  | none=>exact c8 (x:=false) (y:=true) rfl (fun z=>by cases z)
  | some k=>
   have hk:=om k hs;have gb:s.book[k]?=some s.book[k]:=getElem?_eq_getElem hk;have e:s.book.getD k []=s.book[k]:=by rw[List.getD,gb];rfl
   show _=aM.ok (decide (m.y≤row)&&decide (row<m.y+((s.book.getD k []).length:Int))) _;rw[e];refine c8 (x:=true) rfl fun _=>c8 (aP (am (x:=.int m.y) (y:=.int row) rfl rfl rfl)) fun _=>aP (am (x:=.int row) (y:=.int (m.y+(s.book[k].length:Int))) rfl (am (x:=.int m.y) (y:=.int (s.book[k].length:Int)) rfl ?_ rfl) rfl)
   refine iF (am (x:=.tup (s.book.map aZ)) (y:=.int k) (am (x:=s.d) (y:=.int 2) rfl rfl (aB (k:=2) rfl)) rfl (aB (by rw[getElem?_map,gb];rfl))) ?_;show aM.ok (D.int ((s.book[k].map fun r=>D.tup (r.map D.int)).length:Int)) _=_;rw[length_map]
 cases hb:kl s row m with
 | false=>
  rw[hb] at t;refine(fm t).trans ?_;rw[if_neg Bool.false_ne_true,append_nil];rfl
 | true=>
  rw[hb] at t;refine(iz t).trans ?_;rw[if_pos rfl,map_append];exact iw (lq (go:=ae 2) (d:=.int j) rfl rfl (by rw[length_map];omega))
theorem Ax {s:df}{ρ:bj}{M:aw}(h:ρ[0]?=some (some s.d)):aO bT (aa (g2 az (ae 0) (gC (.int 3))) ag) ρ M=.ok (.int (s.movers.length:Int)) M:=by
 refine iF (x:=.tup (s.movers.map Mv.d)) (am (x:=s.d) (y:=.int 3) (by unfold ae;rw[h]) rfl (aB (k:=3) rfl)) ?_;show aM.ok (D.int ((s.movers.map Mv.d).length:Int)) M=_;rw[length_map]
theorem xC {s:df}{mm row:Int}{M:aw}(ok:dR mm s)(hm:mm≤900)(hM:eY M):dA [s.d,.int row] M=.ok (.lst ((cz s row).map D.int)) M:=by
 have lm:=ok.ml;obtain⟨ρ',M',⟨y,rfl,rfl⟩,ef⟩:=fR (ds0:=ay 0 s.movers.length) (s:=bo 3) (body:=cw)
  (W:=fun i ρ N=>∃y:Nat→Option D,ρ=[some s.d,some (.int row),some (.mr M.length),y 0,y 1,y 2,y 3,y 4,y 5]∧N=M++[.lst ((iN s row i).map D.int)])
  (ay 0 s.movers.length) 0 (fun j d hd ρ N hW=>by
   obtain⟨y,rfl,rfl⟩:=hW;obtain⟨hj,rfl⟩:=dX hd;rw[Nat.zero_add,Int.zero_add];have gm:s.movers[j]?=some s.movers[j]:=getElem?_eq_getElem hj;have om:=ok.movers _ (getElem_mem hj);generalize s.movers[j]=m at gm om;have ll:(iN s row j).length<1000:=Nat.lt_of_le_of_lt (g5 s row j) (by omega);have e:=rL (s:=s) (m:=m) (row:=row) (M:=M) (E:=iN s row j) (x4:=y 1) (x5:=y 2) (x6:=y 3) (x7:=y 4) (x8:=y 5) gm om.s ll;have ey:iN s row (j+1)=iN s row j++(if kl s row m then [(j:Int)] else []):=by
    show iN s row j++(match s.movers[j]? with|some m=>if kl s row m then [(j:Int)] else []|none=>[])=_;rw[gm]
   exact⟨_,_,_,rfl,e,fun i=>[some (.int j),some (Aq m.shape),some (.int m.x),some (.int m.y),some (.int m.rank),some (.int m.turn)][i]?.getD none,rfl,by rw[ey]⟩)
  [some s.d,some (.int row),some (.mr M.length),none,none,none,none,none,none] (M++[.lst []]) ⟨fun _=>none,rfl,rfl⟩
 rw[aS,Nat.zero_add] at ef;have rt:=kJ (M:=M) (xs:=(cz s row).map D.int) (gV 28 _) hM;show fJ M.length (aE (dG [some s.d,some (.int row),none,none,none,none,none,none,none] M))=_;unfold dG;have kf:gN (bA (aa (aO bT (aa (g2 az (ae 0) (gC (.int 3))) ag)) ag)) (bo 3) cw [some s.d,some (.int row),some (.mr M.length),none,none,none,none,none,none] (M++[.lst []])=_:=il (t:=⟨ay 0 s.movers.length,none⟩) (cE (av (Ax rfl) rfl) (by omega)) ef;rw[ax (aF hZ)];refine(congrArg (fJ M.length) (congrArg aE (ax kf))).trans ?_;exact rt
theorem gu {rs:List (List Int)}{way:Int}{n:Nat}{a b:Bool}{M:aw}(ha:decide (way / 2=1)=a)(hb:decide (way % 2=0)=b)(hn:n<rs.length)(hr:∀r∈rs,r.length≤1000) :
  fq [qH rs,.int way,.int n] M=.ok (.tup ((if b then(if a then rs.getD (rs.length-1-n) [] else rs.getD n []) else(if a then rs.getD (rs.length-1-n) [] else rs.getD n []).reverse).map D.int)) M:=by
 have e2:(rs.length:Int)-1-n=((rs.length-1-n:Nat):Int):=by omega
 have t1:aI (g2 (bE false) (g2 cn (ae 1) (gC (.int 2))) (gC (.int 1))) [some (qH rs),some (.int way),some (.int n)] M=.ok a M:=aP (am (am rfl rfl (pd (by decide) (by decide) M)) rfl ((mj _ _ M).trans (by rw[ha])));have k1:fV (aI (g2 (bE false) (g2 cn (ae 1) (gC (.int 2))) (gC (.int 1)))) (aA 2 (g2 d0 (g2 d0 (aO bT (aa (ae 0) ag)) (gC (.int 1))) (ae 2))) ba [some (qH rs),some (.int way),some (.int n)] M=.ok (.nx [some (qH rs),some (.int way),some (.int ((if a then rs.length-1-n else n:Nat):Int))]) M:=by
  cases a with
  | true=>exact(iz t1).trans (aF (am (am (kL (l:=rs) rfl) rfl rfl) rfl (by show aM.ok (D.int ((rs.length:Int)-1-n)) M=_;rw[e2];rfl)))
  | false=>exact(fm t1).trans rfl
 have hk:(if a then rs.length-1-n else n)<rs.length:=by split <;> omega
 have er:(if a then rs.getD (rs.length-1-n) [] else rs.getD n [])=rs.getD (if a then rs.length-1-n else n) []:=by cases a <;> rfl
 rw[er];show aE (fo [some (qH rs),some (.int way),some (.int n)] M)=_;unfold fo;rw[ax k1];clear k1 er;generalize (if a then rs.length-1-n else n)=k at hk;have t2:aI (g2 (bE false) (g2 cG (ae 1) (gC (.int 2))) (gC (.int 0))) [some (qH rs),some (.int way),some (.int k)] M=.ok b M:=aP (am (am rfl rfl (ft (by decide) M)) rfl ((mj _ _ M).trans (by rw[hb])));cases b with
 | true=>exact congrArg aE (mD ((iz t2).trans (bH (am rfl rfl (DC hk)))))
 | false=>
  have lr:(rs.getD k []).length≤1000:=by
   rw[List.getD,getElem?_eq_getElem hk];exact hr _ (getElem_mem hk)
  refine congrArg aE ((ax ((fm t2).trans rfl)).trans (bH (iF (x:=.lst ((rs.getD k []).reverse.map D.int)) ?_ rfl)));have ln:aO bT (aa (g2 az (ae 0) (ae 2)) ag) [some (qH rs),some (.int way),some (.int k)] M=.ok (.int ((rs.getD k []).length:Int)) M:=by
   refine iF (am rfl rfl (DC hk)) ?_;show aM.ok (D.int (((rs.getD k []).map D.int).length:Int)) M=_;rw[length_map]
  generalize hq:rs.getD k []=q at lr ln;have ec:=gY (ds0:=ay 0 q.length) (ge:=gJ) (ρ:=[some (qH rs),some (.int way),some (.int k)]) (f:=fun d=>match d with | .int i=>.int (q.getD (q.length-1-i.toNat) 0)|d=>d) (M:=M) (ay 0 q.length) (fun d hd=>by
   obtain⟨i,rfl,i0,i1⟩:=ir hd;obtain⟨j,rfl⟩:=Int.eq_ofNat_of_zero_le i0;have e3:(q.length:Int)-1-j=((q.length-1-j:Nat):Int):=by omega
   have rw1:az (qH rs) (.int k) M=.ok (.tup (q.map D.int)) M:=by rw[DC hk,hq]
   refine am (f:=az) (x:=.tup (q.map D.int)) (y:=.int ((q.length-1-j:Nat):Int)) (am rfl rfl rw1) (am (am (iF (am rfl rfl rw1) (show aM.ok (D.int ((q.map D.int).length:Int)) M=.ok (.int (q.length:Int)) M by rw[length_map])) rfl rfl) rfl (by show aM.ok (D.int ((q.length:Int)-1-j)) M=_;rw[e3])) (aB ?_);rw[getElem?_map,getElem?_eq_getElem (by omega)];show some (D.int _)=some (D.int (q.getD (q.length-1-((j:Int)).toNat) 0));rw[Int.toNat_natCast,List.getD,getElem?_eq_getElem (by omega)];rfl)
  have em:(ay 0 q.length).map (fun d=>match d with | .int i=>.int (q.getD (q.length-1-i.toNat) 0)|d=>d)=q.reverse.map D.int:=by
   apply ext_getElem
   ·simp[ay]
   ·intro i q1 q2;simp[ay] at q1 q2 ⊢;rw[getElem?_eq_getElem (by omega)];rfl
  rw[em] at ec;exact cq (cE (av ln rfl) (by omega)) ec (by rw[length_map,length_reverse];omega)
theorem vz {rs:List (List Int)}{way:Int}{n:Nat}{M:aw}(h0:0≤way)(h1:way<4)(hn:n<rs.length)(hr:∀r∈rs,r.length≤1000) :
  fq [qH rs,.int way,.int n] M=.ok (.tup ((fL rs way n).map D.int)) M:=by
 rcases Dc h0 h1 with rfl|rfl|rfl|rfl
 ·exact gu rfl rfl hn hr
 ·exact gu rfl rfl hn hr
 ·exact gu rfl rfl hn hr
 ·exact gu rfl rfl hn hr
theorem rJ {s:df}{mm row n:Int}{M:aw}{E:List D}{x0 x3 x4 x5 x8 x9 x10 x11 x12:Option D}(ok:dR mm s)(hn:n∈cz s row)(hl:E.length≤900) :
  ∃y:Nat→Option D,cx [x0,some s.d,some (.int row),x3,x4,x5,some (.mr M.length),some (.int n),x8,x9,x10,x11,x12] (M++[.lst E]) =
   .ok (.nx [x0,some s.d,some (.int row),x3,x4,x5,some (.mr M.length),some (.int n),y 0,y 1,y 2,y 3,y 4]) (M++[.lst (E++[bg s row n])]):=by
 obtain⟨i,rfl,hi,m,gm,lz⟩:=kG hn;have om:=ok.movers m (mem_of_getElem? gm);unfold kl at lz;cases hs:m.shape with
 | none=>rw[hs] at lz;cases lz
 | some k=>
  rw[hs] at lz;have hk:=om.s k hs;have gb:s.book[k]?=some s.book[k]:=getElem?_eq_getElem hk;have gd:s.book.getD k []=s.book[k]:=by rw[List.getD,gb];rfl
  have lz:(decide (m.y≤row)&&decide (row<m.y+((s.book.getD k []).length:Int)))=true:=lz;rw[gd,Bool.and_eq_true,decide_eq_true_eq,decide_eq_true_eq] at lz;obtain⟨b1,b2,bw,b3,b4,b5⟩:=ok.book _ (getElem_mem hk);obtain⟨r,hr⟩:=Int.eq_ofNat_of_zero_le (by omega:0≤row-m.y);have ls:=vz (rs:=s.book[k]) (way:=m.turn) (n:=r) (M:=M++[.lst E]) om.t.1 (by have:=om.t.2;omega) (by omega) (fun q hq=>by have:=(b5 q hq).1;omega);have es:bg s row (i:Int)=.tup [.int i,.int m.x,.int m.rank,.tup ((fL s.book[k] m.turn r).map D.int)]:=by
   unfold bg;rw[Int.toNat_natCast,gm];have:(row-m.y).toNat=r:=by omega
   simp only[hs,Option.getD_some,gd,this]
  rw[es];clear es;have md:m.d=.tup [.int k,.int m.x,.int m.y,.int m.rank,.int m.turn]:=by unfold Mv.d;rw[hs]
  refine⟨fun i=>[some (.int k),some (.int m.x),some (.int m.y),some (.int m.rank),some (.int m.turn)][i]?.getD none,?_⟩;have k1:cu (bF [8,9,10,11,12]) (g2 az (g2 az (ae 1) (gC (.int 3))) (ae 7)) [x0,some s.d,some (.int row),x3,x4,x5,some (.mr M.length),some (.int i),x8,x9,x10,x11,x12] (M++[.lst E])=.ok (.nx [x0,some s.d,some (.int row),x3,x4,x5,some (.mr M.length),some (.int i),some (.int k),some (.int m.x),some (.int m.y),some (.int m.rank),some (.int m.turn)]) (M++[.lst E]):=
   iP (am (am (x:=s.d) (y:=.int 3) rfl rfl (aB (k:=3) rfl)) rfl (aB (by rw[getElem?_map,gm];exact congrArg some md))) rfl
  unfold cx;refine(ax k1).trans (iw (lq (go:=ae 6) rfl (cb (ds:=[.int i,.int m.x,.int m.rank,.tup ((fL s.book[k] m.turn r).map D.int)]) (av rfl (av rfl (av rfl (av (mI (am (am (x:=s.d) (y:=.int 2) rfl rfl (aB (k:=2) rfl)) rfl (aB (by rw[getElem?_map,gb];rfl))) rfl (am rfl rfl (by show aM.ok (D.int (row-m.y)) _=_;rw[hr])) ls) rfl))))) (by omega)))
noncomputable abbrev lt (s:df)(row w hh g m:Int)(i:Nat)(y:Nat→Option D):bj:=[some (.tup [.int w,.int hh,.int g,.int m]),some s.d,some (.int row),some (aZ s.floor),some (.tup [.int s.sx,.int s.sy]),some (.tup ((aL s row).map D.int)),some (.mr i),y 0,y 1,y 2,y 3,y 4,y 5]
theorem qB {s:df}{w hh g m row mm:Int}{M:aw}(ok:dR mm s)(hm:mm≤900)(hw:1≤w∧w≤900)(hM:eY M) :
  iD [.tup [.int w,.int hh,.int g,.int m],s.d,.int row] M=.ok (ck s w m row) M:=by
 obtain⟨f1,f2,fw,f3,f4,f5⟩:=ok.floor;have hfl:0≤(row+s.sy) % (s.floor.length:Int)∧(row+s.sy) % (s.floor.length:Int)<s.floor.length:=⟨Int.emod_nonneg _ (by omega),Int.emod_lt_of_pos _ (by omega)⟩;obtain⟨r,hr⟩:=Int.eq_ofNat_of_zero_le hfl.1;have hr2:r<s.floor.length:=by omega
 have er:aL s row=s.floor[r]:=by
  unfold aL;rw[hr,Int.toNat_natCast,List.getD,getElem?_eq_getElem hr2];rfl
 obtain⟨lw,lk⟩:=f5 _ (getElem_mem hr2);rw[←er] at lw lk;obtain⟨ys,ey,ly,qy⟩:=pU (cz s row) none (some m);have ll:(cz s row).length≤900:=by
  have:=g5 s row s.movers.length;have:=ok.ml;unfold cz;omega
 have etk:jJ s m row=ys.map (bg s row):=by unfold jJ;rw[ey,map_map];rfl
 have ely:=xC (row:=row) (M:=M++[.lst []]) ok hm (wn hM rfl);obtain⟨ρ',N,⟨y,rfl,rfl⟩,ef⟩:=fR (ds0:=ys.map D.int) (s:=bo 7) (body:=cx)
  (W:=fun i ρ N=>∃y:Nat→Option D,ρ=lt s row w hh g m M.length y∧N=M++[.lst ((ys.take i).map (bg s row))])
  (ys.map D.int) 0 (fun j d hd ρ N hW=>by
   obtain⟨y,rfl,rfl⟩:=hW;rw[Nat.zero_add];rw[getElem?_map] at hd;cases hj:ys[j]? with
   | none=>rw[hj] at hd;cases hd
   | some n=>
    rw[hj] at hd;cases hd;obtain⟨z,e⟩:=rJ (M:=M) (E:=(ys.take j).map (bg s row)) (x0:=some (.tup [.int w,.int hh,.int g,.int m])) (x3:=some (aZ s.floor)) (x4:=some (.tup [.int s.sx,.int s.sy])) (x5:=some (.tup ((aL s row).map D.int))) (x8:=y 1) (x9:=y 2) (x10:=y 3) (x11:=y 4) (x12:=y 5) ok (qy n (mem_of_getElem? hj)) (by rw[length_map,length_take];omega);refine⟨_,_,_,rfl,e,fun i=>match i with|0=>some (.int n)|i+1=>z i,rfl,?_⟩;rw[take_add_one,hj,map_append];rfl)
  (lt s row w hh g m M.length fun _=>none) (M++[.lst []]) ⟨fun _=>none,rfl,rfl⟩
 rw[length_map,Nat.zero_add,take_length] at ef;have ec:=gY (ds0:=ay 0 w.toNat) (ge:=en) (ρ:=lt s row w hh g m M.length y) (f:=fun d=>match d with | .int x=>.int (aX s row x)|d=>d) (M:=M++[.lst (ys.map (bg s row))]) (ay 0 w.toNat) (fun d hd=>by
   obtain⟨x,rfl,x0,x1⟩:=ir hd;have hx:0≤(x+s.sx) % ((aL s row).length:Int)∧(x+s.sx) % ((aL s row).length:Int)<(aL s row).length:=⟨Int.emod_nonneg _ (by omega),Int.emod_lt_of_pos _ (by omega)⟩;obtain⟨q,hq⟩:=Int.eq_ofNat_of_zero_le hx.1;refine am (f:=az) (a:=ae 6) (x:=.tup ((aL s row).map D.int)) (y:=.int q) rfl (am (f:=cG) (x:=.int (x+s.sx)) (am (x:=.int x) (y:=.int s.sx) rfl (am (x:=.tup [.int s.sx,.int s.sy]) (y:=.int 0) rfl rfl (aB (k:=0) rfl)) rfl) (kL (l:=aL s row) rfl) ((ft (by omega) _).trans (by rw[hq]))) (aB ?_);show _=some (D.int (aX s row x));unfold aX;rw[hq,Int.toNat_natCast,getElem?_map,List.getD,getElem?_eq_getElem (by omega)];rfl)
 have em:(ay 0 w.toNat).map (fun d=>match d with | .int x=>.int (aX s row x)|d=>d)=(List.range w.toNat).map fun(x:Nat)=>D.int (aX s row x):=by
  unfold ay;rw[map_map];apply map_congr_left;intro x _;simp
 rw[em] at ec;show fJ M.length (aE (dD [some (.tup [.int w,.int hh,.int g,.int m]),some s.d,some (.int row),none,none,none,none,none,none,none,none,none,none] M))=_;unfold dD;have k1:cu (bF [3,4]) (tJ (ae 1) de (iK (gC (.int 2)))) [some (.tup [.int w,.int hh,.int g,.int m]),some s.d,some (.int row),none,none,none,none,none,none,none,none,none,none] M=.ok (.nx [some (.tup [.int w,.int hh,.int g,.int m]),some s.d,some (.int row),some (aZ s.floor),some (.tup [.int s.sx,.int s.sy]),none,none,none,none,none,none,none,none]) M:=rfl;have k2:aA 5 (g2 az (ae 3) (g2 cG (g2 bu (ae 2) (g2 az (ae 4) (gC (.int 1)))) (aO bT (aa (ae 3) ag)))) [some (.tup [.int w,.int hh,.int g,.int m]),some s.d,some (.int row),some (aZ s.floor),some (.tup [.int s.sx,.int s.sy]),none,none,none,none,none,none,none,none] M=.ok (.nx [some (.tup [.int w,.int hh,.int g,.int m]),some s.d,some (.int row),some (aZ s.floor),some (.tup [.int s.sx,.int s.sy]),some (.tup ((aL s row).map D.int)),none,none,none,none,none,none,none]) M:=
  aF (d:=.tup ((aL s row).map D.int)) (am (f:=az) (a:=ae 3) (x:=aZ s.floor) (y:=.int r) rfl (am (f:=cG) (x:=.int (row+s.sy)) (am (x:=.int row) (y:=.int s.sy) rfl (am (x:=.tup [.int s.sx,.int s.sy]) (y:=.int 1) rfl rfl (aB (k:=1) rfl)) rfl) (kL (l:=s.floor) rfl) ((ft (by omega) M).trans (by rw[hr]))) (aB (by rw[getElem?_map,getElem?_eq_getElem hr2,er];rfl)))
 have ki:cm (tJ (ap 2 dA (aa (ae 1) (aa (ae 2) ag))) de (iK (g2 az (ae 0) (gC (.int 3))))) (lt s row w hh g m M.length fun _=>none) (M++[.lst []])=.ok ⟨ys.map D.int,none⟩ (M++[.lst []]):=by
  have kc:tJ (ap 2 dA (aa (ae 1) (aa (ae 2) ag))) de (iK (g2 az (ae 0) (gC (.int 3)))) (lt s row w hh g m M.length fun _=>none) (M++[.lst []])=.ok (.lst (ys.map D.int)) (M++[.lst []]):=by
   unfold tJ;rw[cD (x:=s.d) (y:=.int row) rfl rfl ely,ao,←ey];rfl
  unfold cm;rw[kc,ao];rfl
 have kf:=il (sg:=bo 7) (b:=cx) ki ef;have k6:∀b:GS,ar (aA 6 (fW ag)) b [some (.tup [.int w,.int hh,.int g,.int m]),some s.d,some (.int row),some (aZ s.floor),some (.tup [.int s.sx,.int s.sy]),some (.tup ((aL s row).map D.int)),none,none,none,none,none,none,none] M=b (lt s row w hh g m M.length fun _=>none) (M++[.lst []]):=fun b=>ax (aF hZ)
 rw[ax k1,ax k2,k6,ax kf];have kr:bh (aV (aa (aO bO (aa (aH (bA (aa (g2 az (ae 0) (gC (.int 0))) ag)) a9 en aD) ag)) (aa (aO bO (aa (ae 6) ag)) ag))) (lt s row w hh g m M.length y) (M++[.lst (ys.map (bg s row))])=.ok (.rt (ck s w m row)) (M++[.lst (ys.map (bg s row))]):=by
  unfold ck;rw[etk];refine bH (cb (av (iF (cq (cE (n:=w.toNat) (av (d:=.int (w.toNat:Int)) (am (x:=.tup [.int w,.int hh,.int g,.int m]) (y:=.int 0) rfl rfl ((aB (k:=0) rfl).trans (by rw[Int.toNat_of_nonneg (by omega)]))) rfl) (by omega)) ec (by rw[length_map,length_range];omega)) rfl) (av (iF (x:=.mr M.length) rfl ?_) rfl)));unfold bO;dsimp only;rw[show aU (.mr M.length) (M++[.lst (ys.map (bg s row))])=some (ys.map (bg s row)) from by unfold aU;dsimp only;rw[qX]]
 rw[kr];refine sN ?_ hM;unfold ck;rw[etk];have h1:((ys.map (bg s row)).all (bf 28))=true:=by rw[all_map];exact all_eq_true.mpr fun n _=>rE n
 have h2:(((List.range w.toNat).map fun(x:Nat)=>D.int (aX s row x)).all (bf 28))=true:=by rw[all_map];exact all_eq_true.mpr fun n _=>rfl
 show(bf 29 (.tup _)&&(bf 29 (.tup _)&&true))=true;rw[lB,lB,h1,h2];rfl
noncomputable def kO (x:Int)(s:Sn):D:=.tup [.int s.r,.int (0-s.n),.int (bL x s)]
theorem EU (a b c d e f:Int):HT.lexLt [a,b,c] [d,e,f]=decide (a<d∨(a=d∧(b<e∨(b=e∧c<f)))):=by
 by_cases h1:a<d <;> by_cases h2:a=d <;> by_cases h3:b<e <;> by_cases h4:b=e <;> by_cases h5:c<f <;> simp[HT.lexLt,h1,h2,h3,h4,h5] <;> omega
theorem sC {x:Int}:∀(cs:List Sn) (b:Sn),∃b',b'∈b::cs∧(∀s∈b::cs,pv b' s)∧lO (cs.map (kO x)) (kO x b) [b.r,0-b.n,bL x b]=some (kO x b')
 | [],b=>⟨b,mem_cons_self ..,tH b,rfl⟩
 | s::r,b=>by
  have hi:g6 (kO x s)=some [s.r,0-s.n,bL x s]:=rfl
  by_cases h:b.r<s.r∨(b.r=s.r∧(0-b.n<0-s.n∨(0-b.n=0-s.n∧bL x b<bL x s)))
  ·obtain⟨b',h1,h2,h3⟩:=sC (x:=x) r s;refine⟨b',mem_cons_of_mem _ h1,fun t ht=>?_,?_⟩
   ·rcases mem_cons.mp ht with z|z
    ·subst z;have:=h2 s (mem_cons_self ..);unfold pv at *;omega
    ·exact h2 t z
   ·rw[map_cons];unfold lO;rw[hi];dsimp only;rw[EU,if_pos (decide_eq_true h)];exact h3
  ·obtain⟨b',h1,h2,h3⟩:=sC (x:=x) r b;have hb:=h2 b (mem_cons_self ..);refine⟨b',?_,fun t ht=>?_,?_⟩
   ·rcases mem_cons.mp h1 with z|z
    ·exact z▸mem_cons_self ..
    ·exact mem_cons_of_mem _ (mem_cons_of_mem _ z)
   ·rcases mem_cons.mp ht with z|z
    ·exact z▸hb
    ·rcases mem_cons.mp z with z|z
     ·subst z;unfold pv at *;omega
     ·exact h2 t (mem_cons_of_mem _ z)
   ·rw[map_cons];unfold lO;rw[hi];dsimp only;rw[EU,if_neg (by simpa using h)];exact h3
theorem si {fl:D}{ss:List Sn}{x:Int}{M:aw}(hs:ss.length≤900)(hM:eY M) :
  iE [.tup [fl,.tup (ss.map Sn.d)],.int x] M=.ok (.lst ((dZ x ss).map (kO x))) M:=by
 have l3:(3:Nat)≤sizeLine:=bn (by decide);have a1:jW [fl,D.tup (ss.map Sn.d)] 1=some (.tup (ss.map Sn.d)):=rfl;obtain⟨ρ',M',⟨x5,x6,x7,x8,rfl,rfl⟩,ef⟩:=fR (ds0:=ss.map Sn.d) (s:=bF [3,4,5,6]) (body:=b0)
  (W:=fun i ρ N=>∃x5 x6 x7 x8,ρ=[some (.tup [fl,.tup (ss.map Sn.d)]),some (.int x),some (.mr M.length),x5,x6,x7,x8]∧N=M++[.lst ((dZ x (ss.take i)).map (kO x))])
  (ss.map Sn.d) 0 (fun j d hd ρ N hW=>by
   obtain⟨x5,x6,x7,x8,rfl,rfl⟩:=hW;rw[Nat.zero_add];rw[getElem?_map] at hd;cases gs:ss[j]? with
   | none=>rw[gs] at hd;cases hd
   | some s=>
   rw[gs] at hd;cases hd;rw[pK gs];have hj:=(List.getElem?_eq_some_iff.mp gs).1;have ll:(dZ x (ss.take j)).length<sizeLine:=Nat.lt_of_le_of_lt (ox x _) (Nat.lt_of_lt_of_le (by rw[length_take];omega:(ss.take j).length<1000) (bn (by decide)));have gt:(M++[MO.lst ((dZ x (ss.take j)).map (kO x))])[M.length]?=some (.lst ((dZ x (ss.take j)).map (kO x))):=by simp
   by_cases h1:s.x≤x
   ·by_cases h2:x<s.x+(s.ks.length:Int)
    ·obtain⟨i,hi,ai⟩:=qK h1 h2
     by_cases hz:bL x s=0
     ·rw[hz] at ai;exact⟨_,[some (.tup [fl,.tup (ss.map Sn.d)]),some (.int x),some (.mr M.length),some (.int s.n),some (.int s.x),some (.int s.r),some (.tup (s.ks.map D.int))],M++[.lst ((dZ x (ss.take j)).map (kO x))],rfl,by
       simp_arith [b0,h1,h2,hi,ai,bE,now,aY,kE],_,_,_,_,rfl,by simp[hz]⟩
     ·exact⟨_,[some (.tup [fl,.tup (ss.map Sn.d)]),some (.int x),some (.mr M.length),some (.int s.n),some (.int s.x),some (.int s.r),some (.tup (s.ks.map D.int))],M++[.lst ((dZ x (ss.take j)).map (kO x)++[kO x s])],rfl,by
       simp_arith [b0,h1,h2,hi,ai,bE,now,aY,kE,hz,gt,ll,l3,kO],_,_,_,_,rfl,by simp[hz]⟩
    ·have hz:=lA (s:=s) (x:=x) (fun z=>h2 z.2);exact⟨_,[some (.tup [fl,.tup (ss.map Sn.d)]),some (.int x),some (.mr M.length),some (.int s.n),some (.int s.x),some (.int s.r),some (.tup (s.ks.map D.int))],M++[.lst ((dZ x (ss.take j)).map (kO x))],rfl,by
      simp_arith [b0,h1,h2],_,_,_,_,rfl,by simp[hz]⟩
   ·have hz:=lA (s:=s) (x:=x) (fun z=>h1 z.1);exact⟨_,[some (.tup [fl,.tup (ss.map Sn.d)]),some (.int x),some (.mr M.length),some (.int s.n),some (.int s.x),some (.int s.r),some (.tup (s.ks.map D.int))],M++[.lst ((dZ x (ss.take j)).map (kO x))],rfl,by
     simp_arith [b0,h1],_,_,_,_,rfl,by simp[hz]⟩)
  [some (.tup [fl,.tup (ss.map Sn.d)]),some (.int x),some (.mr M.length),none,none,none,none] (M++[.lst []]) ⟨_,_,_,_,rfl,rfl⟩
 have e0:(0:Nat)+(ss.map Sn.d).length=ss.length:=by simp
 rw[e0,take_length] at ef;have rt:=kJ (M:=M) (xs:=(dZ x ss).map (kO x)) (tR (fun _=>rfl) _) hM;have run:bD 5 cV [.tup [fl,.tup (ss.map Sn.d)],.int x] M=.ok (.mr M.length) (M++[.lst ((dZ x ss).map (kO x))]):=by
  unfold cV;simp_arith [gN,a1,ef]
 show fJ M.length (bD 5 cV [.tup [fl,.tup (ss.map Sn.d)],.int x] M)=_;rw[run];exact rt
theorem pR {x:Int}{ρ:bj}{M:aw}{ds0:List D}:∀cs:List Sn,bb ⟨ds0,none⟩ dh eP (cs.map (kO x)) ρ M=.ok ((cs.filter fun s=>decide (0<s.r)).map (kO x)) M
 | []=>rfl
 | s::r=>by
  have ih:=pR (x:=x) (ρ:=ρ) (M:=M) (ds0:=ds0) r;have a0:∀a b c:D,jW [a,b,c] 0=some a:=fun _ _ _=>rfl
  have et:dh (some (kO x s)::ρ) M=.ok (decide (0<s.r)) M:=by simp_arith [dh,kO,a0]
  have ee:eP (some (kO x s)::ρ) M=.ok (kO x s) M:=rfl;rw[map_cons]
  by_cases h:0<s.r
  ·rw[filter_cons_of_pos (by simpa using h),map_cons];simp[bb,gG,et,ee,ih,h]
  ·rw[filter_cons_of_neg (by simpa using h)];simp[bb,gG,et,ih,h]
theorem oA (x:Int)(n:Nat):∀cs:List Sn,aW (n+1) (cs.map (kO x))=true
 | []=>rfl
 | s::r=>by
  rw[map_cons];show(aY (n+1) (kO x s)&&aW (n+1) (r.map (kO x)))=true;rw[oA x n r];rfl
theorem v7 {x:Int}(cs:List Sn):dQ (cs.map (kO x)) []=cs.isEmpty:=by
 cases cs <;> rfl
theorem sO {x:Int}{cs:List Sn}(h:cs≠[]):∃b∈cs,(∀s∈cs,pv b s)∧xD (cs.map (kO x))=some (.tup [.int b.r,.int (0-b.n),.int (bL x b)]):=by
 cases cs with
 | nil=>exact absurd rfl h
 | cons s r=>
  obtain⟨b,h1,h2,h3⟩:=sC (x:=x) r s;exact⟨b,h1,h2,h3⟩
theorem uJ {x fl:Int}{fs:List D}{ss:List Sn}{M:aw}(hs:ss.length≤900)(hM:eY M)(hf:jW fs x=some (.int fl))(hn:∀a∈ss,∀b∈ss,a.n=b.n→a=b) :
  ∃k:Int,fQ [.tup [.tup fs,.tup (ss.map Sn.d)],.int x] M=.ok (.int k) M∧cF [.tup [.tup fs,.tup (ss.map Sn.d)],.int x] M=.ok (.int k) M:=by
 have e1:=mf (fl:=.tup fs) (ss:=ss) (x:=x) (M:=M) hs hM;have e2:=si (fl:=.tup fs) (ss:=ss) (x:=x) (M:=M) hs hM;have ea:=fun ρ=>pR (x:=x) (ρ:=ρ) (M:=M) (ds0:=(dZ x ss).map (kO x)) (dZ x ss)
 have sub:∀s∈dZ x ss,s∈ss:=fun s h=>(mem_filter.mp h).1
 have one:∀a∈dZ x ss,∀b∈dZ x ss,pv a b→pv b a→a=b:=fun a ha b hb h1 h2=>hn a (sub a ha) b (sub b hb) (by unfold pv at *;omega)
 have lc:(dZ x ss).length≤sizeLine:=Nat.le_trans (ox x ss) (bn (by omega));have lf:((dZ x ss).filter fun s=>decide (0<s.r)).length≤sizeLine:=Nat.le_trans (length_filter_le _ _) lc;have l0:(0:Nat)≤sizeLine:=Nat.zero_le _;have a0:∀a b:D,jW [a,b] 0=some a:=fun _ _=>rfl
 have a2:∀a b c:D,jW [a,b,c] 2=some c:=fun _ _ _=>rfl
 have at_:∀k,dk [.int fl,.lst ((dZ x ss).map (kP x))] M=.ok (.int k) M→fQ [.tup [.tup fs,.tup (ss.map Sn.d)],.int x] M=.ok (.int k) M:=fun k h=>by
  unfold fQ iR;simp_arith [e1,hf,h]
 have qn:=v7 (x:=x) (dZ x ss);have qf:=v7 (x:=x) ((dZ x ss).filter fun s=>decide (0<s.r));have k1:=oA x 38 (dZ x ss);have k2:=oA x 38 ((dZ x ss).filter fun s=>decide (0<s.r));generalize hfl:((dZ x ss).filter fun s=>decide (0<s.r))=ab at *;generalize hcs:dZ x ss=cs at *;have mab:∀s,s∈ab↔s∈cs∧0<s.r:=fun s=>by rw[←hfl];simp
 rcases pH (x:=x) (fl:=fl) (cs:=cs) (M:=M) with⟨ec,es⟩|⟨b,hb,hm,es⟩
 ·subst ec;have eab:ab=[]:=by cases ab with|nil=>rfl|cons s r=>exact absurd ((mab s).mp (mem_cons_self ..)).1 (by simp)
  subst eab;refine⟨fl,at_ fl es,?_⟩;have ea0:∀ρ,bb ⟨[],none⟩ dh eP [] ρ M=.ok [] M:=fun _=>rfl
  unfold cF dW;simp_arith [e2,aH,ea0,bE,now,aY,aW,kE,dQ,a0,hf,l0]
 ·by_cases hab:ab=[]
  ·subst hab;have nr:¬1≤b.r:=fun z=>by have:=(mab b).mpr ⟨hb,by omega⟩;cases this
   have ne:cs≠[]:=fun z=>by rw[z] at hb;cases hb
   have nb:cs.isEmpty=false:=by cases cs with|nil=>exact absurd rfl ne|cons _ _=>rfl
   by_cases hz:fl=0
   ·obtain⟨b',hb',hm',e'⟩:=sO (x:=x) ne;have ebb:b'=b:=one b' hb' b hb (hm' b hb) (hm b' hb');subst ebb;refine⟨bL x b',at_ _ (by rw[es,if_pos (.inr hz)]),?_⟩;subst hz;unfold cF dW;simp_arith [e2,aH,ea,bE,now,aY,aW,kE,dQ,a0,hf,l0,k1,qn,nb,e',a2]
   ·refine⟨fl,at_ _ (by rw[es,if_neg (by omega)]),?_⟩;unfold cF dW;simp_arith [e2,aH,ea,bE,now,aY,aW,kE,dQ,a0,hf,l0,k1,qn,nb,hz]
  ·obtain⟨b',hb',hm',e'⟩:=sO (x:=x) hab;have hb2:=(mab b').mp hb';have hr:1≤b.r:=by have:=hm b' hb2.1;unfold pv at this;omega
   have hbab:=(mab b).mpr ⟨hb,by omega⟩;have ebb:b'=b:=one b' hb2.1 b hb (hm' b hbab) (hm b' hb2.1);subst ebb;have nb:ab.isEmpty=false:=by cases ab with|nil=>exact absurd rfl hab|cons _ _=>rfl
   refine⟨bL x b',at_ _ (by rw[es,if_pos (.inl hr)]),?_⟩;unfold cF dW;simp_arith [e2,aH,ea,bE,now,aY,aW,kE,dQ,a0,hf,l0,lf,k2,qf,nb,e',a2]
noncomputable def uF (xs:List Int)(lo hi:Option Int):List Int:=(xs.drop (HT.sIx xs.length 0 lo)).take (HT.sIx xs.length xs.length hi-HT.sIx xs.length 0 lo)
theorem wz (xs:List Int)(lo hi:Option Int):jH (xs.map D.int) lo hi=(uF xs lo hi).map D.int:=by simp[jH,uF]
theorem xG (xs:List Int)(lo hi:Option Int):(uF xs lo hi).length≤xs.length:=by
 unfold uF;rw[length_take,length_drop];omega
theorem wC {xs:List Int}{lo hi:Option Int}{y:Int}(h:y∈uF xs lo hi):y∈xs:=mem_of_mem_drop (mem_of_mem_take h)
noncomputable def lR (s:df)(row n:Int):Sn:=match s.movers[n.toNat]? with
 | some m=>⟨n,m.x,m.rank,fL (s.book.getD (m.shape.getD 0) []) m.turn (row-m.y).toNat⟩
 | none=>⟨n,0,0,[]⟩
noncomputable def dM (s:df)(m row:Int):List Sn:=(uF (cz s row) none (some m)).map (lR s row)
theorem wM {s:df}{row n:Int}(h:n∈cz s row):bg s row n=(lR s row n).d:=by
 obtain⟨i,rfl,hi,m,gm,lz⟩:=kG h;unfold bg lR;rw[Int.toNat_natCast,gm];rfl
theorem uN (s:df)(m row:Int):jJ s m row=(dM s m row).map Sn.d:=by
 unfold jJ dM;rw[wz,map_map,map_map];apply map_congr_left;intro n hn;exact wM (wC hn)
noncomputable def xM (s:df)(w row:Int):List Int:=(List.range w.toNat).map fun(x:Nat)=>aX s row x
theorem tZ (s:df)(w m row:Int):ck s w m row=.tup [.tup ((xM s w row).map D.int),.tup ((dM s m row).map Sn.d)]:=by
 unfold ck;rw[uN];unfold xM;rw[map_map];rfl
theorem Bc {s:df}{row mm:Int}(ok:dR mm s)(hm:mm≤12):(cz s row).length≤12:=by
 have:=g5 s row s.movers.length;have:=ok.ml;unfold cz;omega
theorem yS {s:df}{m row mm:Int}(ok:dR mm s)(hm:mm≤12):(dM s m row).length≤12:=by
 unfold dM;rw[length_map];exact Nat.le_trans (xG _ _ _) (Bc ok hm)
theorem yG {s:df}{w row mm:Int}(ok:dR mm s):∀k∈xM s w row,0≤k∧k≤15:=by
 intro k hk;obtain⟨x,_,rfl⟩:=mem_map.mp hk;obtain⟨f1,f2,fw,f3,f4,f5⟩:=ok.floor;unfold aX;have fr:∀k∈aL s row,0≤k∧k≤15:=by
  intro k hk;unfold aL at hk;rw[List.getD] at hk;cases q:s.floor[((row+s.sy) % (s.floor.length:Int)).toNat]? with
  | none=>rw[q] at hk;cases hk
  | some r=>
   rw[q] at hk;exact(f5 r (mem_of_getElem? q)).2 k hk
 rw[List.getD];cases q:(aL s row)[((↑x+s.sx) % ((aL s row).length:Int)).toNat]? with
 | none=>exact⟨by simp,by simp⟩
 | some r=>exact fr r (mem_of_getElem? q)
theorem ul {rs:List (List Int)}{way:Int}{n:Nat}(h:∀r∈rs,∀k∈r,0≤k∧k≤15):∀k∈fL rs way n,0≤k∧k≤15:=by
 have g:∀(i:Nat),∀k∈rs.getD i [],0≤k∧k≤15:=by
  intro i k hk;rw[List.getD] at hk;cases q:rs[i]? with
  | none=>rw[q] at hk;cases hk
  | some r=>rw[q] at hk;exact h r (mem_of_getElem? q) k hk
 intro k hk;unfold fL at hk;dsimp only at hk;split at hk
 ·rw[mem_reverse] at hk;split at hk
  ·exact g _ k hk
  ·exact g _ k hk
 ·split at hk
  ·exact g _ k hk
  ·exact g _ k hk
theorem BY {s:df}{m row mm x:Int}(ok:dR mm s):∀q∈dM s m row,0≤bL x q∧bL x q≤15:=by
 intro q hq;obtain⟨n,_,rfl⟩:=mem_map.mp hq;have a:∀k∈(lR s row n).ks,0≤k∧k≤15:=by
  intro k hk;unfold lR at hk;split at hk
  ·refine ul (fun r hr k hk=>?_) k hk;rename_i m' _ _;rw[List.getD] at hr;cases e:s.book[m'.shape.getD 0]? with
   | none=>rw[e] at hr;cases hr
   | some b=>
    rw[e] at hr;obtain⟨b1,b2,bw,b3,b4,b5⟩:=ok.book b (mem_of_getElem? e);exact(b5 r hr).2 k hk
  ·cases hk
 unfold bL;split
 ·rw[List.getD];cases e:(lR s row n).ks[(x-(lR s row n).x).toNat]? with
  | none=>exact⟨by simp,by simp⟩
  | some k=>exact a k (mem_of_getElem? e)
 ·exact⟨by simp,by simp⟩
noncomputable def j0 (x fl:Int)(cs:List Sn)(k:Int):Prop:=(cs=[]∧k=fl)∨∃b∈cs,(∀s∈cs,pv b s)∧k=if 1≤b.r∨fl=0 then bL x b else fl
theorem pT {x fl:Int}{cs:List Sn}{M:aw}:∃k,j0 x fl cs k∧dk [.int fl,.lst (cs.map (kP x))] M=.ok (.int k) M:=by
 rcases pH (fl:=fl) (cs:=cs) with⟨e,h⟩|⟨b,hb,hl,h⟩
 ·exact⟨fl,.inl ⟨e,rfl⟩,h⟩
 ·exact⟨_,.inr ⟨b,hb,hl,rfl⟩,h⟩
theorem j0.rng {x fl k:Int}{cs:List Sn}(h:j0 x fl cs k)(hf:0≤fl∧fl≤15)(hc:∀q∈cs,0≤bL x q∧bL x q≤15):0≤k∧k≤15:=by
 rcases h with⟨_,rfl⟩|⟨b,hb,_,rfl⟩
 ·exact hf
 ·split
  ·exact hc b hb
  ·exact hf
theorem j0.uniq {x fl k k':Int}{s:df}{m row:Int}(h:j0 x fl (dZ x (dM s m row)) k)(h':j0 x fl (dZ x (dM s m row)) k'):k=k':=by
 have nf:∀b∈dZ x (dM s m row),b=lR s row b.n:=fun b hb=>by
  obtain⟨n,_,rfl⟩:=mem_map.mp (mem_filter.mp hb).1;have e:(lR s row n).n=n:=by
   unfold lR;split <;> rfl
  rw[e]
 rcases h with⟨e,rfl⟩|⟨b,hb,hl,rfl⟩
 ·rcases h' with⟨_,rfl⟩|⟨b,hb,_⟩
  ·rfl
  ·rw[e] at hb;cases hb
 ·rcases h' with⟨e,rfl⟩|⟨b',hb',hl',rfl⟩
  ·rw[e] at hb;cases hb
  ·have a1:pv b b':=hl b' hb';have a2:pv b' b:=hl' b hb;unfold pv at a1 a2;have e:b.n=b'.n:=by omega
   have e2:b=b':=by rw[nf b hb,nf b' hb',e]
   rw[e2]
theorem qV (s:df)(m row x:Int):∃k,j0 x (aX s row x) (dZ x (dM s m row)) k:=by
 obtain⟨k,h,_⟩:=pT (x:=x) (fl:=aX s row x) (cs:=dZ x (dM s m row)) (M:=[]);exact⟨k,h⟩
noncomputable def inkV (s:df) (m row x:Int):Int:=Classical.choose (qV s m row x)
theorem sT (s:df)(m row x:Int):j0 x (aX s row x) (dZ x (dM s m row)) (inkV s m row x):=Classical.choose_spec (qV s m row x)
theorem xO {s:df}{m row:Int}:∀a∈dM s m row,∀b∈dM s m row,a.n=b.n→a=b:=fun a ha b hb e=>by
 obtain⟨n,_,rfl⟩:=mem_map.mp ha;obtain⟨n',_,rfl⟩:=mem_map.mp hb;have q:∀n,(lR s row n).n=n:=fun n=>by unfold lR;split <;> rfl
 rw[q,q] at e;rw[e]
theorem kS {s:df}{w row:Int}{x:Nat}(hx:(x:Int)<w):(xM s w row)[x]?=some (aX s row x):=by
 unfold xM;rw[getElem?_map,getElem?_range (by omega)];rfl
theorem wY {s:df}{mm w m row:Int}{x:Nat}(ok:dR mm s)(hx:(x:Int)<w):0≤inkV s m row x∧inkV s m row x≤15:=
 (sT s m row x).rng (yG (w:=w) ok _ (mem_of_getElem? (kS hx))) fun q hq=>BY ok q (mem_filter.mp hq).1
theorem qG {s:df}{mm w m row:Int}{x:Nat}{M:aw}(ok:dR mm s)(hm:mm≤12)(hx:(x:Int)<w)(hM:eY M) :
  fQ [ck s w m row,.int x] M=.ok (.int (inkV s m row x)) M∧cF [ck s w m row,.int x] M=.ok (.int (inkV s m row x)) M:=by
 have hf:jW ((xM s w row).map D.int) (x:Int)=some (.int (aX s row x)):=jg (by rw[getElem?_map,kS hx];rfl);have hs:(dM s m row).length≤900:=Nat.le_trans (yS ok hm) (by decide);obtain⟨k,h1,h2⟩:=uJ (M:=M) hs hM hf xO;obtain⟨k2,h3,h4⟩:=pT (x:=x) (fl:=aX s row x) (cs:=dZ x (dM s m row)) (M:=M);have e1:=mf (fl:=.tup ((xM s w row).map D.int)) (ss:=dM s m row) (x:=x) (M:=M) hs hM;have h5:fQ [.tup [.tup ((xM s w row).map D.int),.tup ((dM s m row).map Sn.d)],.int x] M=.ok (.int k2) M:=by
  show aE (iR [some (.tup [.tup ((xM s w row).map D.int),.tup ((dM s m row).map Sn.d)]),some (.int x),none,none] M)=_;unfold iR;refine congrArg aE ((ax (iP rfl rfl)).trans (bH (cD (am (x:=.tup ((xM s w row).map D.int)) (y:=.int x) rfl rfl (aB (by rw[getElem?_map,kS hx];rfl))) (cD rfl rfl e1) h4)))
 rw[h1] at h5;cases h5;have:=j0.uniq h3 (sT s m row x);subst this;rw[tZ];exact⟨h1,h2⟩
noncomputable def inkR (s:df) (w m row:Int):List Int:=(List.range w.toNat).map fun(x:Nat)=>inkV s m row x
noncomputable def inksL (s:df) (w h m:Int):List (List Int):=(List.range h.toNat).map fun(r:Nat)=>inkR s w m r
noncomputable def cg (r:List Int):D:=.lst (r.map D.int)
noncomputable def aN (rs:List (List Int)):D:=.lst (rs.map cg)
theorem kn {g:GE}{ρ:bj}{M:aw}{w:Int}(h:g ρ M=.ok (.int w) M)(h0:0≤w)(h1:w≤1000):bA (aa g ag) ρ M=.ok ⟨ay 0 w.toNat,none⟩ M:=
 cE (av (d:=.int (w.toNat:Int)) (by rw[Int.toNat_of_nonneg h0];exact h) rfl) (by omega)
theorem xX {f:Int→D}{n:Nat}:(ay 0 n).map (fun d=>match d with | .int x=>f x|d=>d)=(List.range n).map fun(x:Nat)=>f x:=by
 unfold ay;rw[map_map];apply map_congr_left;intro x _;simp
theorem j7 {ge:GE}{ρ:bj}{M:aw}{n:Nat}(f:Int→D)(h:∀x:Nat,x<n→ge (some (.int x)::ρ) M=.ok (f x) M):bb ⟨ay 0 n,none⟩ a9 ge (ay 0 n) ρ M=.ok ((List.range n).map fun(x:Nat)=>f x) M:=by
 rw[←xX];refine gY (ay 0 n) fun d hd=>?_
 obtain⟨x,rfl,x0,x1⟩:=ir hd;obtain⟨j,rfl⟩:=Int.eq_ofNat_of_zero_le x0;exact h j (by omega)
theorem tF {s:df}{w m row:Int}:(List.range w.toNat).map (fun(x:Nat)=>D.int (inkV s m row x))=(inkR s w m row).map D.int:=by
 unfold inkR;rw[map_map];rfl
theorem pW {s:df}{w h m:Int}:(List.range h.toNat).map (fun(r:Nat)=>D.lst ((inkR s w m r).map D.int))=(inksL s w h m).map cg:=by
 unfold inksL;rw[map_map];rfl
theorem jl {α:Type}{f g:α→D}{ge:GE}{ρ:bj}{M:aw}{ds0:List D}:∀l:List α,(∀a∈l,ge (some (f a)::ρ) M=.ok (g a) M)→bb ⟨ds0,none⟩ a9 ge (l.map f) ρ M=.ok (l.map g) M
 | [],_=>rfl
 | a::l,h=>by
  rw[map_cons,map_cons,bb,if_pos (gG ..)];show(match ge (some (f a)::ρ) M with | .ok e M2=>(bb ⟨ds0,none⟩ a9 ge (l.map f) ρ M2).bind fun es M3=>.ok (e::es) M3|_=>.bad)=_;rw[h a mem_cons_self];dsimp only;rw[jl l fun b hb=>h b (mem_cons_of_mem _ hb),ao]
theorem sD {s:df}{mm w h g m:Int}{M:aw}(ok:dR mm s)(hm:mm≤12)(hw:1≤w∧w≤900)(hh:1≤h∧h≤900)(hM:eY M) :
  cQ [.tup [.int w,.int h,.int g,.int m],s.d] M=.ok (aN (inksL s w h m)) M:=by
 have c1:=j7 (ge:=dP) (ρ:=[some (.tup [.int w,.int h,.int g,.int m]),some s.d,none]) (M:=M) (n:=h.toNat) (fun r=>ck s w m r) fun r _=>mI (x:=.tup [.int w,.int h,.int g,.int m]) (y:=s.d) (z:=.int r) rfl rfl rfl (qB ok (by omega) hw hM)
 generalize hT:(List.range h.toNat).map (fun(r:Nat)=>ck s w m (r:Int))=T at c1;have kr:∀r:Nat,cC (some (ck s w m r)::[some (.tup [.int w,.int h,.int g,.int m]),some s.d,some (.lst T)]) M=.ok (.lst ((inkR s w m r).map D.int)) M:=fun r=>by
  have c2:=j7 (ge:=dB) (ρ:=[some (ck s w m r),some (.tup [.int w,.int h,.int g,.int m]),some s.d,some (.lst T)]) (M:=M) (n:=w.toNat) (fun x=>.int (inkV s m r x)) fun x hx=>cD (x:=ck s w m r) (y:=.int x) rfl rfl (qG ok hm (by omega) hM).2
  rw[tF] at c2;exact cq (kn (am (x:=.tup [.int w,.int h,.int g,.int m]) (y:=.int 0) rfl rfl (aB (k:=0) rfl)) (by omega) (by omega)) c2 (by rw[length_map];unfold inkR;rw[length_map,length_range];omega)
 have c3:∀ds0:List D,bb ⟨ds0,none⟩ a9 cC T [some (.tup [.int w,.int h,.int g,.int m]),some s.d,some (.lst T)] M=.ok ((inksL s w h m).map cg) M:=fun ds0=>by
  rw[←pW,←hT];exact jl _ fun r _=>by rw[hT];exact kr r
 show aE (cT [some (.tup [.int w,.int h,.int g,.int m]),some s.d,none] M)=_;unfold cT;refine congrArg aE ((ax (aF (cq (kn (am (x:=.tup [.int w,.int h,.int g,.int m]) (y:=.int 1) rfl rfl (aB (k:=1) rfl)) (by omega) (by omega)) c1 (by rw[←hT,length_map,length_range];omega)))).trans (bH (cq (j4 rfl) (c3 _) (by rw[length_map];unfold inksL;rw[length_map,length_range];omega))))
theorem m9 {s:df}{mm w h g m:Int}{M:aw}(ok:dR mm s)(hm:mm≤12)(hw:1≤w∧w≤900)(hh:1≤h∧h≤900)(hmo:0≤m∧m≤12)(hM:eY M) :
  dC [.tup [.int w,.int h,.int g,.int m],s.d] M=.ok (aN (inksL s w h m)) M:=by
 have c1:=j7 (ge:=gH) (ρ:=[some (.tup [.int w,.int h,.int g,.int m]),some s.d,some (.int w),some (.int h),some (.int g),some (.int m),none]) (M:=M) (n:=h.toNat) (fun r=>ck s w m r) fun r _=>mI (x:=.tup [.int w,.int h,.int g,.int m]) (y:=s.d) (z:=.int r) rfl rfl rfl (xu ok (by omega) hw hmo hM)
 generalize hT:(List.range h.toNat).map (fun(r:Nat)=>ck s w m (r:Int))=T at c1;have kr:∀r:Nat,d9 (some (ck s w m r)::[some (.tup [.int w,.int h,.int g,.int m]),some s.d,some (.int w),some (.int h),some (.int g),some (.int m),some (.lst T)]) M=.ok (.lst ((inkR s w m r).map D.int)) M:=fun r=>by
  have c2:=j7 (ge:=gL) (ρ:=[some (ck s w m r),some (.tup [.int w,.int h,.int g,.int m]),some s.d,some (.int w),some (.int h),some (.int g),some (.int m),some (.lst T)]) (M:=M) (n:=w.toNat) (fun x=>.int (inkV s m r x)) fun x hx=>cD (x:=ck s w m r) (y:=.int x) rfl rfl (qG ok hm (by omega) hM).1
  rw[tF] at c2;exact cq (kn rfl (by omega) (by omega)) c2 (by rw[length_map];unfold inkR;rw[length_map,length_range];omega)
 have c3:∀ds0:List D,bb ⟨ds0,none⟩ a9 d9 T [some (.tup [.int w,.int h,.int g,.int m]),some s.d,some (.int w),some (.int h),some (.int g),some (.int m),some (.lst T)] M=.ok ((inksL s w h m).map cg) M:=fun ds0=>by
  rw[←pW,←hT];exact jl _ fun r _=>by rw[hT];exact kr r
 show aE (fu [some (.tup [.int w,.int h,.int g,.int m]),some s.d,none,none,none,none,none] M)=_;unfold fu;refine congrArg aE ((ax (iP rfl rfl)).trans ((ax (aF (cq (kn rfl (by omega) (by omega)) c1 (by rw[←hT,length_map,length_range];omega)))).trans (bH (cq (j4 rfl) (c3 _) (by rw[length_map];unfold inksL;rw[length_map,length_range];omega)))))
noncomputable def jc (r:List Int):MO:=.lst (r.map D.int)
noncomputable def hU (n k:Nat):List D:=(List.range k).map fun j=>D.mr (n+1+j)
noncomputable def cO (n:Nat)(rows:List (List Int)):aw:=.lst (hU n rows.length)::rows.map jc
structure cf (M:aw)(n:Nat)(rows:List (List Int)):Prop where
 top:M[n]?=some (.lst (hU n rows.length))
 row:∀(k:Nat) (r:List Int),rows[k]?=some r→M[n+1+k]?=some (jc r)
theorem cf.new (M:aw)(rows:List (List Int)):cf (M++cO M.length rows) M.length rows:=
 ⟨by rw[getElem?_append_right (Nat.le_refl _),Nat.sub_self];rfl,fun k r h=>by
  rw[getElem?_append_right (by omega),show M.length+1+k-M.length=k+1 by omega];show(rows.map jc)[k]?=_;rw[getElem?_map,h];rfl⟩
theorem cf.app {M E:aw}{n:Nat}{rows:List (List Int)}(h:cf M n rows):cf (M++E) n rows:=
 ⟨by rw[getElem?_append_left (List.getElem?_eq_some_iff.mp h.top).1];exact h.top,fun k r q=>by
  have:=h.row k r q;rw[getElem?_append_left (List.getElem?_eq_some_iff.mp this).1];exact this⟩
theorem sI {n k j:Nat}(h:j<k):(hU n k)[j]?=some (.mr (n+1+j)):=by
 unfold hU;rw[getElem?_map,getElem?_range h];rfl
theorem Ac {M:aw}{i k:Nat}{xs:List D}{d:D}(h:M[i]?=some (.lst xs))(hk:xs[k]?=some d):az (.mr i) (.int k) M=.ok d M:=by
 have a:=jg (xs:=xs) (j:=k) hk;unfold az aU;dsimp only;rw[h];dsimp only;rw[a]
theorem cf.get1 {M:aw}{n r:Nat}{rows:List (List Int)}(h:cf M n rows)(hr:r<rows.length):az (.mr n) (.int r) M=.ok (.mr (n+1+r)) M:=Ac h.top (sI hr)
noncomputable def cS (I:List (List Int))(r x:Nat):Int:=(I.getD r []).getD x 0
theorem cf.get2 {M:aw}{n r x:Nat}{rows:List (List Int)}(h:cf M n rows){q:List Int}(hr:rows[r]?=some q)(hx:x<q.length):az (.mr (n+1+r)) (.int x) M=.ok (.int (cS rows r x)) M:=
 Ac (h.row r q hr) (by
  unfold cS;rw[show rows.getD r []=q by rw[List.getD,hr];rfl,getElem?_map,getElem?_eq_getElem hx,List.getD,getElem?_eq_getElem hx];rfl)
theorem cf.now {M:aw}{n:Nat}{rows:List (List Int)}(h:cf M n rows):lS (.mr n) M=aN rows:=by
 have e1:DL.now (.mr n) M=.lst (hU n rows.length):=by
  show(match M[n]? with|some (.lst xs)=>D.lst xs|_=>.mr n)=_;rw[h.top]
 have e2:(hU n rows.length).map (fun x=>DL.now x M)=rows.map cg:=by
  apply ext_getElem?;intro k;rw[getElem?_map,getElem?_map]
  by_cases hk:k<rows.length
  ·rw[sI hk,getElem?_eq_getElem hk];show some (match M[n+1+k]? with|some (.lst xs)=>D.lst xs|_=>.mr (n+1+k))=some (cg rows[k]);rw[h.row k _ (getElem?_eq_getElem hk)];rfl
  ·rw[getElem?_eq_none (by unfold hU;rw[length_map,length_range];omega),getElem?_eq_none (by omega)];rfl
 unfold lS;rw[e1];dsimp only;rw[e2];rfl
theorem jh:∀a b:List Int,dQ (a.map D.int) (b.map D.int)=decide (a=b)
 | [],[]=>rfl
 | [],_::_=>rfl
 | _::_,[]=>rfl
 | x::a,y::b=>by
  show((x==y)&&dQ (a.map D.int) (b.map D.int))=_;rw[jh a b]
  by_cases h:x=y
  ·subst h;simp
  ·simp[h]
theorem nF:∀a b:List (List Int),dQ (a.map cg) (b.map cg)=decide (a=b)
 | [],[]=>rfl
 | [],_::_=>rfl
 | _::_,[]=>rfl
 | x::a,y::b=>by
  show(dQ (x.map D.int) (y.map D.int)&&dQ (a.map cg) (b.map cg))=_;rw[jh,nF a b]
  by_cases h:x=y
  ·subst h;simp
  ·simp[h]
theorem ql (n:Nat):∀a:List Int,aW n (a.map D.int)=true
 | []=>rfl
 | x::a=>ql n a
theorem qN (n:Nat):∀a:List (List Int),aW (n+1) (a.map cg)=true
 | []=>rfl
 | x::a=>by
  show(aW n (x.map D.int)&&aW (n+1) (a.map cg))=true;rw[ql,qN n a];rfl
theorem xE {x y:D}{M:aw}{a b:List (List Int)}{neg:Bool}(hx:lS x M=aN a)(hy:lS y M=aN b):vn neg x y M=.ok (.bl (decide (a=b) != neg)) M:=by
 unfold vn;rw[hx,hy];have c:∀a,aY 40 (aN a)=true:=fun a=>qN 38 a
 rw[c,c];show aM.ok (D.bl (dQ (a.map cg) (b.map cg) != neg)) M=_;rw[nF]
theorem wB (a:List (List Int))(M:aw):lS (aN a) M=aN a:=by
 unfold lS aN;show D.lst ((a.map cg).map fun x=>DL.now x M)=_;rw[map_map];rfl
noncomputable def kR (p:List Int)(dd:Option (Int×Int))(k t T:Int):Int:=match dd with
 | none=>p.getD k.toNat 0
 | some q=>if k=q.1∧T≤t then q.2 else p.getD k.toNat 0
noncomputable def lP (I:List (List Int))(p:List Int)(dd:Option (Int×Int))(w g:Nat)(T:Int)(r n:Nat):List Int:=(List.range n).map fun x=>kR p dd (cS I r x) ((r*(w+g)+x:Nat):Int) T
noncomputable def cU (I:List (List Int))(p:List Int)(dd:Option (Int×Int))(w g:Nat)(T:Int)(h:Nat):List (List Int):=(List.range h).map fun r=>lP I p dd w g T r w
structure iL (I:List (List Int))(w h:Nat):Prop where
 len:I.length=h
 row:∀(r:Nat) (q:List Int),I[r]?=some q→q.length=w∧∀k∈q,0≤k∧k≤15
noncomputable def o5 (dd:Option (Int×Int)):D:=match dd with
 | none=>.non
 | some q=>.tup [.int q.1,.int q.2]
theorem iL.at {I:List (List Int)}{w h r x:Nat}(ok:iL I w h)(hr:r<h)(hx:x<w):∃q,I[r]?=some q∧q[x]?=some (cS I r x)∧0≤cS I r x∧cS I r x≤15:=by
 have hr':r<I.length:=by rw[ok.len];exact hr
 have e:=getElem?_eq_getElem hr';obtain⟨l,b⟩:=ok.row r _ e;have hx':x<I[r].length:=by omega
 have e2:cS I r x=I[r][x]:=by unfold cS;rw[show I.getD r []=I[r] by rw[List.getD,e];rfl,List.getD,getElem?_eq_getElem hx'];rfl
 exact⟨_,e,by rw[e2];exact getElem?_eq_getElem hx',by rw[e2];exact(b _ (getElem_mem hx')).1,by rw[e2];exact(b _ (getElem_mem hx')).2⟩
theorem jX {I:List (List Int)}{w h r x:Nat}(ok:iL I w h)(hr:r<h)(hx:x<w){a b c:GE}{ρ:bj}{M:aw}(ha:a ρ M=.ok (aN I) M)(hb:b ρ M=.ok (.int r) M)(hc:c ρ M=.ok (.int x) M) :
  g2 az (g2 az a b) c ρ M=.ok (.int (cS I r x)) M:=by
 obtain⟨q,e1,e2,_⟩:=ok.at hr hx;exact am (am ha hb (iV (by rw[getElem?_map,e1];rfl))) hc (iV (by rw[getElem?_map,e2];rfl))
noncomputable abbrev ly (fr I p dd T f r l x hu:D):bj:=[some fr,some I,some p,some dd,some T,some f,some r,some l,some x,some hu]
theorem wo {I:List (List Int)}{p:List Int}{dd:Option (Int×Int)}{w h g r x:Nat}{m T:Int}{N:aw}{E:List Int}{f:D}{hu:Option D}(ok:iL I w h)(hp:p.length=16)(hr:r<h)(hx:x<w)(hw:w≤900)(hg:g≤900)(hh:h≤900)(hE:E.length<1000) :
  cR [some (.tup [.int w,.int h,.int g,.int m]),some (aN I),some (.tup (p.map D.int)),some (o5 dd),some (.int T),some f,some (.int r),some (.mr N.length),some (.int x),hu] (N++[.lst (E.map D.int)]) =
   .ok (.nx (ly (.tup [.int w,.int h,.int g,.int m]) (aN I) (.tup (p.map D.int)) (o5 dd) (.int T) f (.int r) (.mr N.length) (.int x) (.int (kR p dd (cS I r x) ((r*(w+g)+x:Nat):Int) T)))) (N++[.lst ((E++[kR p dd (cS I r x) ((r*(w+g)+x:Nat):Int) T]).map D.int)]):=by
 have gi:∀hu M,g2 az (g2 az (ae 1) (ae 6)) (ae 8) [some (.tup [.int w,.int h,.int g,.int m]),some (aN I),some (.tup (p.map D.int)),some (o5 dd),some (.int T),some f,some (.int r),some (.mr N.length),some (.int x),hu] M=.ok (.int (cS I r x)) M:=fun hu M=>jX ok hr hx rfl rfl rfl
 obtain⟨_,_,_,i0,i1⟩:=ok.at hr hx;obtain⟨k,hk⟩:=Int.eq_ofNat_of_zero_le i0;have pk:(p.map D.int)[k]?=some (.int (p.getD (cS I r x).toNat 0)):=by
  rw[hk,Int.toNat_natCast,getElem?_map,getElem?_eq_getElem (by omega),List.getD,getElem?_eq_getElem (by omega)];rfl
 have k1:aA 9 (g2 az (ae 2) (g2 az (g2 az (ae 1) (ae 6)) (ae 8))) [some (.tup [.int w,.int h,.int g,.int m]),some (aN I),some (.tup (p.map D.int)),some (o5 dd),some (.int T),some f,some (.int r),some (.mr N.length),some (.int x),hu] (N++[.lst (E.map D.int)])=.ok (.nx (ly (.tup [.int w,.int h,.int g,.int m]) (aN I) (.tup (p.map D.int)) (o5 dd) (.int T) f (.int r) (.mr N.length) (.int x) (.int (p.getD (cS I r x).toNat 0)))) (N++[.lst (E.map D.int)]):=
  aF (am rfl (gi hu _) (by rw[hk];exact(aB (by rw[hk] at pk;exact pk))))
 have fin:∀v:Int,eN (ia (ae 7) (ae 9)) (ly (.tup [.int w,.int h,.int g,.int m]) (aN I) (.tup (p.map D.int)) (o5 dd) (.int T) f (.int r) (.mr N.length) (.int x) (.int v)) (N++[.lst (E.map D.int)])=.ok (.nx (ly (.tup [.int w,.int h,.int g,.int m]) (aN I) (.tup (p.map D.int)) (o5 dd) (.int T) f (.int r) (.mr N.length) (.int x) (.int v))) (N++[.lst ((E++[v]).map D.int)]):=fun v=>by
  rw[map_append];exact iw (lq (go:=ae 7) (d:=.int v) rfl rfl (by rw[length_map];omega))
 unfold cR;refine(ax k1).trans ?_;cases dd with
 | none=>exact(ax ((fm (c8 (x:=false) (y:=true) rfl (fun z=>by cases z))).trans rfl)).trans (fin _)
 | some q=>
  have t:bW (aI (g2 (lQ true) (ae 3) (gC .non))) (bW (aI (g2 (bE false) (g2 az (g2 az (ae 1) (ae 6)) (ae 8)) (g2 az (ae 3) (gC (.int 0))))) (aI (g2 re (g2 bu (g2 cY (ae 6) (g2 bu (g2 az (ae 0) (gC (.int 0))) (g2 az (ae 0) (gC (.int 2))))) (ae 8)) (ae 4)))) (ly (.tup [.int w,.int h,.int g,.int m]) (aN I) (.tup (p.map D.int)) (o5 (some q)) (.int T) f (.int r) (.mr N.length) (.int x) (.int (p.getD (cS I r x).toNat 0))) (N++[.lst (E.map D.int)])=.ok (decide (cS I r x=q.1)&&decide (T≤((r*(w+g)+x:Nat):Int))) (N++[.lst (E.map D.int)]):=by
   refine c8 (x:=true) rfl fun _=>c8 (aP (am (gi _ _) (am (x:=.tup [.int q.1,.int q.2]) (y:=.int 0) rfl rfl (aB (k:=0) rfl)) (mj _ _ _))) fun _=>aP (am (am (am (x:=.int r) (y:=.int ((w:Int)+g)) rfl (am (am (x:=.tup [.int w,.int h,.int g,.int m]) (y:=.int 0) rfl rfl (aB (k:=0) rfl)) (am (x:=.tup [.int w,.int h,.int g,.int m]) (y:=.int 2) rfl rfl (aB (k:=2) rfl)) rfl) (oD (by omega) (by omega) _)) rfl rfl) rfl ?_)
   show aM.ok (D.bl (decide (T≤(r:Int)*((w:Int)+g)+x))) _=_;rw[show(r:Int)*((w:Int)+g)+x=((r*(w+g)+x:Nat):Int) by push_cast;rfl]
  by_cases c:cS I r x=q.1∧T≤((r*(w+g)+x:Nat):Int)
  ·have e:kR p (some q) (cS I r x) ((r*(w+g)+x:Nat):Int) T=q.2:=if_pos c;rw[e];refine(ax ((iz (t.trans (by rw[decide_eq_true c.1,decide_eq_true c.2];rfl))).trans (aF (d:=.int q.2) (am (x:=.tup [.int q.1,.int q.2]) (y:=.int 1) rfl rfl (aB (k:=1) rfl))))).trans (fin _)
  ·have e:kR p (some q) (cS I r x) ((r*(w+g)+x:Nat):Int) T=p.getD (cS I r x).toNat 0:=if_neg c;rw[e];refine(ax ((fm (t.trans (by rw[←Bool.decide_and,decide_eq_false c]))).trans rfl)).trans (fin _)
theorem um {I:List (List Int)}{p:List Int}{dd:Option (Int×Int)}{w g r n:Nat}{T:Int}:lP I p dd w g T r (n+1)=lP I p dd w g T r n++[kR p dd (cS I r n) ((r*(w+g)+n:Nat):Int) T]:=by
 unfold lP;rw[range_succ,map_append];rfl
theorem pJ {I:List (List Int)}{p:List Int}{dd:Option (Int×Int)}{w g r n:Nat}{T:Int}:(lP I p dd w g T r n).length=n:=by
 unfold lP;rw[length_map,length_range]
theorem va {I:List (List Int)}{p:List Int}{dd:Option (Int×Int)}{w g n:Nat}{T:Int}:cU I p dd w g T (n+1)=cU I p dd w g T n++[lP I p dd w g T n w]:=by
 unfold cU;rw[range_succ,map_append];rfl
theorem j6 {I:List (List Int)}{p:List Int}{dd:Option (Int×Int)}{w g n:Nat}{T:Int}:(cU I p dd w g T n).length=n:=by
 unfold cU;rw[length_map,length_range]
theorem pP (n:Nat)(rows:List (List Int)):(cO n rows).length=rows.length+1:=by
 unfold cO;rw[length_cons,length_map]
theorem ui (M:aw)(rows:List (List Int))(r:List Int):(M++cO M.length rows++[jc r]).set M.length (.lst (hU M.length rows.length++[.mr (M.length+1+rows.length)]))=M++cO M.length (rows++[r]):=by
 rw[append_assoc,set_append_right _ _ (Nat.le_refl _),Nat.sub_self];congr 1;unfold cO;rw[cons_append,set_cons_zero,map_append,length_append];congr 2;unfold hU;rw[show rows.length+[r].length=rows.length+1 from rfl,range_succ,map_append];rfl
noncomputable abbrev lz (w h g:Nat)(m:Int)(I:List (List Int))(p:List Int)(dd:Option (Int×Int))(T:Int)(f:Option D)(y:Nat→Option D):bj:=[some (.tup [.int w,.int h,.int g,.int m]),some (aN I),some (.tup (p.map D.int)),some (o5 dd),some (.int T),f,y 0,y 1,y 2,y 3]
theorem yc {I:List (List Int)}{p:List Int}{dd:Option (Int×Int)}{w h g r:Nat}{m T:Int}{N:aw}{f:D}{x8 x9:Option D}(ok:iL I w h)(hp:p.length=16)(hr:r<h)(hw:w≤900)(hg:g≤900)(hh:h≤900) :
  ∃y8 y9,gN (bA (aa (g2 az (ae 0) (gC (.int 0))) ag)) (bo 8) cR [some (.tup [.int w,.int h,.int g,.int m]),some (aN I),some (.tup (p.map D.int)),some (o5 dd),some (.int T),some f,some (.int r),some (.mr N.length),x8,x9] (N++[.lst []]) =
   .ok (.nx [some (.tup [.int w,.int h,.int g,.int m]),some (aN I),some (.tup (p.map D.int)),some (o5 dd),some (.int T),some f,some (.int r),some (.mr N.length),y8,y9]) (N++[jc (lP I p dd w g T r w)]):=by
 obtain⟨ρ',M',⟨y8,y9,rfl,rfl⟩,ef⟩:=fR (ds0:=ay 0 w) (s:=bo 8) (body:=cR)
  (W:=fun i ρ N'=>∃y8 y9,ρ=[some (.tup [.int w,.int h,.int g,.int m]),some (aN I),some (.tup (p.map D.int)),some (o5 dd),some (.int T),some f,some (.int r),some (.mr N.length),y8,y9]∧N'=N++[jc (lP I p dd w g T r i)])
  (ay 0 w) 0 (fun j d hd ρ N' hW=>by
   obtain⟨y8,y9,rfl,rfl⟩:=hW;obtain⟨hj,rfl⟩:=dX hd;rw[Nat.zero_add,Int.zero_add];have e:=wo (I:=I) (p:=p) (dd:=dd) (w:=w) (h:=h) (g:=g) (r:=r) (x:=j) (m:=m) (T:=T) (N:=N) (E:=lP I p dd w g T r j) (f:=f) (hu:=y9) ok hp hr hj hw hg hh (by rw[pJ];omega);rw[←um] at e;exact⟨_,_,_,rfl,e,_,_,rfl,rfl⟩)
  [some (.tup [.int w,.int h,.int g,.int m]),some (aN I),some (.tup (p.map D.int)),some (o5 dd),some (.int T),some f,some (.int r),some (.mr N.length),x8,x9] (N++[.lst []]) ⟨_,_,rfl,rfl⟩
 rw[aS,Nat.zero_add] at ef;exact⟨y8,y9,il (t:=⟨ay 0 w,none⟩) (cE (av (am (x:=.tup [.int w,.int h,.int g,.int m]) (y:=.int 0) rfl rfl (aB (k:=0) rfl)) rfl) (by omega)) ef⟩
theorem oB {I:List (List Int)}{p:List Int}{dd:Option (Int×Int)}{w h g:Nat}{m T:Int}{M:aw}(ok:iL I w h)(hp:p.length=16)(hw:w≤900)(hg:g≤900)(hh:h≤900) :
  cK [.tup [.int w,.int h,.int g,.int m],aN I,.tup (p.map D.int),o5 dd,.int T] M=.ok (.mr M.length) (M++cO M.length (cU I p dd w g T h)):=by
 obtain⟨ρ',M',⟨y,rfl,rfl⟩,ef⟩:=fR (ds0:=ay 0 h) (s:=bo 6) (body:=fA)
  (W:=fun i ρ N=>∃y:Nat→Option D,ρ=lz w h g m I p dd T (some (.mr M.length)) y∧N=M++cO M.length (cU I p dd w g T i))
  (ay 0 h) 0 (fun j d hd ρ N hW=>by
   obtain⟨y,rfl,rfl⟩:=hW;obtain⟨hj,rfl⟩:=dX hd;rw[Nat.zero_add,Int.zero_add];have pa:=cf.new M (cU I p dd w g T j);have hN:(M++cO M.length (cU I p dd w g T j)).length=M.length+1+j:=by rw[length_append,pP,j6];omega
   obtain⟨y8,y9,er⟩:=yc (I:=I) (p:=p) (dd:=dd) (w:=w) (h:=h) (g:=g) (r:=j) (m:=m) (T:=T) (N:=M++cO M.length (cU I p dd w g T j)) (f:=.mr M.length) (x8:=y 2) (x9:=y 3) ok hp hj hw hg hh;have ea:=CF (go:=ae 5) (ge:=ae 7) (ρ:=[some (.tup [.int w,.int h,.int g,.int m]),some (aN I),some (.tup (p.map D.int)),some (o5 dd),some (.int T),some (.mr M.length),some (.int j),some (.mr (M++cO M.length (cU I p dd w g T j)).length),y8,y9]) (M:=M++cO M.length (cU I p dd w g T j)++[jc (lP I p dd w g T j w)]) (k:=M.length) (d:=.mr (M++cO M.length (cU I p dd w g T j)).length) rfl (cf.app pa).top rfl (cf.app pa).top (by unfold hU;rw[length_map,length_range,j6];omega);have e2:(hU M.length (cU I p dd w g T j).length++[D.mr (M++cO M.length (cU I p dd w g T j)).length])=hU M.length (cU I p dd w g T j).length++[.mr (M.length+1+(cU I p dd w g T j).length)]:=by rw[hN,j6]
   rw[e2,ui,←va] at ea;refine⟨_,_,_,rfl,?_,fun i=>[some (.int j),some (.mr (M++cO M.length (cU I p dd w g T j)).length),y8,y9][i]?.getD none,rfl,rfl⟩;unfold fA;exact(ax (aF hZ)).trans ((ax er).trans (iw ea)))
  (lz w h g m I p dd T (some (.mr M.length)) fun _=>none) (M++[.lst []]) ⟨fun _=>none,rfl,rfl⟩
 rw[aS,Nat.zero_add] at ef;show aE (gj (lz w h g m I p dd T none fun _=>none) M)=_;unfold gj;have k5:∀b:GS,ar (aA 5 (fW ag)) b (lz w h g m I p dd T none fun _=>none) M=b (lz w h g m I p dd T (some (.mr M.length)) fun _=>none) (M++[.lst []]):=fun b=>ax (aF hZ)
 rw[k5];refine congrArg aE ((ax (il (t:=⟨ay 0 h,none⟩) (cE (av (am (x:=.tup [.int w,.int h,.int g,.int m]) (y:=.int 1) rfl rfl (aB (k:=1) rfl)) rfl) (by omega)) ef)).trans (bH rfl))
structure Sp where
 t:Int
 k:Int
 h:Int
noncomputable def Sp.d (s:Sp):D:=.tup [.int s.t,.int s.k,.int s.h]
noncomputable def mO (I P:List (List Int))(w g r n:Nat):List Sp:=(List.range n).map fun x=>⟨((r*(w+g)+x:Nat):Int),cS I r x,cS P r x⟩
noncomputable def jn (I P:List (List Int))(w g h:Nat):List Sp:=(List.range h).flatMap fun r=>mO I P w g r w
structure cP (P:List (List Int))(w h:Nat):Prop where
 len:P.length=h
 row:∀(r:Nat) (q:List Int),P[r]?=some q→q.length=w
theorem iL.pic {I:List (List Int)}{w h:Nat}(ok:iL I w h):cP I w h:=⟨ok.len,fun r q e=>(ok.row r q e).1⟩
theorem cP.at {P:List (List Int)}{w h r x:Nat}(ok:cP P w h)(hr:r<h)(hx:x<w):∃q,P[r]?=some q∧q.length=w∧q[x]?=some (cS P r x):=by
 have hr':r<P.length:=by rw[ok.len];exact hr
 have e:=getElem?_eq_getElem hr';have l:=ok.row r _ e;have hx':x<P[r].length:=by omega
 have e2:cS P r x=P[r][x]:=by unfold cS;rw[show P.getD r []=P[r] by rw[List.getD,e];rfl,List.getD,getElem?_eq_getElem hx'];rfl
 exact⟨_,e,l,by rw[e2];exact getElem?_eq_getElem hx'⟩
theorem tz {α:Type}{ds0:List D}{sg:GG}{ge:GE}{M:aw}{f g:α→D}{R:bj→Prop}:∀(l:List α) (ρ:bj),(∀a∈l,∀ρ,R ρ→∃ρ1,sg (f a) ρ=some ρ1∧R ρ1∧ge ρ1 M=.ok (g a) M)→R ρ→jm ⟨ds0,none⟩ sg a9 ge (l.map f) ρ M=.ok (l.map g) M
 | [],_,_,_=>rfl
 | a::l,ρ,h,hr=>by
  obtain⟨ρ1,e1,r1,e2⟩:=h a mem_cons_self ρ hr;rw[map_cons,map_cons,jm,if_pos gG,e1];show(match ge ρ1 M with | .ok e M2=>(jm ⟨ds0,none⟩ sg a9 ge (l.map f) ρ1 M2).bind fun es M3=>.ok (e::es) M3|_=>.bad)=_;rw[e2];dsimp only;rw[tz l ρ1 (fun b hb=>h b (mem_cons_of_mem _ hb)) r1,ao]
theorem pY {α:Type}{ds0:List D}{n:Nat}{sg:GG}{gb:bj→aw→aM (List D)}{ρ:bj}{M:aw}{f:α→D}{g:α→List D}:∀(l:List α),(∀a∈l,∃ρ1,sg (f a) (List.replicate n none++ρ)=some ρ1∧gb ρ1 M=.ok (g a) M)→bt ⟨ds0,none⟩ n sg a9 gb (l.map f) ρ M=.ok (l.flatMap g) M
 | [],_=>rfl
 | a::l,h=>by
  obtain⟨ρ1,e1,e2⟩:=h a mem_cons_self;rw[map_cons,flatMap_cons,bt,if_pos gG,e1];show(match gb ρ1 M with | .ok e M2=>(bt ⟨ds0,none⟩ n sg a9 gb (l.map f) ρ M2).bind fun es M3=>.ok (e++es) M3|_=>.bad)=_;rw[e2];dsimp only;rw[pY l fun b hb=>h b (mem_cons_of_mem _ hb),ao]
theorem An {xs ys:List D}{f g:Nat→D}{n:Nat}(hx:xs.length=n)(hy:ys.length=n)(h:∀j,j<n→xs[j]?=some (f j)∧ys[j]?=some (g j)):cZ (jC xs ys)=(List.range n).map fun(j:Nat)=>D.tup [.int j,.tup [f j,g j]]:=by
 have lz:(jC xs ys).length=n:=by rw[lN (by omega),hx]
 apply ext_getElem?;intro j
 by_cases hj:j<n
 ·rw[getElem?_map,getElem?_range hj];have hj2:j<(cZ (jC xs ys)).length:=by rw[dL,lz];exact hj
  have e:=getElem?_eq_getElem hj2;obtain⟨x,e1,e2⟩:=jj e;obtain⟨a,b,e3,e4,e5⟩:=pS e1;obtain⟨h1,h2⟩:=h j hj;rw[h1] at e3;rw[h2] at e4;cases e3;cases e4;rw[e,e2,e5];rfl
 ·rw[getElem?_eq_none (by rw[dL,lz];omega),getElem?_eq_none (by rw[length_map,length_range];omega)]
theorem xI {w h g:Nat}{m:Int}{r:Nat}{M:aw}(hr:r≤900):jz [.tup [.int w,.int h,.int g,.int m],.int r] M=.ok (.int ((r*(w+g):Nat):Int)) M:=by
 show aE (ij [some (.tup [.int w,.int h,.int g,.int m]),some (.int r)] M)=_;unfold ij;refine congrArg aE (bH (am (x:=.int r) (y:=.int ((w:Int)+g)) rfl (Dq (x:=.tup [.int w,.int h,.int g,.int m]) rfl rfl) ((oD (by omega) (by omega) M).trans ?_)));rw[show(r:Int)*((w:Int)+g)=((r*(w+g):Nat):Int) by push_cast;rfl]
theorem xc {s:df}{I P:List (List Int)}{w h g:Nat}{m:Int}{M:aw}(hi:dC [.tup [.int w,.int h,.int g,.int m],s.d] M=.ok (aN I) M)(oi:cP I w h)(op:cP P w h)(hh:h≤100)(hw:w≤100) :
  fN [.tup [.int w,.int h,.int g,.int m],s.d,aN P] M=.ok (.lst ((jn I P w g h).map Sp.d)) M:=by
 have e1:cZ (jC (I.map cg) (P.map cg))=(List.range h).map fun(r:Nat)=>D.tup [.int r,.tup [cg (I.getD r []),cg (P.getD r [])]]:=by
  refine An (by rw[length_map,oi.len]) (by rw[length_map,op.len]) fun j hj=>?_
  rw[getElem?_map,getElem?_map,List.getD,List.getD,getElem?_eq_getElem (by rw[oi.len];exact hj),getElem?_eq_getElem (by rw[op.len];exact hj)];exact⟨rfl,rfl⟩
 have row:∀(Q:List (List Int)),cP Q w h→∀r,r<h→(Q.getD r []).length=w∧∀x,x<w→(Q.getD r [])[x]?=some (cS Q r x):=fun Q oq r hr=>by
  have hr':r<Q.length:=by rw[oq.len];exact hr
  have e:Q.getD r []=Q[r]:=by rw[List.getD,getElem?_eq_getElem hr'];rfl
  refine⟨by rw[e];exact oq.row r _ (getElem?_eq_getElem hr'),fun x hx=>?_⟩;obtain⟨q,a1,_,a2⟩:=oq.at hr hx;rw[e];rw[getElem?_eq_getElem hr'] at a1;cases a1;exact a2
 have e2:∀r,r<h→cZ (jC ((I.getD r []).map D.int) ((P.getD r []).map D.int))=(List.range w).map fun(x:Nat)=>D.tup [.int x,.tup [.int (cS I r x),.int (cS P r x)]]:=fun r hr=>by
  obtain⟨l1,g1⟩:=row I oi r hr;obtain⟨l2,g2⟩:=row P op r hr;refine An (by rw[length_map,l1]) (by rw[length_map,l2]) fun j hj=>?_
  rw[getElem?_map,getElem?_map,g1 j hj,g2 j hj];exact⟨rfl,rfl⟩
 have gi:∀r,r<h→∀y:Nat→Option D,rX (xJ (aa (ae 1) (aa (ae 2) ag))) (i5 [(bo 3),(bF [4,5])]) a9 f7 [some (.int r),some (cg (I.getD r [])),some (cg (P.getD r [])),y 0,y 1,y 2,some (.tup [.int w,.int h,.int g,.int m]),some s.d,some (aN P)] M=.ok ((mO I P w g r w).map Sp.d) M:=fun r hr y=>by
  have l1:=(row I oi r hr).1;have l2:=(row P op r hr).1;have ez:xJ (aa (ae 1) (aa (ae 2) ag)) [some (.int r),some (cg (I.getD r [])),some (cg (P.getD r [])),y 0,y 1,y 2,some (.tup [.int w,.int h,.int g,.int m]),some s.d,some (aN P)] M=.ok ⟨(List.range w).map fun(x:Nat)=>D.tup [.int x,.tup [.int (cS I r x),.int (cS P r x)]],none⟩ M:=by
   show xf [cg (I.getD r []),cg (P.getD r [])] M=_;rw[←e2 r hr];show(if((I.getD r []).map D.int).length=((P.getD r []).map D.int).length then aM.ok (jN.mk (cZ (jC ((I.getD r []).map D.int) ((P.getD r []).map D.int))) none) M else .bad)=_;rw[if_pos (by rw[length_map,length_map,l1,l2])]
  unfold rX;rw[ez];dsimp only;have er:(mO I P w g r w).map Sp.d=(List.range w).map fun(x:Nat)=>D.tup [.int ((r*(w+g)+x:Nat):Int),.int (cS I r x),.int (cS P r x)]:=by unfold mO;rw[map_map];rfl
  rw[er];refine tz (R:=fun ρ=>∃y:Nat→Option D,ρ=[some (.int r),some (cg (I.getD r [])),some (cg (P.getD r [])),y 0,y 1,y 2,some (.tup [.int w,.int h,.int g,.int m]),some s.d,some (aN P)]) (List.range w) _ (fun x hx ρ hρ=>?_) ⟨y,rfl⟩;obtain⟨y,rfl⟩:=hρ;refine⟨_,rfl,⟨fun i=>[some (.int x),some (.int (cS I r x)),some (.int (cS P r x))][i]?.getD none,rfl⟩,?_⟩;exact cb (av (am (x:=.int ((r*(w+g):Nat):Int)) (y:=.int x) (cD (x:=.tup [.int w,.int h,.int g,.int m]) (y:=.int r) rfl rfl (xI (by omega))) rfl (by show aM.ok (D.int (((r*(w+g):Nat):Int)+(x:Int))) M=_;rw[←Int.natCast_add])) (av rfl (av rfl rfl)))
 have c:=pY (ds0:=(List.range h).map fun(r:Nat)=>D.tup [.int r,.tup [cg (I.getD r []),cg (P.getD r [])]]) (n:=6) (sg:=i5 [(bo 0),(bF [1,2])]) (gb:=rX (xJ (aa (ae 1) (aa (ae 2) ag))) (i5 [(bo 3),(bF [4,5])]) a9 f7) (ρ:=[some (.tup [.int w,.int h,.int g,.int m]),some s.d,some (aN P)]) (M:=M) (f:=fun(r:Nat)=>D.tup [.int r,.tup [cg (I.getD r []),cg (P.getD r [])]]) (g:=fun r=>(mO I P w g r w).map Sp.d) (List.range h) (fun r hr=>⟨_,rfl,gi r (mem_range.mp hr) fun _=>none⟩);have em:(List.range h).flatMap (fun r=>(mO I P w g r w).map Sp.d)=(jn I P w g h).map Sp.d:=by unfold jn;rw[map_flatMap]
 rw[em] at c;have ll:(jn I P w g h).length=h*w:=by
  unfold jn;rw[length_flatMap];have:(List.range h).map (fun r=>(mO I P w g r w).length)=(List.range h).map fun _=>w:=map_congr_left fun r _=>by unfold mO;rw[length_map,length_range]
  rw[this,map_const',sum_replicate_nat,length_range]
 have l2:(jn I P w g h).length≤10000:=by rw[ll];exact Nat.mul_le_mul hh hw
 show aE (iC [some (.tup [.int w,.int h,.int g,.int m]),some s.d,some (aN P)] M)=_;unfold iC;refine congrArg aE (bH ?_);unfold ja;have ez:xJ (aa (ap 2 dC (aa (ae 0) (aa (ae 1) ag))) (aa (ae 2) ag)) [some (.tup [.int w,.int h,.int g,.int m]),some s.d,some (aN P)] M=.ok ⟨(List.range h).map fun(r:Nat)=>D.tup [.int r,.tup [cg (I.getD r []),cg (P.getD r [])]],none⟩ M:=by
  unfold xJ;rw[av (cD (x:=.tup [.int w,.int h,.int g,.int m]) (y:=s.d) rfl rfl hi) (av (d:=aN P) rfl rfl),ao,←e1];show(if(I.map cg).length=(P.map cg).length then aM.ok (jN.mk (cZ (jC (I.map cg) (P.map cg))) none) M else .bad)=_;rw[if_pos (by rw[length_map,length_map,oi.len,op.len])]
 rw[ez,ao];dsimp only;rw[c,ao];unfold aD;rw[if_pos (bn (by rw[length_map];omega))]
theorem oK {α:Type}{f g:α→D}{b:α→Bool}{gc:GT}{ge:GE}{ρ:bj}{M:aw}{ds0:List D}:∀l:List α,(∀a∈l,gc (some (f a)::ρ) M=.ok (b a) M∧(b a=true→ge (some (f a)::ρ) M=.ok (g a) M))→bb ⟨ds0,none⟩ gc ge (l.map f) ρ M=.ok ((l.filter b).map g) M
 | [],_=>rfl
 | a::l,h=>by
  obtain⟨h1,h2⟩:=h a mem_cons_self;have ih:=oK (ds0:=ds0) l fun b hb=>h b (mem_cons_of_mem _ hb)
  rw[map_cons,bb,if_pos gG,h1];cases q:b a with
  | true=>
   rw[filter_cons_of_pos q,map_cons];show(match ge (some (f a)::ρ) M with | .ok e M2=>(bb ⟨ds0,none⟩ gc ge (l.map f) ρ M2).bind fun es M3=>.ok (e::es) M3|_=>.bad)=_;rw[h2 q];dsimp only;rw[ih,ao]
  | false=>
   rw[filter_cons_of_neg (by rw[q];exact Bool.false_ne_true)];exact ih
theorem mw {gi:GI}{gc:GT}{ge:GE}{ρ:bj}{ds es:List D}{M M1 M2:aw}(hi:gi ρ M=.ok ⟨ds,none⟩ M1)(he:bb ⟨ds,none⟩ gc ge ds ρ M1=.ok es M2)(hl:es.length≤1000000):aH gi gc ge aD ρ M=.ok (.lst es) M2:=by
 unfold aH;rw[hi,ao];dsimp only;rw[he,ao];unfold aD;rw[if_pos (bn hl)]
noncomputable def pj (p:List Int)(s:Sp):Bool:=!decide (s.h=p.getD s.k.toNat 0)
noncomputable def old (p:List Int)(k:Int)(s:Sp):Bool:=decide (s.k=k)&&decide (s.h=p.getD k.toNat 0)
noncomputable def fD (p:List Int)(k:Int)(S:List Sp):Int:=((S.filter (old p k)).map fun s=>s.t+1).foldl max 0
noncomputable def kF (p:List Int)(S:List Sp):D:=match S.filter (pj p) with
 | []=>.tup [.str "same"]
 | o::r=>if fD p o.k S>o.t∨(o::r).any (fun s=>!(decide (s.k=o.k)&&decide (s.h=o.h)))=true then .tup [.str "none"] else .tup [.str "pot",.int o.k,.int o.h,.int (fD p o.k S),.int o.t]
theorem mx:∀(l:List Int) (b:Int),fF (l.map D.int) b=some (l.foldl max b)
 | [],b=>rfl
 | a::l,b=>by
  show(if b<a then fF (l.map D.int) a else fF (l.map D.int) b)=_;rw[foldl_cons]
  by_cases h:b<a
  ·rw[if_pos h,mx l a,show max b a=a by omega]
  ·rw[if_neg h,mx l b,show max b a=b by omega]
theorem oQ {p:List Int}{k:Int}{M:aw}(hp:p.length=16)(h0:0≤k)(h1:k≤15):az (.tup (p.map D.int)) (.int k) M=.ok (.int (p.getD k.toNat 0)) M:=by
 obtain⟨n,rfl⟩:=Int.eq_ofNat_of_zero_le h0;refine aB ?_;rw[Int.toNat_natCast,getElem?_map,getElem?_eq_getElem (by omega),List.getD,getElem?_eq_getElem (by omega)];rfl
theorem Bd {α:Type}{f:α→D}{b:α→Bool}{gi:GI}{ge:GE}{ρ:bj}{M:aw}{l:List α}(hi:gi ρ M=.ok ⟨l.map f,none⟩ M)(hl:l.length≤100000)(h:∀a∈l,ge (some (f a)::ρ) M=.ok (.bl (b a)) M) :
  aO u7 (aa (aH gi a9 ge aD) ag) ρ M=.ok (.bl (l.any b)) M:=by
 refine iF (x:=.lst (l.map fun a=>D.bl (b a))) (cq hi (jl l h) (by rw[length_map];omega)) ?_;have e:c7 (l.map fun a=>D.bl (b a))=some (l.map b):=by
  clear hi hl h
  induction l with
  | nil=>rfl
  | cons a l ih=>
   show(c7 (l.map fun a=>D.bl (b a))).map (b a::·)=_;rw[ih];rfl
 show(match c7 (l.map fun a=>D.bl (b a)) with|some bs=>aM.ok (D.bl (bs.any id)) M|none=>.bad)=_;rw[e];dsimp only;rw[any_map];rfl
noncomputable abbrev lo (s:df)(fr pic:D)(a b c d e f:Option D):bj:=[some fr,some s.d,some pic,some (aZ s.floor),some (.tup [.int s.sx,.int s.sy]),some (.tup (s.book.map aZ)),some (.tup (s.movers.map Mv.d)),some (.tup (s.pots.map D.int)),a,b,c,d,e,f]
theorem yY {s:df}{S:List Sp}{fr pic:D}{M:aw}(hs:fN [fr,s.d,pic] M=.ok (.lst (S.map Sp.d)) M)(hS:S.length≤10000)(hk:∀q∈S,0≤q.k∧q.k≤15)(hp:s.pots.length=16):fU [fr,s.d,pic] M=.ok (kF s.pots S) M:=by
 have sk:∀(a:Sp) (j:Nat) (d:D) (ρ:bj),[D.int a.t,.int a.k,.int a.h][j]?=some d→g2 az (ae 0) (gC (.int j)) (some a.d::ρ) M=.ok d M:=fun a j d ρ h=>am (x:=a.d) (y:=.int j) rfl rfl (aB h)
 have c1:∀b c d e f,aH (cm (ae 8)) gf fY aD (lo s fr pic (some (.lst (S.map Sp.d))) b c d e f) M=.ok (.lst ((S.filter (pj s.pots)).map Sp.d)) M:=fun b c d e f=>by
  refine mw (j4 rfl) (oK (b:=pj s.pots) S fun a ha=>⟨?_,fun _=>rfl⟩) (by rw[length_map];exact Nat.le_trans (length_filter_le _ _) (by omega));exact aP (am (sk a 2 _ _ rfl) (am (x:=.tup (s.pots.map D.int)) (y:=.int a.k) rfl (sk a 1 _ _ rfl) (oQ hp (hk a ha).1 (hk a ha).2)) (xr _ _ M))
 show aE (hV [some fr,some s.d,some pic,none,none,none,none,none,none,none,none,none,none,none] M)=_;have k0:∀b:GS,ar (cu (bF [3,4,5,6,7]) (ae 1)) b [some fr,some s.d,some pic,none,none,none,none,none,none,none,none,none,none,none] M=b (lo s fr pic none none none none none none) M:=fun b=>ax rfl
 have k1:∀b:GS,ar (aA 8 (ap 3 fN (aa (ae 0) (aa (ae 1) (aa (ae 2) ag))))) b (lo s fr pic none none none none none none) M=b (lo s fr pic (some (.lst (S.map Sp.d))) none none none none none) M:=fun b=>ax (aF (mI rfl rfl rfl hs))
 have k2:∀b:GS,ar (aA 9 (aH (cm (ae 8)) gf fY aD)) b (lo s fr pic (some (.lst (S.map Sp.d))) none none none none none) M=b (lo s fr pic (some (.lst (S.map Sp.d))) (some (.lst ((S.filter (pj s.pots)).map Sp.d))) none none none none) M:=fun b=>ax (aF (c1 _ _ _ _ _))
 unfold hV;rw[k0,k1,k2];unfold kF;cases ho:S.filter (pj s.pots) with
 | nil=>exact congrArg aE (mD ((iz rfl).trans (bH (cb rfl))))
 | cons o r=>
  have oS:o∈S:=(mem_filter.mp (by rw[ho];exact mem_cons_self)).1;have lor:(o::r).length≤10000:=by rw[←ho];exact Nat.le_trans (length_filter_le _ _) hS
  have k3:∀b:GS,ar (fV (iJ (gT (ae 9))) (bh (aV (aa (gC (.str "same")) ag))) ba) b (lo s fr pic (some (.lst (S.map Sp.d))) (some (.lst ((o::r).map Sp.d))) none none none none) M=b (lo s fr pic (some (.lst (S.map Sp.d))) (some (.lst ((o::r).map Sp.d))) none none none none) M:=fun b=>ax ((fm rfl).trans rfl)
  have k4:∀b:GS,ar (cu (bF [10,11,12]) (g2 az (ae 9) (gC (.int 0)))) b (lo s fr pic (some (.lst (S.map Sp.d))) (some (.lst ((o::r).map Sp.d))) none none none none) M=b (lo s fr pic (some (.lst (S.map Sp.d))) (some (.lst ((o::r).map Sp.d))) (some (.int o.t)) (some (.int o.k)) (some (.int o.h)) none) M:=fun b=>ax (iP (am (x:=.lst ((o::r).map Sp.d)) (y:=.int 0) rfl rfl (iV (k:=0) rfl)) rfl)
  have k5:∀b:GS,ar (aA 13 (aO nJ (aa (g2 bu (dE (aa (gC (.int 0)) ag)) (aH (cm (ae 8)) gD gE aD)) ag))) b (lo s fr pic (some (.lst (S.map Sp.d))) (some (.lst ((o::r).map Sp.d))) (some (.int o.t)) (some (.int o.k)) (some (.int o.h)) none) M=b (lo s fr pic (some (.lst (S.map Sp.d))) (some (.lst ((o::r).map Sp.d))) (some (.int o.t)) (some (.int o.k)) (some (.int o.h)) (some (.int (fD s.pots o.k S)))) M:=fun b=>by
   have c2:aH (cm (ae 8)) gD gE aD (lo s fr pic (some (.lst (S.map Sp.d))) (some (.lst ((o::r).map Sp.d))) (some (.int o.t)) (some (.int o.k)) (some (.int o.h)) none) M=.ok (.lst ((S.filter (old s.pots o.k)).map fun a=>D.int (a.t+1))) M:=by
    refine mw (j4 rfl) (oK (f:=Sp.d) (b:=old s.pots o.k) S fun a ha=>⟨?_,fun _=>?_⟩) (by rw[length_map];exact Nat.le_trans (length_filter_le _ _) (by omega))
    ·exact c8 (aP (am (sk a 1 _ _ rfl) rfl (mj _ _ M))) fun _=>aP (am (sk a 2 _ _ rfl) (am (x:=.tup (s.pots.map D.int)) (y:=.int o.k) rfl rfl (oQ hp (hk o oS).1 (hk o oS).2)) (mj _ _ M))
    ·exact am (sk a 0 _ _ rfl) rfl rfl
   refine ax (aF (iF (M1:=M) (x:=.lst (D.int 0::(S.filter (old s.pots o.k)).map fun a=>D.int (a.t+1))) (am (x:=.lst [.int 0]) (jE rfl) c2 ?_) ?_))
   ·show(if [D.int 0].length+((S.filter (old s.pots o.k)).map fun a=>D.int (a.t+1)).length≤sizeLine then aM.ok (D.lst ([D.int 0]++(S.filter (old s.pots o.k)).map fun a=>D.int (a.t+1))) M else .bad)=_;rw[if_pos (bn (by rw[length_map];have:=length_filter_le (old s.pots o.k) S;show 1+_≤_;omega))];rfl
   ·show(match fF ((S.filter (old s.pots o.k)).map fun a=>D.int (a.t+1)) 0 with|some d=>aM.ok (D.int d) M|none=>.bad)=_;rw[show((S.filter (old s.pots o.k)).map fun a=>D.int (a.t+1))=((S.filter (old s.pots o.k)).map fun a=>a.t+1).map D.int by rw[map_map];rfl,mx];rfl
  rw[k3,k4,k5];have ty:gQ (aI (g2 nR (ae 13) (ae 10))) (gT (aO u7 (aa (aH (cm (ae 9)) a9 jb aD) ag))) (lo s fr pic (some (.lst (S.map Sp.d))) (some (.lst ((o::r).map Sp.d))) (some (.int o.t)) (some (.int o.k)) (some (.int o.h)) (some (.int (fD s.pots o.k S)))) M=.ok (decide (fD s.pots o.k S>o.t)||(o::r).any (fun s=>!(decide (s.k=o.k)&&decide (s.h=o.h)))) M:=by
   refine kT (aP (am rfl rfl rfl)) fun _=>AT (Bd (f:=Sp.d) (j4 rfl) (by omega) fun a ha=>?_)
   refine am (x:=.tup [.int a.k,.int a.h]) (y:=.tup [.int o.k,.int o.h]) rfl (cb rfl) ?_;show aM.ok (D.bl (((a.k==o.k)&&((a.h==o.h)&&true)) != true)) M=_;rw[Bool.and_true,Bool.bne_true]
   by_cases q1:a.k=o.k <;> by_cases q2:a.h=o.h <;> simp[q1,q2]
  by_cases hc:fD s.pots o.k S>o.t∨(o::r).any (fun s=>!(decide (s.k=o.k)&&decide (s.h=o.h)))=true
  ·show _=aM.ok (if _ then _ else _) M;rw[if_pos hc];refine congrArg aE (mD ((iz (ty.trans ?_)).trans (bH (cb rfl))));rcases hc with q|q
   ·rw[decide_eq_true q];rfl
   ·rw[q,Bool.or_true]
  ·show _=aM.ok (if _ then _ else _) M;rw[if_neg hc];refine congrArg aE ((ax ((fm (ty.trans ?_)).trans rfl)).trans (bH (cb rfl)));have q1:¬fD s.pots o.k S>o.t:=fun z=>hc (.inl z)
   have q2:(o::r).any (fun s=>!(decide (s.k=o.k)&&decide (s.h=o.h)))=false:=by
    cases q:(o::r).any (fun s=>!(decide (s.k=o.k)&&decide (s.h=o.h))) with
    | true=>exact absurd (.inr q) hc
    | false=>rfl
   rw[decide_eq_false q1,q2];rfl
noncomputable def gO (q:Int×Int):D:=.tup [.int q.1,.int q.2]
noncomputable def kN (p:List Int)(E:List (Int×Int))(s:Sp):List (Int×Int):=if pj p s=true∧(s.k,s.h)∉E then E++[(s.k,s.h)] else E
theorem n8 {I:List (List Int)}{p:List Int}{dd:Option (Int×Int)}{w h g r x:Nat}{T:Int}(hr:r<h)(hx:x<w):cS (cU I p dd w g T h) r x=kR p dd (cS I r x) ((r*(w+g)+x:Nat):Int) T:=by
 unfold cS cU lP;rw[List.getD,List.getD,getElem?_map,getElem?_range hr];show((List.range w).map _)[x]?.getD 0=_;rw[getElem?_map,getElem?_range hx];rfl
theorem o0 {I:List (List Int)}{p:List Int}{dd:Option (Int×Int)}{w h g:Nat}{T:Int}:cP (cU I p dd w g T h) w h:=⟨j6,fun r q e=>by
 unfold cU at e;rw[getElem?_map] at e;cases hr:(List.range h)[r]? with
 | none=>rw[hr] at e;cases e
 | some r'=>rw[hr] at e;cases e;exact pJ⟩
theorem vY {M X:aw}{xs:List D}(hx:xs.all (bf 29)=true)(hM:eY M):fJ M.length (.ok (.mr (M.length+X.length)) (M++X++[.lst xs]))=.ok (.lst xs) M:=by
 have f1:=fG (n:=M.length) (M:=M++X++[.lst xs]) hM;have o:bc (frz M.length (M++X++[.lst xs]) 29) xs=some xs:=bM fun x h=>gU 29 x (all_eq_true.mp hx x h)
 have g:(M++X++[MO.lst xs])[M.length+X.length]?=some (.lst xs):=by rw[←length_append];exact qX _ _
 have f2:frz M.length (M++X++[.lst xs]) 30 (.mr (M.length+X.length))=some (.lst xs):=by
  show(if M.length+X.length<M.length then some (D.mr (M.length+X.length)) else match (M++X++[MO.lst xs])[M.length+X.length]? with|some (MO.lst ys)=>(bc (frz M.length (M++X++[MO.lst xs]) 29) ys).map D.lst|_=>none)=_;rw[if_neg (by omega),g];dsimp only;rw[o];rfl
 show(if(M++X++[MO.lst xs]).length=M.length then aM.ok (D.mr (M.length+X.length)) (M++X++[MO.lst xs]) else match frz M.length (M++X++[MO.lst xs]) 30 (.mr (M.length+X.length)),eV M.length (M++X++[MO.lst xs]) ((M++X++[MO.lst xs]).take M.length) with|some d',some M'=>.ok d' M'|_,_=>.bad)=_;rw[if_neg (by rw[length_append,length_append];simp;omega),append_assoc,take_left,←append_assoc,f1,f2]
theorem vR (q:Int×Int)(E:List (Int×Int))(M:aw)(i:Nat)(h:M[i]?=some (.lst (E.map gO))):z8 true (gO q) (.mr i) M=.ok (.bl (!decide (q∈E))) M:=by
 have hi:aU (.mr i) M=some (E.map gO):=by unfold aU;dsimp only;rw[h]
 have c:(E.map gO).all (aY 40)=true:=by rw[all_map];exact all_eq_true.mpr fun _ _=>rfl
 have a:(E.map gO).any (fun y=>kE y (gO q))=decide (q∈E):=by
  clear h hi c
  induction E with
  | nil=>rfl
  | cons e E ih=>
   rw[map_cons,any_cons,ih];have:kE (gO e) (gO q)=decide (q=e):=by
    show((e.1==q.1)&&((e.2==q.2)&&true))=_;rw[Bool.and_true]
    by_cases z:q=e
    ·subst z;simp
    ·rw[decide_eq_false z]
     by_cases z1:e.1=q.1
     ·have:e.2≠q.2:=fun z2=>z (Prod.ext z1.symm z2.symm)
      simp[this]
     ·simp[z1]
   rw[this]
   by_cases z:q=e <;> by_cases z2:q∈E <;> simp[z,z2]
 unfold z8;rw[hi];dsimp only;rw[c,show aY 40 (gO q)=true from rfl];show aM.ok (D.bl ((E.map gO).any (fun y=>kE y (gO q)) != true)) M=_;rw[a,Bool.bne_true]
theorem cf.get {a b c:GE}{M:aw}{ρ:bj}{n r x w h:Nat}{P:List (List Int)}(pa:cf M n P)(op:cP P w h)(hr:r<h)(hx:x<w)(ha:a ρ M=.ok (.mr n) M)(hb:b ρ M=.ok (.int r) M)(hc:c ρ M=.ok (.int x) M):g2 az (g2 az a b) c ρ M=.ok (.int (cS P r x)) M:=by
 obtain⟨q,e1,e2,e3⟩:=op.at hr hx;exact am (am ha hb (pa.get1 (by rw[op.len];exact hr))) hc (pa.get2 e1 (by omega))
theorem rq {I P:List (List Int)}{p:List Int}{w h g r x n:Nat}{fr:D}{M0 M:aw}{E:List (Int×Int)}(ok:iL I w h)(op:cP P w h)(pb:cf M0 n P)(pl:cf M0 M.length (cU I p none w g 0 h))(hr:r<h)(hx:x<w)(hE:E.length<1000) :
  c5 [some fr,some (aN I),some (.tup (p.map D.int)),some (.mr n),some (.mr M.length),some (.mr M0.length),some (.int r),some (.int x)] (M0++[.lst (E.map gO)]) =
   .ok (.nx [some fr,some (aN I),some (.tup (p.map D.int)),some (.mr n),some (.mr M.length),some (.mr M0.length),some (.int r),some (.int x)]) (M0++[.lst ((kN p E ⟨((r*(w+g)+x:Nat):Int),cS I r x,cS P r x⟩).map gO)]):=by
 have gi:=fun(M:aw)=>jX (a:=ae 1) (b:=ae 6) (c:=ae 7) (M:=M) (ρ:=[some fr,some (aN I),some (.tup (p.map D.int)),some (.mr n),some (.mr M.length),some (.mr M0.length),some (.int r),some (.int x)]) ok hr hx rfl rfl rfl
 have gp:=cf.get (a:=ae 3) (b:=ae 6) (c:=ae 7) (ρ:=[some fr,some (aN I),some (.tup (p.map D.int)),some (.mr n),some (.mr M.length),some (.mr M0.length),some (.int r),some (.int x)]) (pb.app (E:=[.lst (E.map gO)])) op hr hx rfl rfl rfl;have gb:=cf.get (a:=ae 4) (b:=ae 6) (c:=ae 7) (ρ:=[some fr,some (aN I),some (.tup (p.map D.int)),some (.mr n),some (.mr M.length),some (.mr M0.length),some (.int r),some (.int x)]) (pl.app (E:=[.lst (E.map gO)])) o0 hr hx rfl rfl rfl;rw[n8 hr hx] at gb;have gt:aV (aa (g2 az (g2 az (ae 1) (ae 6)) (ae 7)) (aa (g2 az (g2 az (ae 3) (ae 6)) (ae 7)) ag)) [some fr,some (aN I),some (.tup (p.map D.int)),some (.mr n),some (.mr M.length),some (.mr M0.length),some (.int r),some (.int x)] (M0++[.lst (E.map gO)])=.ok (gO (cS I r x,cS P r x)) (M0++[.lst (E.map gO)]):=cb (av (jX ok hr hx rfl rfl rfl) (av gp rfl));have t:bW (aI (g2 (bE true) (g2 az (g2 az (ae 4) (ae 6)) (ae 7)) (g2 az (g2 az (ae 3) (ae 6)) (ae 7)))) (aI (g2 (z8 true) (aV (aa (g2 az (g2 az (ae 1) (ae 6)) (ae 7)) (aa (g2 az (g2 az (ae 3) (ae 6)) (ae 7)) ag))) (ae 5))) [some fr,some (aN I),some (.tup (p.map D.int)),some (.mr n),some (.mr M.length),some (.mr M0.length),some (.int r),some (.int x)] (M0++[.lst (E.map gO)])=.ok (!decide (p.getD (cS I r x).toNat 0=cS P r x)&&!decide ((cS I r x,cS P r x)∈E)) (M0++[.lst (E.map gO)]):=
  c8 (aP (am gb gp (xr _ _ _))) fun _=>aP (am gt rfl (vR _ E _ _ (qX _ _)))
 unfold c5 kN pj
 by_cases c:(!decide (cS P r x=p.getD (cS I r x).toNat 0))=true∧(cS I r x,cS P r x)∉E
 ·show _=aM.ok _ (M0++[.lst ((if _ then _ else _:List (Int×Int)).map gO)]);rw[if_pos c,map_append];refine(iz (t.trans ?_)).trans (iw (lq (go:=ae 5) rfl gt (by rw[length_map];omega)));have c1:¬p.getD (cS I r x).toNat 0=cS P r x:=fun z=>by have:=c.1;rw[decide_eq_true z.symm] at this;cases this
  rw[decide_eq_false c1,decide_eq_false c.2];rfl
 ·show _=aM.ok _ (M0++[.lst ((if _ then _ else _:List (Int×Int)).map gO)]);rw[if_neg c];refine(fm (t.trans ?_)).trans rfl
  by_cases z:p.getD (cS I r x).toNat 0=cS P r x
  ·rw[decide_eq_true z];rfl
  ·have:(cS I r x,cS P r x)∈E:=by
    by_cases q:(cS I r x,cS P r x)∈E
    ·exact q
    ·exact absurd ⟨by rw[decide_eq_false (fun q=>z q.symm)];rfl,q⟩ c
   rw[decide_eq_true this,Bool.not_true,Bool.and_false]
theorem ya {p:List Int}{E:List (Int×Int)}{s:Sp}:(kN p E s).length≤E.length+1:=by
 unfold kN;split
 ·rw[length_append];exact Nat.le_refl _
 ·omega
theorem ky {p:List Int}:∀(S:List Sp) (E:List (Int×Int)),(S.foldl (kN p) E).length≤E.length+S.length
 | [],E=>Nat.le_refl _
 | s::S,E=>by
  have:=ky (p:=p) S (kN p E s);have:=ya (p:=p) (E:=E) (s:=s);rw[foldl_cons,length_cons];omega
theorem xi {I P:List (List Int)}{w g r n:Nat}:mO I P w g r (n+1)=mO I P w g r n++[⟨((r*(w+g)+n:Nat):Int),cS I r n,cS P r n⟩]:=by
 unfold mO;rw[range_succ,map_append];rfl
theorem mz {I P:List (List Int)}{w g n:Nat}:jn I P w g (n+1)=jn I P w g n++mO I P w g n w:=by
 unfold jn;rw[range_succ,flatMap_append];simp
theorem lY {I P:List (List Int)}{w g:Nat}:∀h:Nat,(jn I P w g h).length=h*w
 | 0=>by rw[Nat.zero_mul];rfl
 | h+1=>by
  rw[mz,length_append,lY h,Nat.succ_mul];unfold mO;rw[length_map,length_range]
noncomputable def gM (I P:List (List Int))(p:List Int)(w g h:Nat):List (Int×Int):=(jn I P w g h).foldl (kN p) []
noncomputable abbrev cd (fr:D)(I:List (List Int))(p:List Int)(n b f:Nat)(x6 x7:Option D):bj:=[some fr,some (aN I),some (.tup (p.map D.int)),some (.mr n),some (.mr b),some (.mr f),x6,x7]
theorem vC {I P:List (List Int)}{p:List Int}{w h g n:Nat}{m:Int}{M:aw}(ok:iL I w h)(op:cP P w h)(pb:cf M n P)(hp:p.length=16)(hw:w≤30)(hh:h≤30)(hg:g≤900)(hM:eY M) :
  fj [.tup [.int w,.int h,.int g,.int m],aN I,.tup (p.map D.int),.mr n] M=.ok (.lst ((gM I P p w g h).map gO)) M:=by
 have ly:=oB (I:=I) (p:=p) (dd:=none) (w:=w) (h:=h) (g:=g) (m:=m) (T:=0) (M:=M) ok hp (by omega) hg (by omega);have pl0:=cf.new M (cU I p none w g 0 h);have pb0:cf (M++cO M.length (cU I p none w g 0 h)) n P:=pb.app;generalize hX:cO M.length (cU I p none w g 0 h)=X at ly pl0 pb0;obtain⟨ρ',M',⟨y6,y7,rfl,rfl⟩,ef⟩:=fR (ds0:=ay 0 h) (s:=bo 6) (body:=gF)
  (W:=fun i ρ N=>∃y6 y7,ρ=cd (.tup [.int w,.int h,.int g,.int m]) I p n M.length (M++X).length y6 y7∧N=M++X++[.lst (((jn I P w g i).foldl (kN p) []).map gO)])
  (ay 0 h) 0 (fun j d hd ρ N hW=>by
   obtain⟨y6,y7,rfl,rfl⟩:=hW;obtain⟨hj,rfl⟩:=dX hd;rw[Nat.zero_add,Int.zero_add];have lE:((jn I P w g j).foldl (kN p) []).length≤j*w:=by
    have:=ky (p:=p) (jn I P w g j) [];rw[lY] at this;simpa using this
   have lj:j*w≤30*30:=Nat.mul_le_mul (by omega) hw;generalize hE:(jn I P w g j).foldl (kN p) []=E0 at lE ⊢;obtain⟨ρ',M',⟨z7,rfl,rfl⟩,e⟩:=fR (ds0:=ay 0 w) (s:=bo 7) (body:=c5)
    (W:=fun i ρ N=>∃z7,ρ=cd (.tup [.int w,.int h,.int g,.int m]) I p n M.length (M++X).length (some (.int j)) z7∧N=M++X++[.lst (((mO I P w g j i).foldl (kN p) E0).map gO)])
    (ay 0 w) 0 (fun x d hd ρ N hW=>by
     obtain⟨z7,rfl,rfl⟩:=hW;obtain⟨hx,rfl⟩:=dX hd;rw[Nat.zero_add,Int.zero_add];have lE2:((mO I P w g j x).foldl (kN p) E0).length<1000:=by
      have:=ky (p:=p) (mO I P w g j x) E0;have l2:(mO I P w g j x).length=x:=by unfold mO;rw[length_map,length_range]
      omega
     have e:=rq (p:=p) (fr:=.tup [.int w,.int h,.int g,.int m]) (M0:=M++X) (M:=M) (E:=(mO I P w g j x).foldl (kN p) E0) ok op pb0 pl0 hj hx lE2;refine⟨_,_,_,rfl,e,_,rfl,?_⟩;rw[xi,foldl_append];rfl)
    (cd (.tup [.int w,.int h,.int g,.int m]) I p n M.length (M++X).length (some (.int j)) y7) (M++X++[.lst (E0.map gO)]) ⟨_,rfl,rfl⟩
   rw[aS,Nat.zero_add] at e;refine⟨_,_,_,rfl,il (t:=⟨ay 0 w,none⟩) (cE (av (am (x:=.tup [.int w,.int h,.int g,.int m]) (y:=.int 0) rfl rfl (aB (k:=0) rfl)) rfl) (by omega)) e,_,_,rfl,?_⟩;rw[mz,foldl_append,hE])
  (cd (.tup [.int w,.int h,.int g,.int m]) I p n M.length (M++X).length none none) (M++X++[.lst []]) ⟨_,_,rfl,rfl⟩
 rw[aS,Nat.zero_add] at ef;have pu:((gM I P p w g h).map gO).all (bf 29)=true:=by rw[all_map];exact all_eq_true.mpr fun _ _=>rfl
 have rt:=vY (X:=X) pu hM;rw[←length_append] at rt;show fJ M.length (aE (dH [some (.tup [.int w,.int h,.int g,.int m]),some (aN I),some (.tup (p.map D.int)),some (.mr n),none,none,none,none] M))=_;have k4:∀b:GS,ar (aA 4 (ap 5 cK (aa (ae 0) (aa (ae 1) (aa (ae 2) (aa (gC .non) (aa (gC (.int 0)) ag))))))) b [some (.tup [.int w,.int h,.int g,.int m]),some (aN I),some (.tup (p.map D.int)),some (.mr n),none,none,none,none] M=b [some (.tup [.int w,.int h,.int g,.int m]),some (aN I),some (.tup (p.map D.int)),some (.mr n),some (.mr M.length),none,none,none] (M++X):=fun b=>ax (aF (by
  unfold ap;rw[av rfl (av rfl (av rfl (av rfl (av rfl rfl)))),ao];exact ly))
 have k5:∀b:GS,ar (aA 5 (fW ag)) b [some (.tup [.int w,.int h,.int g,.int m]),some (aN I),some (.tup (p.map D.int)),some (.mr n),some (.mr M.length),none,none,none] (M++X)=b (cd (.tup [.int w,.int h,.int g,.int m]) I p n M.length (M++X).length none none) (M++X++[.lst []]):=fun b=>ax (aF hZ)
 unfold dH;rw[k4,k5];refine(congrArg (fJ M.length) (congrArg aE ((ax (il (t:=⟨ay 0 h,none⟩) (cE (av (am (x:=.tup [.int w,.int h,.int g,.int m]) (y:=.int 1) rfl rfl (aB (k:=1) rfl)) rfl) (by omega)) ef)).trans (bH rfl)))).trans ?_;exact rt
theorem l8 {p:List Int}{q:Int×Int}:∀(S:List Sp) (E:List (Int×Int)),q∈S.foldl (kN p) E↔q∈E∨∃s∈S,pj p s=true∧(s.k,s.h)=q
 | [],E=>by simp
 | s::S,E=>by
  rw[foldl_cons,l8 S];have e:q∈kN p E s↔q∈E∨(pj p s=true∧(s.k,s.h)=q):=by
   unfold kN
   by_cases c:pj p s=true∧(s.k,s.h)∉E
   ·rw[if_pos c,mem_append,mem_singleton];constructor
    ·rintro (h|h)
     ·exact .inl h
     ·exact .inr ⟨c.1,h.symm⟩
    ·rintro (h|h)
     ·exact .inl h
     ·exact .inr h.2.symm
   ·rw[if_neg c];constructor
    ·exact .inl
    ·rintro (h|⟨h1,h2⟩)
     ·exact h
     ·by_cases z:(s.k,s.h)∈E
      ·rw[←h2];exact z
      ·exact absurd ⟨h1,z⟩ c
  rw[e];constructor
  ·rintro ((h|h)|⟨t,ht,h⟩)
   ·exact .inl h
   ·exact .inr ⟨s,mem_cons_self,h⟩
   ·exact .inr ⟨t,mem_cons_of_mem _ ht,h⟩
  ·rintro (h|⟨t,ht,h⟩)
   ·exact .inl (.inl h)
   ·rcases mem_cons.mp ht with rfl|ht
    ·exact .inl (.inr h)
    ·exact .inr ⟨t,ht,h⟩
theorem tu {p:List Int}:∀(S:List Sp) (E:List (Int×Int)),E.Nodup→(S.foldl (kN p) E).Nodup
 | [],E,h=>h
 | s::S,E,h=>by
  rw[foldl_cons];refine tu S _ ?_;unfold kN
  by_cases c:pj p s=true∧(s.k,s.h)∉E
  ·rw[if_pos c,nodup_append];refine⟨h,by simp,fun a ha b hb e=>?_⟩;rw[mem_singleton] at hb;subst e hb;exact c.2 ha
  ·rw[if_neg c];exact h
theorem qJ {p:List Int}:∀(S:List Sp) (E:List (Int×Int)),∃T,S.foldl (kN p) E=E++T
 | [],E=>⟨[],by simp⟩
 | s::S,E=>by
  obtain⟨T,e⟩:=qJ (p:=p) S (kN p E s);rw[foldl_cons,e];unfold kN;split
  ·exact⟨[(s.k,s.h)]++T,by rw[append_assoc]⟩
  ·exact⟨T,rfl⟩
theorem nC {p:List Int}{o:Sp}{r:List Sp}:∀(S:List Sp),S.filter (pj p)=o::r→∃T,S.foldl (kN p) []=(o.k,o.h)::T
 | [],h=>by cases h
 | s::S,h=>by
  rw[foldl_cons];cases q:pj p s with
  | true=>
   rw[filter_cons_of_pos q] at h;have e0:=(List.cons.inj h).1;subst e0;have e:kN p [] s=[(s.k,s.h)]:=by unfold kN;rw[if_pos ⟨q,not_mem_nil⟩];rfl
   rw[e];obtain⟨T,e2⟩:=qJ (p:=p) S [(s.k,s.h)];exact⟨T,e2⟩
  | false=>
   rw[filter_cons_of_neg (by rw[q];exact Bool.false_ne_true)] at h;have e:kN p [] s=[]:=by unfold kN;rw[if_neg (fun z=>by rw[q] at z;cases z.1)]
   rw[e];exact nC S h
theorem z9:∀(l:List Int) (b T:Int),l.foldl max b≤T↔b≤T∧∀x∈l,x≤T
 | [],b,T=>by simp
 | a::l,b,T=>by
  rw[foldl_cons,z9 l];constructor
  ·rintro ⟨h1,h2⟩;refine⟨by omega,fun x hx=>?_⟩;rcases mem_cons.mp hx with rfl|hx
   ·omega
   ·exact h2 x hx
  ·rintro ⟨h1,h2⟩;have:=h2 a mem_cons_self;exact⟨by omega,fun x hx=>h2 x (mem_cons_of_mem _ hx)⟩
theorem pz {p:List Int}{k T:Int}{S:List Sp}:fD p k S≤T↔0≤T∧∀s∈S,s.k=k→s.h=p.getD k.toNat 0→s.t+1≤T:=by
 unfold fD;rw[z9];constructor
 ·rintro ⟨h0,h⟩;refine⟨h0,fun s hs e1 e2=>h _ (mem_map.mpr ⟨s,mem_filter.mpr ⟨hs,?_⟩,rfl⟩)⟩;unfold old;rw[decide_eq_true e1,decide_eq_true e2];rfl
 ·rintro ⟨h0,h⟩;refine⟨h0,fun x hx=>?_⟩;obtain⟨s,hs,rfl⟩:=mem_map.mp hx;obtain⟨hs,ho⟩:=mem_filter.mp hs;unfold old at ho;rw[Bool.and_eq_true,decide_eq_true_eq,decide_eq_true_eq] at ho;exact h s hs ho.1 ho.2
theorem vX {p:List Int}{k:Int}{S:List Sp}:0≤fD p k S:=(pz.mp (Int.le_refl _)).1
theorem mN {I P:List (List Int)}{w g h:Nat}{s:Sp}:s∈jn I P w g h↔∃r x:Nat,r<h∧x<w∧s=⟨((r*(w+g)+x:Nat):Int),cS I r x,cS P r x⟩:=by
 unfold jn mO;rw[mem_flatMap];constructor
 ·rintro ⟨r,hr,hs⟩;obtain⟨x,hx,rfl⟩:=mem_map.mp hs;exact⟨r,x,mem_range.mp hr,mem_range.mp hx,rfl⟩
 ·rintro ⟨r,x,hr,hx,rfl⟩;exact⟨r,mem_range.mpr hr,mem_map.mpr ⟨x,mem_range.mpr hx,rfl⟩⟩
theorem EO {w g h r x:Nat}(hr:r<h)(hx:x<w):r*(w+g)+x<h*(w+g):=by
 have:(r+1)*(w+g)≤h*(w+g):=Nat.mul_le_mul_right _ hr;rw[Nat.succ_mul] at this;omega
theorem Ai {I P:List (List Int)}{w g:Nat}:∀h:Nat,(jn I P w g h).Pairwise fun a b=>a.t<b.t
 | 0=>.nil
 | h+1=>by
  rw[mz,pairwise_append];refine⟨Ai h,?_,fun a ha b hb=>?_⟩
  ·unfold mO;rw[pairwise_map];exact pairwise_lt_range.imp fun {a b} q=>by show((h*(w+g)+a:Nat):Int)<((h*(w+g)+b:Nat):Int);omega
  ·obtain⟨r,x,hr,hx,rfl⟩:=mN.mp ha;unfold mO at hb;obtain⟨y,hy,rfl⟩:=mem_map.mp hb;have:=EO (g:=g) hr hx;show((r*(w+g)+x:Nat):Int)<((h*(w+g)+y:Nat):Int);omega
theorem yu {A B:List (List Int)}{w h:Nat}(oa:cP A w h)(ob:cP B w h)(e:∀r x,r<h→x<w→cS A r x=cS B r x):A=B:=by
 apply ext_getElem?;intro r
 by_cases hr:r<h
 ·have ha:r<A.length:=by rw[oa.len];exact hr
  have hb:r<B.length:=by rw[ob.len];exact hr
  rw[getElem?_eq_getElem ha,getElem?_eq_getElem hb];congr 1;have la:=oa.row r _ (getElem?_eq_getElem ha);have lb:=ob.row r _ (getElem?_eq_getElem hb);apply ext_getElem?;intro x
  by_cases hx:x<w
  ·obtain⟨q,e1,_,e2⟩:=oa.at hr hx;obtain⟨q',e3,_,e4⟩:=ob.at hr hx;rw[getElem?_eq_getElem ha] at e1;rw[getElem?_eq_getElem hb] at e3;cases e1;cases e3;rw[e2,e4,e r x hr hx]
  ·rw[getElem?_eq_none (by omega),getElem?_eq_none (by omega)]
 ·rw[getElem?_eq_none (by rw[oa.len];omega),getElem?_eq_none (by rw[ob.len];omega)]
theorem Cs {I P:List (List Int)}{p:List Int}{dd:Option (Int×Int)}{w g h:Nat}{T:Int}(op:cP P w h):cU I p dd w g T h=P↔∀s∈jn I P w g h,kR p dd s.k s.t T=s.h:=by
 constructor
 ·intro e s hs;obtain⟨r,x,hr,hx,rfl⟩:=mN.mp hs;show kR p dd (cS I r x) _ T=cS P r x;rw[←n8 hr hx,e]
 ·intro e;refine yu o0 op fun r x hr hx=>?_
  rw[n8 hr hx];exact e _ (mN.mpr ⟨r,x,hr,hx,rfl⟩)
theorem yr {p:List Int}{S:List Sp}{o:Sp}{r:List Sp}{T:Int}(pw:S.Pairwise fun a b=>a.t<b.t)(ho:S.filter (pj p)=o::r)(al:∀s∈o::r,s.k=o.k∧s.h=o.h)(h0:0≤T) :
  (∀s∈S,kR p (some (o.k,o.h)) s.k s.t T=s.h)↔fD p o.k S≤T∧T≤o.t:=by
 have mo:∀s,s∈o::r↔s∈S∧¬s.h=p.getD s.k.toNat 0:=fun s=>by
  rw[←ho,mem_filter];unfold pj;simp
 obtain⟨oS,on⟩:=(mo o).mp mem_cons_self;have pw2:(o::r).Pairwise fun a b=>a.t<b.t:=by rw[←ho];exact pw.filter _
 have le:∀s∈o::r,o.t≤s.t:=fun s hs=>by
  rcases mem_cons.mp hs with rfl|hs
  ·exact Int.le_refl _
  ·exact Int.le_of_lt ((pairwise_cons.mp pw2).1 s hs)
 rw[pz];constructor
 ·intro h;have a:=h o oS;refine⟨⟨h0,fun s hs e1 e2=>?_⟩,?_⟩
  ·have b:=h s hs;unfold kR at b;dsimp only at b
   by_cases c:s.k=o.k∧T≤s.t
   ·rw[if_pos c] at b;rw[e2] at b;exact absurd b on
   ·have:¬T≤s.t:=fun z=>c ⟨e1,z⟩
    omega
  ·unfold kR at a;dsimp only at a
   by_cases c:o.k=o.k∧T≤o.t
   ·exact c.2
   ·rw[if_neg c] at a;exact absurd a.symm on
 ·rintro ⟨⟨_,h1⟩,h2⟩ s hs;unfold kR;dsimp only
  by_cases e:s.h=p.getD s.k.toNat 0
  ·by_cases c:s.k=o.k∧T≤s.t
   ·have:=h1 s hs c.1 (by rw[e,c.1]);omega
   ·rw[if_neg c,e]
  ·have m:=(mo s).mpr ⟨hs,e⟩;rw[if_pos ⟨(al s m).1,Int.le_trans h2 (le s m)⟩,(al s m).2]
theorem v6 {a b n:Nat}(h1:a≤b)(h2:b<n):(List.range n).filter (fun T=>decide (a≤T∧T≤b))=List.range' a (b+1-a):=by
 have e:List.range n=List.range' 0 a++(List.range' a (b+1-a)++List.range' (b+1) (n-(b+1))):=by
  rw[range_eq_range',show n=a+(n-a) by omega,←range'_append_1 (s:=0) (m:=a) (n:=n-a),Nat.zero_add];congr 1;rw[show n-a=(b+1-a)+(n-(b+1)) by omega,←range'_append_1,show a+(b+1-a)=b+1 by omega];congr 1;congr 1;omega
 rw[e,filter_append,filter_append];have f1:(List.range' 0 a).filter (fun T=>decide (a≤T∧T≤b))=[]:=filter_eq_nil_iff.mpr fun x hx=>by
  have:=mem_range'_1.mp hx;simp;omega
 have f2:(List.range' a (b+1-a)).filter (fun T=>decide (a≤T∧T≤b))=List.range' a (b+1-a):=filter_eq_self.mpr fun x hx=>by
  have:=mem_range'_1.mp hx;simp;omega
 have f3:(List.range' (b+1) (n-(b+1))).filter (fun T=>decide (a≤T∧T≤b))=[]:=filter_eq_nil_iff.mpr fun x hx=>by
  have:=mem_range'_1.mp hx;simp;omega
 rw[f1,f2,f3,nil_append,append_nil]
theorem nG {gc:GT}{ge:GE}{ρ:bj}{b:Nat→Bool}{M:aw}{ds0:List D}(he:∀(t:Nat) (N:aw),ge (some (.int t)::ρ) N=.ok (.int t) N):∀(l:List Nat),(∀t∈l,∀E,∃E',gc (some (.int t)::ρ) (M++E)=.ok (b t) (M++E'))→∀E,∃E',bb ⟨ds0,none⟩ gc ge (l.map fun(t:Nat)=>D.int t) ρ (M++E)=.ok ((l.filter b).map fun(t:Nat)=>D.int t) (M++E')
 | [],_,E=>⟨E,rfl⟩
 | t::l,h,E=>by
  obtain⟨E1,e1⟩:=h t mem_cons_self E;obtain⟨E2,e2⟩:=nG he l (fun u hu=>h u (mem_cons_of_mem _ hu)) E1;refine⟨E2,?_⟩;rw[map_cons,bb,if_pos gG,e1];cases q:b t with
  | true=>
   rw[filter_cons_of_pos q,map_cons];show(match ge (some (.int t)::ρ) (M++E1) with | .ok e M2=>(bb ⟨ds0,none⟩ gc ge (l.map fun(t:Nat)=>D.int t) ρ M2).bind fun es M3=>.ok (e::es) M3|_=>.bad)=_;rw[he];dsimp only;rw[e2,ao]
  | false=>
   rw[filter_cons_of_neg (by rw[q];exact Bool.false_ne_true)];exact e2
noncomputable def j9 (I P:List (List Int))(p:List Int)(w g h:Nat)(q:Int×Int):List Nat:=(List.range (h*(w+g))).filter fun T=>decide (cU I p (some q) w g T h=P)
noncomputable def zM (C:List (Int×Int))(G:Int×Int→List Nat):D:=match C with
 | []=>.tup [.str "same"]
 | [q]=>match G q with
  | []=>.tup [.str "none"]
  | a::r=>.tup [.str "pot",.int q.1,.int q.2,.int a,.int ((r.getLast?.getD a:Nat):Int)]
 | _=>.tup [.str "none"]
theorem tq (n:Nat):∀C:List (Int×Int),aW (n+1) (C.map gO)=true
 | []=>rfl
 | q::C=>tq n C
theorem sX {α:Type}{f:α→D}(l:List α)(hc:aW 39 (l.map f)=true)(M:aw):bE false (.lst (l.map f)) (.lst []) M=.ok (.bl l.isEmpty) M:=by
 show(if(aW 39 (l.map f)&&true)=true then aM.ok (D.bl (dQ (l.map f) [] != false)) M else .bad)=_;rw[hc,Bool.and_true,if_pos rfl,Bool.bne_false];cases l <;> rfl
theorem p0 (n:Nat):∀l:List Nat,aW n (l.map fun(t:Nat)=>D.int t)=true
 | []=>rfl
 | _::l=>p0 n l
theorem xZ {a:Nat}{r:List Nat}{M:aw}:az (.lst ((a::r).map fun(t:Nat)=>D.int t)) (.int (-1)) M=.ok (.int ((r.getLast?.getD a:Nat):Int)) M:=by
 have e:(a::r).map (fun(t:Nat)=>D.int t)=((a::r).dropLast.map fun(t:Nat)=>D.int t)++[D.int ((r.getLast?.getD a:Nat):Int)]:=by
  have h:=dropLast_concat_getLast (l:=a::r) (by simp);have g:(a::r).getLast (by simp)=r.getLast?.getD a:=by
   cases r with
   | nil=>rfl
   | cons b r=>rw[getLast_cons (by simp),getLast?_eq_some_getLast (by simp)];rfl
  rw[g] at h
  conv=>lhs;rw[←h]
  rw[map_append];rfl
 rw[e];unfold az aU;dsimp only;rw[zH]
noncomputable abbrev du (fr:D)(I:List (List Int))(p:List Int)(n:Nat)(a b c:Option D):bj:=[some fr,some (aN I),some (.tup (p.map D.int)),some (.mr n),a,b,c]
theorem BM {I P:List (List Int)}{p:List Int}{w h g n:Nat}{m:Int}{M:aw}(ok:iL I w h)(op:cP P w h)(pb:cf M n P)(hp:p.length=16)(hw:w≤30)(hh:h≤30)(hg:g≤30)(hM:eY M) :
  iH [.tup [.int w,.int h,.int g,.int m],aN I,.tup (p.map D.int),.mr n] M=.ok (zM (gM I P p w g h) (j9 I P p w g h)) M:=by
 have ec:=vC (g:=g) (m:=m) ok op pb hp hw hh (by omega) hM;have tt:h*(w+g)≤1800:=Nat.le_trans (Nat.mul_le_mul hh (show w+g≤60 by omega)) (by decide);have lc:(gM I P p w g h).length≤900:=by
  have:=ky (p:=p) (jn I P w g h) [];rw[lY] at this;have l2:h*w≤30*30:=Nat.mul_le_mul hh hw;unfold gM;simp at this;omega
 show fJ M.length (aE (dY (du (.tup [.int w,.int h,.int g,.int m]) I p n none none none) M))=_;have run:∃E,aE (dY (du (.tup [.int w,.int h,.int g,.int m]) I p n none none none) M)=.ok (zM (gM I P p w g h) (j9 I P p w g h)) (M++E):=by
  have k4:∀b:GS,ar (aA 4 (ap 4 fj (aa (ae 0) (aa (ae 1) (aa (ae 2) (aa (ae 3) ag)))))) b (du (.tup [.int w,.int h,.int g,.int m]) I p n none none none) M=b (du (.tup [.int w,.int h,.int g,.int m]) I p n (some (.lst ((gM I P p w g h).map gO))) none none) M:=fun b=>ax (aF (Ad rfl rfl rfl rfl ec))
  unfold dY;rw[k4];generalize gM I P p w g h=C at lc ⊢;have t1:=aP (am (f:=bE false) (a:=ae 4) (b:=dE ag) (ρ:=du (.tup [.int w,.int h,.int g,.int m]) I p n (some (.lst (C.map gO))) none none) (M:=M) (x:=.lst (C.map gO)) (y:=.lst []) rfl (jE rfl) (sX C (tq 38 C) M));have ln:aO bT (aa (ae 4) ag) (du (.tup [.int w,.int h,.int g,.int m]) I p n (some (.lst (C.map gO))) none none) M=.ok (.int (C.length:Int)) M:=by
   refine iF (x:=.lst (C.map gO)) (M1:=M) rfl ?_;show aM.ok (D.int ((C.map gO).length:Int)) M=_;rw[length_map]
  have t2:aI (g2 nR (aO bT (aa (ae 4) ag)) (gC (.int 1))) (du (.tup [.int w,.int h,.int g,.int m]) I p n (some (.lst (C.map gO))) none none) M=.ok (decide ((1:Int)<(C.length:Int))) M:=aP (am (f:=nR) ln (y:=.int 1) (M2:=M) rfl rfl);cases C with
  | nil=>exact⟨[],by rw[append_nil];exact congrArg aE (mD ((iz t1).trans (bH (cb rfl))))⟩
  | cons q C=>
  rw[ax ((fm t1).trans rfl)];cases C with
  | cons q2 C=>
   refine⟨[],?_⟩;rw[append_nil];exact congrArg aE (mD ((iz (t2.trans (by rw[decide_eq_true (by rw[length_cons,length_cons];omega)]))).trans (bH (cb rfl))))
  | nil=>
  rw[ax ((fm t2).trans rfl)];have k5:∀b:GS,ar (aA 5 (g2 cY (g2 az (ae 0) (gC (.int 1))) (g2 bu (g2 az (ae 0) (gC (.int 0))) (g2 az (ae 0) (gC (.int 2)))))) b (du (.tup [.int w,.int h,.int g,.int m]) I p n (some (.lst ([q].map gO))) none none) M=b (du (.tup [.int w,.int h,.int g,.int m]) I p n (some (.lst ([q].map gO))) (some (.int ((h*(w+g):Nat):Int))) none) M:=fun b=>ax (aF (am (am (x:=.tup [.int w,.int h,.int g,.int m]) (y:=.int 1) rfl rfl (aB (k:=1) rfl)) (am (am (x:=.tup [.int w,.int h,.int g,.int m]) (y:=.int 0) rfl rfl (aB (k:=0) rfl)) (am (x:=.tup [.int w,.int h,.int g,.int m]) (y:=.int 2) rfl rfl (aB (k:=2) rfl)) rfl) ((oD (by omega) (by omega) M).trans (by rw[show(h:Int)*((w:Int)+g)=((h*(w+g):Nat):Int) by push_cast;rfl]))))
  rw[k5];obtain⟨E,eg⟩:=nG (gc:=iS) (ge:=iQ) (ρ:=du (.tup [.int w,.int h,.int g,.int m]) I p n (some (.lst ([q].map gO))) (some (.int ((h*(w+g):Nat):Int))) none) (b:=fun T=>decide (cU I p (some q) w g T h=P)) (M:=M) (ds0:=ay 0 (h*(w+g))) (fun _ _=>rfl) (List.range (h*(w+g))) (fun t _ E=>by
   refine⟨E++cO (M++E).length (cU I p (some q) w g t h),?_⟩;rw[←append_assoc];have ly:=oB (I:=I) (p:=p) (dd:=some q) (w:=w) (h:=h) (g:=g) (m:=m) (T:=t) (M:=M++E) ok hp (by omega) (by omega) (by omega);refine aP (am (x:=.mr (M++E).length) (y:=.mr n) (M2:=M++E++cO (M++E).length (cU I p (some q) w g t h)) ?_ rfl ((xE (cf.new _ _).now ((pb.app).app).now).trans (by rw[Bool.bne_false])));unfold ap;rw[av rfl (av rfl (av rfl (av (d:=o5 (some q)) (am (x:=.lst ([q].map gO)) (y:=.int 0) rfl rfl (iV (k:=0) rfl)) (av rfl rfl)))),ao];exact ly) []
  rw[append_nil] at eg;have er:(List.range (h*(w+g))).map (fun(t:Nat)=>D.int t)=ay 0 (h*(w+g)):=by
   unfold ay;apply map_congr_left;intro t _;rw[Int.zero_add]
  rw[er] at eg;have k6:=aF (i:=6) (mw (gi:=bA (aa (ae 5) ag)) (cE (av rfl rfl) (by omega)) eg (by rw[length_map];have:=length_filter_le (fun T:Nat=>decide (cU I p (some q) w g T h=P)) (List.range (h*(w+g)));rw[length_range] at this;omega));refine⟨E,?_⟩;rw[ax k6];show _=aM.ok (match j9 I P p w g h q with|[]=>D.tup [.str "none"]|a::r=>D.tup [.str "pot",.int q.1,.int q.2,.int a,.int ((r.getLast?.getD a:Nat):Int)]) (M++E);show aE (ar _ _ (du (.tup [.int w,.int h,.int g,.int m]) I p n (some (.lst ([q].map gO))) (some (.int ((h*(w+g):Nat):Int))) (some (.lst ((j9 I P p w g h q).map fun(t:Nat)=>D.int t)))) (M++E))=_;generalize j9 I P p w g h q=G;have t3:=aP (am (f:=bE false) (a:=ae 6) (b:=dE ag) (ρ:=du (.tup [.int w,.int h,.int g,.int m]) I p n (some (.lst ([q].map gO))) (some (.int ((h*(w+g):Nat):Int))) (some (.lst (G.map fun(t:Nat)=>D.int t)))) (M:=M++E) (x:=.lst (G.map fun(t:Nat)=>D.int t)) (y:=.lst []) rfl (jE rfl) (sX G (p0 39 G) _));cases G with
  | nil=>exact congrArg aE (mD ((iz t3).trans (bH (cb rfl))))
  | cons a r=>
   refine congrArg aE ((ax ((fm t3).trans rfl)).trans (bH (am (M1:=M++E) (M2:=M++E) (x:=.tup [.str "pot",.int q.1,.int q.2]) (y:=.tup [.int a,.int ((r.getLast?.getD a:Nat):Int)]) (am (x:=.tup [.str "pot"]) (y:=gO q) (cb rfl) (am (x:=.lst ([q].map gO)) (y:=.int 0) rfl rfl (iV (k:=0) rfl)) ?_) (cb (av (am (x:=.lst ((a::r).map fun(t:Nat)=>D.int t)) (y:=.int 0) rfl rfl (iV (k:=0) rfl)) (av (am (x:=.lst ((a::r).map fun(t:Nat)=>D.int t)) (y:=.int (-1)) rfl rfl xZ) rfl))) ?_)))
   ·show(if 1+2≤sizeLine then aM.ok (D.tup [.str "pot",.int q.1,.int q.2]) (M++E) else .bad)=_;rw[if_pos (bn (by decide))]
   ·show(if 3+2≤sizeLine then aM.ok (D.tup [.str "pot",.int q.1,.int q.2,.int a,.int ((r.getLast?.getD a:Nat):Int)]) (M++E) else .bad)=_;rw[if_pos (bn (by decide))]
 obtain⟨E,e⟩:=run;rw[e];refine sN ?_ hM;unfold zM;split
 ·rfl
 ·split <;> rfl
 ·rfl
theorem wc {I P:List (List Int)}{p:List Int}{w h g:Nat}(op:cP P w h):kF p (jn I P w g h)=zM (gM I P p w g h) (j9 I P p w g h):=by
 unfold kF gM;cases ho:(jn I P w g h).filter (pj p) with
 | nil=>
  have e:(jn I P w g h).foldl (kN p) []=[]:=by
   cases q:(jn I P w g h).foldl (kN p) [] with
   | nil=>rfl
   | cons a T=>
    have m:=(l8 (p:=p) (q:=a) (jn I P w g h) []).mp (by rw[q];exact mem_cons_self);rcases m with m|⟨s,hs,h1,_⟩
    ·cases m
    ·have:s∈(jn I P w g h).filter (pj p):=mem_filter.mpr ⟨hs,h1⟩;rw[ho] at this;cases this
  rw[e];rfl
 | cons o r=>
  obtain⟨T,eT⟩:=nC (p:=p) (jn I P w g h) ho;have nd:=tu (p:=p) (jn I P w g h) [] nodup_nil;have mem:=fun q=>l8 (p:=p) (q:=q) (jn I P w g h) []
  rw[eT] at nd mem ⊢;have om:∀s,s∈o::r↔s∈jn I P w g h∧pj p s=true:=fun s=>by rw[←ho,mem_filter]
  cases T with
  | cons q T=>
   have m:=(mem q).mp (mem_cons_of_mem _ mem_cons_self);rcases m with m|⟨s,hs,h1,h2⟩
   ·cases m
   ·have ne:q≠(o.k,o.h):=fun z=>(nodup_cons.mp nd).1 (by rw[z];exact mem_cons_self)
    show(if _ then _ else _)=_;refine if_pos (.inr ?_);refine any_eq_true.mpr ⟨s,(om s).mpr ⟨hs,h1⟩,?_⟩
    by_cases e1:s.k=o.k
    ·have e2:s.h≠o.h:=fun z=>ne (by rw[←h2,e1,z])
     rw[decide_eq_false e2,Bool.and_false];rfl
    ·rw[decide_eq_false e1];rfl
  | nil=>
   have al:∀s∈o::r,s.k=o.k∧s.h=o.h:=fun s hs=>by
    obtain⟨a,b⟩:=(om s).mp hs;have:=(mem (s.k,s.h)).mpr (.inr ⟨s,a,b,rfl⟩);have:=mem_singleton.mp this;exact⟨(Prod.mk.inj this).1,(Prod.mk.inj this).2⟩
   have na:(o::r).any (fun s=>!(decide (s.k=o.k)&&decide (s.h=o.h)))=false:=by
    rw[any_eq_false];intro s hs;simp[(al s hs).1,(al s hs).2]
   obtain⟨oS,_⟩:=(om o).mp mem_cons_self;obtain⟨r0,x0,hr0,hx0,eo⟩:=mN.mp oS;have hb:=EO (g:=g) hr0 hx0;obtain⟨b,eb⟩:∃b:Nat,o.t=(b:Int):=⟨r0*(w+g)+x0,by rw[eo]⟩;have hb:b<h*(w+g):=by
    have:o.t=((r0*(w+g)+x0:Nat):Int):=by rw[eo]
    omega
   obtain⟨a,ea⟩:=Int.eq_ofNat_of_zero_le (vX (p:=p) (k:=o.k) (S:=jn I P w g h));have eg:j9 I P p w g h (o.k,o.h)=(List.range (h*(w+g))).filter fun T=>decide (a≤T∧T≤b):=by
    unfold j9;apply filter_congr;intro T _;have q:=Cs (I:=I) (p:=p) (dd:=some (o.k,o.h)) (g:=g) (T:=(T:Int)) op;have q2:=yr (T:=(T:Int)) (Ai (I:=I) (P:=P) (w:=w) (g:=g) h) ho al (by omega);rw[ea,eb] at q2
    by_cases c:a≤T∧T≤b
    ·rw[decide_eq_true c,decide_eq_true (q.mpr (q2.mpr ⟨by omega,by omega⟩))]
    ·rw[decide_eq_false c,decide_eq_false fun z=>c (by have:=q2.mp (q.mp z);omega)]
   show(if _ then _ else _)=(match j9 I P p w g h (o.k,o.h) with|[]=>D.tup [.str "none"]|a::r=>D.tup [.str "pot",.int o.k,.int o.h,.int a,.int ((r.getLast?.getD a:Nat):Int)]);rw[eg]
   by_cases c:a≤b
   ·rw[if_neg (by rw[na,ea,eb];intro z;rcases z with z|z;omega;cases z),v6 c hb,ea,eb];rw[show b+1-a=(b-a)+1 by omega,range'_succ];dsimp only;have gl:(List.range' (a+1) (b-a)).getLast?.getD a=b:=by
     cases hn:b-a with
     | zero=>show a=b;omega
     | succ n=>
      rw[getLast?_range'];simp;omega
    rw[gl]
   ·rw[if_pos (.inl (by rw[ea,eb];omega))];have e:(List.range (h*(w+g))).filter (fun T=>decide (a≤T∧T≤b))=[]:=filter_eq_nil_iff.mpr fun x _=>by
     simp;omega
    rw[e]
theorem rh {a b:D}{f:Int}(h0:0≤f)(h1:f<2):∃v,(v=a∨v=b)∧∀M,az (.lst [a,b]) (.int f) M=.ok v M:=by
 have:f=0∨f=1:=by omega
 rcases this with rfl|rfl
 ·exact⟨a,.inl rfl,fun M=>iV (k:=0) rfl⟩
 ·exact⟨b,.inr rfl,fun M=>iV (k:=1) rfl⟩
theorem vp {l:List Int}{rest N:aw}{ρ:bj}{i:Nat}{many:Int}(t:cp l rest N)(hi:ρ[i]?=some (some (.mr 0)))(h0:0<many)(h1:many.natAbs.log2<9000):∃f N1,0≤f∧f<many∧cp l rest N1∧∀g:GE,g ρ N=.ok (.int many) N→ap 2 ah (aa (ae i) (aa g ag)) ρ N=.ok (.int f) N1:=by
 obtain⟨f,N1,a,b,t1,e⟩:=bq h0 h1 t;exact⟨f,N1,a,b,t1,fun g hg=>cD (a:=ae i) (by unfold ae;rw[hi]) hg e⟩
theorem yp (l:List Int)(i c:Int):wf (tp l i c)=true:=by
 show(bf 30 (.lst (l.map D.int))&&(true&&(true&&true)))=true;rw[ux,gV 28 l];rfl
noncomputable def RS (rest:aw):Prop:=rest.all (qE (rest.length+1))=true
theorem RS.shut {l:List Int}{rest N:aw}(h:RS rest)(t:cp l rest N):eY N:=by
 obtain⟨i,c,_,rfl⟩:=t;unfold eY;rw[length_cons,all_cons,kQ (yp l i c),Bool.true_and];exact h
theorem ym {n:Nat}{rows:List (List Int)}:(cO n rows).all (qE (n+(cO n rows).length))=true:=by
 rw[pP];unfold cO;rw[all_cons,Bool.and_eq_true];constructor
 ·show(hU n rows.length).all (eQ (n+(rows.length+1)) 30)=true;unfold hU;rw[all_map];refine all_eq_true.mpr fun k hk=>decide_eq_true ?_
  have:=mem_range.mp hk;omega
 ·rw[all_map];refine all_eq_true.mpr fun r _=>kQ ?_
  show(r.map D.int).all (bf 30)=true;exact gV 29 r
theorem RS.pic {rest:aw}{rows:List (List Int)}(h:RS rest):RS (rest++cO (rest.length+1) rows):=by
 unfold RS;rw[all_append,Bool.and_eq_true];constructor
 ·exact all_eq_true.mpr fun x hx=>nB (by rw[length_append];omega) (all_eq_true.mp h x hx)
 ·have:=ym (n:=rest.length+1) (rows:=rows);rw[length_append,show rest.length+(cO (rest.length+1) rows).length+1=rest.length+1+(cO (rest.length+1) rows).length by omega];exact this
theorem mG {l:List Int}{rest N:aw}{rows:List (List Int)}(t:cp l (rest++cO (rest.length+1) rows) N):cf N (rest.length+1) rows:=by
 obtain⟨i,c,_,rfl⟩:=t;exact cf.new (tp l i c::rest) rows
theorem xx {l:List Int}{rest N:aw}{rows:List (List Int)}{r:Nat}{q:List Int}(t:cp l (rest++cO (rest.length+1) rows) N)(hr:r<rows.length):cp l (rest++cO (rest.length+1) (rows.set r q)) (N.set (rest.length+1+1+r) (jc q)):=by
 obtain⟨i,c,hi,rfl⟩:=t;refine⟨i,c,hi,?_⟩;rw[show rest.length+1+1+r=(rest.length+(r+1))+1 by omega,set_cons_succ,set_append_right _ _ (by omega),show rest.length+(r+1)-rest.length=r+1 by omega];unfold cO;rw[set_cons_succ,length_set,map_set]
theorem cP.put {P:List (List Int)}{w h r x:Nat}{v:Int}{q:List Int}(op:cP P w h)(hq:P[r]?=some q):cP (P.set r (q.set x v)) w h:=⟨by rw[length_set,op.len],fun r' q' e=>by
 rw[getElem?_set] at e
 by_cases z:r=r'
 ·subst z;rw[if_pos rfl] at e;split at e
  ·cases e;rw[length_set];exact op.row r q hq
  ·cases e
 ·rw[if_neg z] at e;exact op.row r' q' e⟩
theorem qC {α:Type}{f g:α→D}{ge:GE}{ρ:bj}{M:aw}{t:jN}(ht:t.ok M=true):∀l:List α,(∀a∈l,ge (some (f a)::ρ) M=.ok (g a) M)→bb t a9 ge (l.map f) ρ M=.ok (l.map g) M
 | [],_=>by
  show(if t.ok M=true then aM.ok [] M else .bad)=_;rw[if_pos ht];rfl
 | a::l,h=>by
  rw[map_cons,map_cons,bb,if_pos ht];show(match ge (some (f a)::ρ) M with | .ok e M2=>(bb t a9 ge (l.map f) ρ M2).bind fun es M3=>.ok (e::es) M3|_=>.bad)=_;rw[h a mem_cons_self];dsimp only;rw[qC ht l fun b hb=>h b (mem_cons_of_mem _ hb),ao]
theorem uO {n w h:Nat}{P:List (List Int)}{N:aw}{ρ:bj}(pa:cf N n P)(op:cP P w h)(hh:h≤900)(hp:ρ[14]?=some (some (.mr n))):aH (cm (ae 14)) a9 kY aD ρ N=.ok (aN P) N:=by
 have hi:cm (ae 14) ρ N=.ok ⟨hU n P.length,some n⟩ N:=by
  unfold cm ae;rw[hp];show(match N[n]? with|some (.lst ds)=>aM.ok (jN.mk ds (some n)) N|_=>.bad)=_;rw[pa.top]
 have ht:jN.ok ⟨hU n P.length,some n⟩ N=true:=by
  show(match N[n]? with|some (.lst xs)=>jq xs (hU n P.length)|_=>false)=true;rw[pa.top];exact fT _
 have c:bb ⟨hU n P.length,some n⟩ a9 kY (hU n P.length) ρ N=.ok ((List.range P.length).map fun j=>cg (P.getD j [])) N:=by
  refine qC (f:=fun j=>D.mr (n+1+j)) ht (List.range P.length) fun j hj=>?_
  have hj:=mem_range.mp hj;refine iF (x:=.mr (n+1+j)) (M1:=N) rfl ?_;have e:aU (.mr (n+1+j)) N=some ((P.getD j []).map D.int):=by
   unfold aU;dsimp only;rw[pa.row j P[j] (getElem?_eq_getElem hj),show P.getD j []=P[j] by rw[List.getD,getElem?_eq_getElem hj];rfl];rfl
  unfold jv;dsimp only;rw[e];rfl
 have em:(List.range P.length).map (fun j=>cg (P.getD j []))=P.map cg:=by
  apply ext_getElem?;intro j;rw[getElem?_map,getElem?_map]
  by_cases hj:j<P.length
  ·rw[getElem?_range hj,getElem?_eq_getElem hj];show some (cg (P.getD j []))=some (cg P[j]);rw[List.getD,getElem?_eq_getElem hj];rfl
  ·rw[getElem?_eq_none (by rw[length_range];omega),getElem?_eq_none (by omega)];rfl
 rw[em] at c;unfold aH;rw[hi,ao];dsimp only;rw[c,ao];unfold aD;rw[if_pos (bn (by rw[length_map,op.len];omega))];rfl
theorem rW (p:List Int)(S:List Sp):kF p S=.tup [.str "same"]∨kF p S=.tup [.str "none"]∨∃a b c d,kF p S=.tup [.str "pot",.int a,.int b,.int c,.int d]:=by
 unfold kF;split
 ·exact .inl rfl
 ·split
  ·exact .inr (.inl rfl)
  ·exact .inr (.inr ⟨_,_,_,_,rfl⟩)
theorem uE {F:D}{ρ:bj}{N:aw}(h:F=.tup [.str "same"]∨F=.tup [.str "none"]∨∃a b c d,F=.tup [.str "pot",.int a,.int b,.int c,.int d])(hf:ρ[16]?=some (some F)) :
  (∀M,bE true F F M=.ok (.bl false) M)∧gT (jQ "tuple" (ae 16)) ρ N=.ok true N∧aI (g2 (jD false) (gC (.bl true)) (aH (cm (ae 16)) a9 jL aD)) ρ N=.ok false N:=by
 have v:ae 16 ρ N=.ok F N:=by unfold ae;rw[hf]
 have l1:∀k:Nat,k≤5→k≤sizeLine:=fun k hk=>bn (by omega)
 have one:∀x:Str,PyData.strOk x=true→F=.tup [.str x]→(∀M,bE true F F M=.ok (.bl false) M)∧gT (jQ "tuple" (ae 16)) ρ N=.ok true N∧aI (g2 (jD false) (gC (.bl true)) (aH (cm (ae 16)) a9 jL aD)) ρ N=.ok false N:=fun x hx e=>by
  subst e;refine⟨sV (by show(PyData.strOk x&&true)=true;rw[hx];rfl) (by show((x==x)&&true)=true;rw[beq_self_eq_true];rfl) fun _=>rfl,?_,?_⟩
  ·unfold gT jQ;rw[v];rfl
  ·have c:aH (cm (ae 16)) a9 jL aD ρ N=.ok (.lst [.bl false]) N:=by
    refine cq (ds:=[.str x]) (by unfold cm;rw[v];rfl) (jl (f:=fun d=>d) (g:=fun _=>D.bl false) [D.str x] fun a ha=>?_) (by decide);rw[mem_singleton] at ha;subst ha;rfl
   exact aP (am rfl c rfl)
 rcases h with e|e|⟨a,b,c,d,e⟩
 ·exact one "same" (by decide +kernel) e
 ·exact one "none" (by decide +kernel) e
 ·subst e;refine⟨sV (by show(PyData.strOk "pot"&&true)=true;decide +kernel) (by show((("pot":Str)=="pot")&&((a==a)&&((b==b)&&((c==c)&&((d==d)&&true)))))=true;simp) fun _=>rfl,?_,?_⟩
  ·unfold gT jQ;rw[v];rfl
  ·have c:aH (cm (ae 16)) a9 jL aD ρ N=.ok (.lst [.bl false,.bl false,.bl false,.bl false,.bl false]) N:=by
    refine cq (ds:=[.str "pot",.int a,.int b,.int c,.int d]) (by unfold cm;rw[v];rfl) (jl (f:=fun d=>d) (g:=fun _=>D.bl false) [D.str "pot",.int a,.int b,.int c,.int d] fun z hz=>?_) (by decide);simp only[mem_cons,not_mem_nil,or_false] at hz;rcases hz with rfl|rfl|rfl|rfl|rfl <;> rfl
   exact aP (am rfl c rfl)
theorem Dz {F:FD}{a b c d e:GE}{ρ:bj}{M M1 M2 M3 M4 M5:aw}{x y z u v:D}{o:aM D}(ha:a ρ M=.ok x M1)(hb:b ρ M1=.ok y M2)(hc:c ρ M2=.ok z M3)(hd:d ρ M3=.ok u M4)(he:e ρ M4=.ok v M5)(h:F [x,y,z,u,v] M5=o):ap 5 F (aa a (aa b (aa c (aa d (aa e ag))))) ρ M=o:=by
 unfold ap;rw[av ha (av hb (av hc (av hd (av he rfl)))),ao,if_pos (show [x,y,z,u,v].length=5 from rfl),h]
noncomputable abbrev ev (sc tn:Option D)(y:Nat→Option D):bj:=[sc,some (.mr 0),tn,y 3,y 4,y 5,y 6,y 7,y 8,y 9,y 10,y 11,y 12,y 13,y 14,y 15,y 16]
noncomputable def Cg (b:GS):GS:=ar (cu (bF [3,4,5,6]) (ap 2 cX (aa (ae 1) (aa (gC (.int 10)) ag)))) (ar (aA 7 (aV (aa (ae 3) (aa (ae 4) (aa (aO mT (aa (ae 5) (aa (gC (.int 5)) ag))) (aa (ae 6) ag)))))) (ar (aA 8 (ap 3 dz (aa (ae 1) (aa (ae 7) (aa (gC (.int 4)) ag))))) (ar (aA 9 (ap 2 cQ (aa (ae 7) (aa (ae 8) ag)))) b)))
noncomputable def AH (b:GS):GS:=(ar (aA 10 (ap 2 ah (aa (ae 1) (aa (ae 4) ag)))) (ar (aA 11 (ap 2 ah (aa (ae 1) (aa (ae 3) ag)))) (ar (aA 12 (g2 az (dE (aa (g2 az (g2 az (ae 9) (ae 10)) (ae 11)) (aa (ap 2 ah (aa (ae 1) (aa (gC (.int 16)) ag))) ag))) (g2 cn (ap 2 ah (aa (ae 1) (aa (gC (.int 5)) ag))) (gC (.int 4))))) (ar (aA 13 (g2 az (dE (aa (aV (aa (ae 12) (aa (ap 2 ah (aa (ae 1) (aa (gC (.int 64)) ag))) ag))) (aa (gC .non) ag))) (g2 cn (ap 2 ah (aa (ae 1) (aa (gC (.int 6)) ag))) (gC (.int 5))))) (ar (aA 14 (ap 5 cK (aa (ae 7) (aa (ae 9) (aa (g2 az (ae 8) (gC (.int 4))) (aa (ae 13) (aa (ap 2 ah (aa (ae 1) (aa (g2 cY (ae 4) (g2 bu (ae 3) (g2 az (ae 7) (gC (.int 2))))) ag))) ag))))))) b)))))
noncomputable def DX:GS:=fV (aI (g2 (bE false) (ap 2 ah (aa (ae 1) (aa (gC (.int 4)) ag))) (gC (.int 0)))) (iA (g2 az (ae 14) (ap 2 ah (aa (ae 1) (aa (ae 4) ag)))) (ap 2 ah (aa (ae 1) (aa (ae 3) ag))) (g2 az (dE (aa (ap 2 ah (aa (ae 1) (aa (gC (.int 64)) ag))) (aa (g2 az (g2 az (ae 8) (gC (.int 4))) (ae 12)) ag))) (g2 cG (ae 2) (gC (.int 2))))) ba
noncomputable def AW:GS:=(ar (aA 15 (aH (cm (ae 14)) a9 kY aD)) (ar (aA 16 (ap 3 fU (aa (ae 7) (aa (ae 8) (aa (ae 15) ag))))) (ar (fV (gQ (iJ (gT (jQ "tuple" (ae 16)))) (gQ (aI (g2 (bE true) (ae 16) (ap 4 iH (aa (ae 7) (aa (ae 9) (aa (g2 az (ae 8) (gC (.int 4))) (aa (ae 14) ag))))))) (aI (g2 (vn true) (ae 15) (ae 14))))) (bh (gC (.bl false))) ba) (fV (aI (g2 (jD false) (gC (.bl true)) (aH (cm (ae 16)) a9 jL aD))) (bh (gC (.bl false))) ba))))
theorem uR:o8=Cg (AH (ar DX AW)):=rfl
theorem qP {s:df}{mm m:Int}{w h:Nat}(ok:dR mm s):iL (inksL s w h m) w h:=⟨by unfold inksL;rw[length_map,length_range,Int.toNat_natCast],fun r q e=>by
 unfold inksL at e;rw[getElem?_map] at e;cases hr:(List.range ((h:Int)).toNat)[r]? with
 | none=>rw[hr] at e;cases e
 | some r'=>
  rw[hr] at e;cases e;refine⟨by unfold inkR;rw[length_map,length_range,Int.toNat_natCast],fun k hk=>?_⟩;unfold inkR at hk;obtain⟨x,hx,rfl⟩:=mem_map.mp hk;have:=mem_range.mp hx;exact wY (w:=(w:Int)) ok (by omega)⟩
structure Dr (w h g:Nat)(m:Int)(s:df):Prop where
 w:1≤w∧w≤10
 h:1≤h∧h≤10
 g:g≤5
 m:0≤m∧m≤12
 s:dR 4 s
noncomputable def Az (w h g:Nat)(m:Int):D:=.tup [.int w,.int h,.int g,.int m]
noncomputable abbrev eA (w h g:Nat) (g0 m:Int) (s:df) (y:Nat→Option D) (i:Nat):Option D:=match i with
 | 3=>some (.int w)
 | 4=>some (.int h)
 | 5=>some (.int g0)
 | 6=>some (.int m)
 | 7=>some (Az w h g m)
 | 8=>some s.d
 | 9=>some (aN (inksL s w h m))
 | i=>y i
theorem yw {l:List Int}{rest M:aw}{sc tn:Option D}{y:Nat→Option D}(t:cp l rest M)(hr:RS rest):∃(w h g:Nat) (g0 m:Int) (s:df) (M':aw),Dr w h g m s∧cp l rest M'∧∀b:GS,Cg b (ev sc tn y) M=b (ev sc tn (eA w h g g0 m s y)) M':=by
 obtain⟨w,h,g0,m,M1,hw,hh,hg,hm,t1,e1⟩:=v4 (most:=10) (by decide) (by decide) t;obtain⟨w,rfl⟩:=Int.eq_ofNat_of_zero_le (by omega:0≤w);obtain⟨h,rfl⟩:=Int.eq_ofNat_of_zero_le (by omega:0≤h);obtain⟨g,eg⟩:=Int.eq_ofNat_of_zero_le (by omega:0≤min g0 5);obtain⟨s,M2,os,t2,e2⟩:=xa (w:=w) (hh:=h) (more:=[.int g,.int m]) (mm:=4) (by omega) (by omega) (by decide) t1;have e3:=sD (g:=(g:Int)) (m:=m) (M:=M2) os (by decide) (w:=(w:Int)) (h:=(h:Int)) (by omega) (by omega) (hr.shut t2);refine⟨w,h,g,g0,m,s,M2,⟨by omega,by omega,by omega,hm,os⟩,t2,fun b=>?_⟩;unfold Cg;have k1:∀b:GS,ar (cu (bF [3,4,5,6]) (ap 2 cX (aa (ae 1) (aa (gC (.int 10)) ag)))) b (ev sc tn y) M=b [sc,some (.mr 0),tn,some (.int w),some (.int h),some (.int g0),some (.int m),y 7,y 8,y 9,y 10,y 11,y 12,y 13,y 14,y 15,y 16] M1:=fun b=>ax (iP (cD rfl rfl e1) rfl)
 have k2:∀b:GS,ar (aA 7 (aV (aa (ae 3) (aa (ae 4) (aa (aO mT (aa (ae 5) (aa (gC (.int 5)) ag))) (aa (ae 6) ag)))))) b [sc,some (.mr 0),tn,some (.int w),some (.int h),some (.int g0),some (.int m),y 7,y 8,y 9,y 10,y 11,y 12,y 13,y 14,y 15,y 16] M1=b [sc,some (.mr 0),tn,some (.int w),some (.int h),some (.int g0),some (.int m),some (Az w h g m),y 8,y 9,y 10,y 11,y 12,y 13,y 14,y 15,y 16] M1:=fun b=>by
  refine ax (aF (cb (ds:=[.int w,.int h,.int g,.int m]) (av rfl (av rfl (av ?_ rfl)))));show aM.ok (D.int (if 5<g0 then 5 else g0)) M1=_;rw[show(if 5<g0 then 5 else g0)=(g:Int) by rw[←eg];split <;> omega]
 have k3:∀b:GS,ar (aA 8 (ap 3 dz (aa (ae 1) (aa (ae 7) (aa (gC (.int 4)) ag))))) b [sc,some (.mr 0),tn,some (.int w),some (.int h),some (.int g0),some (.int m),some (Az w h g m),y 8,y 9,y 10,y 11,y 12,y 13,y 14,y 15,y 16] M1=b [sc,some (.mr 0),tn,some (.int w),some (.int h),some (.int g0),some (.int m),some (Az w h g m),some s.d,y 9,y 10,y 11,y 12,y 13,y 14,y 15,y 16] M2:=fun b=>ax (aF (mI rfl rfl rfl e2))
 rw[k1,k2,k3];exact ax (aF (cD rfl rfl e3))
theorem wN {a:GE}{ρ:bj}{N N1:aw}{f j:Int}(e:a ρ N=.ok (.int f) N1)(h0:0<j)(h1:j≤1000):g2 cn a (gC (.int j)) ρ N=.ok (.int (f / j)) N1:=am e rfl (pd h0 (by omega) N1)
theorem yI {l:List Int}{rest M:aw}{sc tn:Option D}{y:Nat→Option D}{w h g:Nat}{g0 m:Int}{s:df}(d:Dr w h g m s)(t:cp l rest M):∃(P:List (List Int)) (k:Nat) (z:Nat→Option D) (M':aw),cP P w h∧k≤15∧z 12=some (.int k)∧cp l (rest++cO (rest.length+1) P) M'∧∀b:GS,AH b (ev sc tn (eA w h g g0 m s y)) M=b (ev sc tn (eA w h g g0 m s fun i=>if i=14 then some (.mr (rest.length+1)) else z i)) M':=by
 have io:=qP (w:=w) (h:=h) (m:=m) d.s;obtain⟨r,N1,a1,b1,t1,e1⟩:=vp (ρ:=ev sc tn (eA w h g g0 m s y)) (i:=1) (many:=h) t rfl (by have:=d.h;omega) (aC (by have:=d.h;omega) (by have:=d.h;omega));obtain⟨r,rfl⟩:=Int.eq_ofNat_of_zero_le a1
 let y1:Nat→Option D:=fun i=>if i=10 then some (.int r) else y i
 obtain⟨x,N2,a2,b2,t2,e2⟩:=vp (ρ:=ev sc tn (eA w h g g0 m s y1)) (i:=1) (many:=w) t1 rfl (by have:=d.w;omega) (aC (by have:=d.w;omega) (by have:=d.w;omega));obtain⟨x,rfl⟩:=Int.eq_ofNat_of_zero_le a2
 let y2:Nat→Option D:=fun i=>if i=11 then some (.int x) else y1 i
 obtain⟨f3,N3,a3,b3,t3,e3⟩:=vp (ρ:=ev sc tn (eA w h g g0 m s y2)) (i:=1) (many:=16) t2 rfl (by decide) (aC (by decide) (by decide));obtain⟨f4,N4,a4,b4,t4,e4⟩:=vp (ρ:=ev sc tn (eA w h g g0 m s y2)) (i:=1) (many:=5) t3 rfl (by decide) (aC (by decide) (by decide));obtain⟨_,_,_,i0,i1⟩:=io.at (r:=r) (x:=x) (by omega) (by omega);obtain⟨v,hv,ev4⟩:=rh (a:=.int (cS (inksL s w h m) r x)) (b:=.int f3) (f:=f4 / 4) (by omega) (by omega);obtain⟨k,hk,hk2⟩:∃k:Nat,v=.int k∧k≤15:=by
  rcases hv with q|q
  ·obtain⟨k,e⟩:=Int.eq_ofNat_of_zero_le i0;exact⟨k,by rw[q,e],by omega⟩
  ·obtain⟨k,e⟩:=Int.eq_ofNat_of_zero_le a3;exact⟨k,by rw[q,e],by omega⟩
 subst hk
 let y3:Nat→Option D:=fun i=>if i=12 then some (.int k) else y2 i
 obtain⟨f5,N5,a5,b5,t5,e5⟩:=vp (ρ:=ev sc tn (eA w h g g0 m s y3)) (i:=1) (many:=64) t4 rfl (by decide) (aC (by decide) (by decide));obtain⟨f6,N6,a6,b6,t6,e6⟩:=vp (ρ:=ev sc tn (eA w h g g0 m s y3)) (i:=1) (many:=6) t5 rfl (by decide) (aC (by decide) (by decide));obtain⟨dv,hdv,ev6⟩:=rh (a:=.tup [.int k,.int f5]) (b:=.non) (f:=f6 / 5) (by omega) (by omega);obtain⟨dd,hdd⟩:∃dd,dv=o5 dd:=by
  rcases hdv with q|q
  ·exact⟨some ((k:Int),f5),q⟩
  ·exact⟨none,q⟩
 subst hdd
 let y4:Nat→Option D:=fun i=>if i=13 then some (o5 dd) else y3 i
 have ht:1≤h*(w+g)∧h*(w+g)≤200:=by
  have h1:=d.h;have h2:=d.w;have h3:=d.g;exact⟨Nat.mul_pos (by omega) (by omega),Nat.le_trans (Nat.mul_le_mul h1.2 (show w+g≤15 by omega)) (by decide)⟩
 obtain⟨T,N7,a7,b7,t7,e7⟩:=vp (ρ:=ev sc tn (eA w h g g0 m s y4)) (i:=1) (many:=((h*(w+g):Nat):Int)) t6 rfl (by omega) (aC (by omega) (by omega));have ly:=oB (I:=inksL s w h m) (p:=s.pots) (dd:=dd) (w:=w) (h:=h) (g:=g) (m:=m) (T:=T) (M:=N7) io d.s.pl (by have:=d.w;omega) (by have:=d.g;omega) (by have:=d.h;omega);have ln:N7.length=rest.length+1:=by obtain⟨i,c,_,rfl⟩:=t7;rfl
 rw[ln] at ly;refine⟨cU (inksL s w h m) s.pots dd w g T h,k,y4,N7++cO (rest.length+1) (cU (inksL s w h m) s.pots dd w g T h),o0,hk2,rfl,by obtain⟨i,c,hi,rfl⟩:=t7;exact⟨i,c,hi,rfl⟩,fun b=>?_⟩;unfold AH;have k1:∀b:GS,ar (aA 10 (ap 2 ah (aa (ae 1) (aa (ae 4) ag)))) b (ev sc tn (eA w h g g0 m s y)) M=b (ev sc tn (eA w h g g0 m s y1)) N1:=fun b=>ax (aF (e1 _ rfl))
 have k2:∀b:GS,ar (aA 11 (ap 2 ah (aa (ae 1) (aa (ae 3) ag)))) b (ev sc tn (eA w h g g0 m s y1)) N1=b (ev sc tn (eA w h g g0 m s y2)) N2:=fun b=>ax (aF (e2 _ rfl))
 have k3:∀b:GS,ar (aA 12 (g2 az (dE (aa (g2 az (g2 az (ae 9) (ae 10)) (ae 11)) (aa (ap 2 ah (aa (ae 1) (aa (gC (.int 16)) ag))) ag))) (g2 cn (ap 2 ah (aa (ae 1) (aa (gC (.int 5)) ag))) (gC (.int 4))))) b (ev sc tn (eA w h g g0 m s y2)) N2=b (ev sc tn (eA w h g g0 m s y3)) N4:=fun b=>
  ax (aF (am (f:=az) (jE (ds:=[.int (cS (inksL s w h m) r x),.int f3]) (av (jX io (by omega) (by omega) rfl rfl rfl) (av (e3 _ rfl) rfl))) (wN (e4 _ rfl) (by decide) (by decide)) (ev4 N4)))
 have k4:∀b:GS,ar (aA 13 (g2 az (dE (aa (aV (aa (ae 12) (aa (ap 2 ah (aa (ae 1) (aa (gC (.int 64)) ag))) ag))) (aa (gC .non) ag))) (g2 cn (ap 2 ah (aa (ae 1) (aa (gC (.int 6)) ag))) (gC (.int 5))))) b (ev sc tn (eA w h g g0 m s y3)) N4=b (ev sc tn (eA w h g g0 m s y4)) N6:=fun b=>
  ax (aF (am (f:=az) (jE (ds:=[.tup [.int k,.int f5],.non]) (av (cb (ds:=[.int k,.int f5]) (av rfl (av (e5 _ rfl) rfl))) (av rfl rfl))) (wN (e6 _ rfl) (by decide) (by decide)) (ev6 N6)))
 rw[k1,k2,k3,k4];refine ax (aF (Dz (x:=Az w h g m) (y:=aN (inksL s w h m)) (z:=.tup (s.pots.map D.int)) (u:=o5 dd) (v:=.int T) rfl rfl (am (x:=s.d) (y:=.int 4) rfl rfl (aB (k:=4) rfl)) rfl (e7 _ ?_) ly))
 ·refine am (x:=.int h) (y:=.int ((w:Int)+g)) rfl (am (x:=.int w) (y:=.int g) rfl (am (x:=Az w h g m) (y:=.int 2) rfl rfl (aB (k:=2) rfl)) rfl) ((oD (by have:=d.h;omega) (by have:=d.h;omega) N6).trans ?_);rw[show(h:Int)*((w:Int)+g)=((h*(w+g):Nat):Int) by push_cast;rfl]
theorem xN {n x:Nat}(h:x<n):uC n (x:Int)=some x:=by
 unfold uC;rw[if_pos (by omega),if_pos (by omega),Int.toNat_natCast]
noncomputable abbrev eC (w h g:Nat) (g0 m:Int) (s:df) (n:Nat) (z:Nat→Option D):Nat→Option D:=eA w h g g0 m s fun i=>if i=14 then some (.mr n) else z i
theorem zx {l:List Int}{rest M:aw}{sc:Option D}{z:Nat→Option D}{w h g k tv:Nat}{g0 m:Int}{s:df}{P:List (List Int)}(d:Dr w h g m s)(op:cP P w h)(hk:k≤15)(hz:z 12=some (.int k))(t:cp l (rest++cO (rest.length+1) P) M) :
  ∃(P':List (List Int)) (M':aw),cP P' w h∧cp l (rest++cO (rest.length+1) P') M'∧DX (ev sc (some (.int tv)) (eC w h g g0 m s (rest.length+1) z)) M=.ok (.nx (ev sc (some (.int tv)) (eC w h g g0 m s (rest.length+1) z))) M':=by
 obtain⟨q,N1,a1,b1,t1,e1⟩:=vp (ρ:=ev sc (some (.int tv)) (eC w h g g0 m s (rest.length+1) z)) (i:=1) (many:=4) t rfl (by decide) (aC (by decide) (by decide));have tt:=aP (am (f:=bE false) (e1 (gC (.int 4)) rfl) (b:=gC (.int 0)) (y:=.int 0) rfl (mj q 0 N1))
 by_cases c:q=0
 ·obtain⟨f2,N2,a2,b2,t2,e2⟩:=vp (ρ:=ev sc (some (.int tv)) (eC w h g g0 m s (rest.length+1) z)) (i:=1) (many:=64) t1 rfl (by decide) (aC (by decide) (by decide));obtain⟨r,N3,a3,b3,t3,e3⟩:=vp (ρ:=ev sc (some (.int tv)) (eC w h g g0 m s (rest.length+1) z)) (i:=1) (many:=h) t2 rfl (by have:=d.h;omega) (aC (by have:=d.h;omega) (by have:=d.h;omega));obtain⟨x,N4,a4,b4,t4,e4⟩:=vp (ρ:=ev sc (some (.int tv)) (eC w h g g0 m s (rest.length+1) z)) (i:=1) (many:=w) t3 rfl (by have:=d.w;omega) (aC (by have:=d.w;omega) (by have:=d.w;omega));obtain⟨r,rfl⟩:=Int.eq_ofNat_of_zero_le a3;obtain⟨x,rfl⟩:=Int.eq_ofNat_of_zero_le a4;have hr:r<P.length:=by rw[op.len];omega
  have er:=getElem?_eq_getElem hr;have lr:=op.row r _ er;obtain⟨v,hv,ev2⟩:=rh (a:=.int f2) (b:=.int (s.pots.getD k 0)) (f:=(tv:Int) % 2) (by omega) (by omega);obtain⟨vi,hvi⟩:∃vi:Int,v=.int vi:=by rcases hv with q|q <;> exact⟨_,q⟩
  subst hvi;refine⟨P.set r (P[r].set x vi),N4.set (rest.length+1+1+r) (jc (P[r].set x vi)),op.put er,xx t4 hr,?_⟩;rw[decide_eq_true c] at tt;have p3:=mG t3;have p4:=mG t4;have gk:ae 12 (ev sc (some (.int tv)) (eC w h g g0 m s (rest.length+1) z)) N2=.ok (.int k) N2:=by
   show(match ([sc,some (.mr 0),some (.int tv),eC w h g g0 m s (rest.length+1) z 3,eC w h g g0 m s (rest.length+1) z 4,eC w h g g0 m s (rest.length+1) z 5,eC w h g g0 m s (rest.length+1) z 6,eC w h g g0 m s (rest.length+1) z 7,eC w h g g0 m s (rest.length+1) z 8,eC w h g g0 m s (rest.length+1) z 9,eC w h g g0 m s (rest.length+1) z 10,eC w h g g0 m s (rest.length+1) z 11,z 12]:bj)[12]? with|some (some d)=>aM.ok d N2|_=>.bad)=_;rw[show([sc,some (.mr 0),some (.int tv),eC w h g g0 m s (rest.length+1) z 3,eC w h g g0 m s (rest.length+1) z 4,eC w h g g0 m s (rest.length+1) z 5,eC w h g g0 m s (rest.length+1) z 6,eC w h g g0 m s (rest.length+1) z 7,eC w h g g0 m s (rest.length+1) z 8,eC w h g g0 m s (rest.length+1) z 9,eC w h g g0 m s (rest.length+1) z 10,eC w h g g0 m s (rest.length+1) z 11,z 12]:bj)[12]?=some (z 12) from rfl,hz]
  have kg:g2 az (dE (aa (ap 2 ah (aa (ae 1) (aa (gC (.int 64)) ag))) (aa (g2 az (g2 az (ae 8) (gC (.int 4))) (ae 12)) ag))) (g2 cG (ae 2) (gC (.int 2))) (ev sc (some (.int tv)) (eC w h g g0 m s (rest.length+1) z)) N1=.ok (.int vi) N2:=by
   refine am (f:=az) (jE (ds:=[.int f2,.int (s.pots.getD k 0)]) (av (e2 _ rfl) (av (am (x:=.tup (s.pots.map D.int)) (y:=.int k) (am (x:=s.d) (y:=.int 4) rfl rfl (aB (k:=4) rfl)) gk ?_) rfl))) (am (x:=.int tv) (y:=.int 2) rfl rfl (ft (by decide) N2)) (ev2 N2);have:=oQ (p:=s.pots) (k:=(k:Int)) (M:=N2) d.s.pl (by omega) (by omega);rw[Int.toNat_natCast] at this;exact this
  refine(iz tt).trans ?_;unfold iA;rw[kg,ao,am (f:=az) (a:=ae 14) (x:=.mr (rest.length+1)) rfl (e3 _ rfl) (p3.get1 hr),ao,e4 _ rfl,ao];have hs:qW (.mr (rest.length+1+1+r)) (.int x) (.int vi) N4=.ok () (N4.set (rest.length+1+1+r) (jc (P[r].set x vi))):=by
   unfold qW;dsimp only;rw[p4.row r _ er];unfold jc;dsimp only;rw[show uC (P[r].map D.int).length (x:Int)=some x from xN (by rw[length_map];omega)];dsimp only;rw[map_set]
  rw[hs,ao]
 ·rw[decide_eq_false c] at tt;exact⟨P,N1,op,t1,(fm tt).trans rfl⟩
theorem zo {l:List Int}{rest M:aw}{sc:Option D}{z:Nat→Option D}{w h g tv:Nat}{g0 m:Int}{s:df}{P:List (List Int)}(d:Dr w h g m s)(op:cP P w h)(hr:RS rest)(t:cp l (rest++cO (rest.length+1) P) M) :
  ∃y:Nat→Option D,AW (ev sc (some (.int tv)) (eC w h g g0 m s (rest.length+1) z)) M=.ok (.nx (ev sc (some (.int tv)) y)) M:=by
 have io:=qP (w:=w) (h:=h) (m:=m) d.s;have pa:=mG t;have sM:eY M:=hr.pic.shut t;have hw:=d.w;have hh:=d.h;have hg:=d.g
 let F:=kF s.pots (jn (inksL s w h m) P w g h)
 have e1:=uO (ρ:=ev sc (some (.int tv)) (eC w h g g0 m s (rest.length+1) z)) pa op (by omega) rfl;have ei:=m9 (g:=(g:Int)) (m:=m) (M:=M) d.s (by decide) (w:=(w:Int)) (h:=(h:Int)) (by omega) (by omega) d.m sM;have es:=xc (g:=g) ei io.pic op (by omega) (by omega);have sl:(jn (inksL s w h m) P w g h).length≤10000:=by rw[lY];exact Nat.le_trans (Nat.mul_le_mul hh.2 hw.2) (by decide)
 have e2:=yY es sl (fun q hq=>by
  obtain⟨r,x,a,b,rfl⟩:=mN.mp hq;obtain⟨_,_,_,i0,i1⟩:=io.at a b;exact⟨i0,i1⟩) d.s.pl
 have e3:=BM (m:=m) (g:=g) io op pa d.s.pl (by omega) (by omega) (by omega) sM;rw[←wc op] at e3
 let y1:Nat→Option D:=eA w h g g0 m s fun i=>if i=14 then some (.mr (rest.length+1)) else if i=15 then some (aN P) else z i
 let y2:Nat→Option D:=eA w h g g0 m s fun i=>if i=14 then some (.mr (rest.length+1)) else if i=15 then some (aN P) else if i=16 then some F else z i
 have k1:∀b:GS,ar (aA 15 (aH (cm (ae 14)) a9 kY aD)) b (ev sc (some (.int tv)) (eC w h g g0 m s (rest.length+1) z)) M=b (ev sc (some (.int tv)) y1) M:=fun b=>ax (aF e1)
 have k2:∀b:GS,ar (aA 16 (ap 3 fU (aa (ae 7) (aa (ae 8) (aa (ae 15) ag))))) b (ev sc (some (.int tv)) y1) M=b (ev sc (some (.int tv)) y2) M:=fun b=>ax (aF (mI rfl rfl rfl e2))
 obtain⟨f1,f2,f3⟩:=uE (F:=F) (ρ:=ev sc (some (.int tv)) y2) (N:=M) (rW _ _) rfl;refine⟨y2,?_⟩;unfold AW;rw[k1,k2];refine(ax ((fm (M1:=M) (kT (x:=false) (y:=false) (yT (x:=true) f2) fun _=>kT (x:=false) (y:=false) (aP (am (x:=F) (y:=F) rfl (Ad (x:=Az w h g m) (y:=aN (inksL s w h m)) (z:=.tup (s.pots.map D.int)) (u:=.mr (rest.length+1)) rfl rfl (am (x:=s.d) (y:=.int 4) rfl rfl (aB (k:=4) rfl)) rfl e3) (f1 M))) fun _=>aP (am (x:=aN P) (y:=.mr (rest.length+1)) rfl rfl ((xE (wB P M) pa.now).trans (by rw[decide_eq_true rfl];rfl))))).trans rfl)).trans ((fm f3).trans rfl)
theorem law_true (ns:List Int)(hl:ns.length≤63):∃M',tj [.ro (ns.map D.int)] []=.ok (.bl true) M':=by
 generalize hsc:D.ro (ns.map D.int)=sc;have l3:(3:Nat)≤sizeLine:=bn (by decide);have t0:cp ns [] [tp ns 0 0]:=⟨0,0,by decide,rfl⟩;have s1:∀b:GS,ar (aA 1 (fW (aa (aO jv (aa (ae 0) ag)) (aa (gC (.int 0)) (aa (gC (.int 0)) ag))))) b [some sc,none,none,none,none,none,none,none,none,none,none,none,none,none,none,none,none] []=b (ev (some sc) none fun _=>none) [tp ns 0 0]:=fun b=>by
  subst hsc;refine ax (aF (d:=.mr 0) (M1:=[tp ns 0 0]) ?_);show(if [D.lst (ns.map D.int),.int 0,.int 0].length≤sizeLine then aM.ok (D.mr 0) [MO.lst [D.lst (ns.map D.int),.int 0,.int 0]] else .bad)=_;rw[if_pos (show [D.lst (ns.map D.int),.int 0,.int 0].length≤sizeLine from l3)];rfl
 obtain⟨ρ',N,_,ef⟩:=fR (ds0:=ay 0 4) (s:=bo 2) (body:=o8) (W:=fun _ ρ N=>∃(tn:Option D) (y:Nat→Option D) (rest:aw),ρ=ev (some sc) tn y∧RS rest∧cp ns rest N) (ay 0 4) 0 (fun j dd hd ρ N hW=>by
  obtain⟨tn,y,rest,rfl,hr,t⟩:=hW;obtain⟨hj,rfl⟩:=dX hd;rw[Int.zero_add];obtain⟨w,h,g,g0,m,s,N1,d,t1,eA⟩:=yw (sc:=some sc) (tn:=some (.int j)) (y:=y) t hr;obtain⟨P,k,z,N2,op,hk,hz,t2,eB⟩:=yI (sc:=some sc) (tn:=some (.int j)) (y:=y) (g0:=g0) d t1;obtain⟨P',N3,op',t3,eC⟩:=zx (sc:=some sc) (z:=z) (tv:=j) (g0:=g0) d op hk hz t2;obtain⟨y',eD⟩:=zo (sc:=some sc) (z:=z) (tv:=j) (g0:=g0) d op' hr t3;refine⟨_,_,N3,rfl,?_,some (.int j),y',rest++cO (rest.length+1) P',rfl,hr.pic,t3⟩;rw[uR];exact(eA _).trans ((eB _).trans ((ax eC).trans eD))) (ev (some sc) none fun _=>none) [tp ns 0 0] ⟨none,fun _=>none,[],rfl,rfl,t0⟩
 refine⟨N,?_⟩;show aE (sR [some sc,none,none,none,none,none,none,none,none,none,none,none,none,none,none,none,none] [])=_;unfold sR;rw[s1];refine congrArg aE ((ax (il (t:=⟨ay 0 4,none⟩) (cE (n:=4) (av rfl rfl) (by decide)) ef)).trans (bH rfl))
end K37
theorem PySem.Challenge.cw_glowrow_k37_whole_lone_pots_holds : PySem.Challenge.rw_glowrow_k37_whole_lone_pots.Holds :=
 K37.pre K37.law_true
