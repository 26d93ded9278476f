import PyProof.Rows.All
import Wide.All
import KE.KNestM
import OpenK.KOwn
import OpenK.KRaise
import KE.KIsAll
import KE.KTypeName
import Wide.FinOn
import Lean
import PyProof.EqAt
import PyProof.EqKinds
import PyProof.TupleCall
import PyProof.Draws
import PyProof.EnumMake
import KE.KLam
import KE.KMinKey
import PyProof.StrCalls2
import PyProof.Rows.StrIndexOr
import PyProof.CollectIter
import PyProof.ListStr
import KE.KDictLaws
import PyProof.P3Eq
import KE.KSortTup
import KE.KDictList
import PyProof.ZipIter
import PyProof.Rows.ZipGen
import PyProof.SliceStr2
import PyProof.StrBlockI
import PyProof.StrCalls3
import PyProof.StrCalls6
import PyProof.StrCalls5
import KE.KRevIter
import PyProof.FactsAll.range_2
import PySem.Challenge.RW_glowrow_k40_whole_packings_spoilt_anywhe
set_option Elab.async false
set_option linter.all false
set_option maxRecDepth 100000
set_option maxHeartbeats 4000000
namespace L2
open PySem PySem.Spec PyProof.Rows List
abbrev fc:=Sum Int Str
def m7:fc→Value→Bool
 | .inl k,v=>Value.isInt k v
 | .inr x,v=>Value.isStrOf x v
def Jp (w:World):fc→Int
 | .inl k=>hashInt k
 | .inr x=>hashStr w x
theorem bO:∀{k:fc} {v:Value},m7 k v=true→(∃i t,k=Sum.inl i∧v=Value.int i t)∨(∃x t,k=Sum.inr x∧v=Value.str x t)
 | .inl i,v,h=>by
  obtain⟨t,e⟩:=Value.isInt_shape (k:=i) (v:=v) h;exact .inl ⟨i,t,rfl,e⟩
 | .inr x,v,h=>by
  obtain⟨t,e⟩:=Value.isStrOf_shape (x:=x) (v:=v) h;exact .inr ⟨x,t,rfl,e⟩
theorem uc (i:Int)(t:Tok):m7 (.inl i) (.int i t)=true:=by simp[m7,Value.isInt]
theorem u4 (x:Str)(t:Tok):m7 (.inr x) (.str x t)=true:=by simp[m7,Value.isStrOf]
theorem Eg (a b:Int):decide ((Sum.inl a:fc)=Sum.inl b)=(a==b):=by
 by_cases e:a=b
 ·subst e;simp
 ·have h:¬(Sum.inl a:fc)=Sum.inl b:=fun q=>e (Sum.inl.inj q)
  rw[decide_eq_false h];exact(beq_eq_false_iff_ne.mpr e).symm
theorem Eo (a b:Str):decide ((Sum.inr a:fc)=Sum.inr b)=decide (a=b):=by
 by_cases e:a=b
 ·subst e;simp
 ·have h:¬(Sum.inr a:fc)=Sum.inr b:=fun q=>e (Sum.inr.inj q)
  rw[decide_eq_false h,decide_eq_false e]
theorem Cs (a:Int)(b:Str):decide ((Sum.inl a:fc)=Sum.inr b)=false:=decide_eq_false (fun q=>nomatch q)
theorem Cz (a:Str)(b:Int):decide ((Sum.inr a:fc)=Sum.inl b)=false:=decide_eq_false (fun q=>nomatch q)
def b8 (prog:Program)(w:World):PySem.KeyKind prog w fc where
 is:=m7
 hash:=Jp w
 inj:=fun v a b ha hb=>by
  rcases bO ha with⟨i,t,rfl,rfl⟩|⟨x,t,rfl,rfl⟩
  ·rcases bO hb with⟨j,u,rfl,e⟩|⟨y,u,rfl,e⟩
   ·injection e with e1 _;rw[e1]
   ·exact nomatch e
  ·rcases bO hb with⟨j,u,rfl,e⟩|⟨y,u,rfl,e⟩
   ·exact nomatch e
   ·injection e with e1 _;rw[e1]
 byValue:=fun k v h=>by
  rcases bO h with⟨i,t,rfl,rfl⟩|⟨x,t,rfl,rfl⟩ <;> rfl
 pyHash:=fun hv h=>by
  rcases bO hv with⟨i,t,rfl,rfl⟩|⟨x,t,rfl,rfl⟩
  ·exact wpAny_pyHash_int h
  ·exact wpAny_pyHash_str h
 eqBool:=fun hu hv h=>by
  rcases bO hu with⟨i,t,rfl,rfl⟩|⟨x,t,rfl,rfl⟩
  ·rcases bO hv with⟨j,u,rfl,rfl⟩|⟨y,u,rfl,rfl⟩
   ·rw[Eg] at h;exact wpAny_eqBool_int h
   ·rw[Cs] at h;exact SeqAt.EqAt.int_str i t y u _ _ _ _ h
  ·rcases bO hv with⟨j,u,rfl,rfl⟩|⟨y,u,rfl,rfl⟩
   ·rw[Cz] at h;exact SeqAt.EqAt.str_int x t j u _ _ _ _ h
   ·rw[Eo] at h;exact wpAny_eqBool_str h
 «strs»:=fun k x t v h=>by
  rcases bO h with⟨i,u,rfl,e⟩|⟨y,u,rfl,e⟩
  ·exact nomatch e
  ·injection e with e1 _
   subst e1;cases v <;> rfl
theorem oM (prog:Program)(w:World)(i:Int)(t:Tok):(b8 prog w).is (.inl i) (.int i t)=true:=uc i t
theorem o8 (prog:Program)(w:World)(x:Str)(t:Tok):(b8 prog w).is (.inr x) (.str x t)=true:=u4 x t
inductive V where
 | non|bl (b:Bool)|int (i:Int)|str (x:Str)|byt (b:Array UInt8)|flt (b:UInt64)|ref (a:Addr)|ty (n:String)
 deriving DecidableEq
def RelV:V→Value→Prop
 | .non,u=>u=Value.none
 | .bl b,u=>u=Value.bool b
 | .int i,u=>∃t,u=Value.int i t
 | .str x,u=>∃t,u=Value.str x t
 | .byt b,u=>∃t,u=Value.bytes b t
 | .flt b,u=>∃t,u=Value.float b t
 | .ref a,u=>u=Value.ref a
 | .ty n,u=>u=Value.type n
abbrev aP:List V→List Value→Prop:=Paired RelV
theorem aP.length {xs:List V}{us:List Value}(r:aP xs us):xs.length=us.length:=Paired.length r
theorem aP.get:∀{xs:List V} {us:List Value} {i:Nat} {x:V},aP xs us→xs[i]?=some x→∃u,us[i]?=some u∧RelV x u
 | _,_,_,_,.nil,e=>by simp at e
 | _,_,0,_,.cons r _,e=>by simp at e;subst e;exact⟨_,rfl,r⟩
 | _,_,i+1,x,.cons _ t,e=>by
  obtain⟨u,h1,h2⟩:=aP.get (i:=i) (x:=x) t (by simpa using e);exact⟨u,by simpa using h1,h2⟩
theorem aP.set {x:V}{u:Value}(r:RelV x u):∀{xs:List V} {us:List Value} (i:Nat),aP xs us→aP (xs.set i x) (us.set i u)
 | _,_,_,.nil=>.nil
 | _,_,0,.cons _ t=>.cons r t
 | _,_,i+1,.cons q t=>.cons q (aP.set r i t)
theorem aP.append:∀{xs ys:List V} {us ws:List Value},aP xs us→aP ys ws→aP (xs++ys) (us++ws)
 | _,_,_,_,.nil,s=>s
 | _,_,_,_,.cons r t,s=>.cons r (aP.append t s)
theorem aP.take:∀{xs:List V} {us:List Value} (n:Nat),aP xs us→aP (xs.take n) (us.take n)
 | _,_,0,_=>.nil
 | _,_,_+1,.nil=>.nil
 | _,_,n+1,.cons r t=>.cons r (aP.take n t)
theorem aP.drop:∀{xs:List V} {us:List Value} (n:Nat),aP xs us→aP (xs.drop n) (us.drop n)
 | _,_,0,r=>r
 | _,_,_+1,.nil=>.nil
 | _,_,n+1,.cons _ t=>aP.drop n t
def qD:Option V→Option Value→Prop
 | some v,some u=>RelV v u
 | none,none=>True
 | _,_=>False
def KV {κ:Type}:List (κ×V)→List (κ×Value)→Prop:=Paired fun(p:κ×V) (q:κ×Value)=>p.1=q.1∧RelV p.2 q.2
def kV:fc→V
 | .inl i=>.int i
 | .inr x=>.str x
inductive HO where
 | lst (xs:List V)
 | tup (xs:List V)
 | dK (kvs:List (fc×V))|dT (kvs:List (List fc×V))
 | set (S:Int→Bool) (n:Nat)
 | ins (C dx:Addr) (fs:List (Str×V))
 | own (x:Addr)
 | xd (fs:List (Str×V))
 | met (f x:Addr)
 | rng (lo hi:Int)
 | frz (o:Obj) (u:HO)
 | tbl (ps:Array Value)
 | ext (φ:Heap→Prop)
abbrev Hp:=Addr→Option HO
def cp (H:Hp)(a:Addr)(o:HO):Hp:=fun b=>if b=a then some o else H b
theorem cN {H:Hp}{a:Addr}{o:HO}:cp H a o a=some o:=by unfold cp;rw[if_pos rfl]
theorem aI {H:Hp}{a b:Addr}{o:HO}(h:b≠a):cp H a o b=H b:=by unfold cp;rw[if_neg h]
theorem zy {H:Hp}{a:Addr}{o u:HO}:cp (cp H a o) a u=cp H a u:=by
 funext b;unfold cp;split <;> rfl
theorem sA {H:Hp}{a b:Addr}{o u:HO}(h:H a=some o)(h':H b=some u)(d:o≠u):a≠b:=by
 intro e;subst e;rw[h] at h';exact d (Option.some.inj h')
theorem bx {H:Hp}{a b:Addr}{o:HO}(h:H a=some o)(h':H b=none):a≠b:=by
 intro e;subst e;rw[h] at h';cases h'
section
variable (P:Program)(w:World)
def cE (H:Hp)(h:Heap)(a:Addr):HO→Prop
 | .lst xs=>xs.length≤sizeLine∧∃(its:List Value) (n:Nat),aP xs its∧h.get? a=some {cls:=.type "list",data:=.seq its.toArray n}
 | .tup xs=>xs.length≤sizeLine∧∃its:List Value,aP xs its∧IsTup h a its.toArray
 | .dK kvs=>kvs.length≤sizeLine∧(a==sysModules)=false∧∃vs,KV kvs vs∧h.DictOf (b8 P w) a vs
 | .dT kvs=>kvs.length≤sizeLine∧(a==sysModules)=false∧∃xs:List (List fc×Addr×Value),
   Paired (fun(p:List fc×V) (q:List fc×Addr×Value)=>p.1=q.1∧H q.2.1=some (.tup (p.1.map kV))∧RelV p.2 q.2.2) kvs xs∧
   ∃o es ep,h.get? a=some o∧o.ExactDict∧o.data=.dict es ep∧es.toList=xs.map (entryOfKey (tupleKind (b8 P w)))∧(xs.map (·.1)).Nodup
 | .set S n=>h.SetOf (intKind P w) a S n
 | .ins C dx fs=>H dx=some (.own a)∧fs.length≤1000∧dx≠a∧h.get? a=some (W.instObj C dx)∧
   ∃mA,h.Ns1 dx mA∧(∀f,qD (fs.lookup f) (mA f))∧PySem.Within mA (fs.map (·.1))
 | .own _=>∃o,h.get? a=some o
 | .xd fs=>∃mA,h.Ns1 a mA∧∀f,qD (fs.lookup f) (mA f)
 | .rng lo hi=>∃t u v,h.get? a=some {cls:=.type "range",data:=.fields #[.int lo t,.int hi u,.int 1 v]}
 | .frz o u=>h.get? a=some o∧cE H h a u
 | .tbl ps=>h.get? a=some {cls:=.none,data:=.fields ps}
 | .met f x=>h.get? a=some (W.methodObj (.ref f) (.ref x))
 | .ext φ=>φ h∧(∃o,h.get? a=some o)∧∀h1 h2:Heap,φ h1→(∀o,h1.get? a=some o→h2.get? a=some o)→φ h2
def iY (H:Hp)(h:Heap):Prop:=∀a o,H a=some o→cE P w H h a o
end
section
variable {P:Program}{w:World}{H H':Hp}{h h':Heap}{a:Addr}{o:HO}
theorem cE.lt (x:cE P w H h a o):a<h.objs.size:=by
 cases o with
 | lst xs=>obtain⟨_,_,_,_,e⟩:=x;exact Heap.lt_size e
 | tup xs=>obtain⟨_,_,_,p⟩:=x;exact p.lt
 | dK kvs=>obtain⟨_,_,_,_,o,_,_,e,_⟩:=x;exact Heap.lt_size e
 | dT kvs=>obtain⟨_,_,_,_,o,_,_,e,_⟩:=x;exact Heap.lt_size e
 | set S n=>obtain⟨o,_,_,_,e,_⟩:=x;exact Heap.lt_size e
 | ins C dx fs=>obtain⟨_,_,_,e,_⟩:=x;exact Heap.lt_size e
 | own y=>obtain⟨_,e⟩:=x;exact Heap.lt_size e
 | xd fs=>obtain⟨_,⟨_,_,_,e,_⟩,_⟩:=x;exact Heap.lt_size e
 | rng lo hi=>obtain⟨_,_,_,e⟩:=x;exact Heap.lt_size e
 | frz ob u=>obtain⟨e,_⟩:=x;exact Heap.lt_size e
 | tbl ps=>exact Heap.lt_size (show h.get? a=some _ from x)
 | met f y=>exact Heap.lt_size (show h.get? a=some _ from x)
 | ext φ=>obtain⟨_,⟨_,e⟩,_⟩:=x;exact Heap.lt_size e
theorem Paired.mapP {α β:Type}{F G:α→β→Prop}:∀{l₁:List α} {l₂:List β},Paired F l₁ l₂→(∀a b,F a b→G a b)→Paired G l₁ l₂
 | _,_,.nil,_=>.nil
 | _,_,.cons r t,f=>.cons (f _ _ r) (Paired.mapP t f)
theorem cE.stay (x:cE P w H h a o)(k:∀b u,(b=a∨H b=some (.own a))→h.get? b=some u→h'.get? b=some u)
  (ho:∀b,H b=some (.own a)→H' b=some (.own a)) (ht:∀b xs,H b=some (.tup xs)→H' b=some (.tup xs)):cE P w H' h' a o:=by
 induction o with
 | lst xs=>obtain⟨z,its,n,r,e⟩:=x;exact⟨z,its,n,r,k _ _ (.inl rfl) e⟩
 | tup xs=>obtain⟨z,its,r,ob,e,c⟩:=x;exact⟨z,its,r,ob,k _ _ (.inl rfl) e,c⟩
 | dK kvs=>obtain⟨z,y,vs,r,ob,es,ep,e,c⟩:=x;exact⟨z,y,vs,r,ob,es,ep,k _ _ (.inl rfl) e,c⟩
 | dT kvs=>
  obtain⟨z,y,xs,r,ob,es,ep,e,c⟩:=x;exact⟨z,y,xs,Paired.mapP r fun p q z=>⟨z.1,ht _ _ z.2.1,z.2.2⟩,ob,es,ep,k _ _ (.inl rfl) e,c⟩
 | set S n=>obtain⟨ob,es,ep,t,e,c⟩:=x;exact⟨ob,es,ep,t,k _ _ (.inl rfl) e,c⟩
 | ins C dx fs=>
  obtain⟨d,z,ne,e,mA,⟨od,es,ep,e2,c⟩,r⟩:=x;exact⟨ho _ d,z,ne,k _ _ (.inl rfl) e,mA,⟨od,es,ep,k _ _ (.inr d) e2,c⟩,r⟩
 | own y=>obtain⟨ob,e⟩:=x;exact⟨ob,k _ _ (.inl rfl) e⟩
 | xd fs=>obtain⟨mA,⟨od,es,ep,e,c⟩,r⟩:=x;exact⟨mA,⟨od,es,ep,k _ _ (.inl rfl) e,c⟩,r⟩
 | rng lo hi=>obtain⟨t,u,v,e⟩:=x;exact⟨t,u,v,k _ _ (.inl rfl) e⟩
 | frz ob u ih=>obtain⟨e,q⟩:=x;exact⟨k _ _ (.inl rfl) e,ih q⟩
 | tbl ps=>
  have e:h.get? a=some {cls:=.none,data:=.fields ps}:=x;show h'.get? a=some {cls:=.none,data:=.fields ps};exact k a _ (.inl rfl) e
 | met f y=>
  have e:h.get? a=some (W.methodObj (.ref f) (.ref y)):=x;show h'.get? a=some (W.methodObj (.ref f) (.ref y));exact k a _ (.inl rfl) e
 | ext φ=>obtain⟨p,⟨o,e⟩,st⟩:=x;exact⟨st _ _ p fun o q=>k _ _ (.inl rfl) q,⟨o,k _ _ (.inl rfl) e⟩,st⟩
theorem iY.lt (x:iY P w H h)(e:H a=some o):a<h.objs.size:=(x a o e).lt
theorem iY.fresh (x:iY P w H h)(e:h.objs.size≤a):H a=none:=by
 cases q:H a with
 | none=>rfl
 | some u=>exact absurd (Nat.lt_of_lt_of_le (x.lt q) e) (Nat.lt_irrefl _)
theorem iY.kept (x:iY P w H h)(k:∀b u,h.get? b=some u→h'.get? b=some u):iY P w H h':=fun a o e=>
 (x a o e).stay (fun b u _ q=>k b u q) (fun _ q=>q) fun _ _ q=>q
theorem iY.laid (x:iY P w H h)(k:∀b u,h.get? b=some u→h'.get? b=some u)(hp:h.objs.size≤a)(new:cE P w (cp H a o) h' a o):iY P w (cp H a o) h':=fun b u e=>by
 have hn:=x.fresh hp
 by_cases hb:b=a
 ·subst hb;rw[cN] at e;cases e;exact new
 ·rw[aI hb] at e;exact(x b u e).stay (fun c v _ q=>k c v q) (fun c q=>by rw[aI (bx q hn)];exact q) fun c xs q=>by rw[aI (bx q hn)];exact q
end
def Rd (H:Hp)(a:Addr)(u:HO):Prop:=H a=some u∨∃o,H a=some (.frz o u)
theorem Rd.ok {P:Program}{w:World}{H:Hp}{h:Heap}{a:Addr}{u:HO}(r:Rd H a u)(x:iY P w H h):cE P w H h a u:=by
 rcases r with r|⟨o,r⟩
 ·exact x a u r
 ·obtain⟨_,q⟩:=x a _ r;exact q
def FN:Option HO→Prop
 | some (.lst _)=>True
 | some (.dK _)=>True
 | some (.dT _)=>True
 | some (.set _ _)=>True
 | some (.ins _ _ _)=>True
 | some (.ext _)=>True
 | _=>False
section
variable {P:Program}{w:World}{H:Hp}{h h':Heap}{x e:Addr}{o':HO}
theorem iY.write (ok:iY P w H h)(mu:FN (H x))(he:e=x∨H e=some (.own x))(k:∀b u,b≠e→h.get? b=some u→h'.get? b=some u)(heo:∃u,h'.get? e=some u)
  (new:cE P w (cp H x o') h' x o'):iY P w (cp H x o') h':=fun b u q=>by
 have nown:∀c y,H c=some (.own y)→c≠x:=fun c y r z=>by subst z;rw[r] at mu;exact mu
 have ntup:∀c xs,H c=some (.tup xs)→c≠x:=fun c xs r z=>by subst z;rw[r] at mu;exact mu
 by_cases hb:b=x
 ·subst hb;rw[cN] at q;cases q;exact new
 ·rw[aI hb] at q
  by_cases hbe:b=e
  ·have q':H b=some (.own x):=by
    rcases he with z|z
    ·exact absurd (hbe.trans z) hb
    ·rw[hbe];exact z
   rw[q] at q';cases q';obtain⟨v,hv⟩:=heo;exact⟨v,by rw[hbe];exact hv⟩
  ·refine(ok b u q).stay (fun c v hc r=>k c v ?_ r) (fun c r=>by rw[aI (nown c b r)];exact r) fun c xs r=>by rw[aI (ntup c xs r)];exact r
   rcases hc with rfl|hc
   ·exact hbe
   ·rintro rfl;rcases he with z|z
    ·exact nown c b hc z
    ·rw[hc] at z;cases z;exact hb rfl
end
structure Un (fs ex:List Addr)(H H':Hp)(h h':Heap):Prop where
 keep:∀b o,h.get? b=some o→H b=none→b∉fs→b∉ex→h'.get? b=some o
 slot:∀b o,h.get? b=some o→H b=none→b∈fs→b∉ex→∃sl,h'.get? b=some {o with slots:=sl}
 free:∀b o,h.get? b=some o→H b=none→b∉ex→H' b=none
 there:∀b o,h.get? b=some o→b∉ex→∃o',h'.get? b=some o'
 tups:∀b xs,H b=some (.tup xs)→H' b=some (.tup xs)
 frzs:∀b o u,H b=some (.frz o u)→H' b=some (.frz o u)
 tbls:∀b ps,H b=some (.tbl ps)→∃more,H' b=some (.tbl (ps++more))
section
variable {fs fs' ex ex':List Addr}{H H1 H2:Hp}{h h1 h2 h':Heap}{a x e:Addr}{o:HO}
theorem Un.any (u:Un fs ex H H1 h h1){b:Addr}{ob:Obj}(q:h.get? b=some ob)(n:H b=none)(hx:b∉ex):∃sl,h1.get? b=some {ob with slots:=sl}:=by
 by_cases hb:b∈fs
 ·exact u.slot b ob q n hb hx
 ·exact⟨ob.slots,u.keep b ob q n hb hx⟩
theorem Un.kept (k:∀b u,h.get? b=some u→h'.get? b=some u):Un fs ex H H h h':=
 ⟨fun b ob q _ _ _=>k b ob q,fun b ob q _ _ _=>⟨ob.slots,k b ob q⟩,fun _ _ _ n _=>n,fun b ob q _=>⟨ob,k b ob q⟩,fun _ _ q=>q,fun _ _ _ q=>q,fun _ ps q=>⟨#[],by rw[q];simp⟩⟩
theorem Un.refl:Un fs ex H H h h:=Un.kept fun _ _ q=>q
theorem Un.laid (k:∀b u,h.get? b=some u→h'.get? b=some u)(hp:h.objs.size≤a)(hn:H a=none):Un fs ex H (cp H a o) h h' where
 keep:=fun b u q _ _ _=>k b u q
 slot:=fun b u q _ _ _=>⟨u.slots,k b u q⟩
 free:=fun b u q n _=>by rw[aI (Nat.ne_of_lt (Nat.lt_of_lt_of_le (Heap.lt_size q) hp))];exact n
 there:=fun b u q _=>⟨u,k b u q⟩
 tups:=fun b xs q=>by rw[aI (bx q hn)];exact q
 frzs:=fun b u xs q=>by rw[aI (bx q hn)];exact q
 tbls:=fun b ps q=>⟨#[],by rw[aI (bx q hn),q];simp⟩
theorem Un.write (mu:FN (H x))(he:e=x∨H e=some (.own x))(k:∀b u,b≠e→h.get? b=some u→h'.get? b=some u)(heo:∃u,h'.get? e=some u):Un fs ex H (cp H x o) h h':=by
 have hx:∀b,H b=none→b≠x:=fun b n z=>by subst z;rw[n] at mu;exact mu
 have hb:∀b,H b=none→b≠e:=fun b n z=>by
  subst z;rcases he with r|r
  ·exact hx b n r
  ·rw[n] at r;cases r
 have hm:∀b u,H b=some u→¬FN (some u)→b≠x:=fun b u q nm z=>by subst z;rw[q] at mu;exact nm mu
 refine⟨fun b u q n _ _=>k b u (hb b n) q,fun b u q n _ _=>⟨u.slots,k b u (hb b n) q⟩,fun b u q n _=>by rw[aI (hx b n)];exact n,fun b u q _=>?_,
  fun b xs q=>by rw[aI (hm b _ q fun z=>z)];exact q,fun b u xs q=>by rw[aI (hm b _ q fun z=>z)];exact q,fun b ps q=>⟨#[],by rw[aI (hm b _ q fun z=>z),q];simp⟩⟩
 by_cases hbe:b=e
 ·subst hbe;exact heo
 ·exact⟨u,k b u hbe q⟩
end
def trk (h:Heap)(H:Hp):List Addr:=(List.range h.objs.size).filter fun a=>(H a).isSome
def nW (h:Heap)(H:Hp):Heap:=W.hideAll h (trk h H)
theorem tY (h:Heap)(H:Hp):(nW h H).objs.size=h.objs.size:=W.hideAll_size _ _
theorem wW {h:Heap}{H:Hp}{b:Addr}{o:Obj}(e:h.get? b=some o)(n:H b=none):(nW h H).get? b=some o:=
 W.hideAll_get _ e fun hm=>by
  have q:(H b).isSome=true:=(mem_filter.mp hm).2;rw[n] at q;simp at q
theorem A7 {h:Heap}{H:Hp}{b:Addr}{o:Obj}(e:(nW h H).get? b=some o):h.get? b=some o∧H b=none:=by
 have e':h.get? b=some o:=W.of_hideAll (trk h H) e;refine⟨e',?_⟩;cases q:H b with
 | none=>rfl
 | some x=>
  have hm:b∈trk h H:=mem_filter.mpr ⟨mem_range.mpr (Heap.lt_size e'),by simp[q]⟩;have z:(nW h H).get? b=none:=W.hideAll_none (trk h H) hm;rw[z] at e;cases e
def Av (g h:Heap)(L:Addr):List (Addr×Obj):=(List.range h.objs.size).filterMap fun a=>if a=L∨(g.get? a).isSome=true then none else(h.get? a).map fun o=>(a,o)
def rest (g h:Heap)(L d:Addr):List (Addr×Obj):=(Av g h L).filter fun p=>decide (p.1≠d)
structure Mod (K:W.Frag)(mg:Str→Option Value)(base:Heap):Prop where
 kin:K.In base
 glob:base.Ns mainGlobals mg
 blt:∃mb,base.Ns builtinsNs mb∧∀x:Str,x≠"__name__"→mb x=bootBuiltins x
 nolimit:base.NoLimit
structure Cx where
 prog:Program
 w:World
 K:W.Frag
 mg:Str→Option Value
 base:Heap
 A:Around
 N:List Str
 s₀:Shared
 H₀:Hp
 env:Env
 outer:List Env
 stack:List Env
 ex:List Addr
 fn:Str→Bool
 calm:Bool
 pn:List (Addr×Obj)
 xe:Value→Shared→Prop
def la (l:List Env):List Addr:=l.filterMap (·.frame)
abbrev Cx.fs (X:Cx):List Addr:=la X.outer
def B0 (sc:Scope)(x:Str):Prop:=sc.names.lookup x=some .local∨sc.names.lookup x=some .cell∨sc.names.lookup x=some .free
def qH (sc:Scope)(x:Str):Prop:=sc.names.lookup x=some .local∨sc.names.lookup x=some .cell
def Iv (env:Env)(h:Heap)(m:Str→Option Value)(x:Str)(u:Value):Prop:=
 (env.kindOf x=some .local∧m x=some u)∨((env.kindOf x=some .cell∨env.kindOf x=some .free)∧∃c,env.cells.lookup x=some c∧h.IsCell c (some u))
structure Cx.Ok (X:Cx):Prop where
 mod:Mod X.K X.mg X.base
 kind:X.env.scope.kind=.function
 glob:X.env.globals=mainGlobals
 blt:X.env.builtins=builtinsNs
 above:X.s₀.heap.objs.size≤X.env.locals
 inj:∀x y c,X.env.cells.lookup x=some c→X.env.cells.lookup y=some c→x=y
 has:∀x,(X.env.kindOf x=some .cell∨X.env.kindOf x=some .free)→∃c,X.env.cells.lookup x=some c
 cab:∀x c,X.fn x=true→X.env.cells.lookup x=some c→X.s₀.heap.objs.size≤c
 hd:X.calm=true→X.A.handled=none
 frames:X.A.frames=some X.stack
 stk:X.stack=X.outer∨(X.stack=X.env::X.outer∧X.env.frame=some X.env.locals)
 exf:∀b∈X.ex,b≠X.env.locals∧∀x c,X.env.cells.lookup x=some c→c≠b
 bs:∀b o,X.base.get? b=some o→X.s₀.heap.get? b=some o∧X.H₀ b=none
 bsz:X.base.objs.size≤X.s₀.heap.objs.size
 noex:∀b o,X.base.get? b=some o→b∉X.ex
 exfs:∀b∈X.ex,b∉X.fs
 funs:X.s₀.heap.FunFrames X.base X.outer
 frf:∀b∈X.fs,X.H₀ b=none
structure Inv (X:Cx)(af:List (Addr×Obj))(σ:List (Option V))(H:Hp)(s:Shared):Prop where
 ok:X.Ok
 os:s.os=X.s₀.os
 bare:AllBare s.gens
 base:Un X.fs X.ex X.H₀ H X.s₀.heap s.heap
 loc:∃m,s.heap.Ns X.env.locals m∧∀(i:Nat) (x:Str) (v:V),X.N[i]?=some x→σ[i]?=some (some v)→B0 X.env.scope x→∃u,RelV v u∧Iv X.env s.heap m x u
 cell:∀x c,X.env.cells.lookup x=some c→∃v,s.heap.IsCell c v
 free:H X.env.locals=none
 freeC:∀x c,X.env.cells.lookup x=some c→H c=none
 pin:∀p∈X.pn++af,s.heap.get? p.1=some p.2∧H p.1=none∧p.1≠X.env.locals∧p.1∉X.fs∧∀v,p.2.data≠.cell v
 hok:iY X.prog X.w H s.heap
 len:σ.length=X.N.length
section
variable {X:Cx}{af:List (Addr×Obj)}{σ:List (Option V)}{H H':Hp}{s:Shared}{h':Heap}
theorem Cx.Ok.nofr (ok:X.Ok){b:Addr}{o:Obj}(e:X.base.get? b=some o):b∉X.fs:=fun hb=>by
 have:=(ok.funs.mem hb).1;rw[e] at this;cases this
theorem Inv.bs (I:Inv X af σ H s):∀b o,X.base.get? b=some o→s.heap.get? b=some o∧H b=none:=fun b o e=>
 ⟨I.base.keep b o (I.ok.bs b o e).1 (I.ok.bs b o e).2 (I.ok.nofr e) (I.ok.noex b o e),I.base.free b o (I.ok.bs b o e).1 (I.ok.bs b o e).2 (I.ok.noex b o e)⟩
theorem Inv.bk (I:Inv X af σ H s):∀b o,X.base.get? b=some o→s.heap.get? b=some o:=fun b o e=>(I.bs b o e).1
theorem Inv.mod (I:Inv X af σ H s):Mod X.K X.mg X.base:=I.ok.mod
theorem Inv.kIn (I:Inv X af σ H s):X.K.In s.heap:=I.ok.mod.kin.keeps I.bk
theorem Inv.lt (I:Inv X af σ H s):X.env.locals<s.heap.objs.size:=let ⟨_,hn,_⟩:=I.loc;hn.lt
theorem Inv.sz (I:Inv X af σ H s):X.s₀.heap.objs.size≤s.heap.objs.size:=Nat.le_trans I.ok.above (Nat.le_of_lt I.lt)
theorem Inv.nofs (I:Inv X af σ H s){a:Addr}(h:s.heap.objs.size≤a):a∉X.fs:=fun hb=>by
 obtain⟨_,o,ho,_⟩:=I.ok.funs.mem hb;exact absurd (Nat.lt_of_lt_of_le (Heap.lt_size ho) (Nat.le_trans I.sz h)) (Nat.lt_irrefl _)
theorem Inv.cne (I:Inv X af σ H s):∀x c,X.env.cells.lookup x=some c→c≠X.env.locals:=fun x c e z=>by
 obtain⟨v,o,ho,hd⟩:=I.cell x c e;obtain⟨m,⟨o',es,ep,ho',hd',_⟩,_⟩:=I.loc;rw[z,ho'] at ho;cases ho;rw[hd'] at hd;cases hd
theorem Inv.funs (I:Inv X af σ H s):s.heap.FunFrames X.base X.outer:=by
 have all:∀(l:List Env),(∀b∈la l,b∈X.fs)→X.s₀.heap.FunFrames X.base l→s.heap.FunFrames X.base l:=by
  intro l
  induction l with
  | nil=>intro _ _;trivial
  | cons env r ih=>
   intro hs hl;obtain⟨hk,⟨L,o,hf,hn,ho,hd⟩,hr⟩:=hl;have hL:L∈X.fs:=hs L (by unfold la;rw[filterMap_cons,hf];exact mem_cons_self);obtain⟨sl,e⟩:=I.base.slot L o ho (I.ok.frf L hL) hL fun z=>I.ok.exfs L z hL
   exact⟨hk,⟨L,_,hf,hn,e,hd⟩,ih (fun b hb=>hs b (by unfold la;rw[filterMap_cons,hf];exact mem_cons_of_mem _ hb)) hr⟩
 exact all X.outer (fun _ hb=>hb) I.ok.funs
theorem Inv.stack (I:Inv X af σ H s):s.heap.FunFrames X.base X.stack:=by
 rcases I.ok.stk with e|⟨e,hf⟩
 ·rw[e];exact I.funs
 ·rw[e];obtain⟨m,hn,_⟩:=I.loc;refine .cons (by rw[I.ok.kind];decide) hf hn ?_ I.funs;exact Heap.get?_none_of_le (Nat.le_trans I.ok.bsz I.ok.above)
theorem Inv.stkSub (I:Inv X af σ H s):∀b∈la X.stack,b∈X.env.locals::X.fs:=fun b hb=>by
 rcases I.ok.stk with e|⟨e,hf⟩
 ·rw[e] at hb;exact mem_cons_of_mem _ hb
 ·rw[e] at hb;unfold la at hb;rw[filterMap_cons,hf] at hb;exact hb
theorem Inv.stkFree (I:Inv X af σ H s):∀b∈la X.stack,H b=none:=fun b hb=>by
 rcases mem_cons.mp (I.stkSub b hb) with e|hb
 ·rw[e];exact I.free
 ·obtain⟨_,o,ho,_⟩:=I.ok.funs.mem hb;exact I.base.free b o ho (I.ok.frf b hb) fun z=>I.ok.exfs b z hb
theorem Inv.step {g':Array GenState}{t':Nat}{d':Drawn}{ch:List Addr}(I:Inv X af σ H s)
  (hch:∀b∈ch,(b∈X.ex∨X.s₀.heap.objs.size≤b)∧b≠X.env.locals∧(∀x c,X.env.cells.lookup x=some c→c≠b)∧∀p∈X.pn++af,p.1≠b)
  (keep:∀b o,b≠X.env.locals→b∉X.fs→b∉ch→s.heap.get? b=some o→H b=none→h'.get? b=some o)
  (slot:∀b o,b≠X.env.locals→b∈X.fs→b∉ch→s.heap.get? b=some o→H b=none→∃sl,h'.get? b=some {o with slots:=sl}) (free:∀b o,b∉ch→s.heap.get? b=some o→H b=none→H' b=none)
  (there:∀b o,b∉ch→s.heap.get? b=some o→∃o',h'.get? b=some o')
  (tups:∀b xs,H b=some (.tup xs)→H' b=some (.tup xs)) (frzs:∀b o u,H b=some (.frz o u)→H' b=some (.frz o u)) (tbls:∀b ps,H b=some (.tbl ps)→∃more,H' b=some (.tbl (ps++more)))
  (ns:∀m,s.heap.Ns X.env.locals m→h'.Ns X.env.locals m) (hok:iY X.prog X.w H' h') (hg:AllBare g') :
  Inv X af σ H' {s with heap:=h',gens:=g',drawn:=d',toks:=t'}:=by
 have neL:∀b o,X.s₀.heap.get? b=some o→b≠X.env.locals:=fun b o e=>Nat.ne_of_lt (Nat.lt_of_lt_of_le (Heap.lt_size e) I.ok.above)
 have neC:∀b o,X.s₀.heap.get? b=some o→b∉X.ex→b∉ch:=fun b o e hx hb=>by
  rcases(hch b hb).1 with z|z
  ·exact hx z
  ·exact absurd (Nat.lt_of_lt_of_le (Heap.lt_size e) z) (Nat.lt_irrefl _)
 have cellK:∀x c,X.env.cells.lookup x=some c→∀v,s.heap.IsCell c v→h'.IsCell c v:=fun x c e v hxx=>by
  obtain⟨o,ho,hd⟩:=hxx;have nch:c∉ch:=fun z=>(hch c z).2.2.1 x c e rfl
  by_cases hc:c∈X.fs
  ·obtain⟨sl,q⟩:=slot c o (I.cne x c e) hc nch ho (I.freeC x c e);exact⟨_,q,hd⟩
  ·exact⟨o,keep c o (I.cne x c e) hc nch ho (I.freeC x c e),hd⟩
 refine⟨I.ok,I.os,hg,⟨fun b o e n hb hx=>?_,fun b o e n hb hx=>?_,fun b o e n hx=>?_,fun b o e hx=>?_,fun b xs e=>tups b xs (I.base.tups b xs e),fun b o xs e=>frzs b o xs (I.base.frzs b o xs e),fun b ps e=>?_⟩,?_,fun x c e=>?_,?_,fun x c e=>?_,fun p hp=>?_,hok,I.len⟩
 ·exact keep b o (neL b o e) hb (neC b o e hx) (I.base.keep b o e n hb hx) (I.base.free b o e n hx)
 ·obtain⟨sl,e1⟩:=I.base.slot b o e n hb hx;obtain⟨sl',e2⟩:=slot b _ (neL b o e) hb (neC b o e hx) e1 (I.base.free b o e n hx);exact⟨sl',e2⟩
 ·obtain⟨o',e1⟩:=I.base.there b o e hx;exact free b o' (neC b o e hx) e1 (I.base.free b o e n hx)
 ·obtain⟨o',e1⟩:=I.base.there b o e hx;exact there b o' (neC b o e hx) e1
 ·obtain⟨m1,e1⟩:=I.base.tbls b ps e;obtain⟨m2,e2⟩:=tbls b _ e1;exact⟨m1++m2,by rw[e2,Array.append_assoc]⟩
 ·obtain⟨m,hn,hl⟩:=I.loc;refine⟨m,ns m hn,fun i x v e1 e2 e3=>?_⟩;obtain⟨u,r,l⟩:=hl i x v e1 e2 e3;refine⟨u,r,?_⟩;rcases l with l|⟨k,c,e,z⟩
  ·exact .inl l
  ·exact .inr ⟨k,c,e,cellK x c e _ z⟩
 ·obtain⟨v,z⟩:=I.cell x c e;exact⟨v,cellK x c e v z⟩
 ·obtain⟨m,⟨o,_,_,ho,_⟩,_⟩:=I.loc;exact free _ o (fun z=>(hch _ z).2.1 rfl) ho I.free
 ·obtain⟨v,o,ho,hd⟩:=I.cell x c e;exact free c o (fun z=>(hch c z).2.2.1 x c e rfl) ho (I.freeC x c e)
 ·obtain⟨e,n,ne,nf,d⟩:=I.pin p hp;have nch:p.1∉ch:=fun z=>(hch p.1 z).2.2.2 p hp rfl
  exact⟨keep p.1 p.2 ne nf nch e n,free p.1 p.2 nch e n,ne,nf,d⟩
theorem Inv.un {t':Nat}(I:Inv X af σ H s)(u:Un X.fs [] H H' s.heap h')(hok:iY X.prog X.w H' h'):Inv X af σ H' {s with heap:=h',toks:=t'}:=by
 obtain⟨m,⟨o,es,ep,ho,r⟩,_⟩:=id I.loc;obtain⟨sl,hL⟩:=u.any ho I.free (by simp);exact I.step (g':=s.gens) (d':=s.drawn) (ch:=[]) (fun _ z=>nomatch z) (fun b o _ hb _ e n=>u.keep b o e n hb (by simp)) (fun b o _ hb _ e n=>u.slot b o e n hb (by simp)) (fun b o _ e n=>u.free b o e n (by simp)) (fun b o _ e=>u.there b o e (by simp)) u.tups u.frzs u.tbls (fun m' hm=>by
  obtain⟨o',es',ep',ho',r'⟩:=hm;rw[ho] at ho';cases ho';exact⟨_,es',ep',hL,r'⟩) hok I.bare
theorem Inv.call {g':Array GenState}{t':Nat}{d':Drawn}{ch:List Addr}(I:Inv X af σ H s)(u:Un (la X.stack) ch H H' s.heap h')(hok:iY X.prog X.w H' h')(hg:AllBare g')
  (hch:∀b∈ch,(b∈X.ex∨X.s₀.heap.objs.size≤b)∧b≠X.env.locals∧(∀x c,X.env.cells.lookup x=some c→c≠b)∧∀p∈X.pn++af,p.1≠b) :
  Inv X af σ H' {s with heap:=h',gens:=g',drawn:=d',toks:=t'}:=by
 obtain⟨m,⟨o,es,ep,ho,r⟩,_⟩:=id I.loc;obtain⟨sl,hL⟩:=u.any ho I.free fun z=>(hch _ z).2.1 rfl
 exact I.step (ch:=ch) hch (fun b o hL hb hc e n=>u.keep b o e n (fun z=>(mem_cons.mp (I.stkSub b z)).elim hL hb) hc) (fun b o _ _ hc e n=>u.any e n hc) (fun b o hc e n=>u.free b o e n hc) (fun b o hc e=>u.there b o e hc) u.tups u.frzs u.tbls (fun m' hm=>by
  obtain⟨o',es',ep',ho',r'⟩:=hm;rw[ho] at ho';cases ho';exact⟨_,es',ep',hL,r'⟩) hok hg
theorem Inv.turned {t':Nat}{it:Addr}(I:Inv X af σ H s)(k:∀b o,b≠it→s.heap.get? b=some o→h'.get? b=some o)(hn:H it=none)(hL:it≠X.env.locals)
  (h1:it∈X.ex∨X.s₀.heap.objs.size≤it) (h2:∀x c,X.env.cells.lookup x=some c→c≠it) (h3:∀p∈X.pn++af,p.1≠it):Inv X af σ H {s with heap:=h',toks:=t'}:=by
 have nit:∀b u,H b=some u→b≠it:=fun b u e z=>by rw[z,hn] at e;cases e
 refine I.step (g':=s.gens) (d':=s.drawn) (ch:=[it]) (fun b hb=>?_) (fun b o _ _ hc e _=>k b o (fun z=>hc (by simp[z])) e) (fun b o _ _ hc e _=>⟨o.slots,k b o (fun z=>hc (by simp[z])) e⟩) (fun _ _ _ _ n=>n)
  (fun b o hc e=>⟨o,k b o (fun z=>hc (by simp[z])) e⟩) (fun _ _ e=>e) (fun _ _ _ e=>e) (fun b ps e=>⟨#[],by rw[e];simp⟩) (fun m hm=>?_) (fun b u e=>?_) I.bare
 ·have e:b=it:=by simpa using hb
  subst e;exact⟨h1,hL,h2,h3⟩
 ·obtain⟨o,es,ep,ho,r⟩:=hm;exact⟨o,es,ep,k _ o (Ne.symm hL) ho,r⟩
 ·refine(I.hok b u e).stay (fun c v hc q=>k c v ?_ q) (fun _ q=>q) fun _ _ q=>q
  rcases hc with z|z
  ·rw[z];exact nit b u e
  ·exact nit c _ z
theorem Inv.tok (I:Inv X af σ H s)(t:Nat):Inv X af σ H {s with toks:=t}:=I.un (h':=s.heap) (t':=t) Un.refl I.hok
theorem Inv.kept {t':Nat}(I:Inv X af σ H s)(k:∀b u,s.heap.get? b=some u→h'.get? b=some u):Inv X af σ H {s with heap:=h',toks:=t'}:=I.un (Un.kept k) (I.hok.kept k)
theorem Inv.laid {a:Addr}{o:HO}{t':Nat}(I:Inv X af σ H s)(k:∀b u,s.heap.get? b=some u→h'.get? b=some u)(hp:s.heap.objs.size≤a)(new:cE X.prog X.w (cp H a o) h' a o) :
  Inv X af σ (cp H a o) {s with heap:=h',toks:=t'}:=I.un (Un.laid k hp (I.hok.fresh hp)) (I.hok.laid k hp new)
theorem Inv.write {x e:Addr}{o:HO}{t':Nat}(I:Inv X af σ H s)(mu:FN (H x))(he:e=x∨H e=some (.own x))(k:∀b u,b≠e→s.heap.get? b=some u→h'.get? b=some u)(heo:∃u,h'.get? e=some u)
  (new:cE X.prog X.w (cp H x o) h' x o):Inv X af σ (cp H x o) {s with heap:=h',toks:=t'}:=I.un (Un.write mu he k heo) (I.hok.write mu he k heo new)
theorem Inv.pins_of {pins':List (Addr×Obj)}(I:Inv X af σ H s)(h:∀p∈pins',s.heap.get? p.1=some p.2∧H p.1=none∧p.1≠X.env.locals∧p.1∉X.fs∧∀v,p.2.data≠.cell v):Inv X pins' σ H s:=
 ⟨I.ok,I.os,I.bare,I.base,I.loc,I.cell,I.free,I.freeC,fun p hp=>(mem_append.mp hp).elim (fun z=>I.pin p (mem_append_left _ z)) (h p),I.hok,I.len⟩
theorem kX {N:List Str}(hN:N.Nodup){i j:Nat}{x:Str}(a:N[i]?=some x)(b:N[j]?=some x):i=j:=by
 obtain⟨h1,e1⟩:=List.getElem?_eq_some_iff.mp a;obtain⟨h2,e2⟩:=List.getElem?_eq_some_iff.mp b;exact(getElem_inj hN).mp (e1.trans e2.symm)
theorem nj {M:Model}{A:Around}{E:Value→Shared→Prop}{i:Nat}{x:Str}{v:V}{u:Value}{Q:Unit→Shared→Prop}(I:Inv X af σ H s)(hN:X.N.Nodup)(hi:X.N[i]?=some x)(hx:qH X.env.scope x)(r:RelV v u)
  (h:∀s',Inv X af (σ.set i (some v)) H s'→(∃a,Heap.SameBut a s.heap s'.heap∧(a=X.env.locals∨X.env.cells.lookup x=some a))→Q () s') (hf:X.fn x=true∨X.env.scope.names.lookup x=some .local:=by first|exact .inl rfl|exact .inr rfl|assumption):wpAny M A (storeName X.env x u) Q E s:=by
 obtain⟨m,hn,hl⟩:=id I.loc;have hcls:(X.env.scope.kind==.class||(X.env.scope.kind==.module&&X.env.locals != X.env.globals))=false:=by rw[I.ok.kind];rfl
 have hiσ:i<σ.length:=by rw[I.len];exact(List.getElem?_eq_some_iff.mp hi).1
 have cne:=I.cne;have tracked:∀{a:Addr} {h':Heap},(∃o,s.heap.get? a=some o∧H a=none)→Heap.SameBut a s.heap h'→iY X.prog X.w H h':=fun {a h'} ha hs b ob e=>by
  obtain⟨_,_,hfree⟩:=ha;refine(I.hok b ob e).stay (fun c w' hc q=>(hs.2 c ?_).trans q) (fun _ q=>q) fun _ _ q=>q
  rintro rfl;rcases hc with rfl|hc
  ·rw[hfree] at e;cases e
  ·rw[hfree] at hc;cases hc
 rcases hx with hk|hk
 ·refine wpAny_storeName_local hk hn (fun h' hn' hs=>?_) hcls;obtain⟨oL,_,_,hoL,_⟩:=id hn;refine h _ ⟨I.ok,I.os,I.bare,⟨fun b o e n hb hx=>?_,fun b o e n hb hx=>?_,I.base.free,fun b o e hx=>?_,I.base.tups,I.base.frzs,I.base.tbls⟩,⟨_,hn',fun j y v' e1 e2 e3=>?_⟩,fun y c e=>?_,I.free,I.freeC,fun p hp=>?_,tracked ⟨oL,hoL,I.free⟩ hs,by simpa using I.len⟩ ⟨_,hs,.inl rfl⟩
  ·exact(hs.2 b (Nat.ne_of_lt (Nat.lt_of_lt_of_le (Heap.lt_size e) I.ok.above))).trans (I.base.keep b o e n hb hx)
  ·obtain⟨sl,e1⟩:=I.base.slot b o e n hb hx;exact⟨sl,(hs.2 b (Nat.ne_of_lt (Nat.lt_of_lt_of_le (Heap.lt_size e) I.ok.above))).trans e1⟩
  ·obtain⟨o',e1⟩:=I.base.there b o e hx;exact⟨o',(hs.2 b (Nat.ne_of_lt (Nat.lt_of_lt_of_le (Heap.lt_size e) I.ok.above))).trans e1⟩
  ·by_cases hj:j=i
   ·subst hj;rw[hi] at e1;cases e1;rw[getElem?_set_self hiσ] at e2;cases e2;exact⟨u,r,.inl ⟨hk,by simp⟩⟩
   ·rw[getElem?_set_ne (Ne.symm hj)] at e2;obtain⟨u',r',q⟩:=hl j y v' e1 e2 e3;refine⟨u',r',?_⟩;rcases q with⟨k,e⟩|⟨k,c,e,z⟩
    ·refine .inl ⟨k,?_⟩;have:y≠x:=fun e=>hj (kX hN e1 (e▸hi))
     simp[this,e]
    ·exact .inr ⟨k,c,e,z.sameBut hs (cne y c e)⟩
  ·obtain⟨w',z⟩:=I.cell y c e;exact⟨w',z.sameBut hs (cne y c e)⟩
  ·obtain⟨e,n,ne,nf,d⟩:=I.pin p hp;exact⟨(hs.2 p.1 ne).trans e,n,ne,nf,d⟩
 ·have hfn:X.fn x=true:=by
   rcases hf with z|z
   ·exact z
   ·rw[z] at hk;cases hk
  obtain⟨c,hc⟩:=I.ok.has x (.inl hk);obtain⟨w',z⟩:=I.cell x c hc;refine wpAny_storeName_cell I.ok.kind hk hc z (fun h' hc' hs=>?_);obtain⟨oc,hoc,hocd⟩:=id z;refine h {s with heap:=h'} ⟨I.ok,I.os,I.bare,⟨fun b o e n hb hx=>?_,fun b o e n hb hx=>?_,I.base.free,fun b o e hx=>?_,I.base.tups,I.base.frzs,I.base.tbls⟩,⟨m,hn.sameBut hs (Ne.symm (cne x c hc)),fun j y v' e1 e2 e3=>?_⟩,fun y c' e=>?_,I.free,I.freeC,fun p hp=>?_,tracked ⟨oc,hoc,I.freeC x c hc⟩ hs,by simpa using I.len⟩ ⟨c,hs,.inr hc⟩
  ·exact(hs.2 b (Nat.ne_of_lt (Nat.lt_of_lt_of_le (Heap.lt_size e) (I.ok.cab x c hfn hc)))).trans (I.base.keep b o e n hb hx)
  ·obtain⟨sl,e1⟩:=I.base.slot b o e n hb hx;exact⟨sl,(hs.2 b (Nat.ne_of_lt (Nat.lt_of_lt_of_le (Heap.lt_size e) (I.ok.cab x c hfn hc)))).trans e1⟩
  ·obtain⟨o',e1⟩:=I.base.there b o e hx;exact⟨o',(hs.2 b (Nat.ne_of_lt (Nat.lt_of_lt_of_le (Heap.lt_size e) (I.ok.cab x c hfn hc)))).trans e1⟩
  ·by_cases hj:j=i
   ·subst hj;rw[hi] at e1;cases e1;rw[getElem?_set_self hiσ] at e2;cases e2;exact⟨u,r,.inr ⟨.inl hk,c,hc,hc'⟩⟩
   ·rw[getElem?_set_ne (Ne.symm hj)] at e2;obtain⟨u',r',q⟩:=hl j y v' e1 e2 e3;refine⟨u',r',?_⟩;rcases q with q|⟨k,c',e,z'⟩
    ·exact .inl q
    ·refine .inr ⟨k,c',e,z'.sameBut hs ?_⟩;rintro rfl;exact hj (kX hN e1 (I.ok.inj _ _ _ e hc▸hi))
  ·by_cases hcc:c'=c
   ·subst hcc;exact⟨_,hc'⟩
   ·obtain⟨w2,z2⟩:=I.cell y c' e;exact⟨w2,z2.sameBut hs hcc⟩
  ·obtain⟨e,n,ne,nf,d⟩:=I.pin p hp;refine⟨(hs.2 p.1 ?_).trans e,n,ne,nf,d⟩;intro q;rw[q,hoc] at e;have q':oc=p.2:=Option.some.inj e;exact d w' (by rw[←q'];exact hocd)
theorem ia {M:Model}{A:Around}{E:Value→Shared→Prop}{i:Nat}{x:Str}{v:V}{u:Value}{Q:Unit→Shared→Prop}(I:Inv X af σ H s)(hN:X.N.Nodup)(hi:X.N[i]?=some x)(hx:qH X.env.scope x)(r:RelV v u)
  (h:∀s',Inv X af (σ.set i (some v)) H s'→Q () s') (hf:X.fn x=true∨X.env.scope.names.lookup x=some .local:=by first|exact .inl rfl|exact .inr rfl|assumption):wpAny M A (storeName X.env x u) Q E s:=
 nj I hN hi hx r (fun s' I' _=>h s' I') hf
theorem Inv.call' {s':Shared}{ch:List Addr}(I:Inv X af σ H s)(ho:s'.os=s.os)(u:Un (la X.stack) ch H H' s.heap s'.heap)(hok:iY X.prog X.w H' s'.heap)(hg:AllBare s'.gens)
  (hch:∀b∈ch,(b∈X.ex∨X.s₀.heap.objs.size≤b)∧b≠X.env.locals∧(∀x c,X.env.cells.lookup x=some c→c≠b)∧∀p∈X.pn++af,p.1≠b):Inv X af σ H' s':=by
 obtain⟨h',g',d',t',o'⟩:=s';have e:o'=s.os:=ho;subst e;exact I.call (g':=g') (t':=t') (d':=d') u hok hg hch
end
abbrev XK:=Value→Option Addr→Hp→Prop
abbrev St:=List (Option V)
abbrev VK:=V→Hp→Prop
abbrev TE:=St→Hp→VK→Prop
abbrev TT:=St→Hp→(Bool→Hp→Prop)→Prop
abbrev TA:=St→Hp→(List V→Hp→Prop)→Prop
structure n5 where
 nx:St→Hp→Prop
 rt:VK
 bk:St→Hp→Prop:=fun _ _=>False
 ct:St→Hp→Prop:=fun _ _=>False
abbrev TS:=n5→St→Hp→Prop
def EP (X:Cx)(af:List (Addr×Obj))(σ:St)(Q:VK)(u:Value)(s':Shared):Prop:=∃v H',Inv X af σ H' s'∧RelV v u∧Q v H'
def TP (X:Cx)(af:List (Addr×Obj))(σ:St)(Q:Bool→Hp→Prop)(b:Bool)(s':Shared):Prop:=∃H',Inv X af σ H' s'∧Q b H'
def AP (X:Cx)(af:List (Addr×Obj))(σ:St)(Q:List V→Hp→Prop)(us:List Value)(s':Shared):Prop:=∃vs H',Inv X af σ H' s'∧aP vs us∧Q vs H'
def SP (X:Cx)(af:List (Addr×Obj))(D:n5)(f:Flow)(s':Shared):Prop:=
 match f with
 | .next=>∃σ' H',Inv X af σ' H' s'∧D.nx σ' H'
 | .brk=>∃σ' H',Inv X af σ' H' s'∧D.bk σ' H'
 | .cont=>∃σ' H',Inv X af σ' H' s'∧D.ct σ' H'
 | .ret u=>∃v σ' H',Inv X af σ' H' s'∧RelV v u∧D.rt v H'
def PE (X:Cx)(e:Expr)(t:TE):Prop:=
 ∀(af:List (Addr×Obj)) (s:Shared) (σ:St) (H:Hp) (Q:VK),Inv X af σ H s→t σ H Q→wpAny (model X.prog X.w) X.A (eval e X.env) (EP X af σ Q) X.xe s
def PT (X:Cx)(e:Expr)(t:TT):Prop:=
 ∀(af:List (Addr×Obj)) (s:Shared) (σ:St) (H:Hp) (Q:Bool→Hp→Prop),Inv X af σ H s→t σ H Q→wpAny (model X.prog X.w) X.A (isTrue e X.env (eval e X.env)) (TP X af σ Q) X.xe s
def PW (X:Cx)(e:Expr)(t:TT):Prop:=
 ∀(whole:Sem Value) (af:List (Addr×Obj)) (s:Shared) (σ:St) (H:Hp) (Q:Bool→Hp→Prop),Inv X af σ H s→t σ H Q→wpAny (model X.prog X.w) X.A (isTrue e X.env whole) (TP X af σ Q) X.xe s
theorem PW.pt {X:Cx}{e:Expr}{t:TT}(h:PW X e t):PT X e t:=h _
def PA (X:Cx)(es:List Expr)(t:TA):Prop:=
 ∀(pos:Pos) (af:List (Addr×Obj)) (s:Shared) (σ:St) (H:Hp) (Q:List V→Hp→Prop),Inv X af σ H s→t σ H Q→wpAny (model X.prog X.w) X.A (spliced (backTo pos (starEach es X.env))) (AP X af σ Q) X.xe s
def PS (X:Cx)(st:Stmt)(t:TS):Prop:=
 ∀(af:List (Addr×Obj)) (s:Shared) (σ:St) (H:Hp) (D:n5),Inv X af σ H s→t D σ H→wpAny (model X.prog X.w) X.A (exec st X.env) (SP X af D) X.xe s
def PSs (X:Cx)(st:List Stmt)(t:TS):Prop:=
 ∀(af:List (Addr×Obj)) (s:Shared) (σ:St) (H:Hp) (D:n5),Inv X af σ H s→t D σ H→wpAny (model X.prog X.w) X.A (execs st X.env) (SP X af D) X.xe s
theorem bW {α:Type}{t:Sem α}{Q Q':α→Shared→Prop}{M:Model}{A:Around}{E:Value→Shared→Prop}{s:Shared}(h:wpAny M A t Q E s)(hQ:∀a s,Q a s→Q' a s):wpAny M A t Q' E s:=wpAny_mono h hQ fun _ _ x=>x
section
variable {X:Cx}
def D6 (i:Nat):TE:=fun σ H Q=>∃v,σ[i]?=some (some v)∧Q v H
def tC (v:V):TE:=fun _ H Q=>Q v H
theorem wO {i:Nat}{x:Str}{pos:Pos}(hN:X.N[i]?=some x)(hv:B0 X.env.scope x)(hd:(x==("__debug__":Str))=false:=by decide)(hcd:(x==("__classdict__":Str))=false:=by decide):PE X (.Name x pos) (D6 i):=by
 intro af s σ H Q I h;obtain⟨v,e,h⟩:=h;obtain⟨m,hn,hl⟩:=I.loc;obtain⟨u,r,l⟩:=hl i x v hN e hv;have fin:EP X af σ Q u s:=⟨v,H,I,r,h⟩;rcases l with⟨hk,hm⟩|⟨hk,c,hc,hcell⟩
 ·exact wpAny_Name (wpAny_loadName_local I.ok.kind hk hn hm fin) hd
 ·rcases hk with hk|hk
  ·exact wpAny_Name (wpAny_loadName_cell I.ok.kind hk hc hcell fin) hd
  ·exact wpAny_Name (wpAny_loadName_free I.ok.kind hk hc hcell fin hcd) hd
theorem yj {i j pos}:PE X (.Constant (.int i) j pos) (tC (.int i)):=fun _ _ _ H _ I h=>wpAny_Constant_int ⟨.int i,H,I.tok _,⟨_,rfl⟩,h⟩
theorem Gs {b j pos}:PE X (.Constant (.bool b) j pos) (tC (.bl b)):=fun _ _ _ H _ I h=>Constant_bool ⟨.bl b,H,I,rfl,h⟩
theorem DF {j pos}:PE X (.Constant .none j pos) (tC .non):=fun _ _ _ H _ I h=>Constant_none ⟨.non,H,I,rfl,h⟩
theorem rq {x j pos}:PE X (.Constant (.str x) j pos) (tC (.str x)):=fun _ _ _ H _ I h=>Calls.Constant_str ⟨.str x,H,I.tok _,⟨_,rfl⟩,h⟩
def Gl (X:Cx)(x:Str):Prop:=X.env.kindOf x=some .globalImplicit
theorem kN {E:Value→Shared→Prop}{af:List (Addr×Obj)}{s:Shared}{σ:St}{H:Hp}{x:Str}{u:Value}{pos:Pos}{Q:Value→Shared→Prop}(I:Inv X af σ H s)(hg:Gl X x)(hm:X.mg x=some u)(h:Q u s)
  (hd:(x==("__debug__":Str))=false:=by decide):wpAny (model X.prog X.w) X.A (eval (.Name x pos) X.env) Q E s:=
 Calls.Name_function_global I.ok.kind hg (Calls.loadGlobal_global (by rw[I.ok.glob];exact I.mod.glob.keeps I.bk) hm h) hd
theorem iR {E:Value→Shared→Prop}{af:List (Addr×Obj)}{s:Shared}{σ:St}{H:Hp}{x:Str}{u:Value}{pos:Pos}{Q:Value→Shared→Prop}(I:Inv X af σ H s)(hg:Gl X x)(hm:X.mg x=none)(hv:bootBuiltins x=some u)(h:Q u s)
  (hn:x≠"__name__":=by decide) (hd:(x==("__debug__":Str))=false:=by decide):wpAny (model X.prog X.w) X.A (eval (.Name x pos) X.env) Q E s:=by
 obtain⟨mb,h1,h2⟩:=I.mod.blt;exact Calls.Name_function_global I.ok.kind hg (Calls.loadGlobal_builtin (by rw[I.ok.glob];exact I.mod.glob.keeps I.bk) hm (by rw[I.ok.blt];exact h1.keeps I.bk) ((h2 x hn).trans hv) h) hd
theorem oj {x:Str}{v:V}{u:Value}{pos:Pos}(hg:Gl X x)(hm:X.mg x=some u)(r:RelV v u)(hd:(x==("__debug__":Str))=false:=by decide):PE X (.Name x pos) (tC v):=
 fun _ _ _ H _ I h=>kN I hg hm ⟨v,H,I,r,h⟩ hd
theorem sU {x:Str}{v:V}{u:Value}{pos:Pos}(hg:Gl X x)(hm:X.mg x=none)(hv:bootBuiltins x=some u)(r:RelV v u)(hn:x≠"__name__":=by decide)(hd:(x==("__debug__":Str))=false:=by decide):PE X (.Name x pos) (tC v):=
 fun _ _ _ H _ I h=>iR I hg hm hv ⟨v,H,I,r,h⟩ hn hd
variable {a b:Expr}{ta tb:TE}{pos:Pos}
variable {tA tB':TT}{rest:List Expr}
def HI (t u:TT):TT:=fun σ H Q=>t σ H fun c H1=>if c=true then u σ H1 Q else Q false H1
def JU (t u:TT):TT:=fun σ H Q=>t σ H fun c H1=>if c=true then Q true H1 else u σ H1 Q
def Jg (t:TT):TT:=fun σ H Q=>t σ H fun c H1=>Q (!c) H1
theorem Am (ha:PT X a tA):PW X (.BoolOp .And [a] pos) tA:=by
 intro wh af s σ H Q I h;refine isTrue_and (bW (ha af s σ H Q I h) fun c s1 e=>?_);cases c with
 | true=>exact isTrue_and_nil e
 | false=>exact e
theorem Dd (ha:PT X a tA):PW X (.BoolOp .Or [a] pos) tA:=by
 intro wh af s σ H Q I h;refine isTrue_or (bW (ha af s σ H Q I h) fun c s1 e=>?_);cases c with
 | false=>exact isTrue_or_nil e
 | true=>exact e
theorem C7 (ha:PT X a tA)(hb:PW X (.BoolOp .And (b::rest) pos) tB'):PW X (.BoolOp .And (a::b::rest) pos) (HI tA tB'):=by
 intro wh af s σ H Q I h;refine isTrue_and (bW (ha af s σ H _ I h) fun c s1 hxx=>?_);obtain⟨H1,I1,q1⟩:=hxx;cases c with
 | true=>exact hb wh af s1 σ H1 Q I1 q1
 | false=>exact⟨H1,I1,q1⟩
theorem Gw (ha:PT X a tA)(hb:PW X (.BoolOp .Or (b::rest) pos) tB'):PW X (.BoolOp .Or (a::b::rest) pos) (JU tA tB'):=by
 intro wh af s σ H Q I h;refine isTrue_or (bW (ha af s σ H _ I h) fun c s1 hxx=>?_);obtain⟨H1,I1,q1⟩:=hxx;cases c with
 | true=>exact⟨H1,I1,q1⟩
 | false=>exact hb wh af s1 σ H1 Q I1 q1
theorem Co (ha:PT X a tA):PT X (.UnaryOp .Not a pos) (Jg tA):=by
 intro af s σ H Q I h;exact isTrue_not (ha af s σ H (fun c H1=>Q (!c) H1) I h)
end
def jP (K:W.Frag)(H:Hp)(a:Addr)(xs:List V):Prop:=
 Rd H a (.lst xs)∨
  ∃(o:Obj) (its:Array Value) (n:Nat),K.lookup a=some o∧o.cls=.type "list"∧o.dict=none∧o.data=.seq its n∧its.size≤sizeLine∧aP xs its.toList
def oF (K:W.Frag)(H:Hp)(a:Addr)(xs:List V):Prop:=
 Rd H a (.tup xs)∨
  ∃(o:Obj) (its:Array Value) (n:Nat),K.lookup a=some o∧o.cls=.type "tuple"∧o.data=.seq its n∧its.size≤sizeLine∧aP xs its.toList
def Jw:Value→Option V
 | .none=>some .non
 | .bool b=>some (.bl b)
 | .int i _=>some (.int i)
 | .str x _=>some (.str x)
 | .bytes b _=>some (.byt b)
 | .float b _=>some (.flt b)
 | .ref a=>some (.ref a)
 | .type n=>some (.ty n)
 | _=>none
theorem RelV.abs {x:V}{u:Value}(r:RelV x u):Jw u=some x:=by
 cases x with
 | non=>cases r;rfl
 | bl _=>cases r;rfl
 | int _=>obtain⟨t,rfl⟩:=r;rfl
 | str _=>obtain⟨t,rfl⟩:=r;rfl
 | byt _=>obtain⟨t,rfl⟩:=r;rfl
 | flt _=>obtain⟨t,rfl⟩:=r;rfl
 | ref _=>cases r;rfl
 | ty _=>cases r;rfl
theorem RelV.inj {x y:V}{u:Value}(r:RelV x u)(q:RelV y u):x=y:=Option.some.inj (r.abs.symm.trans q.abs)
theorem aP.inj:∀{xs ys:List V} {us:List Value},aP xs us→aP ys us→xs=ys
 | _,_,_,.nil,.nil=>rfl
 | _,_,_,.cons r t,.cons r' t'=>by rw[r.inj r',aP.inj t t']
section
variable {X:Cx}{af:List (Addr×Obj)}{σ:St}{H:Hp}{s:Shared}{a:Addr}{xs ys:List V}
theorem Inv.list (I:Inv X af σ H s)(h:jP X.K H a xs):∃its:List Value,aP xs its∧PlainL s.heap a its.toArray∧xs.length≤sizeLine:=by
 rcases h with h|⟨o,its,n,hk,hc,hd,hs,hz,r⟩
 ·obtain⟨z,its,n,r,e⟩:=h.ok I.hok;exact⟨its,r,⟨_,n,e,rfl,rfl,rfl⟩,z⟩
 ·refine⟨its.toList,r,⟨o,n,I.kIn a o hk,hc,hd,by simpa using hs⟩,?_⟩;have e:=r.length;simp only[Array.length_toList] at e;omega
theorem Inv.tuple (I:Inv X af σ H s)(h:oF X.K H a xs):∃its:List Value,aP xs its∧IsTup s.heap a its.toArray∧xs.length≤sizeLine:=by
 rcases h with h|⟨o,its,n,hk,hc,hs,hz,r⟩
 ·obtain⟨z,its,r,p⟩:=h.ok I.hok;exact⟨its,r,p,z⟩
 ·refine⟨its.toList,r,⟨o,I.kIn a o hk,hc,n,by simpa using hs⟩,?_⟩;have e:=r.length;simp only[Array.length_toList] at e;omega
theorem Inv.list_inj (I:Inv X af σ H s)(h:jP X.K H a xs)(h':jP X.K H a ys):xs=ys:=by
 obtain⟨its,r,⟨o,n,e,_,_,d⟩,_⟩:=I.list h;obtain⟨its',r',⟨o',n',e',_,_,d'⟩,_⟩:=I.list h';rw[e] at e';cases e';rw[d] at d';injection d' with d1 _
 have:its=its':=by simpa using congrArg Array.toList d1
 subst this;exact r.inj r'
theorem Inv.tuple_inj (I:Inv X af σ H s)(h:oF X.K H a xs)(h':oF X.K H a ys):xs=ys:=by
 obtain⟨its,r,⟨o,e,_,n,d⟩,_⟩:=I.tuple h;obtain⟨its',r',⟨o',e',_,n',d'⟩,_⟩:=I.tuple h';rw[e] at e';cases e';rw[d] at d';injection d' with d1 _
 have:its=its':=by simpa using congrArg Array.toList d1
 subst this;exact r.inj r'
end
section
variable {X:Cx}{st:Stmt}{rest:List Stmt}{t u:TS}{e:Expr}{te:TE}{pos:Pos}
def FJ:TS:=fun D σ H=>D.nx σ H
def Ck (t u:TS):TS:=fun D σ H=>t {D with nx:=u D} σ H
theorem zm:PSs X [] FJ:=fun _ _ σ H _ I h=>wpAny_execs_nil ⟨σ,H,I,h⟩
theorem vN (h1:PS X st t)(h2:PSs X rest u):PSs X (st::rest) (Ck t u):=by
 intro af s σ H D I h;refine wpAny_execs_cons (bW (h1 af s σ H {D with nx:=u D} I h) fun f s1 q=>?_);cases f with
 | next=>
  obtain⟨σ',H',I',q⟩:=q;exact h2 af s1 σ' H' D I' q
 | ret v=>exact q
 | brk=>exact q
 | cont=>exact q
theorem zk (h1:PS X st t):PSs X [st] t:=by
 intro af s σ H D I h;refine wpAny_execs_cons (bW (h1 af s σ H D I h) fun f s1 q=>?_);cases f with
 | next=>exact wpAny_execs_nil q
 | ret v=>exact q
 | brk=>exact q
 | cont=>exact q
theorem Inv.quiet {af:List (Addr×Obj)}{σ:St}{H:Hp}{s:Shared}(I:Inv X af σ H s):interactive X.env=false:=by simp[interactive,I.ok.kind]
def Gi (te:TE):TS:=fun D σ H=>te σ H fun _ H1=>D.nx σ H1
theorem Ai (he:PE X e te)(hs:swapsWith e none pos.line X.env=pure false:=by rfl):PS X (.Expr e pos) (Gi te):=by
 intro af s σ H D I h;exact wpAny_Expr_any (bW (he af s σ H _ I h) fun v s1 ⟨x,H1,I1,r1,q1⟩=>⟨σ,H1,I1,q1⟩) I.quiet hs
def Iw (te:TE):TS:=fun D σ H=>te σ H D.rt
theorem Cp (he:PE X e te):PS X (.Return (some e) pos) (Iw te):=by
 intro af s σ H D I h;exact wpAny_Return_some (bW (he af s σ H _ I h) fun v s1 ⟨x,H1,I1,r1,q1⟩=>⟨x,σ,H1,I1,r1,q1⟩)
def Jk (c:TT)(t u:TS):TS:=fun D σ H=>c σ H fun b H1=>if b=true then t D σ H1 else u D σ H1
theorem G7 {c:Expr}{a b:List Stmt}{tc:TT}(hc:PT X c tc)(ha:PSs X a t)(hb:PSs X b u):PS X (.If c a b pos) (Jk tc t u):=by
 intro af s σ H D I h;refine wpAny_If (bW (hc af s σ H _ I h) fun d s1 hxx=>?_);obtain⟨H1,I1,q1⟩:=hxx;cases d with
 | true=>exact ha af s1 σ H1 D I1 q1
 | false=>exact hb af s1 σ H1 D I1 q1
end
abbrev TG:=V→St→Hp→(St→Hp→Prop)→Prop
abbrev Bt:=List V→St→Hp→(St→Hp→Prop)→Prop
def PG (X:Cx)(target:Expr)(t:TG):Prop:=
 ∀(af:List (Addr×Obj)) (s:Shared) (σ:St) (H:Hp) (v:V) (u:Value) (Q:St→Hp→Prop),Inv X af σ H s→RelV v u→t v σ H Q→
  wpAny (model X.prog X.w) X.A (assign target X.env u) (fun _ s'=>∃σ' H',Inv X af σ' H' s'∧Q σ' H') X.xe s
def zn (X:Cx)(ts:List Expr)(t:Bt):Prop:=
 ∀(af:List (Addr×Obj)) (s:Shared) (σ:St) (H:Hp) (vs:List V) (us:List Value) (Q:St→Hp→Prop),Inv X af σ H s→aP vs us→t vs σ H Q→
  wpAny (model X.prog X.w) X.A (assignInOrder ((assignEach ts X.env).map (·.2)) us) (fun _ s'=>∃σ' H',Inv X af σ' H' s'∧Q σ' H') X.xe s
abbrev DN:=V→V→V→Hp→(Hp→Prop)→Prop
def GN (X:Cx)(t:DN):Prop:=
 ∀(af:List (Addr×Obj)) (s:Shared) (σ:St) (H:Hp) (o i v:V) (ov iv u:Value) (Q:Hp→Prop),Inv X af σ H s→RelV o ov→RelV i iv→RelV v u→t o i v H Q→
  wpAny (model X.prog X.w) X.A (setItem ov iv u) (fun _ s'=>∃H',Inv X af σ H' s'∧Q H') X.xe s
abbrev Hl:=V→V→Hp→VK→Prop
def Hw (X:Cx)(op:Operator)(t:Hl):Prop:=
 ∀(af:List (Addr×Obj)) (s:Shared) (σ:St) (H:Hp) (x y:V) (v u:Value) (Q:VK),Inv X af σ H s→RelV x v→RelV y u→t x y H Q→
  wpAny (model X.prog X.w) X.A (inplaceOp op v u) (EP X af σ Q) X.xe s
section
variable {X:Cx}{pos:Pos}
def Bc (i:Nat):TG:=fun v σ H Q=>Q (σ.set i (some v)) H
theorem A5 {i:Nat}{x:Str}(hN:X.N.Nodup)(hi:X.N[i]?=some x)(hx:qH X.env.scope x)(hf:X.fn x=true∨X.env.scope.names.lookup x=some .local:=by first|exact .inl rfl|exact .inr rfl|assumption):PG X (.Name x pos) (Bc i):=by
 intro af s σ H v u Q I r h;exact wpAny_assign_Name (ia I hN hi hx r (fun s' I'=>⟨_,H,I',h⟩) hf)
def Ii:Bt:=fun vs σ H Q=>vs=[]∧Q σ H
def F8 (t:TG)(u:Bt):Bt:=fun vs σ H Q=>∃v r,vs=v::r∧t v σ H fun σ' H'=>u r σ' H' Q
theorem AB:zn X [] Ii:=by
 intro af s σ H vs us Q I r h;obtain⟨e,h⟩:=h;subst e;cases r;exact assignInOrder_nil ⟨σ,H,I,h⟩
theorem yy {e:Expr}{es:List Expr}{t:TG}{u:Bt}(h1:PG X e t)(h2:zn X es u)
  (hs:(assignEach (e::es) X.env).map (·.2)=assign e X.env::(assignEach es X.env).map (·.2):=by rfl):zn X (e::es) (F8 t u):=by
 intro af s σ H vs us Q I r h;obtain⟨v,vr,e1,h⟩:=h;subst e1;cases r with
 | cons r rr=>
  rw[hs];refine assignInOrder_cons (bW (h1 af s σ H _ _ _ I r h) fun _ s1 hxx=>?_);obtain⟨σ1,H1,I1,q1⟩:=hxx;exact h2 af s1 σ1 H1 _ _ Q I1 rr q1
def IS (K:W.Frag)(n:Nat)(t:Bt):TG:=fun v σ H Q=>∃a xs,v=.ref a∧oF K H a xs∧xs.length=n∧t xs σ H Q
theorem DT {es:List Expr}{k:Nat}{t:Bt}{n:Nat}(hc:X.calm=true)(h:zn X es t)
  (hn:(assignEach es X.env).length=n:=by rfl) (hst:(assignEach es X.env).findIdx? (·.1)=none:=by rfl):PG X (.Tuple es k pos) (IS X.K n t):=by
 intro af s σ H v u Q I r hw;obtain⟨a,xs,e1,hq,hl,hw⟩:=hw;subst e1;cases r;obtain⟨its,rv,ht,hz⟩:=I.tuple hq;refine assign_Tuple_tuple (I.ok.hd hc) ht (by simp[hn,←hl,rv.length]) hst fun h' hx=>?_
 have I1:Inv X af σ H {s with heap:=h'}:=I.kept (t':=s.toks) fun b o e=>hx b o (Nat.ne_of_lt (Heap.lt_size e)) e
 exact h af _ σ H xs _ Q I1 (by simpa using rv) hw
def Jb (to ti:TE)(t:DN):TG:=fun v σ H Q=>to σ H fun o H1=>ti σ H1 fun i H2=>t o i v H2 fun H3=>Q σ H3
theorem By {o i:Expr}{to ti:TE}{t:DN}(ho:PE X o to)(hi:PE X i ti)(hs:GN X t)
  (ha:∀v,assign (.Subscript o i pos) X.env v=(do
   let ov ←holding [v] (eval o X.env)
   let iv ←holding [v,ov] (eval i X.env)
   standAt pos
   holding [v,ov,iv] (setItem ov iv v)
   release [v,ov,iv] []):=by intro _;rfl):PG X (.Subscript o i pos) (Jb to ti t):=by
 intro af s σ H v u Q I r h;rw[ha];refine wpAny_bind (wpAny_holding (bW (ho af s σ H _ I h) fun ov s1 hxx=>?_));obtain⟨x,H1,I1,r1,q1⟩:=hxx;refine wpAny_bind (wpAny_holding (bW (hi af s1 σ H1 _ I1 q1) fun iv s2 hxx=>?_));obtain⟨y,H2,I2,r2,q2⟩:=hxx;refine wpAny_bind (wpAny_standAt (wpAny_bind (wpAny_holding (bW (hs af s2 σ H2 x y v ov iv u _ I2 r1 r2 r q2) fun _ s3 hxx=>?_))));obtain⟨H3,I3,q3⟩:=hxx;exact wpAny_release ⟨σ,H3,I3,q3⟩
def Fk (te:TE)(g:TG):TS:=fun D σ H=>te σ H fun x H1=>g x σ H1 D.nx
theorem wV {tg e:Expr}{te:TE}{g:TG}(he:PE X e te)(hg:PG X tg g)(hs:swapsWithSole [tg] e pos.line X.env=pure false:=by rfl)(hw:swappedStores [tg] e X.env=pure none:=by rfl)
  (h1:(assignEach [tg] X.env).map (·.2)=[assign tg X.env]:=by rfl):PS X (.Assign [tg] e pos) (Fk te g):=by
 intro af s σ H D I h;refine wpAny_Assign_stores (bW (he af s σ H _ I h) fun v s1 hxx=>?_) hs hw;obtain⟨x,H1,I1,r1,q1⟩:=hxx;rw[h1];exact bW (hg af s1 σ H1 x v _ I1 r1 q1) fun _ s2 q=>q
theorem El {i:Nat}{x:Str}{e:Expr}{te:TE}{pos':Pos}(hN:X.N.Nodup)(hi:X.N[i]?=some x)(hx:qH X.env.scope x)(he:PE X e te)(hs:swapsWith e (some (.Name x pos')) pos.line X.env=pure false:=by rfl)(hf:X.fn x=true∨X.env.scope.names.lookup x=some .local:=by first|exact .inl rfl|exact .inr rfl|assumption) :
  PS X (.Assign [.Name x pos'] e pos) (Fk te (Bc i)):=by
 intro af s σ H D I h;refine wpAny_Assign_Name (bW (he af s σ H _ I h) fun v s1 hxx=>?_) hs;obtain⟨y,H1,I1,r1,q1⟩:=hxx;exact ia I1 hN hi hx r1 (fun s2 I2=>⟨_,H1,I2,q1⟩) hf
def Ju (i:Nat)(te:TE)(ti:Hl):TS:=fun D σ H=>∃x,σ[i]?=some (some x)∧te σ H fun y H1=>ti x y H1 fun z H2=>D.nx (σ.set i (some z)) H2
theorem yF {i:Nat}{x:Str}{e:Expr}{te:TE}{op:Operator}{ti:Hl}{pos':Pos}(hN:X.N.Nodup)(hi:X.N[i]?=some x)(hx:qH X.env.scope x)(he:PE X e te)(ho:Hw X op ti)(hf:X.fn x=true∨X.env.scope.names.lookup x=some .local:=by first|exact .inl rfl|exact .inr rfl|assumption) :
  PS X (.AugAssign (.Name x pos') op e pos) (Ju i te ti):=by
 intro af s σ H D I h;obtain⟨v,e1,h⟩:=h;obtain⟨m,hn,hl⟩:=I.loc;have vis:B0 X.env.scope x:=by rcases hx with k|k;exact .inl k;exact .inr (.inl k)
 obtain⟨u,r,l⟩:=hl i x v hi e1 vis;refine wpAny_AugAssign_Name ?_;have go:wpAny (model X.prog X.w) X.A (eval e X.env) (fun w s₂=>wpAny (model X.prog X.w) X.A (inplaceOp op u w) (fun r s₃=>wpAny (model X.prog X.w) X.A (storeName X.env x r) (fun _=>SP X af D .next) X.xe s₃) X.xe s₂) X.xe s:=by
  refine bW (he af s σ H _ I h) fun w s1 hxx=>?_
  obtain⟨y,H1,I1,r1,q1⟩:=hxx;refine bW (ho af s1 σ H1 v y u w _ I1 r r1 q1) fun z s2 hxx=>?_
  obtain⟨zv,H2,I2,r2,q2⟩:=hxx;exact ia I2 hN hi hx r2 (fun s3 I3=>⟨_,H2,I3,q2⟩) hf
 rcases l with⟨hk,hm⟩|⟨hk,c,hc,hcell⟩
 ·exact wpAny_loadName_local I.ok.kind hk hn hm go
 ·rcases hk with hk|hk
  ·exact wpAny_loadName_cell I.ok.kind hk hc hcell go
  ·rcases hx with k|k
   ·have:X.env.scope.names.lookup x=some .free:=hk;rw[k] at this;cases this
   ·have:X.env.scope.names.lookup x=some .free:=hk;rw[k] at this;cases this
def HP (f:Int→Int→Int):Hl:=fun x y H Q=>∃i j,x=.int i∧y=.int j∧Q (.int (f i j)) H
theorem Ej:Hw X .Add (HP fun i j=>i+j):=by
 intro af s σ H x y v u Q I r1 r2 h;obtain⟨i,j,e1,e2,q⟩:=h;subst e1;subst e2;obtain⟨t,rfl⟩:=r1;obtain⟨t',rfl⟩:=r2;exact iadd_int ⟨.int _,H,I.tok _,⟨_,rfl⟩,q⟩
theorem Cb:Hw X .Sub (HP fun i j=>i-j):=by
 intro af s σ H x y v u Q I r1 r2 h;obtain⟨i,j,e1,e2,q⟩:=h;subst e1;subst e2;obtain⟨t,rfl⟩:=r1;obtain⟨t',rfl⟩:=r2;exact isub_int ⟨.int _,H,I.tok _,⟨_,rfl⟩,q⟩
end
section
variable {X:Cx}{pos:Pos}
def Cw (c:TT)(tb:TS):TS:=fun D σ H=>∃W:Nat→St→Hp→Prop,(∃m,W m σ H)∧∀m σ H,W m σ H→
 c σ H fun b H1=>if b=true then∃N:St→Hp→Prop,(∀σ' H',N σ' H'→∃m',m'<m∧W m' σ' H')∧tb {D with nx:=N,ct:=N,bk:=D.nx} σ H1 else D.nx σ H1
theorem ya {c:Expr}{body:List Stmt}{tc:TT}{tb:TS}(hp:PassesOwn (model X.prog X.w) X.A X.env X.xe)(hc:PT X c tc)(hb:PSs X body tb):PS X (.While c body [] pos) (Cw tc tb):=by
 intro af s σ H D I h;obtain⟨W,⟨m0,w0⟩,turn⟩:=h;refine wpAny_While (codeAny_whileLoop (fun n s'=>∃σ' H',Inv X af σ' H' s'∧W n σ' H') ?_ m0 ⟨σ,H,I,w0⟩);rintro n s1 ⟨σ1,H1,I1,w1⟩;refine wpAny_passesOwn hp (bW (hc af s1 σ1 H1 _ I1 (turn n σ1 H1 w1)) fun b s2 hxx=>?_);obtain⟨H2,I2,q2⟩:=hxx;cases b with
 | true=>
  obtain⟨N,hN,q2⟩:=q2;rw[if_pos rfl];refine wpAny_passesOwn hp (bW (hb af s2 σ1 H2 _ I2 q2) fun f s3 q3=>?_);cases f with
  | next=>
   obtain⟨σ3,H3,I3,n3⟩:=q3;obtain⟨m',hm,w3⟩:=hN σ3 H3 n3;exact⟨m',hm,σ3,H3,I3,w3⟩
  | cont=>
   obtain⟨σ3,H3,I3,n3⟩:=q3;obtain⟨m',hm,w3⟩:=hN σ3 H3 n3;exact⟨m',hm,σ3,H3,I3,w3⟩
  | brk=>exact q3
  | ret v=>exact q3
 | false=>
  rw[if_neg Bool.false_ne_true];exact wpAny_execs_nil ⟨σ1,H2,I2,q2⟩
end
structure It where
 go:Nat→Hp→Prop
 yld:Nat→Hp→V→Hp→Prop
 stop:Nat→Hp→Prop
def iX (X:Cx)(af:List (Addr×Obj))(H:Hp)(b:Addr):Prop:=
 H b=none∧b≠X.env.locals∧b∉X.fs∧(b∈X.ex∨X.s₀.heap.objs.size≤b)∧(∀x c,X.env.cells.lookup x=some c→c≠b)∧∀p∈X.pn++af,p.1≠b
theorem Inv.fpOk {X:Cx}{af:List (Addr×Obj)}{σ:St}{H H':Hp}{s:Shared}{b:Addr}(I:Inv X af σ H s)(hb:s.heap.objs.size≤b)(hn:H' b=none):iX X af H' b:=by
 refine⟨hn,Nat.ne_of_gt (Nat.lt_of_lt_of_le I.lt hb),I.nofs hb,.inr (Nat.le_trans I.sz hb),fun x c e z=>?_,fun p hp z=>?_⟩
 ·obtain⟨v,q⟩:=I.cell x c e;exact absurd (Nat.lt_of_lt_of_le q.lt (by rw[z];exact hb)) (Nat.lt_irrefl _)
 ·exact absurd (Nat.lt_of_lt_of_le (Heap.lt_size (I.pin p hp).1) (by rw[z];exact hb)) (Nat.lt_irrefl _)
structure rf (P:Program)(w:World)(K:W.Frag)(tg:Expr)(J:It)(fp:List Addr)(it:Addr)(tn:Nat→Heap→Prop):Prop where
 mem:it∈fp
 obj:∀i h,tn i h→∀b∈fp,∃o,h.get? b=some o∧∀v,o.data≠.cell v
 keep:∀i h h',tn i h→(∀b∈fp,∀o,h.get? b=some o→h'.get? b=some o)→tn i h'
 item:∀(X:Cx),X.prog=P→X.w=w→X.K=K→X.calm=true→∀(i:Nat) (af:List (Addr×Obj)) (s:Shared) (σ:St) (H:Hp) (E:Value→Shared→Prop),Inv X af σ H s→(∀b∈fp,iX X af H b)→tn i s.heap→J.go i H→
  wpAny (model P w) X.A (pyNext (.ref it)) (fun r s1=>∃u,r=some u∧
   wpAny (model P w) X.A (letOwnedTupleGo tg (.ref it) u) (fun _ s2=>∃x H',Inv X af σ H' s2∧RelV x u∧J.yld i H x H'∧tn (i+1) s2.heap∧∀b∈fp,H' b=none) E s1) E s
 done:∀(X:Cx),X.prog=P→X.w=w→X.K=K→X.calm=true→∀(i:Nat) (af:List (Addr×Obj)) (s:Shared) (σ:St) (H:Hp) (E:Value→Shared→Prop),Inv X af σ H s→(∀b∈fp,iX X af H b)→tn i s.heap→J.stop i H→
  wpAny (model P w) X.A (pyNext (.ref it)) (fun r s1=>r=none∧Inv X af σ H s1) E s
 self:∀(A:Around) (i:Nat) (s:Shared) (Q:Value→Shared→Prop) (E:Value→Shared→Prop),tn i s.heap→Q (.ref it) s→wpAny (model P w) A (pyIter (.ref it)) Q E s
abbrev TI:=St→Hp→(It→Hp→Prop)→Prop
def HV (X:Cx)(af:List (Addr×Obj))(σ:St)(tg:Expr)(R:It→Hp→Prop)(itv:Value)(s2:Shared):Prop:=
 ∃(it:Addr) (fp:List Addr) (tn:Nat→Heap→Prop) (J:It) (H':Hp),itv=.ref it∧Inv X af σ H' s2∧rf X.prog X.w X.K tg J fp it tn∧tn 0 s2.heap∧(∀b∈fp,iX X af H' b)∧R J H'
def PI (X:Cx)(tg iter:Expr)(wi:TI):Prop:=
 ∀(af:List (Addr×Obj)) (s:Shared) (σ:St) (H:Hp) (R:It→Hp→Prop),Inv X af σ H s→wi σ H R→
  wpAny (model X.prog X.w) X.A (eval iter X.env) (fun v s1=>wpAny (model X.prog X.w) X.A (pyIter v) (HV X af σ tg R) X.xe s1) X.xe s
theorem oR {M:Model}{A:Around}{E:Value→Shared→Prop}{s:Shared}{tg:Expr}{it:Addr}{u:Value}{o:Obj}{n:String}{vs:Array Value}{Q:Unit→Shared→Prop}(ho:s.heap.get? it=some o)(hc:o.cls=.type n)(hd:o.data=.fields vs)
  (hn:["enumerate","zip","dict_itemiterator","dict_reverseitemiterator","odict_iterator","itertools.zip_longest","itertools.pairwise"].contains n=false) (hQ:Q () s):wpAny M A (letOwnedTupleGo tg (.ref it) u) Q E s:=by
 unfold letOwnedTupleGo;cases tg <;> first
  | exact wpAny_pure hQ
  | (cases u <;> first
    | exact wpAny_pure hQ
    | (refine wpAny_bind (wpAny_load ho ?_)
       rw[hc,hd];show wpAny M A (if(["enumerate","zip","dict_itemiterator","dict_reverseitemiterator","odict_iterator","itertools.zip_longest","itertools.pairwise"].contains n&&vs[0]?==some (rawInt _))=true then _ else _) Q E s;rw[if_neg (by intro h;rw[hn,Bool.false_and] at h;cases h)];exact wpAny_pure hQ))
def Hn (K:W.Frag)(a:Addr):It:=
 ⟨fun i H=>∃xs x,jP K H a xs∧xs[i]?=some x,fun i H x H'=>H'=H∧∀xs,jP K H a xs→xs[i]?=some x,fun i H=>∃xs,jP K H a xs∧xs.length≤i⟩
def IJ (K:W.Frag)(a:Addr):It:=
 ⟨fun i H=>∃xs x,oF K H a xs∧xs[i]?=some x,fun i H x H'=>H'=H∧∀xs,oF K H a xs→xs[i]?=some x,fun i H=>∃xs,oF K H a xs∧xs.length≤i⟩
def Gh (lo:Int)(n:Nat):It:=⟨fun i _=>i<n,fun i H x H'=>H'=H∧x=.int (lo+i),fun i _=>n≤i⟩
theorem uM {P:Program}{w:World}{K:W.Frag}{tg:Expr}(a it:Addr):rf P w K tg (Hn K a) [it] it (fun i h=>h.IsListIter it a i) where
 mem:=by simp
 obj:=fun i h st b hb=>by
  have e:b=it:=by simpa using hb
  subst e;obtain⟨o,e,c,d⟩:=st;exact⟨o,e,fun v z=>by rw[d] at z;cases z⟩
 keep:=fun i h h' st k=>st.at fun o e=>k it (by simp) o e
 item:=by
  intro X hP hw hK hc i af s σ H E I hf st hg;subst hP hw hK;obtain⟨xs,x,hq,hx⟩:=hg;obtain⟨its,rv,p,hz⟩:=I.list hq;obtain⟨u,hu,ru⟩:=rv.get hx;obtain⟨f0,f1,f2,f3,f4,f5⟩:=hf it (by simp);refine wpAny_pyNext_list_item st p.isList (x:=u) (by simpa using hu) fun h' st' sb=>?_
  have I1:Inv X af σ H {s with heap:=h'}:=I.turned (t':=s.toks) (fun b o hb e=>(sb.2 b hb).trans e) f0 f1 f3 f4 f5;obtain⟨o,e,c,d⟩:=id st';exact⟨u,rfl,oR (s:={s with heap:=h'}) e c d (by decide) ⟨x,H,I1,ru,⟨rfl,fun ys hy=>by rw[I.list_inj hy hq];exact hx⟩,st',fun b hb=>(hf b hb).1⟩⟩
 done:=by
  intro X hP hw hK hc i af s σ H E I hf st hg;subst hP hw hK;obtain⟨xs,hq,hx⟩:=hg;obtain⟨its,rv,p,hz⟩:=I.list hq;obtain⟨f0,f1,f2,f3,f4,f5⟩:=hf it (by simp);have hl:=rv.length;exact wpAny_pyNext_list_end (I.ok.hd hc) st p.isList (by simp;omega) fun h' eb=>⟨rfl,I.turned (t':=s.toks) (fun b o hb e=>eb b o hb e) f0 f1 f3 f4 f5⟩
 self:=fun _ _ _ _ _ st h=>wpAny_pyIter_listiter st h
theorem rW {P:Program}{w:World}{K:W.Frag}{tg:Expr}(a it:Addr):rf P w K tg (IJ K a) [it] it (fun i h=>h.IsTupleIter it a i) where
 mem:=by simp
 obj:=fun i h st b hb=>by
  have e:b=it:=by simpa using hb
  subst e;obtain⟨o,e,c,d⟩:=st;exact⟨o,e,fun v z=>by rw[d] at z;cases z⟩
 keep:=fun i h h' st k=>st.at fun o e=>k it (by simp) o e
 item:=by
  intro X hP hw hK hc i af s σ H E I hf st hg;subst hP hw hK;obtain⟨xs,x,hq,hx⟩:=hg;obtain⟨its,rv,p,hz⟩:=I.tuple hq;obtain⟨u,hu,ru⟩:=rv.get hx;obtain⟨f0,f1,f2,f3,f4,f5⟩:=hf it (by simp);refine wpAny_pyNext_tuple_item st (show s.heap.IsTuple a its.toArray from p) (x:=u) (by simpa using hu) fun h' st' sb=>?_
  have I1:Inv X af σ H {s with heap:=h'}:=I.turned (t':=s.toks) (fun b o hb e=>(sb.2 b hb).trans e) f0 f1 f3 f4 f5;obtain⟨o,e,c,d⟩:=id st';exact⟨u,rfl,oR (s:={s with heap:=h'}) e c d (by decide) ⟨x,H,I1,ru,⟨rfl,fun ys hy=>by rw[I.tuple_inj hy hq];exact hx⟩,st',fun b hb=>(hf b hb).1⟩⟩
 done:=by
  intro X hP hw hK hc i af s σ H E I hf st hg;subst hP hw hK;obtain⟨xs,hq,hx⟩:=hg;obtain⟨its,rv,p,hz⟩:=I.tuple hq;obtain⟨f0,f1,f2,f3,f4,f5⟩:=hf it (by simp);have hl:=rv.length;exact wpAny_pyNext_tuple_end (I.ok.hd hc) st (show s.heap.IsTuple a its.toArray from p) (by simp;omega) fun h' eb=>⟨rfl,I.turned (t':=s.toks) (fun b o hb e=>eb b o hb e) f0 f1 f3 f4 f5⟩
 self:=fun _ _ _ _ _ st h=>wpAny_pyIter_tupleiter st h
theorem rh {P:Program}{w:World}{K:W.Frag}{tg:Expr}(it:Addr)(lo:Int)(n:Nat):rf P w K tg (Gh lo n) [it] it (fun i h=>IsRangeIter h it (lo+(i:Nat)*1) ((n:Int)-(i:Nat)) 1) where
 mem:=by simp
 obj:=fun i h st b hb=>by
  have e:b=it:=by simpa using hb
  subst e;exact⟨_,st,fun v z=>by
   have z':Data.fields _=Data.cell v:=z;cases z'⟩
 keep:=fun i h h' st k=>k it (by simp) _ st
 item:=by
  intro X hP hw hK hc i af s σ H E I hf st hg;subst hP hw hK;obtain⟨f0,f1,f2,f3,f4,f5⟩:=hf it (by simp);have W:=Walks.range (prog:=X.prog) (w:=X.w) (I.ok.hd hc) it lo 1 n;refine W.item i s _ _ hg st fun v h' tk hv st' kk=>?_
  obtain⟨t,rfl⟩:=hv;have I1:Inv X af σ H {s with heap:=h',toks:=tk}:=I.turned (fun b o hb e=>kk b o (by simpa using hb) e) f0 f1 f3 f4 f5;refine⟨_,rfl,oR (s:={s with heap:=h',toks:=tk}) (n:="range_iterator") st' rfl rfl (by decide) ⟨.int (lo+i),H,I1,⟨t,?_⟩,⟨rfl,rfl⟩,st',fun b hb=>(hf b hb).1⟩⟩;rw[Int.mul_one]
 done:=by
  intro X hP hw hK hc i af s σ H E I hf st hg;subst hP hw hK;obtain⟨f0,f1,f2,f3,f4,f5⟩:=hf it (by simp);exact wpAny_pyNext_range_end (I.ok.hd hc) st (by have:n≤i:=hg;omega) fun h' eb=>⟨rfl,I.turned (t':=s.toks) (fun b o hb e=>eb b o hb e) f0 f1 f3 f4 f5⟩
 self:=fun _ _ _ _ _ st h=>wpAny_pyIter_rangeiter st h
section
variable {X:Cx}{tg:Expr}
theorem oN {af:List (Addr×Obj)}{σ:St}{H:Hp}{s:Shared}{R:It→Hp→Prop}{E:Value→Shared→Prop}{lo hi:Int}{t u v:Tok}{tk:Nat}(I:Inv X af σ H s)(h1:-(2 ^ 62)≤lo)(h2:lo<2 ^ 62)(h3:-(2 ^ 62)≤hi)(h4:hi<2 ^ 62)
  (q:R (Gh lo (hi-lo).toNat) H):wpAny (model X.prog X.w) X.A (pyIter (.ref s.heap.objs.size)) (HV X af σ tg R) E {s with heap:=s.heap.push {cls:=.type "range",data:=.fields #[.int lo t,.int hi u,.int 1 v]},toks:=tk}:=by
 refine wpAny_pyIter_range (IsRange.new ..) (small_one h1 h2 h3 h4) ?_;have I1:Inv X af σ H {s with heap:=s.heap.push {cls:=.type "range",data:=.fields #[.int lo t,.int hi u,.int 1 v]},toks:=tk}:=I.kept fun b o e=>Heap.get?_push_of_some _ e
 refine⟨(s.heap.push {cls:=.type "range",data:=.fields #[.int lo t,.int hi u,.int 1 v]}).objs.size,[(s.heap.push {cls:=.type "range",data:=.fields #[.int lo t,.int hi u,.int 1 v]}).objs.size],_,_,H,rfl,
  I1.kept (t':=tk) fun b o e=>Heap.get?_push_of_some _ e,rh _ lo (hi-lo).toNat,?_,fun b hb=>?_,q⟩
 ·have e1:lo+((0:Nat):Int)*1=lo:=by simp
  have e2:(((hi-lo).toNat:Nat):Int)-((0:Nat):Int)=Builtin.Range.rangeSize lo hi 1:=by rw[rangeSize_one];split <;> omega
  show IsRangeIter _ _ (lo+((0:Nat):Int)*1) ((((hi-lo).toNat:Nat):Int)-((0:Nat):Int)) 1;rw[e1,e2];exact Heap.get?_push_size _ rfl
 ·have e:b=(s.heap.push {cls:=.type "range",data:=.fields #[.int lo t,.int hi u,.int 1 v]}).objs.size:=by simpa using hb
  subst e;exact I1.fpOk (Nat.le_refl _) (I1.hok.fresh (Nat.le_refl _))
def E5 (ta:TA):TI:=fun σ H R=>ta σ H fun vs H1=>∃j:Int,vs=[.int j]∧-(2 ^ 62)≤j∧j<2 ^ 62∧R (Gh 0 j.toNat) H1
def FX (ta:TA):TI:=fun σ H R=>ta σ H fun vs H1=>∃i j:Int,vs=[.int i,.int j]∧(-(2 ^ 62)≤i∧i<2 ^ 62∧-(2 ^ 62)≤j∧j<2 ^ 62)∧R (Gh i (j-i).toNat) H1
theorem vC {a:Expr}{ta:TA}{p pos:Pos}(hg:Gl X "range")(hm:X.mg "range"=none)(ha:PA X [a] ta)(hs:starEach [a] X.env=[(false,eval a X.env)]:=by rfl):PI X tg (.Call (.Name "range" p) [a] [] pos) (E5 ta):=by
 intro af s σ H R I h;refine Call_ (iR I hg hm boot_range (PyProof.Rows.callWith_type1 (bW (ha pos af s σ H _ I h) fun us s1 hxx=>?_) hs rfl));obtain⟨vs,H1,I1,r1,q1⟩:=hxx;obtain⟨j,e,q1,q2,q⟩:=q1;subst e;cases r1 with
 | cons r rr=>
  cases rr;obtain⟨t,rfl⟩:=r;exact call_range_1 (oN I1 (by omega) (by omega) q1 q2 (by simpa using q))
theorem uw {a b:Expr}{ta:TA}{p pos:Pos}(hg:Gl X "range")(hm:X.mg "range"=none)(ha:PA X [a,b] ta)(hs:starEach [a,b] X.env=[(false,eval a X.env),(false,eval b X.env)]:=by rfl)(hs2:starEach [b] X.env=[(false,eval b X.env)]:=by rfl) :
  PI X tg (.Call (.Name "range" p) [a,b] [] pos) (FX ta):=by
 intro af s σ H R I h;refine Call_ (iR I hg hm boot_range (PyProof.Rows.callWith_type1 (bW (ha pos af s σ H _ I h) fun us s1 hxx=>?_) (by rw[hs,hs2]) (by rw[hs2];rfl)));obtain⟨vs,H1,I1,r1,q1⟩:=hxx;obtain⟨i,j,e,⟨q1,q2,q3,q4⟩,q⟩:=q1;subst e;cases r1 with
 | cons r rr=>
  cases rr with
  | cons r' rr=>
   cases rr;obtain⟨t,rfl⟩:=r;obtain⟨t',rfl⟩:=r';exact call_range_2 (oN I1 q1 q2 q3 q4 q)
def IW (wi:TI)(g:TG)(tb:TS):TS:=fun D σ H=>wi σ H fun J H1=>∃W:Nat→Nat→St→Hp→Prop,(∃m,W 0 m σ H1)∧∀i m σ H,W i m σ H→
 (J.stop i H∧D.nx σ H)∨(J.go i H∧∃N:St→Hp→Prop,(∀σ' H',N σ' H'→∃m',m'<m∧W (i+1) m' σ' H')∧∀x H',J.yld i H x H'→g x σ H' fun σ2 H2=>tb {D with nx:=N,ct:=N,bk:=D.nx} σ2 H2)
def lO (fp:List Addr)(h:Heap):List (Addr×Obj):=fp.filterMap fun b=>(h.get? b).map fun o=>(b,o)
theorem gH {fp:List Addr}{h:Heap}{b:Addr}{o:Obj}(hb:b∈fp)(e:h.get? b=some o):(b,o)∈lO fp h:=mem_filterMap.mpr ⟨b,hb,by rw[e];rfl⟩
theorem uD {fp:List Addr}{h:Heap}{p:Addr×Obj}(hp:p∈lO fp h):p.1∈fp∧h.get? p.1=some p.2:=by
 obtain⟨b,hb,e⟩:=mem_filterMap.mp hp;cases q:h.get? b with
 | none=>rw[q] at e;cases e
 | some o=>
  rw[q] at e;have e':(b,o)=p:=Option.some.inj e;subst e';exact⟨hb,q⟩
theorem Inv.pinned {af:List (Addr×Obj)}{σ:St}{H:Hp}{s:Shared}{fp:List Addr}(I:Inv X af σ H s)(hf:∀b∈fp,iX X af H b)(ho:∀b∈fp,∃o,s.heap.get? b=some o∧∀v,o.data≠.cell v):Inv X (af++lO fp s.heap) σ H s:=
 I.pins_of fun p hp=>(mem_append.mp hp).elim (fun z=>I.pin p (mem_append_right _ z)) fun z=>by
  obtain⟨hb,e⟩:=uD z;obtain⟨f0,f1,f2,_⟩:=hf p.1 hb;obtain⟨o,e',d⟩:=ho p.1 hb;rw[e] at e';cases e';exact⟨e,f0,f1,f2,d⟩
theorem Inv.unpinned {af pl:List (Addr×Obj)}{σ:St}{H:Hp}{s:Shared}(I:Inv X (af++pl) σ H s):Inv X af σ H s:=I.pins_of fun p hp=>I.pin p (mem_append_right _ (mem_append_left _ hp))
theorem Dl {iter:Expr}{body:List Stmt}{wi:TI}{g:TG}{tb:TS}{pos:Pos}(hp:PassesOwn (model X.prog X.w) X.A X.env X.xe)(hc:X.calm=true)(hi:PI X tg iter wi)(hg:PG X tg g)(hb:PSs X body tb)
  (hs:∀x,foldedSetIterable iter X.env x=pure x:=by intro _;rfl):PS X (.For tg iter body [] pos) (IW wi g tb):=by
 intro af s σ H D I h;refine wpAny_For (bW (hi af s σ H _ I h) fun v s1 h1=>bW h1 fun itv s2 h2=>?_) hs;obtain⟨it,fp,tn,J,H2,e,I2,T,st2,f2,W,⟨m0,w0⟩,turn⟩:=h2;subst e;have stat:∀{H':Hp},(∀b∈fp,H' b=none)→∀b∈fp,iX X af H' b:=fun hn b hb=>⟨hn b hb,(f2 b hb).2⟩
 refine codeAny_forLoop_any (fun n s'=>∃i σ' H',Inv X af σ' H' s'∧tn i s'.heap∧(∀b∈fp,H' b=none)∧W i n σ' H') ?_ m0 ⟨0,σ,H2,I2,st2,fun b hb=>(f2 b hb).1,w0⟩;rintro n s3 ⟨i,σ3,H3,I3,st3,fr3,w3⟩;rcases turn i n σ3 H3 w3 with⟨stop,qn⟩|⟨go,N,hN,step⟩
 ·refine wpAny_passesOwn hp (bW (T.done X rfl rfl rfl hc i af s3 σ3 H3 X.xe I3 (stat fr3) st3 stop) fun r s4 hxx=>?_);obtain⟨hr,I4⟩:=hxx;subst hr;exact wpAny_execs_nil ⟨σ3,H3,I4,qn⟩
 ·refine wpAny_passesOwn hp (bW (T.item X rfl rfl rfl hc i af s3 σ3 H3 X.xe I3 (stat fr3) st3 go) fun r s4 hxx=>?_);obtain⟨u,hr,h4⟩:=hxx;subst hr;refine wpAny_passesOwn hp (bW h4 fun _ s5 hxx=>?_);obtain⟨x,H5,I5,r5,y5,st5,fr5⟩:=hxx;have I5':=I5.pinned (stat fr5) (T.obj _ _ st5);refine wpAny_passesOwn hp (bW (hg _ s5 σ3 H5 x u _ I5' r5 (step x H5 y5)) fun _ s6 hxx=>?_);obtain⟨σ6,H6,I6,q6⟩:=hxx;refine wpAny_passesOwn hp (bW (hb _ s6 σ6 H6 _ I6 q6) fun f s7 q7=>?_);have again:∀{σ7:St} {H7:Hp},Inv X (af++lO fp s5.heap) σ7 H7 s7→N σ7 H7→∃m,m<n∧∃i σ' H',Inv X af σ' H' s7∧tn i s7.heap∧(∀b∈fp,H' b=none)∧W i m σ' H':=fun {σ7 H7} I7 n7=>by
   obtain⟨m',hm,w7⟩:=hN σ7 H7 n7;refine⟨m',hm,i+1,σ7,H7,I7.unpinned,T.keep _ _ _ st5 fun b hb o e=>(I7.pin (b,o) (mem_append_right _ (mem_append_right _ (gH hb e)))).1,fun b hb=>?_,w7⟩;obtain⟨o,e,d⟩:=T.obj _ _ st5 b hb;exact(I7.pin (b,o) (mem_append_right _ (mem_append_right _ (gH hb e)))).2.1
  cases f with
  | next=>obtain⟨σ7,H7,I7,n7⟩:=q7;exact again I7 n7
  | cont=>obtain⟨σ7,H7,I7,n7⟩:=q7;exact again I7 n7
  | brk=>obtain⟨σ7,H7,I7,q7⟩:=q7;exact⟨σ7,H7,I7.unpinned,q7⟩
  | ret v=>obtain⟨x7,σ7,H7,I7,r7,q7⟩:=q7;exact⟨x7,σ7,H7,I7.unpinned,r7,q7⟩
end
abbrev R2:=V→V→Hp→VK→Prop
def dM (X:Cx)(f:Value→Value→Sem Value)(r:R2):Prop:=
 ∀(af:List (Addr×Obj)) (s:Shared) (σ:St) (H:Hp) (x y:V) (v u:Value) (Q:VK),Inv X af σ H s→RelV x v→RelV y u→r x y H Q→
  wpAny (model X.prog X.w) X.A (f v u) (EP X af σ Q) X.xe s
def Js (X:Cx)(f:Value→Sem Value)(r:V→Hp→VK→Prop):Prop:=
 ∀(af:List (Addr×Obj)) (s:Shared) (σ:St) (H:Hp) (x:V) (v:Value) (Q:VK),Inv X af σ H s→RelV x v→r x H Q→
  wpAny (model X.prog X.w) X.A (f v) (EP X af σ Q) X.xe s
def cx (X:Cx)(f:Value)(r:List V→Hp→VK→Prop):Prop:=
 ∀(af:List (Addr×Obj)) (s:Shared) (σ:St) (H:Hp) (xs:List V) (us:List Value) (Q:VK),Inv X af σ H s→aP xs us→r xs H Q→
  wpAny (model X.prog X.w) X.A (call f us) (EP X af σ Q) X.xe s
def Ji (X:Cx)(r:V→Hp→(Bool→Hp→Prop)→Prop):Prop:=
 ∀(af:List (Addr×Obj)) (s:Shared) (σ:St) (H:Hp) (x:V) (v:Value) (Q:Bool→Hp→Prop),Inv X af σ H s→RelV x v→r x H Q→
  wpAny (model X.prog X.w) X.A (truthy v) (TP X af σ Q) X.xe s
def Fd (r:R2)(ta tb:TE):TE:=fun σ H Q=>ta σ H fun x H1=>tb σ H1 fun y H2=>r x y H2 Q
def J9 (r:V→Hp→VK→Prop)(ta:TE):TE:=fun σ H Q=>ta σ H fun x H1=>r x H1 Q
def rI (C:Int→Int→Prop)(g:Int→Int→V):R2:=fun x y H Q=>∃i j,x=.int i∧y=.int j∧C i j∧Q (g i j) H
def Bd (g:Int→Int→V):R2:=fun x y H Q=>∃i j,x=.int i∧y=.int j∧Q (g i j) H
def rU (g:Int→V):V→Hp→VK→Prop:=fun x H Q=>∃i,x=.int i∧Q (g i) H
section
variable {X:Cx}{a b c:Expr}{ta tb tc:TE}{pos:Pos}
theorem D7 (ha:PE X a ta)(hb:PE X b tb){af:List (Addr×Obj)}{s:Shared}{σ:St}{H:Hp}{R:V→V→Hp→Prop}(I:Inv X af σ H s)
  (h:ta σ H fun x H1=>tb σ H1 fun y H2=>R x y H2) {Q:Value→Shared→Prop} {f:Value→Value→Sem Value}
  (hf:∀v u s2 x y H2,Inv X af σ H2 s2→RelV x v→RelV y u→R x y H2→wpAny (model X.prog X.w) X.A (f v u) Q X.xe s2) :
  wpAny (model X.prog X.w) X.A (eval a X.env) (fun v s₁=>wpAny (model X.prog X.w) X.A (eval b X.env) (fun u s₂=>wpAny (model X.prog X.w) X.A (f v u) Q X.xe s₂) X.xe s₁) X.xe s:=by
 refine bW (ha af s σ H _ I h) fun v s1 hxx=>?_
 obtain⟨x,H1,I1,r1,q1⟩:=hxx;refine bW (hb af s1 σ H1 _ I1 q1) fun u s2 hxx=>?_
 obtain⟨y,H2,I2,r2,q2⟩:=hxx;exact hf v u s2 x y H2 I2 r1 r2 q2
theorem ES {op:Operator}{r:R2}(ho:dM X (binaryOp op) r)(ha:PE X a ta)(hb:PE X b tb):PE X (.BinOp a op b pos) (Fd r ta tb):=by
 intro af s σ H Q I h;exact wpAny_BinOp (D7 ha hb I h fun v u s2 x y H2 I2 rx ry q=>ho af s2 σ H2 x y v u Q I2 rx ry q)
theorem GV {op:UnaryOp}{r:V→Hp→VK→Prop}(ho:Js X (unaryOp op) r)(ha:PE X a ta):PE X (.UnaryOp op a pos) (J9 r ta):=by
 intro af s σ H Q I h;exact UnaryOp_ (bW (ha af s σ H _ I h) fun v s1 ⟨x,H1,I1,r1,q1⟩=>ho af s1 σ H1 x v Q I1 r1 q1)
theorem IK {f:Value→Value→Sem Value}{C:Int→Int→Prop}{g:Int→Int→Int}
  (rule:∀(i j:Int) (t u:Tok) (s:Shared) (Q:Value→Shared→Prop) (E:Value→Shared→Prop),C i j→Q (.int (g i j) s.toks) {s with toks:=s.toks+1}→wpAny (model X.prog X.w) X.A (f (.int i t) (.int j u)) Q E s) :
  dM X f (rI C fun i j=>.int (g i j)):=by
 intro af s σ H x y v u Q I rx ry h;obtain⟨i,j,rfl,rfl,hc,q⟩:=h;obtain⟨t,rfl⟩:=rx;obtain⟨t',rfl⟩:=ry;exact rule i j t t' s _ _ hc ⟨.int (g i j),H,I.tok _,⟨_,rfl⟩,q⟩
theorem Ge {f:Value→Value→Sem Value}{g:Int→Int→Int}
  (rule:∀(i j:Int) (t u:Tok) (s:Shared) (Q:Value→Shared→Prop) (E:Value→Shared→Prop),Q (.int (g i j) s.toks) {s with toks:=s.toks+1}→wpAny (model X.prog X.w) X.A (f (.int i t) (.int j u)) Q E s) :
  dM X f (Bd fun i j=>.int (g i j)):=by
 intro af s σ H x y v u Q I rx ry h;obtain⟨i,j,rfl,rfl,q⟩:=h;obtain⟨t,rfl⟩:=rx;obtain⟨t',rfl⟩:=ry;exact rule i j t t' s _ _ ⟨.int (g i j),H,I.tok _,⟨_,rfl⟩,q⟩
theorem A8 {f:Value→Value→Sem Value}{g:Int→Int→Bool}
  (rule:∀(i j:Int) (t u:Tok) (s:Shared) (Q:Value→Shared→Prop) (E:Value→Shared→Prop),Q (.bool (g i j)) s→wpAny (model X.prog X.w) X.A (f (.int i t) (.int j u)) Q E s) :
  dM X f (Bd fun i j=>.bl (g i j)):=by
 intro af s σ H x y v u Q I rx ry h;obtain⟨i,j,rfl,rfl,q⟩:=h;obtain⟨t,rfl⟩:=rx;obtain⟨t',rfl⟩:=ry;exact rule i j t t' s _ _ ⟨.bl (g i j),H,I,rfl,q⟩
def Ij (i j:Int):Prop:=0≤j∧j≤1000000∧i.natAbs<2 ^ 64
def DG (i j:Int):Prop:=(-(2 ^ 64)<i∧i<2 ^ 64)∨(-(2 ^ 64)<j∧j<2 ^ 64)
theorem DG.ok {i j:Int}(h:DG i j):IntMulOk i j:=by
 rcases h with⟨h1,h2⟩|⟨h1,h2⟩
 ·exact .of_left (intBits_le_64 h1 h2)
 ·exact .of_right (intBits_le_64 h1 h2)
theorem Dj:dM X (binaryOp .Add) (Bd fun i j=>.int (i+j)):=Ge fun _ _ _ _ _ _ _ q=>add_int q
theorem BR:dM X (binaryOp .Sub) (Bd fun i j=>.int (i-j)):=Ge fun _ _ _ _ _ _ _ q=>sub_int q
theorem BF:dM X (binaryOp .Mult) (rI DG fun i j=>.int (i*j)):=IK fun _ _ _ _ _ _ _ hc q=>mul_int q hc.ok
theorem B5:dM X (binaryOp .Mod) (rI (fun _ j=>0<j) fun i j=>.int (i % j)):=IK fun i j _ _ _ _ _ hc q=>by
 have h1:(0:Int)<j:=hc;exact mod_int' (by omega) (by rw[Int.fmod_eq_emod_of_nonneg i (by omega)];exact q)
theorem DZ:dM X (binaryOp .Pow) (rI Ij fun i j=>.int (i ^ j.toNat)):=IK fun _ _ _ _ _ _ _ hc q=>pow_int_small hc.1 hc.2.1 hc.2.2 q
theorem JS {f:Value→Sem Value}{g:Int→Int}
  (rule:∀(i:Int) (t:Tok) (s:Shared) (Q:Value→Shared→Prop) (E:Value→Shared→Prop),Q (.int (g i) s.toks) {s with toks:=s.toks+1}→wpAny (model X.prog X.w) X.A (f (.int i t)) Q E s) :
  Js X f (rU fun i=>.int (g i)):=by
 intro af s σ H x v Q I rx h;obtain⟨i,rfl,q⟩:=h;obtain⟨t,rfl⟩:=rx;exact rule i t s _ _ ⟨.int (g i),H,I.tok _,⟨_,rfl⟩,q⟩
theorem CL:Js X (unaryOp .USub) (rU fun i=>.int (-i)):=JS fun _ _ _ _ _ q=>neg_int q
end
section
variable {X:Cx}{a b c:Expr}{ta tb tc:TE}{pos:Pos}
theorem wA {af:List (Addr×Obj)}{σ:St}{H:Hp}{s:Shared}{Q:VK}{k k':Bool}(I:Inv X af σ H s)(q:Q (.bl k) H)(e:k=k'):EP X af σ Q (.bool k') s:=by
 subst e;exact⟨.bl k,H,I,rfl,q⟩
theorem GW:dM X (compareOp .Lt) (Bd fun i j=>.bl (decide (i<j))):=A8 fun _ _ _ _ _ _ _ q=>lt_int q
theorem EU:dM X (compareOp .LtE) (Bd fun i j=>.bl (decide (i≤j))):=A8 fun _ _ _ _ _ _ _ q=>le_int q
theorem FP:dM X (compareOp .Gt) (Bd fun i j=>.bl (decide (j<i))):=A8 fun _ _ _ _ _ _ _ q=>gt_int q
theorem Gc:dM X (compareOp .GtE) (Bd fun i j=>.bl (decide (j≤i))):=A8 fun _ _ _ _ _ _ _ q=>ge_int q
theorem uj:dM X (compareOp .In) (fun x y H Q=>∃i j,x=.str i∧y=.str j∧Q (.bl (!(Builtin.Str.occurrences j i 0 j.length 1).isEmpty)) H):=by
 intro af s σ H x y v u Q I rx ry h;obtain⟨i,j,rfl,rfl,q⟩:=h;obtain⟨t,rfl⟩:=rx;obtain⟨t',rfl⟩:=ry;exact in_str (wA I q rfl)
theorem oy:dM X (compareOp .NotIn) (fun x y H Q=>∃i j,x=.str i∧y=.str j∧Q (.bl (!(!(Builtin.Str.occurrences j i 0 j.length 1).isEmpty))) H):=by
 intro af s σ H x y v u Q I rx ry h;obtain⟨i,j,rfl,rfl,q⟩:=h;obtain⟨t,rfl⟩:=rx;obtain⟨t',rfl⟩:=ry;exact notIn_str (wA I q rfl)
def Hk:HO→Bool
 | .lst _=>true
 | .ins _ _ _=>true
 | _=>false
theorem EG {af:List (Addr×Obj)}{s:Shared}{σ:St}{H:Hp}{a:Addr}{o:HO}(I:Inv X af σ H s)(h:H a=some o)(p:Hk o=true):∃ob,s.heap.get? a=some ob∧ob.cls≠.type "tuple":=by
 cases o with
 | lst xs=>
  obtain⟨_,its,n,_,e⟩:xs.length≤sizeLine∧∃(its:List Value) (n:Nat),aP xs its∧s.heap.get? a=some {cls:=.type "list",data:=.seq its.toArray n}:=I.hok a _ h;exact⟨_,e,(by show Value.type "list"≠.type "tuple";decide +kernel)⟩
 | ins C dx fs=>
  have x:=I.hok a _ h;obtain⟨_,_,_,e,_⟩:=x;exact⟨_,e,(by show Value.ref C≠.type "tuple";exact fun z=>by cases z)⟩
 | _=>exact absurd (show false=true from p) Bool.false_ne_true
theorem Ee (b:Expr){op:CmpOp}(h:op≠.In:=by decide)(h2:op≠.NotIn:=by decide):behindInMarks op b=false:=by
 have e1:(op==CmpOp.In)=false:=by cases op <;> first|rfl|exact absurd rfl h
 have e2:(op==CmpOp.NotIn)=false:=by cases op <;> first|rfl|exact absurd rfl h2
 cases b <;> simp[behindInMarks,e1,e2]
theorem AE {op:CmpOp}{r:R2}(ho:dM X (compareOp op) r)(ha:PE X a ta)(hb:PE X b tb)(hm:behindInMarks op b=false):PE X (.Compare a [op] [b] pos) (Fd r ta tb):=by
 intro af s σ H Q I h;exact wpAny_Compare1 (D7 ha hb I h fun v u s2 x y H2 I2 rx ry q=>ho af s2 σ H2 x y v u Q I2 rx ry q) hm
def Bk (t:TE):TT:=fun σ H Q=>t σ H fun x H'=>∃k,x=.bl k∧Q k H'
theorem zN {op:CmpOp}{r:R2}(ho:dM X (compareOp op) r)(ha:PE X a ta)(hb:PE X b tb)(hm:behindInMarks op b=false):PT X (.Compare a [op] [b] pos) (Bk (Fd r ta tb)):=by
 intro af s σ H Q I h;refine wpAny_isTrue_Compare1 (bW (ha af s σ H _ I h) fun v s1 ⟨x,H1,I1,r1,q1⟩=>bW (hb af s1 σ H1 _ I1 q1) fun u s2 ⟨y,H2,I2,r2,q2⟩=>
  bW (ho af s2 σ H2 x y v u _ I2 r1 r2 q2) fun c s3 hxx=>?_) hm
 obtain⟨z,H3,I3,r3,k,e,q3⟩:=hxx;subst e;cases r3;exact wpAny_truthy_bool ⟨H3,I3,q3⟩
def qT (r r':R2)(ta tb tc:TE):TE:=fun σ H Q=>ta σ H fun x H1=>tb σ H1 fun y H2=>r x y H2 fun z H3=>∃k,z=.bl k∧
 (if k=true then tc σ H3 fun w' H4=>r' y w' H4 Q else Q (.bl false) H3)
theorem xy {op op':CmpOp}{r r':R2}(ho:dM X (compareOp op) r)(ho':dM X (compareOp op') r')(ha:PE X a ta)(hb:PE X b tb)(hc:PE X c tc)
  (hm:lastMarks [op,op'] [b,c]=false:=by with_unfolding_all rfl):PE X (.Compare a [op,op'] [b,c] pos) (qT r r' ta tb tc):=by
 intro af s σ H Q I h;refine Compare_chain (bW (ha af s σ H _ I h) fun v s1 ⟨x,H1,I1,r1,q1⟩=>chain_link (bW (hb af s1 σ H1 _ I1 q1) fun u s2 ⟨y,H2,I2,r2,q2⟩=>
  bW (ho af s2 σ H2 x y v u _ I2 r1 r2 q2) fun d s3 hxx=>?_)) hm
 obtain⟨z,H3,I3,r3,k,e,q3⟩:=hxx;subst e;cases r3;refine wpAny_truthy_bool ?_;cases k with
 | false=>exact ite_ff ⟨.bl false,H3,I3,rfl,q3⟩
 | true=>exact ite_tt (chain_last (bW (hc af s3 σ H3 _ I3 q3) fun w' s4 ⟨z',H4,I4,r4,q4⟩=>ho' af s4 σ H4 y z' u w' Q I4 r2 r4 q4))
theorem xI {op op':CmpOp}{r r':R2}(ho:dM X (compareOp op) r)(ho':dM X (compareOp op') r')(ha:PE X a ta)(hb:PE X b tb)(hc:PE X c tc)
  (hm:lastMarks [op,op'] [b,c]=false:=by with_unfolding_all rfl):PT X (.Compare a [op,op'] [b,c] pos) (Bk (qT r r' ta tb tc)):=by
 intro af s σ H Q I h;refine isTrue_chain (bW (ha af s σ H _ I h) fun v s1 ⟨x,H1,I1,r1,q1⟩=>test_link (bW (hb af s1 σ H1 _ I1 q1) fun u s2 ⟨y,H2,I2,r2,q2⟩=>
  bW (ho af s2 σ H2 x y v u _ I2 r1 r2 q2) fun d s3 hxx=>?_)) hm
 obtain⟨z,H3,I3,r3,k,e,q3⟩:=hxx;subst e;cases r3;refine wpAny_truthy_bool ?_;cases k with
 | false=>
  obtain⟨k',e',q'⟩:=q3;cases e';exact ite_ff ⟨H3,I3,q'⟩
 | true=>
  refine ite_tt (test_last (bW (hc af s3 σ H3 _ I3 q3) fun w' s4 ⟨z',H4,I4,r4,q4⟩=>bW (ho' af s4 σ H4 y z' u w' _ I4 r2 r4 q4) fun d' s5 hxx=>?_));obtain⟨z2,H5,I5,r5,k2,e2,q5⟩:=hxx;subst e2;cases r5;exact wpAny_truthy_bool ⟨H5,I5,q5⟩
def GX (K:W.Frag)(x:V)(H:Hp)(k:Bool):Prop:=
 match x with
 | .non=>k=false
 | .bl b=>k=b
 | .int i=>k=(i != 0)
 | .str y=>y.length≤sizeLine∧k=((y.length:Int) != 0)
 | .byt y=>y.size≤sizeLine∧k=((y.size:Int) != 0)
 | .ref p=>(∃xs,jP K H p xs∧k=!xs.isEmpty)∨(∃xs,oF K H p xs∧k=!xs.isEmpty)∨∃kvs,H p=some (.dK kvs)∧k=!kvs.isEmpty
 | _=>False
theorem rV {κ:Type}{kvs:List (κ×V)}{vs:List (κ×Value)}(r:KV kvs vs):(!vs.isEmpty)=!kvs.isEmpty:=by
 cases r <;> rfl
theorem kP {xs:List V}{its:List Value}(r:aP xs its):(!its.toArray.isEmpty)=!xs.isEmpty:=by
 cases r <;> simp
theorem g9:(sizeLine:Nat)<2 ^ 63:=by rw[sizeLine_eq];decide
theorem CM:Ji X (fun x H Q=>∃k,GX X.K x H k∧Q k H):=by
 intro af s σ H x v Q I rx h;obtain⟨k,e,q⟩:=h;have hl:=g9;have hs:sizeLine=16777216:=sizeLine_eq;cases x with
 | non=>
  cases rx;have e':k=false:=e;subst e';exact truthy_none ⟨H,I,q⟩
 | bl b=>
  cases rx;have e':k=b:=e;subst e';exact wpAny_truthy_bool ⟨H,I,q⟩
 | int i=>
  obtain⟨t,rfl⟩:=rx;have e':k=(i != 0):=e;subst e';exact PySem.P.truthy_int ⟨H,I,q⟩
 | str y=>
  obtain⟨t,rfl⟩:=rx;obtain⟨hy,e'⟩:y.length≤sizeLine∧k=((y.length:Int) != 0):=e;subst e';exact PySem.P.truthy_str (by omega) ⟨H,I.tok _,q⟩
 | byt y=>
  obtain⟨t,rfl⟩:=rx;obtain⟨hy,e'⟩:y.size≤sizeLine∧k=((y.size:Int) != 0):=e;subst e';exact W.truthy_bytes (by omega) ⟨H,I.tok _,q⟩
 | ref p=>
  cases rx;have e':(∃xs,jP X.K H p xs∧k=!xs.isEmpty)∨(∃xs,oF X.K H p xs∧k=!xs.isEmpty)∨∃kvs,H p=some (.dK kvs)∧k=!kvs.isEmpty:=e;rcases e' with⟨xs,hx,e'⟩|⟨xs,hx,e'⟩|⟨kvs,hx,e'⟩
  ·subst e';obtain⟨its,r,pl,hz⟩:=I.list hx;have hlen:=r.length;exact wpAny_truthy_list pl.isList (by simp only[size_toArray];omega) ⟨H,I.tok _,by rw[kP r];exact q⟩
  ·subst e';obtain⟨its,r,pl,hz⟩:=I.tuple hx;have hlen:=r.length;exact truthy_tuple pl (by simp only[size_toArray];omega) ⟨H,I.tok _,by rw[kP r];exact q⟩
  ·subst e';obtain⟨hz,hS,vs,r,m⟩:kvs.length≤sizeLine∧(p==sysModules)=false∧∃vs,KV kvs vs∧s.heap.DictOf (b8 X.prog X.w) p vs:=I.hok p _ hx;have hlen:kvs.length=vs.length:=Paired.length r;exact wpAny_truthy_dict hS m (by omega) ⟨H,I.tok _,by rw[rV r];exact q⟩
 | _=>exact(show False from e).elim
theorem wJ (ha:PE X a ta)(he:∀whole,isTrue a X.env whole=(do let v ←whole;standAt a.pos;holding [v] (truthy v))) :
  PT X a (fun σ H Q=>ta σ H fun x H'=>∃k,GX X.K x H' k∧Q k H'):=by
 intro af s σ H Q I h;exact isTrue_plain (bW (ha af s σ H _ I h) fun v s1 ⟨x,H1,I1,r1,q1⟩=>CM af s1 σ H1 x v Q I1 r1 q1) (he _)
theorem qY:dM X (binaryOp .Add) (fun x y H Q=>∃i j,x=.str i∧y=.str j∧i.length+j.length≤sizeLine∧Q (.str (i++j)) H):=by
 intro af s σ H x y v u Q I rx ry h;obtain⟨i,j,rfl,rfl,hz,q⟩:=h;obtain⟨t,rfl⟩:=rx;obtain⟨t',rfl⟩:=ry;exact add_str (fun t' tk=>⟨.str (i++j),H,I.tok _,⟨_,rfl⟩,q⟩) hz
theorem ki {x:V}{us:List Value}(r:aP [x] us):∃u,us=[u]∧RelV x u:=by
 cases r with
 | cons r1 r2=>cases r2;exact⟨_,rfl,r1⟩
theorem wd {x y:V}{us:List Value}(r:aP [x,y] us):∃u w',us=[u,w']∧RelV x u∧RelV y w':=by
 cases r with
 | cons r1 r2=>
  cases r2 with
  | cons r3 r4=>cases r4;exact⟨_,_,rfl,r1,r3⟩
theorem t9 (hc:X.calm=true):cx X (.builtin "min") (fun xs H Q=>∃i j,xs=[.int i,.int j]∧Q (.int (if j<i then j else i)) H):=by
 intro af s σ H xs us Q I r h;obtain⟨i,j,rfl,q⟩:=h;obtain⟨u,w',rfl,⟨t,rfl⟩,⟨t',rfl⟩⟩:=wd r;refine min_two_ints (I.ok.hd hc) fun h' tk k=>⟨_,H,I.kept k,?_,q⟩
 by_cases hj:j<i
 ·rw[if_pos hj,if_pos hj];exact⟨_,rfl⟩
 ·rw[if_neg hj,if_neg hj];exact⟨_,rfl⟩
theorem m5:cx X (.type "int") (fun xs H Q=>(∃i,xs=[.int i]∧Q (.int i) H)∨∃k,xs=[.bl k]∧Q (.int (if k then 1 else 0)) H):=by
 intro af s σ H xs us Q I r h;rcases h with⟨i,rfl,q⟩|⟨k,rfl,q⟩
 ·obtain⟨u,rfl,t,rfl⟩:=ki r;exact call_int_int ⟨.int i,H,I,⟨_,rfl⟩,q⟩
 ·obtain⟨u,rfl,r1⟩:=ki r;cases r1;exact call_int_bool ⟨.int (if k then 1 else 0),H,I.tok _,⟨_,rfl⟩,q⟩
end
theorem qD.some_of {v:V}{o:Option Value}(r:qD (some v) o):∃u,o=some u∧RelV v u:=by
 cases o with
 | none=>exact(show False from r).elim
 | some u=>exact⟨u,rfl,r⟩
structure J2 (K:W.Frag)(C:Addr):Prop where
 pg:W.plainGet K C Str.empty=true
 hd:W.hasDictIn K C=true
 po:W.plainOver K C=true
 sa:W.findIn K (.ref C) "__setattr__"=some (some (.builtin "object.__setattr__"))
def Es (K:W.Frag)(C:Addr)(f:Str):Prop:=W.findIn K (.ref C) f=some none
structure HM (K:W.Frag)(C:Addr)(m:Str)(f:Addr):Prop where
 at_:W.findIn K (.ref C) m=some (some (.ref f))
 fn:W.isFn K (.ref f)=true
 kp:W.keepIn K (.ref f)=true
def Cy (X:Cx)(op:Operator)(rd:V→V→Hp→VK→Prop):Prop:=
 ∀(af:List (Addr×Obj)) (s:Shared) (σ:St) (H:Hp) (x y:V) (u v:Value) (Q:VK),Inv X af σ H s→RelV x u→RelV y v→rd x y H Q→wpAny (model X.prog X.w) X.A (inplaceOp op u v) (EP X af σ Q) X.xe s
section
variable {X:Cx}{o e value:Expr}{f:Str}{pos pos' tpos:Pos}{ta tv:TE}
def IA:V→V→Hp→VK→Prop:=fun x y H Q=>∃i j,x=.int i∧y=.int j∧Q (.int (i+j)) H
theorem B6:Cy X .Add IA:=by
 rintro af s σ H x y u v Q I rx ry ⟨i,j,rfl,rfl,q⟩;obtain⟨t,rfl⟩:=(show∃t,u=Value.int i t from rx);obtain⟨t',rfl⟩:=(show∃t',v=Value.int j t' from ry);exact PyProof.Rows.iadd_int ⟨.int (i+j),H,I.tok _,⟨_,rfl⟩,q⟩
end
structure cB (k:Nat)(A:Around):Prop where
 hd:A.handled=none
 dp:A.depth+3*k+5<recursionLimit
 un:A.units+16*k+200<cLine
theorem cB.mono {j k:Nat}{A:Around}(r:cB k A)(h:j≤k):cB j A:=⟨r.hd,by have:=r.dp;omega,by have:=r.un;omega⟩
theorem cB.deeper {k:Nat}{A:Around}(r:cB (k+1) A)(env:Env):cB k (A.deeper env):=
 ⟨r.hd,by have:=r.dp;show A.depth+1+3*k+5<_;omega,by have:=r.un;show A.units+3+16*k+200<_;omega⟩
theorem cB.in1 {k:Nat}{A:Around}(r:cB (k+1) A):cB k A.in1:=
 ⟨r.hd,by have:=r.dp;show A.depth+3*k+5<_;omega,by have:=r.un;show A.units+1+16*k+200<_;omega⟩
theorem cB.depth {k:Nat}{A:Around}(r:cB k A):A.depth<recursionLimit:=by have:=r.dp;omega
theorem cB.units {k:Nat}{A:Around}(r:cB k A):A.units+64<cLine:=by have:=r.un;omega
def zK:TA:=fun _ H Q=>Q [] H
def o9 (ta:TE)(tr:TA):TA:=fun σ H Q=>ta σ H fun x H1=>tr σ H1 fun xs H2=>Q (x::xs) H2
section
variable {X:Cx}{e:Expr}{es:List Expr}{te:TE}{t:TA}{pos:Pos}
theorem dX:PA X [] zK:=fun _ _ _ _ H Q I h=>Calls.spliced_nil ⟨[],H,I,.nil,h⟩
theorem b9 (ha:PE X e te)(hr:PA X es t)(hs:starEach (e::es) X.env=(false,eval e X.env)::starEach es X.env:=by rfl):PA X (e::es) (o9 te t):=by
 intro pos af s σ H Q I h;rw[hs];show wpAny _ _ (spliced ((false,eval e X.env)::backTo pos (starEach es X.env))) _ _ s;refine Calls.spliced_cons (bW (ha af s σ H _ I h) fun u s1 hxx=>?_);obtain⟨x,H1,I1,r1,q1⟩:=hxx;exact bW (hr pos af s1 σ H1 _ I1 q1) fun us s2 ⟨xs,H2,I2,r2,q2⟩=>⟨x::xs,H2,I2,.cons r1 r2,q2⟩
def Iz (t:TA):TE:=fun σ H Q=>t σ H fun xs H1=>xs.length≤sizeLine∧∀p,H1 p=none→Q (.ref p) (cp H1 p (.tup xs))
def HR (t:TA):TE:=fun σ H Q=>t σ H fun xs H1=>xs.length≤sizeLine∧∀p,H1 p=none→Q (.ref p) (cp H1 p (.lst xs))
theorem Cj {x1}(h:PA X es t):PE X (.Tuple es x1 pos) (Iz t):=by
 intro af s σ H Q I hq;refine wpAny_Tuple_spliced (bW (h pos af s σ H _ I hq) fun us s1 ⟨xs,H1,I1,r,z,q⟩=>⟨by rw[←r.length];exact z,?_⟩);have hf:H1 s1.heap.objs.size=none:=I1.hok.fresh (Nat.le_refl _);refine⟨.ref s1.heap.objs.size,cp H1 s1.heap.objs.size (.tup xs),I1.laid (t':=s1.toks) (fun b u e=>Heap.get?_push_of_some _ e) (Nat.le_refl _) ?_,rfl,q _ hf⟩;exact⟨z,us,r,⟨_,Heap.get?_push_size _ rfl,rfl,_,rfl⟩⟩
theorem ye (h:PA X es t):PE X (.List es pos) (HR t):=by
 intro af s σ H Q I hq;refine wpAny_List_spliced (bW (h pos af s σ H _ I hq) fun us s1 ⟨xs,H1,I1,r,z,q⟩=>⟨by rw[←r.length];exact z,?_⟩);have hf:H1 s1.heap.objs.size=none:=I1.hok.fresh (Nat.le_refl _);refine⟨.ref s1.heap.objs.size,cp H1 s1.heap.objs.size (.lst xs),I1.laid (t':=s1.toks) (fun b u e=>Heap.get?_push_of_some _ e) (Nat.le_refl _) ?_,rfl,q _ hf⟩;exact⟨z,us,0,r,Heap.get?_push_size _ rfl⟩
end
abbrev Sp:=List V→Hp→VK→XK→Prop
abbrev vI:=List Env→Hp→Shared→XK→Value→Shared→Prop
structure zM (P:Program)(w:World)(K:W.Frag)(mg:Str→Option Value)(base:Heap)(A:Around)(outer:List Env)(s:Shared)(H:Hp):Prop where
 frames:A.frames=some outer
 mod:Mod K mg base
 bs:∀b o,base.get? b=some o→s.heap.get? b=some o∧H b=none
 bsz:base.objs.size≤s.heap.objs.size
 funs:s.heap.FunFrames base outer
 frf:∀b∈la outer,H b=none
 hok:iY P w H s.heap
 bare:AllBare s.gens
def CE (outer:List Env)(P:Program)(w:World)(H:Hp)(s:Shared)(Q:VK)(u:Value)(s':Shared):Prop:=
 ∃v H',s'.os=s.os∧AllBare s'.gens∧Un (la outer) [] H H' s.heap s'.heap∧iY P w H' s'.heap∧RelV v u∧Q v H'
def CR (CX:vI)(outer:List Env)(P:Program)(w:World)(H:Hp)(s:Shared)(Q:VK)(E:XK)(r:Result)(s':Shared):Prop:=
 match r with
 | .ok (.ret u)=>CE outer P w H s Q u s'
 | .ok _=>False
 | .error e=>CX outer H s E e s'
structure fU (P:Program)(w:World)(K:W.Frag)(mg:Str→Option Value)(base:Heap)(CX:vI)(k:Nat)(f:Addr)(fd:FuncData)(ps:List Str)(sp:Sp):Prop where
 len:∀vs H Q E,sp vs H Q E→vs.length=ps.length
 run:∀(A:Around) (outer:List Env) (s:Shared) (H:Hp) (args:Args) (us:List Value) (vs:List V) (Q:VK) (E:XK),cB k A→zM P w K mg base A outer s H→BindsTo s fd args (ps.zip us)→aP vs us→sp vs H Q E→
  codeAny (model P w) A (.call (.ref f) args) (CR CX outer P w H s Q E) s
theorem fU.imp {P:Program}{w:World}{K:W.Frag}{mg:Str→Option Value}{base:Heap}{CX:vI}{k:Nat}{f:Addr}{fd:FuncData}{ps:List Str}{sp sp':Sp}(F:fU P w K mg base CX k f fd ps sp)
  (h:∀vs H Q E,sp' vs H Q E→sp vs H Q E):fU P w K mg base CX k f fd ps sp':=
 ⟨fun vs H Q E q=>F.len vs H Q E (h _ _ _ _ q),fun A outer s H args us vs Q E hr he hb hv hs=>F.run A outer s H args us vs Q E hr he hb hv (h _ _ _ _ hs)⟩
section
variable {X:Cx}{af:List (Addr×Obj)}{σ:St}{H:Hp}{s s':Shared}
theorem Inv.env0 (I:Inv X af σ H s):zM X.prog X.w X.K X.mg X.base X.A X.stack s H:=
 ⟨I.ok.frames,I.ok.mod,I.bs,Nat.le_trans I.ok.bsz I.sz,I.stack,I.stkFree,I.hok,I.bare⟩
theorem Inv.after {Q:VK}{u:Value}(I:Inv X af σ H s)(h:CE X.stack X.prog X.w H s Q u s'):EP X af σ Q u s':=by
 obtain⟨v,H',os,bare,un,hok,r,q⟩:=h;obtain⟨hh,g,d,t,os'⟩:=s';obtain rfl:os'=s.os:=os;exact⟨v,H',I.call (h':=hh) (g':=g) (d':=d) (t':=t) (ch:=[]) un hok bare (fun b z=>absurd z (by simp)),r,q⟩
end
def Fu (sp:Sp)(dvs:List V)(E:XK)(t:TA):TE:=fun σ H Q=>t σ H fun vs H1=>sp (vs++dvs) H1 Q E
def ib (K:W.Frag)(fd:FuncData)(ps:List Str)(ds:List Value):Prop:=
 ∀(s:Shared) (us:List Value),K.In s.heap→(us++ds).length=ps.length→BindsTo s fd ⟨us,[]⟩ (ps.zip (us++ds))
theorem ib.all {K:W.Frag}{fd:FuncData}{ps:List Str}(h:∀us:List Value,us.length=ps.length→bindArgs fd ⟨us,[]⟩=pure (ps.zip us)):ib K fd ps []:=fun s us _ hl=>by
 rw[append_nil] at hl ⊢;exact .of_eq (h us hl)
def rJ (CX:vI)(X:Cx)(E:XK):Prop:=∀(af:List (Addr×Obj)) (σ:St) (H:Hp) (s:Shared) (e:Value) (s':Shared),Inv X af σ H s→CX X.stack H s E e s'→X.xe e s'
section
variable {X:Cx}{CX:vI}{k:Nat}{f C:Addr}{fd:FuncData}{ps:List Str}{sp:Sp}{dvs:List V}{ds:List Value}{E:XK}{x m:Str}{p pos apos:Pos}{e o:Expr}{es:List Expr}{ta:TE}{t:TA}
theorem EC {af:List (Addr×Obj)}{σ:St}{H:Hp}{s:Shared}{Q:VK}{us:List Value}{vs:List V}(F:fU X.prog X.w X.K X.mg X.base CX k f fd ps sp)(hr:cB k X.A)(hb:ib X.K fd ps ds)(hd:aP dvs ds)(hx:rJ CX X E)
  (I:Inv X af σ H s) (r:aP vs us) (h:sp (vs++dvs) H Q E):wpAny (model X.prog X.w) X.A (call (.ref f) us) (EP X af σ Q) X.xe s:=by
 have r2:aP (vs++dvs) (us++ds):=r.append hd;have hl:(us++ds).length=ps.length:=by rw[←r2.length];exact F.len _ _ _ _ h
 refine wpAny_call (codeAny_mono (F.run X.A X.stack s H ⟨us,[]⟩ (us++ds) (vs++dvs) Q E hr I.env0 (hb s us I.kIn hl) r2 h) fun r s' hq=>?_);cases r with
 | error e=>exact hx af σ H s e s' I hq
 | ok fl=>
  cases fl with
  | ret u=>exact I.after hq
  | next=>exact False.elim hq
  | brk=>exact False.elim hq
  | cont=>exact False.elim hq
theorem zD (F:fU X.prog X.w X.K X.mg X.base CX k f fd ps sp)(hr:cB k X.A)(hg:Gl X x)(hm:X.mg x=some (.ref f))(hk:W.keepIn X.K (.ref f)=true)(hb:ib X.K fd ps ds)(hd:aP dvs ds)(hx:rJ CX X E)
  (ha:PA X (e::es) t) (hdb:(x==("__debug__":Str))=false:=by decide) (he:starEach (e::es) X.env=(false,eval e X.env)::starEach es X.env:=by rfl) (hpl:(backTo pos (starEach es X.env)).any (·.1)=false:=by rfl) :
  PE X (.Call (.Name x p) (e::es) [] pos) (Fu sp dvs E t):=by
 intro af s σ H Q I h;refine wpAny_Call_Name_kw (kN I hg hm ?_ hdb);refine W.callWith_K (h₀:=X.base) I.ok.mod.kin hk (bW (ha pos af s σ H _ I h) fun us s1 ⟨vs,H1,I1,r,q⟩=>⟨I1.kIn,?_⟩) he hpl;exact EC F hr hb hd hx I1 r q
end
structure iu (N P:List Str)(sc:Scope):Prop where
 kind:sc.kind=.function
 co:sc.isCoroutine=false
 gen:sc.isGenerator=false
 nd:N.Nodup
 pre:N.take P.length=P
 par:∀x∈P,sc.names.lookup x=some .local∨sc.names.lookup x=some .cell
 nofree:∀y∈sc.names,y.2≠.free
theorem m3 {kindOf:Str→Option NameKind}{x:Str}:∀{binds:List (Str×Value)} {m:Str→Option Value},(∀v,(x,v)∉binds)→bindL kindOf binds m x=m x
 | [],_,_=>rfl
 | (n,v)::r,m,h=>by
  unfold bindL;rw[m3 fun w hw=>h w (mem_cons_of_mem _ hw)];split
  ·have:x≠n:=by rintro rfl;exact h v mem_cons_self
   simp[this]
  ·rfl
theorem nz {kindOf:Str→Option NameKind}{x:Str}:∀{binds:List (Str×Value)} {m:Str→Option Value},(∀v,(x,v)∉binds)→bindC kindOf binds m x=m x
 | [],_,_=>rfl
 | (n,v)::r,m,h=>by
  unfold bindC;rw[nz fun w hw=>h w (mem_cons_of_mem _ hw)];split
  ·rfl
  ·have:x≠n:=by rintro rfl;exact h v mem_cons_self
   simp[this]
theorem mR {kindOf:Str→Option NameKind}{x:Str}{v:Value}:∀{P:List Str} {vs:List Value} {i:Nat} {m:Str→Option Value},P.Nodup→P[i]?=some x→vs[i]?=some v→kindOf x=some .local→
  bindL kindOf (P.zip vs) m x=some v
 | [],_,_,_,_,h,_,_=>by simp at h
 | _::_,[],_,_,_,_,h,_=>by simp at h
 | p::P,w::vs,0,m,nd,h1,h2,hk=>by
  simp at h1 h2;subst h1;subst h2;show bindL kindOf ((p,w)::P.zip vs) m p=_;unfold bindL;rw[m3 fun v hv=>(nodup_cons.mp nd).1 (of_mem_zip hv).1,if_pos hk];simp
 | p::P,w::vs,i+1,m,nd,h1,h2,hk=>by
  show bindL kindOf ((p,w)::P.zip vs) m x=_;unfold bindL;exact mR (i:=i) (nodup_cons.mp nd).2 (by simpa using h1) (by simpa using h2) hk
theorem nv {kindOf:Str→Option NameKind}{x:Str}{v:Value}:∀{P:List Str} {vs:List Value} {i:Nat} {m:Str→Option Value},P.Nodup→P[i]?=some x→vs[i]?=some v→kindOf x≠some .local→
  bindC kindOf (P.zip vs) m x=some v
 | [],_,_,_,_,h,_,_=>by simp at h
 | _::_,[],_,_,_,_,h,_=>by simp at h
 | p::P,w::vs,0,m,nd,h1,h2,hk=>by
  simp at h1 h2;subst h1;subst h2;show bindC kindOf ((p,w)::P.zip vs) m p=_;unfold bindC;rw[nz fun v hv=>(nodup_cons.mp nd).1 (of_mem_zip hv).1,if_neg hk];simp
 | p::P,w::vs,i+1,m,nd,h1,h2,hk=>by
  show bindC kindOf ((p,w)::P.zip vs) m x=_;unfold bindC;exact nv (i:=i) (nodup_cons.mp nd).2 (by simpa using h1) (by simpa using h2) hk
def start (N:List Str)(vs:List V):St:=vs.map some++List.replicate (N.length-vs.length) none
def jm (CX:vI)(P:Program)(w:World)(K:W.Frag)(mg:Str→Option Value)(base:Heap)(N:List Str)(qual:Str)(scope:Scope)(f:Addr)(cd:Value)(A:Around)(outer:List Env)(s:Shared)(H:Hp)(E:XK):Cx where
 prog:=P
 w:=w
 K:=K
 mg:=mg
 base:=base
 A:=A.deeper (envOfC qual scope s.heap.objs.size f cd)
 N:=N
 s₀:=s
 H₀:=H
 env:=envOfC qual scope s.heap.objs.size f cd
 outer:=outer
 stack:=envOfC qual scope s.heap.objs.size f cd::outer
 ex:=[]
 calm:=true
 fn:=fun _=>true
 pn:=[]
 xe:=fun e s'=>wpAny (model P w) (A.deeper (envOfC qual scope s.heap.objs.size f cd)) (leaving (envOfC qual scope s.heap.objs.size f cd) e) (fun _ s''=>CX outer H s E e s'') (fun e' s''=>CX outer H s E e' s'') s'
theorem o0 {sc:Scope}{n:Nat}{x:Str}(h:sc.names.lookup x=some .cell):∃c,(cellsFrom n sc.names []).lookup x=some c:=by
 have q:=W.cellsFrom_some sc.names n [] (.inl h);exact Option.isSome_iff_exists.mp q
theorem uG {CX:vI}{P:Program}{w:World}{K:W.Frag}{mg:Str→Option Value}{base:Heap}{N ps:List Str}{qual:Str}{scope:Scope}{f:Addr}{cd:Value}{A:Around}{outer:List Env}{s s1:Shared}{H:Hp}{E:XK}{us:List Value}{vs:List V}
  (S:iu N ps scope) (hd:A.handled=none) (e0:zM P w K mg base A outer s H) (hl:vs.length=ps.length) (r:aP vs us)
  (x:InCallC s s.heap.objs.size (bindL (envOfC qual scope s.heap.objs.size f cd).kindOf (ps.zip us) fun _=>none) (cellsFrom (s.heap.objs.size+1) scope.names []) (bindC (envOfC qual scope s.heap.objs.size f cd).kindOf (ps.zip us) fun _=>none) s1) :
  Inv (jm CX P w K mg base N qual scope f cd A outer s H E) [] (start N vs) H s1:=by
 have hpl:ps.length≤N.length:=by have:=congrArg List.length S.pre;rw[length_take] at this;omega
 obtain⟨h1,tk,rfl,hk⟩:=x.done;have noA:∀b:Addr,b∉(jm CX P w K mg base N qual scope f cd A outer s H E).ex:=fun b z=>absurd (show b∈([]:List Addr) from z) (by simp)
 refine⟨⟨e0.mod,S.kind,rfl,rfl,Nat.le_refl _,fun y z c h1 h2=>?_,fun y hy=>?_,fun y c _ h=>?_,fun _=>hd,Around.frames_deeper e0.frames,.inr ⟨rfl,rfl⟩,fun b z=>absurd z (noA b),e0.bs,e0.bsz,fun b _ _=>noA b,fun b z=>absurd z (noA b),e0.funs,e0.frf⟩,
  rfl,e0.bare,Un.kept hk,⟨_,x.toInCall.ns,fun i y v h1 h2 h3=>?_⟩,fun y c h=>⟨_,x.cell y c h⟩,e0.hok.fresh (Nat.le_refl _),fun y c h=>?_,fun p hp=>absurd (show p∈([]:List (Addr×Obj)) from hp) (by simp),e0.hok.kept hk,?_⟩
 ·exact name_of_addr x.apart (PySem.mem_of_lookup h1) (PySem.mem_of_lookup h2)
 ·have hy:scope.names.lookup y=some .cell∨scope.names.lookup y=some .free:=hy;rcases hy with hy|hy
  ·exact o0 hy
  ·exact absurd rfl (S.nofree _ (PySem.mem_of_lookup hy))
 ·exact Nat.le_of_lt (x.above y c (PySem.mem_of_lookup h))
 ·have hi:i<vs.length:=by
   unfold start at h2
   by_cases hi:i<vs.length
   ·exact hi
   ·rw[getElem?_append_right (by simpa using hi)] at h2;rw[getElem?_replicate] at h2;split at h2 <;> cases h2
  have ha:vs[i]?=some v:=by
   unfold start at h2;rw[getElem?_append_left (by simpa using hi),getElem?_map] at h2;cases e:vs[i]? with
   | none=>rw[e] at h2;cases h2
   | some a=>rw[e] at h2;cases h2;rfl
  obtain⟨u,hu,rv⟩:=r.get ha;have hp:ps[i]?=some y:=by
   rw[←S.pre,getElem?_take_of_lt (by omega)];exact h1
  have ndP:ps.Nodup:=by rw[←S.pre];exact S.nd.sublist (take_sublist _ _)
  refine⟨u,rv,?_⟩;rcases S.par y (mem_of_getElem? hp) with k|k
  ·exact .inl ⟨k,mR ndP hp hu k⟩
  ·obtain⟨c,e⟩:=o0 (n:=s.heap.objs.size+1) k;refine .inr ⟨.inl k,c,e,?_⟩;have q:=x.cell y c e;rw[nv ndP hp hu (by show scope.names.lookup y≠_;rw[k];decide)] at q;exact q
 ·exact e0.hok.fresh (Nat.le_of_lt (x.above y c (PySem.mem_of_lookup h)))
 ·unfold start;show _=N.length;rw[length_append,length_map,length_replicate];omega
theorem EV {CX:vI}{P:Program}{w:World}{K:W.Frag}{mg:Str→Option Value}{base:Heap}{k:Nat}{f:Addr}{name qual:Str}{params:Arguments}{body:List Stmt}{scope:Scope}{dV kV doc pm cdv ct oc:Value}{an od:Option Addr}
  {osl:Array (Option Value)} {N ps:List Str} {sp:Sp} (lk:K.lookup f=some ⟨oc,od,.func (W.fnOf name qual params body scope dV kV doc pm an cdv ct),osl⟩) (hcd:W.codeIn K cdv qual=true) (S:iu N ps scope)
  (len:∀vs H Q E,sp vs H Q E→vs.length=ps.length)
  (hbody:∀(A:Around) (outer:List Env) (s:Shared) (H:Hp) (vs:List V) (Q:VK) (E:XK),cB k (A.deeper (envOfC qual scope s.heap.objs.size f cdv))→sp vs H Q E→
   ∃t,PSs (jm CX P w K mg base N qual scope f cdv A outer s H E) body t∧t {nx:=fun _ H'=>Q .non H',rt:=Q} (start N vs) H) :
  fU P w K mg base CX (k+1) f (W.fnOf name qual params body scope dV kV doc pm an cdv ct) ps sp:=by
 refine⟨len,fun A outer s H args us vs Q E hr e0 hb r hsp=>?_⟩;have hl:=len _ _ _ _ hsp;have KX:K.In s.heap:=e0.mod.kin.keeps fun b o e=>(e0.bs b o e).1
 have lim:s.heap.NoLimit:=e0.mod.nolimit.keeps fun b o e=>(e0.bs b o e).1
 have hkind:∀y∈ps.zip us,scope.names.lookup y.1=some .local∨(scope.names.lookup y.1=some .cell∧((cellsFrom (s.heap.objs.size+1) scope.names []).lookup y.1).isSome=true):=fun⟨n,v⟩ hy=>by
  rcases S.par n (of_mem_zip hy).1 with q|q
  ·exact .inl q
  ·exact .inr ⟨q,W.cellsFrom_some _ _ _ (.inl q)⟩
 refine codeAny_call_function hr.depth (KX _ _ lk) rfl S.co S.gen rfl (W.codeRec_of KX hcd) (hb _ _ _ _ ?_);refine wpAny_newFunctionEnv_cells S.kind hkind fun env he s1 x=>?_
 subst he;refine⟨lim.keeps x.toInCall.keep,codeAny_func ?_⟩;obtain⟨t,ht,hq⟩:=hbody A outer s H vs Q E (hr.deeper _) hsp;have I:Inv (jm CX P w K mg base N qual scope f cdv A outer s H E) [] (start N vs) H s1:=uG S hr.hd e0 hl r x;refine wpAny_mono (ht [] s1 (start N vs) H _ I hq) (fun fl s' hs=>?_) fun e s' hs=>hs
 have fin:∀{σ':St} {H':Hp} {v:V} {u:Value},Inv (jm CX P w K mg base N qual scope f cdv A outer s H E) [] σ' H' s'→RelV v u→Q v H'→CE outer P w H s Q u s':=
  fun {σ' H' v u} J rv q=>⟨v,H',J.os,J.bare,J.base,J.hok,rv,q⟩
 cases fl with
 | ret u=>
  obtain⟨v,σ',H',J,rv,q⟩:=hs;exact fin J rv q
 | next=>
  obtain⟨σ',H',J,q⟩:=hs;exact fin (v:=V.non) (u:=Value.none) J rfl q
 | brk=>
  obtain⟨_,_,_,q⟩:=hs;exact False.elim q
 | cont=>
  obtain⟨_,_,_,q⟩:=hs;exact False.elim q
section
variable {X:Cx}{x:Str}{p pos:Pos}{e:Expr}{es:List Expr}{t:TA}{id T:String}{r:List V→Hp→VK→Prop}
def Hz (r:List V→Hp→VK→Prop)(t:TA):TE:=fun σ H Q=>t σ H fun vs H1=>r vs H1 Q
theorem jF (hc:cx X (.builtin id) r)(hg:Gl X x)(hm:X.mg x=none)(hv:bootBuiltins x=some (.builtin id))(ha:PA X (e::es) t)(hn:x≠"__name__":=by decide)(hdb:(x==("__debug__":Str))=false:=by decide)
  (he:starEach (e::es) X.env=(false,eval e X.env)::starEach es X.env:=by rfl) (hpl:(backTo pos (starEach es X.env)).any (·.1)=false:=by rfl):PE X (.Call (.Name x p) (e::es) [] pos) (Hz r t):=by
 intro af s σ H Q I h;refine wpAny_Call_Name_kw (iR I hg hm hv ?_ hn hdb);exact PyProof.Rows.callWith_builtin1 (bW (ha pos af s σ H _ I h) fun us s1 ⟨vs,H1,I1,r1,q1⟩=>hc af s1 σ H1 vs us Q I1 r1 q1) he hpl
theorem vd (hc:cx X (.type T) r)(hg:Gl X x)(hm:X.mg x=none)(hv:bootBuiltins x=some (.type T))(ha:PA X (e::es) t)(hn:x≠"__name__":=by decide)(hdb:(x==("__debug__":Str))=false:=by decide)
  (he:starEach (e::es) X.env=(false,eval e X.env)::starEach es X.env:=by rfl) (hpl:(backTo pos (starEach es X.env)).any (·.1)=false:=by rfl):PE X (.Call (.Name x p) (e::es) [] pos) (Hz r t):=by
 intro af s σ H Q I h;refine wpAny_Call_Name_kw (iR I hg hm hv ?_ hn hdb);exact PyProof.Rows.callWith_type1 (bW (ha pos af s σ H _ I h) fun us s1 ⟨vs,H1,I1,r1,q1⟩=>hc af s1 σ H1 vs us Q I1 r1 q1) he hpl
end
end L2
namespace HT
open PySem PyProof.Rows
theorem rcLt_int (A:Around)(s:Shared)(a:Int)(t:Tok)(c:Int)(u:Tok)(prog:Program)(w:World)(E:Value→Shared→Prop)(Q:Value→Shared→Prop)(h:Q (.bool (decide (a<c))) s) :
  wpAny (model prog w) A (richCompare .Lt (.int a t) (.int c u)) Q E s:=
 (PyProof.Rows.lt_int h:wpAny (model prog w) A (compareOp .Lt (.int a t) (.int c u)) Q E s)
section
open PySem.SeqAt
open PySem.AutoSeq1 (wpAny_loadPart')
open PySem.MeetsSeq PySem.MeetsSeq2 PySem.MeetsSeq3
end
section
variable {prog:Program}{w:World}{A:Around}{E:Value→Shared→Prop}{s:Shared}
theorem cat_tup {t b:Addr}{vs ws:List Value}{Q:Value→Shared→Prop}(ht:IsTup s.heap t vs.toArray)(hb:IsTup s.heap b ws.toArray)(hv:vs≠[])
  (h1:ws=[]→Q (.ref t) s) (h2:ws≠[]→Q (.ref s.heap.objs.size) {s with heap:=s.heap.push {cls:=.type "tuple",data:=.seq (vs++ws).toArray}})
  (hsz:vs.length+ws.length≤sizeLine):wpAny (model prog w) A (binaryOp .Add (.ref t) (.ref b)) Q E s:=by
 obtain⟨⟨cls,dd,data,sl⟩,ho,hc,n,hd⟩:=id ht;obtain⟨⟨cls2,dd2,data2,sl2⟩,ho2,hc2,n2,hd2⟩:=id hb;simp only at hc hd hc2 hd2;subst hc hd hc2 hd2;have e:vs.toArray++ws.toArray=(vs++ws).toArray:=by simp
 by_cases hw:ws=[]
 ·exact concat_meets ⟨_,ho,rfl⟩ ⟨_,ho2,rfl⟩ noFill_tuple_add seq_tuple_add PySem.F.slot_tuple_add PySem.F.entry_tuple_add (PySem.F.args_tuple_add_2 _ _)
   (tuple_addW1 t b vs.toArray ws.toArray n n2 dd dd2 sl sl2 (by simpa using hv) (by simp[hw])) ⟨ho,ho2,h1 hw⟩
 ·refine concat_meets ⟨_,ho,rfl⟩ ⟨_,ho2,rfl⟩ noFill_tuple_add seq_tuple_add PySem.F.slot_tuple_add PySem.F.entry_tuple_add (PySem.F.args_tuple_add_2 _ _)
   (tuple_addW2 t b vs.toArray ws.toArray n n2 dd dd2 sl sl2 (by simpa using hv) (by simpa using hw) (by rw[List.size_toArray,List.size_toArray];exact hsz)) ⟨ho,ho2,?_⟩
  rw[e];exact h2 hw
def sIx (n d:Nat):Option Int→Nat
 | none=>d
 | some v=>if v<0 then(v+(n:Int)).toNat else min v.toNat n
theorem sIx_none (n d:Nat):sIx n d none=d:=rfl
theorem sIx_nat (n d k:Nat):sIx n d (some (k:Int))=min k n:=by
 show(if(k:Int)<0 then((k:Int)+(n:Int)).toNat else min (k:Int).toNat n)=min k n;rw[if_neg (by omega),Int.toNat_natCast]
theorem sIx_le (n d:Nat)(hd:d≤n)(o:Option Int):sIx n d o≤n:=by
 cases o with
 | none=>exact hd
 | some v=>
  show(if v<0 then(v+(n:Int)).toNat else min v.toNat n)≤n
  by_cases hv:v<0
  ·rw[if_pos hv];omega
  ·rw[if_neg hv];exact Nat.min_le_right _ _
theorem sC (v:Int)(n d:Nat):(if v<0 then max (v+(n:Int)) 0 else min v (n:Int))=((sIx n d (some v):Nat):Int):=by
 show(if v<0 then max (v+(n:Int)) 0 else min v (n:Int))=(((if v<0 then(v+(n:Int)).toNat else min v.toNat n):Nat):Int)
 by_cases hv:v<0
 ·simp only[if_pos hv];omega
 ·simp only[if_neg hv];omega
theorem qZ (lo hi:Option Int)(n:Nat):Builtin.Slice.sliceAdjust lo hi 1 (n:Int)=(((sIx n 0 lo:Nat):Int),((sIx n n hi:Nat):Int)):=by
 have h1:¬((1:Int)<0):=by omega
 unfold Builtin.Slice.sliceAdjust;simp only[h1,if_false];refine Prod.ext ?_ ?_
 ·cases lo with
  | none=>rfl
  | some v=>exact sC v n 0
 ·cases hi with
  | none=>rfl
  | some v=>exact sC v n n
theorem rM (i j:Nat):Builtin.Slice.slicePlaces (i:Int) (j:Int) 1=j-i:=by
 unfold Builtin.Slice.slicePlaces;have h1:(1:Int)>0:=by omega
 simp only[h1,if_true,Int.ediv_one];split <;> omega
theorem lV {v:Value}{o:Option Int}{Q:Option Int→Shared→Prop}(p:IsPart v o)(h:Q o s):wpAny (model prog w) A (Builtin.Slice.slicePartIndex v) Q E s:=by
 cases p with
 | none=>exact slicePart_none h
 | int i t=>exact slicePart_int h
theorem sliceApplied_gen {sl:Addr}{vl vu:Value}{lo hi:Option Int}{n:Nat}{Q:Int×Int×Nat→Shared→Prop}(hs:s.heap.IsSliceOf sl vl vu .none)(pl:IsPart vl lo)(pu:IsPart vu hi)
  (h:Q (((sIx n 0 lo:Nat):Int),1,sIx n n hi-sIx n 0 lo) s):wpAny (model prog w) A (Builtin.Slice.sliceApplied (.ref sl) (pure (n:Int))) Q E s:=by
 obtain⟨os,hos,hcs,hds⟩:=id hs;unfold Builtin.Slice.sliceApplied Builtin.Slice.sliceFields;refine wpAny_bind (wpAny_bind (wpAny_field hos hds (x:=vl) rfl (wpAny_bind (wpAny_field hos hds (x:=vu) rfl (wpAny_bind (wpAny_field hos hds (x:=.none) rfl (wpAny_pure ?_)))))));refine wpAny_bind (slicePart_none ?_);show wpAny _ _ (if((1:Int)==0)=true then _ else _) _ _ s;rw[if_neg (by decide)];refine wpAny_bind (lV pl (wpAny_bind (lV pu (wpAny_bind (wpAny_pure ?_)))));show wpAny _ _ (match Builtin.Slice.sliceAdjust lo hi 1 (n:Int) with|(lo,hi)=>pure (lo,(1:Int),Builtin.Slice.slicePlaces lo hi 1)) _ _ s;rw[qZ lo hi n];show wpAny _ _ (pure (((sIx n 0 lo:Nat):Int),(1:Int),Builtin.Slice.slicePlaces ((sIx n 0 lo:Nat):Int) ((sIx n n hi:Nat):Int) 1)) _ _ s;rw[rM];exact wpAny_pure h
theorem xr (xs:Array Value)(i k:Nat):((List.range k).filterMap fun(m:Nat)=>xs[((i:Int)+(m:Int)*1).toNat]?).toArray=((xs.toList.drop i).take k).toArray:=by
 have e:(fun(m:Nat)=>xs[((i:Int)+(m:Int)*1).toNat]?)=fun m=>xs[i+m]?:=by
  funext m;have:((i:Int)+(m:Int)*1).toNat=i+m:=by omega
  rw[this]
 rw[e];have:=pick_run xs i k;rw[List.filterMap_map] at this;have e2:((fun x=>xs[x]?) ∘ fun x=>i+x)=fun m=>xs[i+m]?:=rfl
 rw[e2] at this;rw[this]
theorem getItem_tuple_cut {t sl:Addr}{items:Array Value}{vl vu:Value}{lo hi:Option Int}{Q:Value→Shared→Prop}(ht:IsTup s.heap t items)(hs:s.heap.IsSliceOf sl vl vu .none)(pl:IsPart vl lo)(pu:IsPart vu hi)
  (hw:¬(sIx items.size 0 lo=0∧sIx items.size items.size hi=items.size))
  (h:Q (.ref s.heap.objs.size) {s with heap:=s.heap.push {cls:=.type "tuple",data:=.seq ((items.toList.drop (sIx items.size 0 lo)).take (sIx items.size items.size hi-sIx items.size 0 lo)).toArray}})
  (hsz:items.size≤sizeLine):wpAny (model prog w) A (getItem (.ref t) (.ref sl)) Q E s:=by
 have htake:sizeOk (.seq ((items.toList.drop (sIx items.size 0 lo)).take (sIx items.size items.size hi-sIx items.size 0 lo)).toArray):=by
  show((items.toList.drop (sIx items.size 0 lo)).take (sIx items.size items.size hi-sIx items.size 0 lo)).toArray.size≤sizeLine;rw[List.size_toArray,List.length_take,List.length_drop,Array.length_toList];omega
 have hj:sIx items.size items.size hi≤items.size:=sIx_le _ _ (Nat.le_refl _) hi;obtain⟨os,hos,hcs,hds⟩:=id hs;have hTs:s.TypeIs (.ref sl) "slice":=⟨os,hos,hcs⟩;unfold getItem
 try with_reducible refine wpAny_holding ?_
 first|refine wpAny_bind (wpAny_pure ?_)|skip
 refine wpAny_bind (wpAny_sequenceKey ht.typeIs (by decide) ?_);refine wpAny_bind (wpAny_callSpecial?_slot (name:=Str.ofString "__getitem__") ht.typeIs PyProof.Rows.slot_tuple_getitem
  (wpAny_call_entry PyProof.Rows.slot_tuple_getitem ht.typeIs entry_tuple_getitem ?_ (args_tuple_getitem _ _)))
 show wpAny _ _ (Builtin.Tuple.tupleItemsOf (.ref t) >>= _) _ _ s;refine wpAny_bind (tupleItemsOf_ ht ?_);refine wpAny_bind (wpAny_typeOf hTs ?_);rw[if_pos (by decide)];refine wpAny_bind (sliceApplied_gen hs pl pu ?_);have hno:¬((((sIx items.size 0 lo:Nat):Int)==0&&(1:Int)==1&&(sIx items.size items.size hi-sIx items.size 0 lo)==items.size)=true):=by
  intro q;rw[Bool.and_eq_true,Bool.and_eq_true] at q;have q1:((sIx items.size 0 lo:Nat):Int)=0:=eq_of_beq q.1.1;have q2:sIx items.size items.size hi-sIx items.size 0 lo=items.size:=eq_of_beq q.2;exact hw ⟨by omega,by omega⟩
 show wpAny _ _ (if(((sIx items.size 0 lo:Nat):Int)==0&&(1:Int)==1&&(sIx items.size items.size hi-sIx items.size 0 lo)==items.size)=true then _ else _) _ _ s;rw[if_neg hno,xr]
 first
  | exact wpAny_bind (m:=Builtin.Tuple.tupleExact _) (wpAny_newObj_type (wpAny_pure ⟨_,rfl,wpAny_pure h⟩) htake)
  | exact wpAny_bind (m:=Builtin.Tuple.tupleExact _) (wpAny_newObj_type (wpAny_bind (wpAny_pure (wpAny_pure ⟨_,rfl,wpAny_pure h⟩))) htake)
  | exact wpAny_bind (wpAny_bind (m:=Builtin.Tuple.tupleExact _) (wpAny_newObj_type (wpAny_pure (wpAny_pure ⟨_,rfl,wpAny_pure h⟩)) htake))
  | exact wpAny_bind (wpAny_bind (m:=Builtin.Tuple.tupleExact _) (wpAny_newObj_type (wpAny_pure ⟨_,rfl,wpAny_pure h⟩) htake))
end
end HT
namespace L2
open PySem PySem.Spec PyProof.Rows List
abbrev TO:=St→Hp→(Option Int→Hp→Prop)→Prop
def PO (X:Cx)(e:Option Expr)(t:TO):Prop:=
 ∀(af:List (Addr×Obj)) (s:Shared) (σ:St) (H:Hp) (Q:Option Int→Hp→Prop),Inv X af σ H s→t σ H Q→
  wpAny (model X.prog X.w) X.A (evalPart e X.env) (fun u s'=>∃o H',Inv X af σ H' s'∧IsPart u o∧Q o H') X.xe s
def AK:TO:=fun _ H Q=>Q none H
def Fz (t:TE):TO:=fun σ H Q=>t σ H fun x H1=>∃i,x=.int i∧Q (some i) H1
section
variable {X:Cx}{e:Expr}{te:TE}{lo hi:Option Expr}{tl th:TO}{pos p2:Pos}
theorem zV:PO X none AK:=by
 intro af s σ H Q I h;rw[evalPart_none];exact wpAny_pure ⟨none,H,I,.none,h⟩
theorem Al (h:PE X e te):PO X (some e) (Fz te):=by
 intro af s σ H Q I hw;rw[evalPart_some];refine bW (h af s σ H _ I hw) fun u s1 hxx=>?_
 obtain⟨x,H1,I1,r1,q1⟩:=hxx;obtain⟨i,rfl,q⟩:=q1;obtain⟨t,rfl⟩:=r1;exact⟨some i,H1,I1,.int i t,q⟩
def FU (X:Cx)(r:V→Option Int→Option Int→Hp→VK→Prop):Prop:=
 ∀(af:List (Addr×Obj)) (s:Shared) (σ:St) (H:Hp) (x:V) (v vl vu:Value) (lo hi:Option Int) (sl:Addr) (Q:VK),Inv X af σ H s→RelV x v→s.heap.IsSliceOf sl vl vu .none→IsPart vl lo→IsPart vu hi→r x lo hi H Q→
  ∃T id,typeLookup (.type T) "__getitem__"=pure (some (.builtin id))∧s.TypeIs v T∧wpAny (model X.prog X.w) X.A (getItem v (.ref sl)) (EP X af σ Q) X.xe s
def J4 (r:V→Option Int→Option Int→Hp→VK→Prop)(te:TE)(tl th:TO):TE:=fun σ H Q=>te σ H fun x H1=>tl σ H1 fun l H2=>th σ H2 fun u H3=>r x l u H3 Q
theorem xf {r:V→Option Int→Option Int→Hp→VK→Prop}(hr:FU X r)(he:PE X e te)(hl:PO X lo tl)(hu:PO X hi th):PE X (.Subscript e (.Slice lo hi none p2) pos) (J4 r te tl th):=by
 intro af s σ H Q I h;refine Subscript_ (bW (he af s σ H _ I h) fun v s1 hxx=>?_);obtain⟨x,H1,I1,r1,q1⟩:=hxx;refine wpAny_Slice (bW (hl af s1 σ H1 _ I1 q1) fun vl s2 ⟨l,H2,I2,pl,q2⟩=>bW (hu af s2 σ H2 _ I2 q2) fun vu s3 hxx=>?_);obtain⟨u,H3,I3,pu,q3⟩:=hxx;rw[evalPart_none];refine wpAny_pure ?_;have I4:Inv X af σ H3 {s3 with heap:=s3.heap.push {cls:=.type "slice",data:=.fields #[vl,vu,.none]}}:=I3.kept (t':=s3.toks) fun b ob q=>Heap.get?_push_of_some _ q
 obtain⟨T,id,hT,ht,hg⟩:=hr af {s3 with heap:=s3.heap.push {cls:=.type "slice",data:=.fields #[vl,vu,.none]}} σ H3 x v vl vu l u s3.heap.objs.size Q I4 r1 (Heap.IsSliceOf.new ..) pl pu q3;show wpAny (model X.prog X.w) X.A (subscriptTail e (.Slice lo hi none p2) v (.ref s3.heap.objs.size)) (EP X af σ Q) X.xe {s3 with heap:=s3.heap.push {cls:=.type "slice",data:=.fields #[vl,vu,.none]}};exact tail_any (ops:=[.ref s3.heap.objs.size,v]) ht hT hg (by with_unfolding_all rfl)
def o5 (xs:List V)(lo hi:Option Int):List V:=(xs.drop (HT.sIx xs.length 0 lo)).take (HT.sIx xs.length xs.length hi-HT.sIx xs.length 0 lo)
theorem kd (xs:List V)(lo hi:Option Int):(o5 xs lo hi).length≤xs.length:=by
 unfold o5;rw[length_take,length_drop];omega
def IQ (K:W.Frag):V→Option Int→Option Int→Hp→VK→Prop:=fun x lo hi H Q=>∃a xs,x=.ref a∧oF K H a xs∧
 ¬(HT.sIx xs.length 0 lo=0∧HT.sIx xs.length xs.length hi=xs.length)∧∀p,H p=none→Q (.ref p) (cp H p (.tup (o5 xs lo hi)))
theorem CN:FU X (IQ X.K):=by
 intro af s σ H x v vl vu lo hi sl Q I rx hs pl pu h;obtain⟨a,xs,rfl,hx,hw,q⟩:=h;cases rx;obtain⟨its,r,ht,hz⟩:=I.tuple hx;have hlen:its.toArray.size=xs.length:=by rw[size_toArray];exact r.length.symm
 refine⟨"tuple",_,PyProof.Rows.slot_tuple_getitem.lookup,ht.typeIs,?_⟩;refine HT.getItem_tuple_cut ht hs pl pu (by rw[hlen];exact hw) ?_ (by rw[hlen];exact hz);rw[hlen];refine⟨.ref s.heap.objs.size,_,I.laid (t':=s.toks) (o:=.tup (o5 xs lo hi)) (fun b ob q=>Heap.get?_push_of_some _ q) (Nat.le_refl _) ?_,rfl,q _ (I.hok.fresh (Nat.le_refl _))⟩;exact⟨Nat.le_trans (kd xs lo hi) hz,_,(r.drop (HT.sIx xs.length 0 lo)).take (HT.sIx xs.length xs.length hi-HT.sIx xs.length 0 lo),IsTup.new _ _⟩
def FE (K:W.Frag):R2:=fun x y H Q=>∃a b xs ys,x=.ref a∧y=.ref b∧oF K H a xs∧oF K H b ys∧xs≠[]∧xs.length+ys.length≤sizeLine∧
 (ys=[]→Q (.ref a) H)∧(ys≠[]→∀p,H p=none→Q (.ref p) (cp H p (.tup (xs++ys))))
theorem aP.nil_iff {xs:List V}{us:List Value}(r:aP xs us):us=[]↔xs=[]:=by
 cases r with
 | nil=>simp
 | cons _ _=>simp
theorem zL:dM X (binaryOp .Add) (FE X.K):=by
 intro af s σ H x y v u Q I rx ry h;obtain⟨a,b,xs,ys,rfl,rfl,ha,hb,hx,hz,q1,q2⟩:=h;cases rx;cases ry;obtain⟨its,r1,p1,_⟩:=I.tuple ha;obtain⟨its2,r2,p2,_⟩:=I.tuple hb;refine HT.cat_tup p1 p2 (fun z=>hx (r1.nil_iff.mp z)) (fun z=>⟨.ref a,H,I,rfl,q1 (r2.nil_iff.mp z)⟩) (fun z=>?_) (by rw[←r1.length,←r2.length];exact hz);refine⟨.ref s.heap.objs.size,_,I.laid (t':=s.toks) (o:=.tup (xs++ys)) (fun b ob q=>Heap.get?_push_of_some _ q) (Nat.le_refl _) ?_,rfl,q2 (fun w=>z (r2.nil_iff.mpr w)) _ (I.hok.fresh (Nat.le_refl _))⟩;exact⟨by rw[length_append];exact hz,_,r1.append r2,IsTup.new _ _⟩
end
def oJ (n:Nat)(i:Int):Option Nat:=if 0≤i then(if i<n then some i.toNat else none) else if -(n:Int)≤i then some (i+n).toNat else none
def k9 {α:Type}(xs:List α)(i:Int):Option α:=(oJ xs.length i).bind fun j=>xs[j]?
theorem sO {n:Nat}{i:Int}{j:Nat}(h:oJ n i=some j):seqIndex? i n=some j∧j<n∧-(n:Int)≤i∧i<n:=by
 unfold oJ at h
 by_cases h0:0≤i
 ·rw[if_pos h0] at h
  by_cases h1:i<n
  ·rw[if_pos h1] at h;have e:i.toNat=j:=Option.some.inj h;exact⟨by rw[seqIndex_of h0 h1,e],by omega,by omega,h1⟩
  ·rw[if_neg h1] at h;cases h
 ·rw[if_neg h0] at h
  by_cases h1:-(n:Int)≤i
  ·rw[if_pos h1] at h;have e:(i+n).toNat=j:=Option.some.inj h;exact⟨by rw[seqIndex_neg (by omega) h1,e],by omega,h1,by omega⟩
  ·rw[if_neg h1] at h;cases h
theorem nL {α:Type}{xs:List α}{i:Int}{v:α}(h:k9 xs i=some v):∃j,seqIndex? i xs.length=some j∧xs[j]?=some v∧j<xs.length∧-(xs.length:Int)≤i∧i<xs.length:=by
 unfold k9 at h;cases e:oJ xs.length i with
 | none=>rw[e] at h;cases h
 | some j=>
  rw[e] at h;obtain⟨h1,h2,h3,h4⟩:=sO e;exact⟨j,h1,h,h2,h3,h4⟩
theorem gJ {α:Type}{xs:List α}{j:Nat}{v:α}(h:xs[j]?=some v):k9 xs (j:Int)=some v:=by
 have hj:j<xs.length:=(List.getElem?_eq_some_iff.mp h).1;have e:oJ xs.length (j:Int)=some j:=by
  unfold oJ;rw[if_pos (by omega),if_pos (by omega)];simp
 unfold k9;rw[e];exact h
def n9 (b:Expr):Prop:=∀o i,subscripted b false o i=operate [o,i] (getItem o i)
def EE (X:Cx)(r:R2):Prop:=
 ∀(value slice:Expr) (af:List (Addr×Obj)) (s:Shared) (σ:St) (H:Hp) (x y:V) (v u:Value) (Q:VK),Inv X af σ H s→RelV x v→RelV y u→r x y H Q→
  subscripted slice false v u=operate [v,u] (getItem v u)→wpAny (model X.prog X.w) X.A (subscriptTail value slice v u) (EP X af σ Q) X.xe s
def EA (X:Cx)(id:String)(r:V→List V→Hp→VK→Prop):Prop:=
 ∀(af:List (Addr×Obj)) (s:Shared) (σ:St) (H:Hp) (x:V) (xs:List V) (v:Value) (us:List Value) (Q:VK),Inv X af σ H s→RelV x v→aP xs us→r x xs H Q→
  wpAny (model X.prog X.w) X.A (call (.builtin id) (v::us)) (EP X af σ Q) X.xe s
section
variable {X:Cx}{a b:Expr}{ta tb:TE}{pos:Pos}
theorem FS {r:R2}(hr:EE X r)(ha:PE X a ta)(hb:PE X b tb)(hs:n9 b):PE X (.Subscript a b pos) (Fd r ta tb):=by
 intro af s σ H Q I h;exact Subscript_ (D7 ha hb I h fun v u s2 x y H2 I2 rx ry q=>hr a b af s2 σ H2 x y v u Q I2 rx ry q (hs _ _))
def IF (K:W.Frag):R2:=fun x y H Q=>∃p xs i v,x=.ref p∧y=.int i∧jP K H p xs∧k9 xs i=some v∧Q v H
def HJ (K:W.Frag):R2:=fun x y H Q=>∃p xs i v,x=.ref p∧y=.int i∧oF K H p xs∧k9 xs i=some v∧Q v H
def HQ:R2:=fun x y H Q=>∃z i c,x=.str z∧y=.int i∧z.length≤sizeLine∧k9 z.cps.toList i=some c∧Q (.str ⟨#[c]⟩) H
theorem zY:EE X (IF X.K):=by
 intro value slice af s σ H x y v u Q I rx ry h hs;obtain⟨p,xs,i,z,rfl,rfl,hq,he,q⟩:=h;cases rx;obtain⟨t,rfl⟩:=ry;obtain⟨its,r,pl,hz⟩:=I.list hq;obtain⟨j,h1,h2,h3,h4,h5⟩:=nL he;obtain⟨w,ew,rw'⟩:=r.get h2;have hl:=r.length;have hn:=g9;have fin:EP X af σ Q w s:=⟨z,H,I,rw',q⟩
 by_cases h0:0≤i
 ·have hj:i.toNat=j:=by
   rw[seqIndex_of h0 h5] at h1;exact Option.some.inj h1
  exact item_listR pl.isList h0 (by omega) (by rw[hj];simpa using ew) fin hs
 ·have hj:(i+(its.toArray.size:Int)).toNat=j:=by
   rw[seqIndex_neg (by omega) h4] at h1;rw[size_toArray,←hl];exact Option.some.inj h1
  exact subscriptTail_builtinR (x:=w) pl.isList.typeIs slot_list_getitem.lookup
   (wpAny_getItem_list_neg (Q:=fun r s'=>r=w∧EP X af σ Q r s') pl.isList (by omega) (by rw[size_toArray] <;> omega) (by omega) (by rw[hj];simpa using ew) ⟨rfl,fin⟩) hs
theorem Dz:EE X (HJ X.K):=by
 intro value slice af s σ H x y v u Q I rx ry h hs;obtain⟨p,xs,i,z,rfl,rfl,hq,he,q⟩:=h;cases rx;obtain⟨t,rfl⟩:=ry;obtain⟨its,r,pl,hz⟩:=I.tuple hq;obtain⟨j,h1,h2,h3,h4,h5⟩:=nL he;obtain⟨w,ew,rw'⟩:=r.get h2;have hl:=r.length;have hn:=g9;have fin:EP X af σ Q w s:=⟨z,H,I,rw',q⟩;exact subscriptTail_builtinR (x:=w) pl.typeIs slot_tuple_getitem.lookup
  (getItem_tuple (j:=j) (Q:=fun r s'=>r=w∧EP X af σ Q r s') pl (by omega) (by omega) (by rw[size_toArray,←hl];exact h1) (by simpa using ew) ⟨rfl,fin⟩) hs
theorem Di:EE X HQ:=by
 intro value slice af s σ H x y v u Q I rx ry h hs;obtain⟨z,i,c,rfl,rfl,hz,he,q⟩:=h;obtain⟨t,rfl⟩:=rx;obtain⟨t',rfl⟩:=ry;obtain⟨j,h1,h2,h3,h4,h5⟩:=nL he;have hl:z.cps.toList.length=z.length:=by simp[Str.length]
 rw[hl] at h1 h4 h5;have hn:=g9;exact tail_any (typeIs_str s z t) slot_str_getitem.lookup (getItem_str (c:=c) (by
  have e1:decide (i < -(2 ^ 63:Int))=false:=decide_eq_false (by omega);have e2:decide (i≥2 ^ 63)=false:=decide_eq_false (by omega);rw[e1,e2,Bool.or_false]) (by rw[h1];simpa using h2) ⟨.str ⟨#[c]⟩,H,I.tok _,⟨_,rfl⟩,q⟩) hs
theorem qX (its:List Value)(n j:Nat)(u:Value):Obj.mapSeq (·.setIfInBounds j u) {cls:=.type "list",data:=.seq its.toArray n}={cls:=.type "list",data:=.seq (its.set j u).toArray n}:=by
 simp[Obj.mapSeq]
theorem Inv.lst {af:List (Addr×Obj)}{σ:St}{H:Hp}{s:Shared}{p:Addr}{xs:List V}(I:Inv X af σ H s)(h:H p=some (.lst xs)) :
  ∃(its:List Value) (n:Nat),aP xs its∧s.heap.get? p=some {cls:=.type "list",data:=.seq its.toArray n}∧xs.length≤sizeLine:=by
 obtain⟨z,its,n,r,e⟩:=I.hok p _ h;exact⟨its,n,r,e,z⟩
theorem Inv.lstUpd {af:List (Addr×Obj)}{σ:St}{H:Hp}{s:Shared}{p:Addr}{xs ys:List V}{its its':List Value}{n n':Nat}{f:Obj→Obj}(I:Inv X af σ H s)(h:H p=some (.lst xs))
  (ho:s.heap.get? p=some {cls:=.type "list",data:=.seq its.toArray n}) (hf:f {cls:=.type "list",data:=.seq its.toArray n}={cls:=.type "list",data:=.seq its'.toArray n'}) (r:aP ys its') (hz:ys.length≤sizeLine) (t:Nat) :
  Inv X af σ (cp H p (.lst ys)) {s with heap:=s.heap.update p f,toks:=t}:=by
 have e:(s.heap.update p f).get? p=some {cls:=.type "list",data:=.seq its'.toArray n'}:=by
  rw[Heap.get?_update_self f ho (by rw[hf] <;> rfl),hf]
 refine I.write (x:=p) (e:=p) (by rw[h];trivial) (.inl rfl) (fun b u hb q=>(Heap.get?_update_other _ _ (Ne.symm hb)).trans q) ⟨_,e⟩ ?_;exact⟨hz,its',n',r,e⟩
def E9:V→V→V→Hp→(Hp→Prop)→Prop:=fun o i v H Q=>∃p xs k j,o=.ref p∧i=.int k∧H p=some (.lst xs)∧oJ xs.length k=some j∧Q (cp H p (.lst (xs.set j v)))
theorem yl:GN X E9:=by
 intro af s σ H o i v ov iv u Q I ro ri rv h;obtain⟨p,xs,k,j,rfl,rfl,hp,hj,q⟩:=h;cases ro;obtain⟨t,rfl⟩:=ri;obtain⟨its,n,r,ho,hz⟩:=I.lst hp;obtain⟨h1,h2,h3,h4⟩:=sO hj;have hl:=r.length;have hn:=g9;have I':Inv X af σ (cp H p (.lst (xs.set j v))) {s with heap:=s.heap.update p (Obj.mapSeq (·.setIfInBounds j u))}:=
  I.lstUpd hp ho (qX its n j u) (r.set rv j) (by rw[length_set];exact hz) s.toks
 by_cases h0:0≤k
 ·have hk:k.toNat=j:=by
   rw[seqIndex_of h0 h4] at h1;exact Option.some.inj h1
  exact W.ki_setAt ho h0 (by omega) (by rw[size_toArray,←hl];exact h4) (by rw[hk];exact⟨_,I',q⟩)
 ·have hk:(k+(its.toArray.size:Int)).toNat=j:=by
   rw[seqIndex_neg (by omega) h3] at h1;rw[size_toArray,←hl];exact Option.some.inj h1
  exact W.ki_setBack ho (by omega) (by rw[size_toArray,←hl];exact h3) (by omega) (by rw[hk];exact⟨_,I',q⟩)
theorem oh (lo hi:Option Int)(n:Nat):(sliceBounds lo hi none n).1=((HT.sIx n 0 lo:Nat):Int)∧(sliceBounds lo hi none n).2.1=((HT.sIx n n hi:Nat):Int)∧(sliceBounds lo hi none n).2.2=1:=by
 refine⟨?_,?_,rfl⟩
 ·cases lo with
  | none=>simp[sliceBounds,HT.sIx]
  | some i=>
   simp only[sliceBounds,HT.sIx,Option.getD_none,show(1:Int)>0 by decide,if_true]
   by_cases h:i<0
   ·simp only[h,if_true] <;> omega
   ·simp only[h,if_false] <;> omega
 ·cases hi with
  | none=>simp[sliceBounds,HT.sIx]
  | some i=>
   simp only[sliceBounds,HT.sIx,Option.getD_none,show(1:Int)>0 by decide,if_true]
   by_cases h:i<0
   ·simp only[h,if_true] <;> omega
   ·simp only[h,if_false] <;> omega
theorem mn (its:List Value)(lo hi:Option Int):slicePick its.toArray lo hi none=((its.drop (HT.sIx its.length 0 lo)).take (HT.sIx its.length its.length hi-HT.sIx its.length 0 lo)).toArray:=by
 obtain⟨h1,h2,h3⟩:=oh lo hi its.toArray.size;unfold slicePick;rw[h1,h2,h3];simp only[sliceRange_one,pick_run,size_toArray] <;> rfl
def Im (K:W.Frag):V→Option Int→Option Int→Hp→VK→Prop:=fun x lo hi H Q=>∃a xs,x=.ref a∧jP K H a xs∧∀p,H p=none→Q (.ref p) (cp H p (.lst (o5 xs lo hi)))
theorem nI:FU X (Im X.K):=by
 intro af s σ H x v vl vu lo hi sl Q I rx hs pl pu h;obtain⟨a,xs,rfl,hx,q⟩:=h;cases rx;obtain⟨its,r,ht,hz⟩:=I.list hx;have hlen:=r.length;refine⟨"list",_,slot_list_getitem.lookup,ht.isList.typeIs,?_⟩;refine wpAny_getItem_list_slice ht.isList hs pl pu .none (by simp) ?_ (by rw[size_toArray] <;> omega);rw[mn,←hlen];refine⟨.ref s.heap.objs.size,_,I.laid (t':=s.toks) (o:=.lst (o5 xs lo hi)) (fun b ob q=>Heap.get?_push_of_some _ q) (Nat.le_refl _) ?_,rfl,q _ (I.hok.fresh (Nat.le_refl _))⟩;exact⟨Nat.le_trans (kd xs lo hi) hz,_,0,(r.drop (HT.sIx xs.length 0 lo)).take (HT.sIx xs.length xs.length hi-HT.sIx xs.length 0 lo),Heap.get?_push_size _ rfl⟩
def eA:V→Bool
 | .non=>true
 | .bl _=>true
 | .int _=>true
 | .str _=>true
 | _=>false
def qG:V→V→Bool
 | .non,.non=>true
 | .bl a,.bl b=>a==b
 | .bl a,.int b=>(if a then 1 else 0)==b
 | .int a,.bl b=>a==(if b then 1 else 0)
 | .int a,.int b=>a==b
 | .str a,.str b=>a==b
 | _,_=>false
theorem C0 {A:Around}{s:Shared}{y x:V}{u v:Value}(ry:RelV y u)(rx:RelV x v)(fy:eA y=true)(fx:eA x=true):SeqAt.EqAt A s u v (qG y x):=by
 cases y with
 | non=>
  cases ry;cases x with
  | non=>cases rx;exact SeqAt.EqAt.same _
  | bl b=>cases rx;exact SeqAt.EqAt.none_bool b
  | int b=>obtain⟨t,rfl⟩:=rx;exact SeqAt.EqAt.none_int b t
  | str b=>obtain⟨t,rfl⟩:=rx;exact SeqAt.EqAt.none_str b t
  | _=>exact absurd (show false=true from fx) Bool.false_ne_true
 | bl a=>
  cases ry;cases x with
  | non=>cases rx;exact SeqAt.EqAt.bool_none a
  | bl b=>cases rx;exact SeqAt.EqAt.bool_bool a b
  | int b=>obtain⟨t,rfl⟩:=rx;exact SeqAt.EqAt.bool_int a b t
  | str b=>obtain⟨t,rfl⟩:=rx;exact SeqAt.EqAt.bool_str a b t
  | _=>exact absurd (show false=true from fx) Bool.false_ne_true
 | int a=>
  obtain⟨t',rfl⟩:=ry;cases x with
  | non=>cases rx;exact SeqAt.EqAt.int_none a t'
  | bl b=>cases rx;exact SeqAt.EqAt.int_bool a t' b
  | int b=>obtain⟨t,rfl⟩:=rx;exact SeqAt.EqAt.int_int a t' b t
  | str b=>obtain⟨t,rfl⟩:=rx;exact SeqAt.EqAt.int_str a t' b t
  | _=>exact absurd (show false=true from fx) Bool.false_ne_true
 | str a=>
  obtain⟨t',rfl⟩:=ry;cases x with
  | non=>cases rx;exact SeqAt.EqAt.str_none a t'
  | bl b=>cases rx;exact SeqAt.EqAt.str_bool a t' b
  | int b=>obtain⟨t,rfl⟩:=rx;exact SeqAt.EqAt.str_int a t' b t
  | str b=>obtain⟨t,rfl⟩:=rx;exact SeqAt.EqAt.str_str a t' b t
  | _=>exact absurd (show false=true from fx) Bool.false_ne_true
 | _=>exact absurd (show false=true from fy) Bool.false_ne_true
def oq (x:V)(u:Value):Bool:=match u with
 | .none=>qG .non x
 | .bool b=>qG (.bl b) x
 | .int i _=>qG (.int i) x
 | .str z _=>qG (.str z) x
 | _=>false
theorem nM {x y:V}{u:Value}(r:RelV y u)(f:eA y=true):oq x u=qG y x:=by
 cases y with
 | non=>cases r;rfl
 | bl b=>cases r;rfl
 | int i=>obtain⟨t,rfl⟩:=r;rfl
 | str z=>obtain⟨t,rfl⟩:=r;rfl
 | _=>exact absurd (show false=true from f) Bool.false_ne_true
theorem jp {x:V}:∀{xs:List V} {us:List Value},aP xs us→xs.all eA=true→us.any (oq x)=xs.any fun y=>qG y x
 | _,_,.nil,_=>rfl
 | y::xs,u::us,.cons r t,f=>by
  rw[all_cons,Bool.and_eq_true] at f;rw[any_cons,any_cons,nM r f.1,jp t f.2]
theorem eR {A:Around}{s:Shared}{x:V}{v:Value}(rx:RelV x v)(fx:eA x=true):∀{xs:List V} {us:List Value},aP xs us→xs.all eA=true→∀u∈us,SeqAt.EqAt A s u v (oq x u)
 | _,_,.nil,_=>fun u hu=>by cases hu
 | y::xs,u::us,.cons r t,f=>fun u' hu=>by
  rw[all_cons,Bool.and_eq_true] at f;rcases mem_cons.mp hu with rfl|hu
  ·rw[nM r f.1];exact C0 r rx f.1 fx
  ·exact eR rx fx t f.2 u' hu
def Hu (x:V)(xs:List V):Bool:=xs.any fun y=>qG y x
def JF (K:W.Frag)(neg:Bool):R2:=fun x y H Q=>∃p xs,y=.ref p∧(jP K H p xs∨oF K H p xs)∧eA x=true∧xs.all eA=true∧Q (.bl (if neg then !Hu x xs else Hu x xs)) H
theorem vk:dM X (compareOp .In) (JF X.K false):=by
 intro af s σ H x y v u Q I rx ry h;obtain⟨p,xs,rfl,hq,fx,fs,q⟩:=h;cases ry;rcases hq with hq|hq
 ·obtain⟨its,r,pl,hz⟩:=I.list hq;refine SeqAt.in_listAt (oq x) pl.isList (fun w hw=>eR rx fx r fs w (by simpa using hw)) ⟨.bl _,H,I,rfl,?_⟩;rw[show its.toArray.any (oq x)=its.any (oq x) by simp,jp r fs];exact q
 ·obtain⟨its,r,pl,hz⟩:=I.tuple hq;refine SeqAt.in_tupleAt (oq x) pl (fun w hw=>eR rx fx r fs w (by simpa using hw)) ⟨.bl _,H,I,rfl,?_⟩;rw[show its.toArray.any (oq x)=its.any (oq x) by simp,jp r fs];exact q
theorem nC:dM X (compareOp .NotIn) (JF X.K true):=by
 intro af s σ H x y v u Q I rx ry h;obtain⟨p,xs,rfl,hq,fx,fs,q⟩:=h;cases ry;rcases hq with hq|hq
 ·obtain⟨its,r,pl,hz⟩:=I.list hq;refine SeqAt.notIn_listAt (oq x) pl.isList (fun w hw=>eR rx fx r fs w (by simpa using hw)) ⟨.bl _,H,I,rfl,?_⟩;rw[show its.toArray.any (oq x)=its.any (oq x) by simp,jp r fs];exact q
 ·obtain⟨its,r,pl,hz⟩:=I.tuple hq;refine SeqAt.notIn_tupleAt (oq x) pl (fun w hw=>eR rx fx r fs w (by simpa using hw)) ⟨.bl _,H,I,rfl,?_⟩;rw[show its.toArray.any (oq x)=its.any (oq x) by simp,jp r fs];exact q
theorem nQ:cx X (.builtin "len") (fun xs H Q=>∃p ys,xs=[.ref p]∧(jP X.K H p ys∨oF X.K H p ys)∧Q (.int ys.length) H):=by
 intro af s σ H xs us Q I r h;obtain⟨p,ys,rfl,hq,q⟩:=h;obtain⟨u,rfl,rx⟩:=ki r;cases rx;have hn:=g9;rcases hq with hq|hq
 ·obtain⟨its,r',pl,hz⟩:=I.list hq;have hlen:=r'.length;exact Calls.call_len_list pl.isList (by simp only[size_toArray] <;> omega) ⟨.int ys.length,H,I.tok _,⟨s.toks+1,by rw[size_toArray,hlen]⟩,q⟩
 ·obtain⟨its,r',pl,hz⟩:=I.tuple hq;have hlen:=r'.length;exact len_tuple pl (by simp only[size_toArray] <;> omega) ⟨.int ys.length,H,I.tok _,⟨s.toks+1,by rw[size_toArray,hlen]⟩,q⟩
theorem nR:cx X (.builtin "len") (fun xs H Q=>∃z,xs=[.str z]∧z.length≤sizeLine∧Q (.int z.length) H):=by
 intro af s σ H xs us Q I r h;obtain⟨z,rfl,hz,q⟩:=h;obtain⟨u,rfl,t,rfl⟩:=ki r;have hn:=g9;exact len_str (by omega) ⟨.int z.length,H,I.tok _,⟨_,rfl⟩,q⟩
theorem jG:cx X (.type "list") (fun xs H Q=>∃p ys,xs=[.ref p]∧(jP X.K H p ys∨oF X.K H p ys)∧∀l,H l=none→Q (.ref l) (cp H l (.lst ys))):=by
 intro af s σ H xs us Q I r h;obtain⟨p,ys,rfl,hq,q⟩:=h;obtain⟨u,rfl,rx⟩:=ki r;cases rx;have fin:∀(its:List Value),aP ys its→ys.length≤sizeLine→∀(h':Heap) (c':Nat),(∀b o',s.heap.get? b=some o'→h'.get? b=some o')→
   h'.get? s.heap.objs.size=some {cls:=.type "list",dict:=none,data:=.seq its.toArray c',slots:=#[]}→EP X af σ Q (.ref s.heap.objs.size) {s with heap:=h'}:=fun its r' hz h' c' kp e=>
  ⟨.ref s.heap.objs.size,_,I.laid (t':=s.toks) kp (Nat.le_refl _) (show cE X.prog X.w _ h' _ (.lst ys) from⟨hz,its,c',r',e⟩),rfl,q _ (I.hok.fresh (Nat.le_refl _))⟩
 rcases hq with hq|hq
 ·obtain⟨its,r',pl,hz⟩:=I.list hq;have hlen:=r'.length;obtain⟨o,ho,hc,n,hd⟩:=pl.isList;exact call_list_seq p (.inl rfl) ho hc hd (fun h' c' kp e=>fin its r' hz h' c' kp e) (by simp only[size_toArray] <;> omega)
 ·obtain⟨its,r',pl,hz⟩:=I.tuple hq;have hlen:=r'.length;obtain⟨o,ho,hc,n,hd⟩:=pl;exact call_list_seq p (.inr rfl) ho hc hd (fun h' c' kp e=>fin its r' hz h' c' kp e) (by simp only[size_toArray] <;> omega)
def JQ (K:W.Frag)(T:String)(x:V)(H:Hp):Prop:=match x with
 | .str _=>T="str"
 | .int _=>T="int"
 | .ref p=>(T="list"∧∃xs,jP K H p xs)∨(T="tuple"∧∃o,K.lookup p=some o∧o.cls=.type "tuple"∧o.dict=none)∨
   (T="dict"∧((∃kvs,H p=some (.dK kvs))∨∃kvs,H p=some (.dT kvs)))∨(T="set"∧∃S n,H p=some (.set S n))
 | _=>False
theorem CB {af:List (Addr×Obj)}{σ:St}{H:Hp}{s:Shared}{T:String}{x:V}{v:Value}(I:Inv X af σ H s)(r:RelV x v)(ty:JQ X.K T x H) :
  s.TypeIs v T∧∀a,v=.ref a→∃ob,s.heap.get? a=some ob∧ob.dict=none:=by
 cases x with
 | str z=>
  obtain⟨t,rfl⟩:=r;cases (show T="str" from ty);exact⟨typeIs_str s z t,fun _ e=>nomatch e⟩
 | int i=>
  obtain⟨t,rfl⟩:=r;cases (show T="int" from ty);exact⟨typeIs_int s i t,fun _ e=>nomatch e⟩
 | ref p=>
  cases r;rcases ty with⟨rfl,xs,hq⟩|⟨rfl,o,hk,hc,hd⟩|⟨rfl,hk⟩|⟨rfl,S,n,hk⟩
  ·obtain⟨its,_,pl,_⟩:=I.list hq;refine⟨pl.isList.typeIs,fun a e=>?_⟩;cases e;obtain⟨o,n,e,c,hd,_⟩:=pl;exact⟨o,e,hd⟩
  ·refine⟨⟨o,I.kIn p o hk,hc⟩,fun a e=>?_⟩;cases e;exact⟨o,I.kIn _ o hk,hd⟩
  ·have z:∃o,s.heap.get? p=some o∧o.ExactDict:=by
    rcases hk with⟨kvs,hk⟩|⟨kvs,hk⟩
    ·obtain⟨_,_,_,_,o,_,_,e,ex,_⟩:=I.hok p _ hk;exact⟨o,e,ex⟩
    ·obtain⟨_,_,_,_,o,_,_,e,ex,_⟩:=I.hok p _ hk;exact⟨o,e,ex⟩
   obtain⟨o,e,ex⟩:=z;refine⟨⟨o,e,ex.1⟩,fun a e2=>?_⟩;cases e2;exact⟨o,e,ex.2.1⟩
  ·obtain⟨o,_,_,_,e,ex,_⟩:=I.hok p _ hk;refine⟨⟨o,e,ex.1⟩,fun a e2=>?_⟩;cases e2;exact⟨o,e,ex.2.1⟩
 | _=>exact False.elim ty
def Hr (K:W.Frag)(T:String)(r:V→List V→Hp→VK→Prop)(to:TE)(t:TA):TE:=fun σ H Q=>to σ H fun x H1=>JQ K T x H1∧t σ H1 fun xs H2=>r x xs H2 Q
variable {o e:Expr}{es:List Expr}{to:TE}{t:TA}{name:Str}{apos cpos:Pos}{T id:String}{r:V→List V→Hp→VK→Prop}
theorem iD (pa:PlainAttrs T)(slot:Slot T name id)(hty:typeOf (.builtin id)=pure (.type "method_descriptor"))(hm:EA X id r)(ho:PE X o to)(ha:PA X (e::es) t)
  (hbase:attributeBase o name X.env (eval o X.env)=eval o X.env:=by rfl)
  (hfew:((backTo cpos (starEach (e::es) X.env)).all (fun x=>!x.1)&&(backToKw cpos (keywordEach [] X.env)).all (fun x=>x.1.isSome)
   && decide ((e::es).length+([]:List Keyword).length+(if([]:List Keyword).isEmpty then 0 else 1)<30))=true:=by rfl)
  (hline:(apos.endLine==cpos.line)=true:=by rfl) (hs:starEach (e::es) X.env=(false,eval e X.env)::starEach es X.env:=by rfl) (hplain:(backTo cpos (starEach es X.env)).any (·.1)=false:=by rfl) :
  PE X (.Call (.Attribute o name apos) (e::es) [] cpos) (Hr X.K T r to t):=by
 intro af s σ H Q I h;refine wpAny_Call_method_late hbase hfew hline rfl (bW (ho af s σ H _ I h) fun v s1 hxx=>?_);obtain⟨x,H1,I1,r1,ty,q1⟩:=hxx;obtain⟨h1,h2⟩:=CB I1 r1 ty;refine⟨T,id,pa,slot,hty,h1,h2,?_⟩;have hA:=ha cpos af s1 σ H1 _ I1 q1;rw[hs] at hA ⊢;refine Calls.callWith_builtin (by show(false||(backTo cpos (starEach es X.env)).any (·.1))=false;rw[hplain] <;> rfl) (Calls.evalArgs_plain ?_);exact bW hA fun us s2 ⟨vs,H2,I2,r2,q2⟩=>hm af s2 σ H2 x vs v us Q I2 r1 r2 q2
end
def HE (X:Cx)(id:String)(r:V→List V→Hp→VK→Prop):Prop:=
 ∀(af:List (Addr×Obj)) (s:Shared) (σ:St) (H:Hp) (x:V) (xs:List V) (v:Value) (us:List Value) (Q:VK),Inv X af σ H s→RelV x v→aP xs us→r x xs H Q→
  wpAny (model X.prog X.w) X.A (call (.builtin id) (v::us)) (EP X af σ Q) X.xe s
theorem aP.one:∀{x:V} {us:List Value},aP [x] us→∃u,us=[u]∧RelV x u
 | _,_,.cons r .nil=>⟨_,rfl,r⟩
theorem aP.two:∀{x y:V} {us:List Value},aP [x,y] us→∃u v,us=[u,v]∧RelV x u∧RelV y v
 | _,_,_,.cons r (.cons q .nil)=>⟨_,_,rfl,r,q⟩
theorem aP.eraseIdx:∀{xs:List V} {us:List Value} (i:Nat),aP xs us→aP (xs.eraseIdx i) (us.eraseIdx i)
 | _,_,_,.nil=>.nil
 | _,_,0,.cons _ t=>t
 | _,_,i+1,.cons r t=>.cons r (aP.eraseIdx i t)
theorem aP.rep {xs:List V}{us:List Value}(h:aP xs us):∀k:Nat,aP (List.replicate k xs).flatten (List.replicate k us).flatten
 | 0=>.nil
 | k+1=>by
  rw[replicate_succ,replicate_succ,flatten_cons,flatten_cons];exact aP.append h (aP.rep h k)
theorem mM {α:Type}:∀(l:List α) (i:Nat),(l.eraseIdx i).length≤l.length
 | [],_=>Nat.le_refl _
 | _::_,0=>Nat.le_succ _
 | _::r,i+1=>Nat.succ_le_succ (mM r i)
theorem m8 (its:List Value):∀(k:Nat) (acc:List Value),
  List.foldl (fun x1 x2=>x1++x2) acc.toArray (List.replicate k its.toArray)=(acc++(List.replicate k its).flatten).toArray
 | 0,acc=>by simp
 | k+1,acc=>by
  have e:acc.toArray++its.toArray=(acc++its).toArray:=by simp
  have e2:(acc++its)++(List.replicate k its).flatten=acc++(List.replicate (k+1) its).flatten:=by
   rw[replicate_succ,flatten_cons,append_assoc]
  rw[←e2,←m8 its k (acc++its),←e,replicate_succ,foldl_cons]
section
variable {X:Cx}{af:List (Addr×Obj)}{σ:St}{H:Hp}{s:Shared}{l b:Addr}{xs ys zs:List V}
theorem Inv.lset {its its':List Value}{n:Nat}{f:Array Value→Array Value}{t':Nat}(I:Inv X af σ H s)(hH:H l=some (.lst xs))
  (e:s.heap.get? l=some {cls:=.type "list",data:=.seq its.toArray n}) (hf:f its.toArray=its'.toArray) (hv:aP ys its') (hz:ys.length≤sizeLine) :
  Inv X af σ (cp H l (.lst ys)) {s with heap:=s.heap.update l (Obj.mapSeq f),toks:=t'}:=by
 have q:=PySem.IsL.update e f;rw[hf] at q;refine I.write (x:=l) (e:=l) (by rw[hH];exact trivial) (.inl rfl) (fun b' u hb hu=>(Heap.get?_update_other s.heap (Obj.mapSeq f) (Ne.symm hb)).trans hu) ⟨_,q⟩ ?_;exact⟨hz,its',_,hv,q⟩
theorem Inv.lnew {its:List Value}{t':Nat}(I:Inv X af σ H s)(hv:aP ys its)(hz:ys.length≤sizeLine) :
  Inv X af σ (cp H s.heap.objs.size (.lst ys)) {s with heap:=s.heap.push {cls:=.type "list",data:=.seq its.toArray},toks:=t'}:=
 I.laid (fun _ _ q=>Heap.get?_push_of_some _ q) (Nat.le_refl _) ⟨hz,its,0,hv,Heap.get?_push_size _ rfl⟩
theorem Inv.fresh (I:Inv X af σ H s):H s.heap.objs.size=none:=I.hok.fresh (Nat.le_refl _)
theorem Inv.lstM (I:Inv X af σ H s)(hH:H l=some (.lst xs)):xs.length≤sizeLine∧∃(its:List Value) (n:Nat),aP xs its∧xs.length=its.length∧s.heap.get? l=some {cls:=.type "list",data:=.seq its.toArray n}:=by
 obtain⟨z,its,n,r,e⟩:=I.hok l _ hH;exact⟨z,its,n,r,r.length,e⟩
theorem pZ {n:Nat}(h:n≤sizeLine):Builtin.List.listTooLong n=false:=by
 unfold Builtin.List.listTooLong;exact decide_eq_false (by omega)
end
section
variable {X:Cx}
def Ag:V→List V→Hp→VK→Prop:=fun x vs H Q=>∃l xs y,x=.ref l∧vs=[y]∧H l=some (.lst xs)∧xs.length<sizeLine∧Q .non (cp H l (.lst (xs++[y])))
theorem uQ:HE X "list.append" Ag:=by
 intro af s σ H x vs v us Q I rx rv h;obtain⟨l,xs,y,rfl,rfl,hH,hz,q⟩:=h;cases rx;obtain⟨u,rfl,ru⟩:=rv.one;obtain⟨z,its,n,r,hl,e⟩:=I.lstM hH;refine call_meets F.slot_list_append ⟨_,e,rfl⟩ F.entry_list_append (F.args_list_append_2 _ _) (PySem.list_append l its.toArray n u (by rw[size_toArray];omega)) ⟨e,?_⟩;refine⟨.non,_,I.lset (its':=its++[u]) hH e (by simp) (r.append (.cons ru .nil)) ?_,rfl,q⟩;rw[length_append,length_singleton];omega
def tX:V→List V→Hp→VK→Prop:=fun x vs H Q=>∃l b xs zs,x=.ref l∧vs=[.ref b]∧H l=some (.lst xs)∧H b=some (.lst zs)∧xs.length+zs.length≤sizeLine∧Q .non (cp H l (.lst (xs++zs)))
theorem uo:HE X "list.extend" tX:=by
 intro af s σ H x vs v us Q I rx rv h;obtain⟨l,b,xs,zs,rfl,rfl,hH,hB,hz,q⟩:=h;cases rx;obtain⟨u,rfl,ru⟩:=rv.one;cases ru;obtain⟨z,its,n,r,hl,e⟩:=I.lstM hH;obtain⟨z2,its2,n2,r2,hl2,e2⟩:=I.lstM hB;have hsz:its.toArray.size+its2.toArray.size≤sizeLine:=by rw[size_toArray,size_toArray];omega
 have hlong:¬(!its.toArray.isEmpty&&Builtin.List.listTooLong (its.toArray.size+its2.toArray.size))=true:=by
  rw[pZ hsz,Bool.and_false];exact Bool.false_ne_true
 refine call_meets F.slot_list_extend ⟨_,e,rfl⟩ F.entry_list_extend (F.args_list_extend_2 _ _)
  (AutoSeq1.list_extend_list_list_0 l its.toArray n b its2.toArray n2 hlong (by rw[size_toArray];omega) (by omega)) ⟨e,e2,?_⟩
 refine⟨.non,_,I.lset (its':=its++its2) hH e (by simp) (r.append r2) ?_,rfl,q⟩;rw[length_append];omega
def xw:V→List V→Hp→VK→Prop:=fun x vs H Q=>∃l xs i k y,x=.ref l∧vs=[.int i]∧H l=some (.lst xs)∧-(2 ^ 63)≤i∧i<2 ^ 63∧seqIndex? i xs.length=some k∧xs[k]?=some y∧Q y (cp H l (.lst (xs.eraseIdx k)))
theorem wB:HE X "list.pop" xw:=by
 intro af s σ H x vs v us Q I rx rv h;obtain⟨l,xs,i,k,y,rfl,rfl,hH,h1,h2,hk,hy,q⟩:=h;cases rx;obtain⟨u,rfl,ru⟩:=rv.one;obtain⟨t,rfl⟩:=ru;obtain⟨z,its,n,r,hl,e⟩:=I.lstM hH;obtain⟨w,hw,rw'⟩:=r.get hy;refine call_meets F.slot_list_pop ⟨_,e,rfl⟩ F.entry_list_pop (F.args_list_pop_2 _ _)
  (MeetsSeq.list_pop_at l its.toArray n i t k w (fitsIndex_both h1 h2) (by rw[size_toArray,←hl];exact hk) (by rw[←Array.getElem?_toList];exact hw) (by rw[size_toArray];omega)) ⟨e,?_⟩
 refine⟨y,_,I.lset (its':=its.eraseIdx k) hH e ?_ (r.eraseIdx k) ?_,rw',q⟩
 ·show its.toArray.eraseIdxIfInBounds k=(its.eraseIdx k).toArray;rw[eraseIdxIfInBounds_toArray]
 ·have:=mM xs k;omega
def IR:R2:=fun x y H Q=>∃l b xs zs,x=.ref l∧y=.ref b∧H l=some (.lst xs)∧H b=some (.lst zs)∧xs.length+zs.length≤sizeLine∧∀p,H p=none→Q (.ref p) (cp H p (.lst (xs++zs)))
theorem wZ:dM X (binaryOp .Add) IR:=by
 intro af s σ H x y v u Q I rx ry h;obtain⟨l,b,xs,zs,rfl,rfl,hH,hB,hz,q⟩:=h;cases rx;cases ry;obtain⟨z,its,n,r,hl,e⟩:=I.lstM hH;obtain⟨z2,its2,n2,r2,hl2,e2⟩:=I.lstM hB;refine PySem.P.add_list e e2 ?_ (by rw[size_toArray,size_toArray];omega);have ea:its.toArray++its2.toArray=(its++its2).toArray:=by simp
 rw[ea];exact⟨.ref _,_,I.lnew (t':=s.toks) (r.append r2) (by rw[length_append];omega),rfl,q _ I.fresh⟩
theorem sY {α:Type}(xs:List α)(k:Nat):(List.replicate k xs).flatten.length=k*xs.length:=by
 induction k with
 | zero=>simp
 | succ k ih=>rw[replicate_succ,flatten_cons,length_append,ih,Nat.succ_mul,Nat.add_comm]
end
end L2
namespace Att
open PySem PySem.W PySem.Calls PyProof.Rows
theorem kE {P:Params}{h:Heap}:∀(ns:List Int) (vs:List Value),WellAll P h vs (ns.map WData.int)→IntsAre vs ns:=by
 intro ns
 induction ns with
 | nil=>
  intro vs w;rw[List.map_nil] at w;cases w;exact .nil
 | cons n ns ih=>
  intro vs w;rw[List.map_cons] at w;cases w with
  | cons a b=>
   cases a;exact .cons _ _ (ih _ b)
theorem vB {l:OpenLaw}{n:Nat}(hn:l.most=some n){P:Params}{h:Heap}{args:List WData}{vals:List Value}
  (hpre:l.row.toRowW.claim.pre args=true) (hwl:WellAll P h vals args) :
  ∃a vs ns,vals=[Value.ref a]∧args=[WData.list (ns.map WData.int)]∧h.get? a=some {cls:=.type "list",data:=.seq vs.toArray}∧IntsAre vs ns∧ns.length≤n:=by
 have hsh:WShape.hasAll [] args [.list .int]=true:=(pre_splitW hpre).1;have hc:l.pre.holds [] {args:=args}=true:=(pre_splitW hpre).2;obtain⟨d,r,rfl,h1,h2⟩:=hasAllW_cons hsh;obtain rfl:=hasAllW_nil h2;obtain⟨xs,rfl,h3⟩:=hasW_list h1;obtain⟨ns,rfl⟩:=items_int h3;have hlen:ns.length≤n:=by
  unfold OpenLaw.pre at hc;have h4:(WTm.not (.lt (.lit (.int (n:Int))) (.len (.arg 0)))).holds [] {args:=[.list (ns.map .int)]}=true:=by
   have h4:=(holds_andW hc).1;rw[hn] at h4;exact h4
  have h5:=condW_of h4 (w_not (w_lt w_lit (w_len_list (w_arg rfl))));rw[List.length_map] at h5;refine Nat.le_of_not_lt fun q=>?_
  have q':(n:Int)<((ns.length:Nat):Int):=by omega
  first
   | (rw[decide_eq_true q'] at h5;exact absurd h5 (by decide))
   | (simp at h5;omega)
 cases hwl with
 | cons w1 w2=>
  cases w2;cases w1 with
  | list ho hall=>exact⟨_,_,ns,rfl,rfl,ho,kE ns _ hall,hlen⟩
theorem uR (l:OpenLaw)(args:List WData):l.row.toRowW.claim.post args (.bool true) args=true:=
 postW_of (r:=l.row.toRowW) (X:=(true==true))
  (show WShape.has [] (.bool true) .bool=true by first|rfl|decide|simp[WShape.has,WShape.arms,WShape.armsAll])
  (show(WTm.eq .res (.lit (.bool true))).value [] {args:=args,res:=some (.bool true),after:=args}=some (.bool (true==true)) from w_eq_bool (w_res rfl) w_lit) rfl
theorem attach_call {l:OpenLaw}{n:Nat}{q:Program}{loose:List Str}{XP:(Str→Option Value)→Heap→Prop}{YP:World→Heap→Prop}{d:DefRec}
  (hn:l.most=some n) (hdf:d.params.defaults=[])
  (call:∀(w:World) (s₀ s₁:Shared) (mg mb:Str→Option Value) (fa:Addr) (o:Obj) (pm cd doc:Value) (a:Addr) (vs:List Value) (ns:List Int),
   Ground q loose [] XP w s₀ mg mb s₁.heap→YP w s₁.heap→
   s₁.heap.get? fa=some o→o.data=.func (docDef d.name d.params d.body d.scope pm cd doc)→s₁.heap.CodeRec cd d.name→mg d.name=some (.ref fa)→
   s₁.heap.get? a=some {cls:=.type "list",data:=.seq vs.toArray}→IntsAre vs ns→ns.length≤n→s₁.gens=#[]→
   codeAny (model l.prog w) callerA (.call (.ref fa) ⟨[.ref a],[]⟩) (fun r s'=>r=.ok (.ret (.bool true))∧OldK s₁.heap s'.heap∧s'.os=s₁.os∧AllBare s'.gens) s₁) :
  WalkO q loose XP YP l.row.toRowW d [] (fun f vs=>PySem.call f vs):=by
 intro w s₀ s₁ mg mb G Y fa o pm cd doc dV kV ho hd hcd hD hmg hg args vals as hpre hlay hrd hwl hlo;obtain rfl:dV=.none:=Dflts.none hD hdf;obtain rfl:kV=.none:=Dflts.noKw hD;obtain⟨a,vs,ns,rfl,rfl,hobj,hints,hlen⟩:=vB hn hpre hwl;refine enter_call (codeAny_mono (call w s₀ s₁ mg mb fa o pm cd doc a vs ns G Y ho (fd_plain hd) hcd hmg hobj hints hlen hg) fun r s' hq=>?_);obtain⟨rfl,h2,h3,h4⟩:=hq;exact⟨.inl ⟨.bool true,.bool true,[],rfl,fun _=>rfl,.bool true,uR l _,fun _=>⟨List.Pairwise.nil,fun _ hm=>(nomatch hm)⟩⟩,h2,h3,h4⟩
end Att
namespace L2
open PySem PySem.Spec PyProof.Rows List
theorem mJ:∀{vs:List Value} {ns:List Int},IntsAre vs ns→aP (ns.map V.int) vs
 | _,_,.nil=>.nil
 | _,_,.cons n t h=>.cons ⟨t,rfl⟩ (mJ h)
def DX (H:Hp):Prop:=∀b,H b=none∨∃o xs,H b=some (.frz o (.lst xs))
theorem xk {P:Program}{w:World}{K:W.Frag}{mg mb:Str→Option Value}{CX:vI}{k:Nat}{fa a:Addr}{fd:FuncData}{x:Str}{sp:Sp}{s₁:Shared}{vs:List Value}{ns:List Int}
  (KX:K.In s₁.heap) (hns:s₁.heap.Ns mainGlobals mg) (hb:s₁.heap.Ns builtinsNs mb) (hbb:∀x:Str,x≠"__name__"→mb x=bootBuiltins x) (hlim:s₁.heap.NoLimit) (hg:s₁.gens=#[])
  (ha:s₁.heap.get? a=some {cls:=.type "list",data:=.seq vs.toArray}) (hi:IntsAre vs ns) (hl:ns.length≤sizeLine) (hr:cB k callerA)
  (F:∀base:Heap,K.In base→base.Ns mainGlobals mg→fU P w K mg base CX k fa fd [x] sp) (hbind:∀(s:Shared) (u:Value),BindsTo s fd ⟨[u],[]⟩ [(x,u)])
  (hsp:∀H:Hp,DX H→jP K H a (ns.map V.int)→sp [.ref a] H (fun v _=>v=.bl true) fun _ _ _=>False)
  (hCX:∀H e s',CX [] H s₁ (fun _ _ _=>False) e s'→False) :
  codeAny (model P w) callerA (.call (.ref fa) ⟨[.ref a],[]⟩) (fun r s'=>r=.ok (.ret (.bool true))∧OldK s₁.heap s'.heap∧s'.os=s₁.os∧AllBare s'.gens) s₁:=by
 have rv:=mJ hi;have lenV:=hi.length;have core:∀H:Hp,DX H→jP K H a (ns.map V.int)→iY P w H s₁.heap→(∀b,H b≠none→b=a)→(H a≠none→K.lookup a=none)→
   codeAny (model P w) callerA (.call (.ref fa) ⟨[.ref a],[]⟩) (fun r s'=>r=.ok (.ret (.bool true))∧OldK s₁.heap s'.heap∧s'.os=s₁.os∧AllBare s'.gens) s₁:=by
  intro H hO hS hok hA hK;have base_of:∀{b:Addr} {o:Obj},s₁.heap.get? b=some o→H b=none→(nW s₁.heap H).get? b=some o:=fun e n=>wW e n
  have noA:∀{b:Addr} {o:Obj} {es:Array DictEntry} {ep:Nat},s₁.heap.get? b=some o→o.data=.dict es ep→H b=none:=fun {b o es ep} e d=>by
   cases q:H b with
   | none=>rfl
   | some u=>
    have e':b=a:=hA b (by rw[q];simp);subst e';rw[ha] at e;cases e;have d':Data.seq vs.toArray _=Data.dict es ep:=d;cases d'
  have nsK:∀{b:Addr} {m:Str→Option Value},s₁.heap.Ns b m→(nW s₁.heap H).Ns b m:=fun {b m} ⟨o,es,ep,e,d,r⟩=>⟨o,es,ep,base_of e (noA e d),d,r⟩
  have hKb:K.In (nW s₁.heap H):=fun b o e=>base_of (KX b o e) (by
   cases q:H b with
   | none=>rfl
   | some u=>
    have e':b=a:=hA b (by rw[q];simp);subst e';rw[hK (by rw[q];simp)] at e;cases e)
  have hM:Mod K mg (nW s₁.heap H):=⟨hKb,nsK hns,⟨mb,nsK hb,hbb⟩,let ⟨mc,h1,h2⟩:=hlim;⟨mc,nsK h1,h2⟩⟩;have e0:zM P w K mg (nW s₁.heap H) callerA [] s₁ H:=⟨rfl,hM,fun b o e=>A7 e,Nat.le_of_eq (tY _ _),trivial,fun b hb=>absurd (show b∈([]:List Addr) from hb) (by simp),hok,.of_eq hg⟩;refine codeAny_mono ((F _ hKb (nsK hns)).run callerA [] s₁ H ⟨[.ref a],[]⟩ [.ref a] [.ref a] _ _ hr e0 (hbind s₁ (.ref a)) (.cons rfl .nil) (hsp H hO hS)) fun r s' h=>?_
  cases r with
  | error e=>exact(hCX H e s' h).elim
  | ok fl=>
   cases fl with
   | next=>exact False.elim h
   | brk=>exact False.elim h
   | cont=>exact False.elim h
   | ret u=>
    obtain⟨v,H',os,bare,un,hok',r',q⟩:=h;have q':v=.bl true:=q;subst q';obtain rfl:u=Value.bool true:=r';refine⟨rfl,OldK.of_keep fun b o e=>?_,os,bare⟩;cases q:H b with
    | none=>exact un.keep b o e q (by intro z;exact absurd (show b∈([]:List Addr) from z) (by simp)) (by simp)
    | some u=>
     rcases hO b with z|⟨ob,xs,z⟩
     ·rw[q] at z;cases z
     ·have z2:=un.frzs b ob _ z;obtain⟨e1,_⟩:=hok b _ z;obtain⟨e2,_⟩:=hok' b _ z2;rw[e] at e1;cases e1;exact e2
 cases hk:K.lookup a with
 | some o=>
  have e:=KX a o hk;rw[ha] at e;cases e;refine core (fun _=>none) (fun _=>.inl rfl) (.inr ⟨_,vs.toArray,_,hk,rfl,rfl,rfl,by rw[size_toArray,lenV];exact hl,by simpa using rv⟩) (fun b u z=>by have z':(none:Option HO)=some u:=z;cases z') (fun b z=>absurd rfl z) fun z=>absurd rfl z
 | none=>
  refine core (fun b=>if b=a then some (.frz {cls:=.type "list",data:=.seq vs.toArray} (.lst (ns.map V.int))) else none) (fun b=>?_) (.inl (.inr ⟨{cls:=.type "list",data:=.seq vs.toArray},if_pos rfl⟩)) (fun b u z=>?_) (fun b z=>?_) fun _=>hk
  ·by_cases hb:b=a
   ·exact .inr ⟨_,_,if_pos hb⟩
   ·exact .inl (if_neg hb)
  ·by_cases hb:b=a
   ·have z':=(if_pos hb).symm.trans z;cases z';subst hb;exact⟨ha,by rw[length_map];exact hl,vs,_,rv,ha⟩
   ·have z':=(if_neg hb).symm.trans z;cases z'
  ·by_cases hb:b=a
   ·exact hb
   ·exact absurd (if_neg hb) z
theorem walk_of {l:W.OpenLaw}{n k:Nat}{q:Program}{loose:List Str}{XP:(Str→Option Value)→Heap→Prop}{YP:World→Heap→Prop}{d:DefRec}{K:Params→W.Frag}{CX:World→vI}{sp:World→Sp}{x:Str}
  (hn:l.most=some n) (hn2:n≤sizeLine) (hdf:d.params.defaults=[]) (hr:cB k callerA)
  (hY:∀(w:World) (h:Heap),YP w h→(K w.params).In h)
  (F:∀(w:World) (mg:Str→Option Value) (fa:Addr) (h:Heap),(K w.params).In h→h.Ns mainGlobals mg→mg d.name=some (.ref fa)→
   ∃fd:FuncData,(∀(s:Shared) (u:Value),BindsTo s fd ⟨[u],[]⟩ [(x,u)])∧
    ∀base:Heap,(K w.params).In base→base.Ns mainGlobals mg→fU l.prog w (K w.params) mg base (CX w) k fa fd [x] (sp w))
  (hsp:∀(w:World) (H:Hp) (a:Addr) (ns:List Int),ns.length≤n→DX H→jP (K w.params) H a (ns.map V.int)→sp w [.ref a] H (fun v _=>v=.bl true) fun _ _ _=>False)
  (hCX:∀(w:World) (H:Hp) (s:Shared) (e:Value) (s':Shared),CX w [] H s (fun _ _ _=>False) e s'→False) :
  W.WalkO q loose XP YP l.row.toRowW d [] (fun f vs=>PySem.call f vs):=by
 refine Att.attach_call hn hdf fun w s₀ s₁ mg mb fa o pm cd doc a vs ns G Y ho hd hcd hmg hobj hints hlen hg=>?_
 have KX:=hY w _ Y;obtain⟨fd,hb,hF⟩:=F w mg fa _ KX G.T.g hmg;exact xk KX G.T.g G.T.b G.T.builtins G.T.nolimit hg hobj hints (Nat.le_trans hlen hn2) hr hF hb (fun H hO hS=>hsp w H a ns hlen hO hS) fun H e s'=>hCX w H s₁ e s'
def gw (s:Stmt):Arguments:=match s with
 | .FunctionDef _ a _ _ _ _ _ _ _ _=>a
 | _=>{posonlyargs:=[],args:=[],vararg:=none,kwonlyargs:=[],kw_defaults:=[],kwarg:=none,defaults:=[]}
def dP (s:Stmt):List Stmt:=match s with
 | .FunctionDef _ _ b _ _ _ _ _ _ _=>b
 | _=>[]
def bq (s:Stmt):Scope:=match s with
 | .FunctionDef _ _ _ _ _ _ sc _ _ _=>sc
 | _=>{kind:=.function,names:=[],isGenerator:=false,isCoroutine:=false}
structure CK (K:W.Frag)(x qual:Str)(st:Stmt)(f:Addr)(fd:FuncData):Prop where
 ex:∃(oc:Value) (od:Option Addr) (kV doc pm:Value) (an:Option Addr) (cdv ct:Value) (osl:Array (Option Value)),
  fd=W.fnOf x qual (gw st) (dP st) (bq st) .none kV doc pm an cdv ct∧K.lookup f=some ⟨oc,od,.func fd,osl⟩∧W.codeIn K cdv qual=true
 kp:W.keepIn K (.ref f)=true
section
variable {P:Program}{w:World}{K:W.Frag}{mg:Str→Option Value}{base:Heap}
theorem CK.binds {x qual:Str}{st:Stmt}{f:Addr}{fd:FuncData}{ps:List Str}(F:CK K x qual st f fd)
  (h:∀(kV doc pm:Value) (an:Option Addr) (cdv ct:Value) (us:List Value),us.length=ps.length→bindArgs (W.fnOf x qual (gw st) (dP st) (bq st) .none kV doc pm an cdv ct) ⟨us,[]⟩=pure (ps.zip us)):ib K fd ps []:=by
 obtain⟨oc,od,kV,doc,pm,an,cdv,ct,osl,rfl,lk,hcd⟩:=F.ex;exact .all (h kV doc pm an cdv ct)
theorem xR {x qual:Str}{st:Stmt}{f:Addr}{oc:Value}{od an:Option Addr}{osl:Array (Option Value)}{kV doc pm cdv ct:Value}(l:K.lookup f=some ⟨oc,od,.func (W.fnOf x qual (gw st) (dP st) (bq st) .none kV doc pm an cdv ct),osl⟩)
  (c:W.codeIn K cdv qual=true) (k:W.keepIn K (.ref f)=true):CK K x qual st f (W.fnOf x qual (gw st) (dP st) (bq st) .none kV doc pm an cdv ct):=⟨⟨oc,od,kV,doc,pm,an,cdv,ct,osl,rfl,l,c⟩,k⟩
end
theorem F5 {A:Around}{k:Nat}(hr:cB k A):A.units+1<cLine:=Nat.lt_of_le_of_lt (Nat.add_le_add_left (by decide:1≤64) _) hr.units
section
variable {κ:Type}[DecidableEq κ]
def jS (kvs:List (κ×V))(k:κ):Option V:=(kvs.find? fun kv=>decide (kv.1=k)).map (·.2)
def qk (kvs:List (κ×V))(k:κ)(v:V):List (κ×V):=
 if(kvs.any fun kv=>decide (kv.1=k))=true then kvs.map (fun kv=>if kv.1=k then(kv.1,v) else kv) else kvs++[(k,v)]
theorem pV {p:κ×V}{r:List (κ×V)}{k:κ}(e:p.1=k):jS (p::r) k=some p.2:=by simp[jS,find?_cons,e]
theorem pw {p:κ×V}{r:List (κ×V)}{k:κ}(e:¬p.1=k):jS (p::r) k=jS r k:=by simp[jS,find?_cons,e]
theorem qy (kvs:List (κ×V))(k:κ)(v:V):(qk kvs k v).length≤kvs.length+1:=by
 unfold qk;split
 ·rw[length_map];omega
 ·rw[length_append,length_cons,length_nil];omega
theorem KV.val {kvs:List (κ×V)}{vs:List (κ×Value)}(r:KV kvs vs)(k:κ):qD (jS kvs k) (valueAt vs k):=by
 unfold KV at r
 induction r with
 | nil=>exact True.intro
 | @cons p q ps qs h t ih=>
  obtain⟨h1,h2⟩:=h
  by_cases e:p.1=k
  ·have e':q.1=k:=h1.symm.trans e;have b:valueAt (q::qs) k=some q.2:=by simp[valueAt,find?_cons,e']
   rw[pV e,b];exact h2
  ·have e':¬q.1=k:=fun z=>e (h1.trans z)
   have b:valueAt (q::qs) k=valueAt qs k:=by simp[valueAt,find?_cons,e']
   rw[pw e,b];exact ih
theorem KV.any {kvs:List (κ×V)}{vs:List (κ×Value)}(r:KV kvs vs)(k:κ):(kvs.any fun kv=>decide (kv.1=k))=vs.any fun kv=>decide (kv.1=k):=by
 unfold KV at r
 induction r with
 | nil=>rfl
 | cons h t ih=>rw[any_cons,any_cons,ih,h.1]
theorem KV.repl {kvs:List (κ×V)}{vs:List (κ×Value)}(r:KV kvs vs)(k:κ){y:V}{u:Value}(ry:RelV y u) :
  KV (kvs.map fun kv=>if kv.1=k then(kv.1,y) else kv) (vs.map fun kv=>if kv.1=k then(kv.1,u) else kv):=by
 unfold KV at r ⊢
 induction r with
 | nil=>exact .nil
 | @cons p q ps qs h t ih=>
  rw[map_cons,map_cons];refine .cons ?_ ih;obtain⟨h1,h2⟩:=h
  by_cases e:p.1=k
  ·rw[if_pos e,if_pos (h1.symm.trans e)];exact⟨h1,ry⟩
  ·rw[if_neg e,if_neg (fun z=>e (h1.trans z))];exact⟨h1,h2⟩
theorem KV.put {kvs:List (κ×V)}{vs:List (κ×Value)}(r:KV kvs vs)(k:κ){y:V}{u:Value}(ry:RelV y u):KV (qk kvs k y) (stored vs k u):=by
 unfold qk stored;rw[r.any k]
 by_cases e:(vs.any fun kv=>decide (kv.1=k))=true
 ·rw[if_pos e,if_pos e];exact r.repl k ry
 ·rw[if_neg e,if_neg e];exact Paired.snoc r ⟨rfl,ry⟩
end
theorem yB {P:Program}{w:World}{k:fc}{u:Value}(r:RelV (kV k) u):(b8 P w).is k u=true:=by
 cases k with
 | inl i=>obtain⟨t,e⟩:=(show∃t,u=Value.int i t from r);subst e;exact oM P w i t
 | inr x=>obtain⟨t,e⟩:=(show∃t,u=Value.str x t from r);subst e;exact o8 P w x t
theorem mQ {P:Program}{w:World}:∀{ks:List fc} {us:List Value},aP (ks.map kV) us→ItemsAre (b8 P w) ks us
 | [],_,r=>by rw[map_nil] at r;cases r;exact .nil
 | k::ks,_,r=>by
  rw[map_cons] at r;cases r with
  | cons h t=>exact .cons (yB h) (mQ t)
abbrev KT (H:Hp):List (List fc×V)→List (List fc×Addr×Value)→Prop:=Paired fun p q=>p.1=q.1∧H q.2.1=some (.tup (p.1.map kV))∧RelV p.2 q.2.2
theorem KT.val {H:Hp}{kvs:List (List fc×V)}{xs:List (List fc×Addr×Value)}(r:KT H kvs xs)(k:List fc):qD (jS kvs k) ((atKey xs k).map (·.2)):=by
 induction r with
 | nil=>exact True.intro
 | @cons p q ps qs h t ih=>
  obtain⟨h1,_,h2⟩:=h
  by_cases e:p.1=k
  ·have e':q.1=k:=h1.symm.trans e;have b:atKey (q::qs) k=some q.2:=by simp[atKey,find?_cons,e']
   rw[pV e,b];exact h2
  ·have e':¬q.1=k:=fun z=>e (h1.trans z)
   have b:atKey (q::qs) k=atKey qs k:=by simp[atKey,find?_cons,e']
   rw[pw e,b];exact ih
section
variable {P:Program}{w:World}{H:Hp}{h:Heap}{a:Addr}
theorem Bv {u:HO}(ok:iY P w H h)(e:Rd H a u):cE P w H h a u:=e.ok ok
theorem yC {kvs:List (fc×V)}(ok:iY P w H h)(e:Rd H a (.dK kvs)):kvs.length≤sizeLine∧(a==sysModules)=false∧∃vs,KV kvs vs∧h.DictOf (b8 P w) a vs:=
 show cE P w H h a (.dK kvs) from Bv ok e
theorem Gz {kvs:List (fc×V)}(ok:iY P w H h)(e:H a=some (.dK kvs)):kvs.length≤sizeLine∧(a==sysModules)=false∧∃vs,KV kvs vs∧h.DictOf (b8 P w) a vs:=yC ok (.inl e)
theorem xL {ks:List fc}(ok:iY P w H h)(e:H a=some (.tup (ks.map kV))):(tupleKind (b8 P w)).is h ks a:=by
 obtain⟨_,its,r,o,h1,h2,n,h3⟩:=(show cE P w H h a (.tup (ks.map kV)) from ok a _ e);exact⟨o,its.toArray,n,h1,h2,h3,by simpa using mQ r⟩
theorem Bw {kvs:List (List fc×V)}(ok:iY P w H h)(e:Rd H a (.dT kvs)):kvs.length≤sizeLine∧(a==sysModules)=false∧
  ∃xs,KT H kvs xs∧h.DictOfH (tupleKind (b8 P w)) a xs:=by
 obtain⟨z,y,xs,r,o,es,ep,h1,h2,h3,h4,h5⟩:=(show cE P w H h a (.dT kvs) from Bv ok e);refine⟨z,y,xs,r,o,es,ep,h1,h2,h3,h4,fun x hx=>?_,h5⟩;have all:∀{l:List (List fc×V)} {m:List (List fc×Addr×Value)},KT H l m→∀x∈m,(tupleKind (b8 P w)).is h x.1 x.2.1:=by
  intro l m q
  induction q with
  | nil=>intro x hx;exact nomatch hx
  | @cons p q ps qs hq t ih=>
   intro x hx;rcases mem_cons.mp hx with e|hx
   ·subst e;exact xL ok (by rw[←hq.1];exact hq.2.1)
   ·exact ih x hx
 exact all r x hx
end
def uk (H:Hp)(a:Addr)(y:V)(r:Option V):Prop:=
 (∃kvs k,Rd H a (.dK kvs)∧y=kV k∧r=jS kvs k)∨∃kvs k b,Rd H a (.dT kvs)∧y=.ref b∧H b=some (.tup (k.map kV))∧r=jS kvs k
theorem uk.k {H:Hp}{a:Addr}{kvs:List (fc×V)}{k:fc}(e:H a=some (.dK kvs)):uk H a (kV k) (jS kvs k):=.inl ⟨kvs,k,.inl e,rfl,rfl⟩
section
variable {X:Cx}{af:List (Addr×Obj)}{σ:St}{H:Hp}{s:Shared}{a:Addr}{y v:V}{u r:Value}{o:Option V}{A:Around}{E:Value→Shared→Prop}
theorem Inv.big (I:Inv X af σ H s):sysModules<s.heap.objs.size:=by
 have h:mainGlobals<s.heap.objs.size:=(I.mod.glob.keeps I.bk).lt;exact Nat.lt_trans (by decide) h
theorem uI {Q:Value→Shared→Prop}(hu:A.units+1<cLine)(I:Inv X af σ H s)(g:uk H a y (some v))(ry:RelV y u)(h:∀w' s',Inv X af σ H s'→RelV v w'→Q w' s') :
  wpAny (model X.prog X.w) A (getItem (.ref a) u) Q E s:=by
 rcases g with⟨kvs,k,e,ey,l⟩|⟨kvs,k,b,e,ey,eb,l⟩
 ·subst ey;obtain⟨z,hd,vs,rel,dd⟩:=yC I.hok e;obtain⟨w',hw,rw'⟩:=qD.some_of (v:=v) (o:=valueAt vs k) (by rw[l];exact rel.val k);exact wpAny_getItem_of (yB ry) dd.mapOf hw (h w' _ (I.tok _) rw')
 ·subst ey;cases (show u=Value.ref b from ry);obtain⟨z,hd,xs,rel,dd⟩:=Bw I.hok e;obtain⟨w',hw,rw'⟩:=qD.some_of (v:=v) (o:=(atKey xs k).map (·.2)) (by rw[l];exact rel.val k);obtain⟨p,hp,hp2⟩:=Option.map_eq_some_iff.mp hw;refine wpAny_getItem_heap (tupleKind_room_in1 hu) (xL I.hok eb) dd hp ?_;rw[hp2];exact h w' _ (I.tok _) rw'
theorem y9 {h':Heap}{t':Nat}{ob:HO}(I:Inv X af σ H s)(mu:FN (H a))(hs:Heap.SameBut a s.heap h')(he:∃q,h'.get? a=some q)(new:cE X.prog X.w (cp H a ob) h' a ob) :
  Inv X af σ (cp H a ob) {s with heap:=h',toks:=t'}:=
 I.write (x:=a) (e:=a) mu (.inl rfl) (fun b q hb z=>(hs.2 b hb).trans z) he new
theorem BY {P:Program}{w:World}{H':Hp}{h':Heap}{kvs:List (fc×V)}{vs:List (fc×Value)}(z:kvs.length≤sizeLine)(hd:(a==sysModules)=false)(rel:KV kvs vs)(dd:h'.DictOf (b8 P w) a vs) :
  cE P w H' h' a (.dK kvs):=⟨z,hd,vs,rel,dd⟩
end
def Dp (i:Expr):Prop:=∀ov iv,subscripted i false ov iv=operate [ov,iv] (getItem ov iv)
theorem AV {prog:Program}{w:World}{A:Around}{E:Value→Shared→Prop}{s:Shared}{env:Env}{value slice:Expr}{pos:Pos}{T id:String}{Q:Value→Shared→Prop}
  (hl:typeLookup (.type T) "__getitem__"=pure (some (.builtin id))) (hs:Dp slice)
  (h:wpAny (model prog w) A (eval value env) (fun o s₁=>wpAny (model prog w) A (eval slice env) (fun i s₂=>s₂.TypeIs o T∧wpAny (model prog w) A (getItem o i) Q E s₂) E s₁) E s) :
  wpAny (model prog w) A (eval (.Subscript value slice pos) env) Q E s:=by
 refine Subscript_ (wpAny_mono h (fun o s₁ h₁=>wpAny_mono h₁ (fun i s₂ h₂=>?_) fun _ _ x=>x) fun _ _ x=>x);obtain⟨hT,h₂⟩:=h₂;unfold subscriptTail;refine wpAny_bind ?_;rw[getitemInPython_of_ne hT.not_modules];refine wpAny_bind (wpAny_specialOf hT hl ?_);have fin:wpAny (model prog w) A (subscripted slice false o i) (fun r s₃=>wpAny (model prog w) A (letTemporaryGo value o r >>= fun _=>pure r) Q E s₃) E s₂:=by
  rw[hs o i];exact wpAny_operating (wpAny_mono h₂ (fun r s₃ h₃=>wpAny_bind (wpAny_letTemporaryGo (wpAny_pure h₃))) fun _ _ x=>x)
 first
  | exact wpAny_pure (wpAny_bind fin)
  | exact wpAny_bind (wpAny_pure (wpAny_bind fin))
  | exact wpAny_bind fin
theorem pz {X:Cx}{af:List (Addr×Obj)}{σ:St}{H:Hp}{s:Shared}{a:Addr}{y:V}{o:Option V}(I:Inv X af σ H s)(g:uk H a y o):s.TypeIs (.ref a) "dict":=by
 rcases g with⟨kvs,k,e,_,_⟩|⟨kvs,k,b,e,_,_,_⟩
 ·obtain⟨_,_,vs,_,dd⟩:=yC I.hok e;exact dd.typeIs
 ·obtain⟨_,_,xs,_,dd⟩:=Bw I.hok e;exact dd.typeIs
def Fw (td ty:TE):TE:=fun σ H Q=>td σ H fun x H1=>ty σ H1 fun y H2=>∃a v,x=.ref a∧uk H2 a y (some v)∧Q v H2
section
variable {X:Cx}{o i e value:Expr}{pos pos' tpos:Pos}{td ty tv:TE}
theorem yN (hu:X.A.units+1<cLine)(ho:PE X o td)(hi:PE X i ty)(hs:Dp i):PE X (.Subscript o i pos) (Fw td ty):=by
 intro af s σ H Q I h;refine AV PySem.F.slot_dict_getitem.lookup hs (bW (ho af s σ H _ I h) fun u s1 ⟨x,H1,I1,rx,q1⟩=>bW (hi af s1 σ H1 _ I1 q1) fun iv s2 hxx=>?_);obtain⟨y,H2,I2,ry,a,v,ex,g,q2⟩:=hxx;subst ex;obtain rfl:u=Value.ref a:=rx;exact⟨pz I2 g,uI hu I2 g ry fun w' s3 I3 rw'=>⟨v,H2,I3,rw',q2⟩⟩
end
theorem wF {P:Program}{w:World}{H:Hp}(h:Heap)(hb:sysModules<h.objs.size):cE P w H (h.push {cls:=.type "dict",data:=.dict #[]}) h.objs.size (.dK []):=
 ⟨Nat.zero_le _,beq_eq_false_iff_ne.mpr (Ne.symm (Nat.ne_of_lt hb)),[],.nil,Heap.DictOf.new h⟩
def nY:List (TE×TE)→St→Hp→(List (V×V)→Hp→Prop)→Prop
 | [],_,H,Q=>Q [] H
 | (tk,tv)::r,σ,H,Q=>tk σ H fun x H1=>tv σ H1 fun y H2=>nY r σ H2 fun ps H3=>Q ((x,y)::ps) H3
abbrev VV:List (V×V)→List (Value×Value)→Prop:=Paired fun p q=>RelV p.1 q.1∧RelV p.2 q.2
def GQ (X:Cx)(pos:Pos)(keys:List (Option Expr))(values:List Expr)(trs:List (TE×TE)):Prop:=
 ∀(af:List (Addr×Obj)) (s:Shared) (σ:St) (H:Hp) (Q:List (V×V)→Hp→Prop),Inv X af σ H s→nY trs σ H Q→
  wpAny (model X.prog X.w) X.A (evalPairs (pairTrees keys values X.env pos)) (fun vs s'=>∃ps H',Inv X af σ H' s'∧VV ps vs∧Q ps H') X.xe s
theorem AQ {X:Cx}{pos:Pos}:GQ X pos [] [] []:=fun af s σ H Q I h=>pairTrees_nil_walk ⟨[],H,I,.nil,h⟩
theorem pJ {X:Cx}{pos:Pos}{k v:Expr}{ks:List (Option Expr)}{vs:List Expr}{tk tv:TE}{trs:List (TE×TE)}(hk:PE X k tk)(hv:PE X v tv)(hr:GQ X pos ks vs trs) :
  GQ X pos (some k::ks) (v::vs) ((tk,tv)::trs):=fun af s σ H Q I h=>
 pairTrees_cons_walk (bW (hk af s σ H _ I h) fun u s1 ⟨x,H1,I1,rx,q1⟩=>bW (hv af s1 σ H1 _ I1 q1) fun w2 s2 ⟨y,H2,I2,ry,q2⟩=>
  bW (hr af s2 σ H2 _ I2 q2) fun ws s3 ⟨ps,H3,I3,rel,q3⟩=>⟨(x,y)::ps,H3,I3,.cons ⟨rx,ry⟩ rel,q3⟩)
def ej (kvs more:List (fc×V)):List (fc×V):=more.foldl (fun acc kv=>qk acc kv.1 kv.2) kvs
theorem KV.merge:∀{more:List (fc×V)} {rs:List (fc×Value)} {kvs:List (fc×V)} {vs:List (fc×Value)},KV more rs→KV kvs vs→KV (ej kvs more) (merged vs rs):=by
 intro more rs kvs vs r;unfold KV at r
 induction r generalizing kvs vs with
 | nil=>intro q;exact q
 | @cons p q ps qs h t ih=>
  intro r0;have e:KV (qk kvs p.1 p.2) (stored vs q.1 q.2):=by
   have:=r0.put p.1 h.2;rw[←h.1];exact this
  exact ih e
theorem iC:∀(more kvs:List (fc×V)),(ej kvs more).length≤kvs.length+more.length
 | [],kvs=>by show kvs.length≤kvs.length+0;omega
 | p::r,kvs=>by
  have h1:=iC r (qk kvs p.1 p.2);have h2:=qy kvs p.1 p.2;show(ej (qk kvs p.1 p.2) r).length≤_;rw[length_cons];omega
theorem kU {P:Program}{w:World}:∀{kvs:List (fc×V)} {ws:List (Value×Value)},VV (kvs.map fun kv=>(kV kv.1,kv.2)) ws→∃rs,Carries (b8 P w) ws rs∧KV kvs rs
 | [],_,r=>by rw[map_nil] at r;cases r;exact⟨[],True.intro,.nil⟩
 | p::kvs,_,r=>by
  rw[map_cons] at r;cases r with
  | @cons a b as bs h t=>
   obtain⟨rs,c,q⟩:=kU (P:=P) (w:=w) t;obtain⟨b1,b2⟩:=b;exact⟨(p.1,b2)::rs,⟨yB h.1,rfl,c⟩,.cons ⟨rfl,h.2⟩ q⟩
def Hh (trs:List (TE×TE)):TE:=fun σ H Q=>∀p,H p=none→nY trs σ (cp H p (.dK [])) fun ps H2=>H2 p=some (.dK [])∧∃kvs:List (fc×V),ps=kvs.map (fun kv=>(kV kv.1,kv.2))∧kvs.length≤15∧Q (.ref p) (cp H2 p (.dK (ej [] kvs)))
theorem zi {X:Cx}{pos:Pos}{keys:List (Option Expr)}{values:List Expr}{trs:List (TE×TE)}(h:GQ X pos keys values trs)(hall:keys.all (·.isSome)=true)(hl:keys.length=values.length)(h0:keys≠[])
  (h15:keys.length≤15):PE X (.Dict keys values pos) (Hh trs):=by
 intro af s σ H Q I q;have hn:=I.hok.fresh (Nat.le_refl s.heap.objs.size);have I1:=I.laid (a:=s.heap.objs.size) (o:=.dK []) (h':=s.heap.push {cls:=.type "dict",data:=.dict #[]}) (t':=s.toks) (fun _ _ q=>Heap.get?_push_of_some _ q) (Nat.le_refl _) (wF s.heap I.big);refine wpAny_Dict_walk (knd:=b8 X.prog X.w) hall hl h0 h15 (bW (h af _ σ _ _ I1 (q _ hn)) fun ws s2 hxx=>?_);obtain⟨ps,H2,I2,rel,e,kvs,ep,lk,q2⟩:=hxx;subst ep;obtain⟨rs,c,rk⟩:=kU (P:=X.prog) (w:=X.w) rel;obtain⟨z,hd,vs0,r0,dd⟩:=Gz I2.hok e;cases r0;refine⟨rs,c,dd,fun h' dd' hs=>⟨.ref s.heap.objs.size,_,?_,rfl,q2⟩⟩;have hz:(ej [] kvs).length≤sizeLine:=by
  have h1:=iC kvs [];rw[length_nil] at h1;rw[sizeLine_eq];omega
 have he:∃q,h'.get? s.heap.objs.size=some q:=let ⟨q,_,_,hq,_⟩:=dd';⟨q,hq⟩
 exact y9 I2 (by rw[e];exact True.intro) hs he (BY hz hd (rk.merge .nil) dd')
structure M1 (X:Cx)(o:Expr)(m:Str)(apos:Pos)(e:Expr)(cpos:Pos):Prop where
 base:attributeBase o m X.env (eval o X.env)=eval o X.env
 few:((backTo cpos (starEach [e] X.env)).all (fun x=>!x.1)&&(backToKw cpos (keywordEach [] X.env)).all (fun x=>x.1.isSome)
  && decide (([e]:List Expr).length+([]:List Keyword).length+(if([]:List Keyword).isEmpty then 0 else 1)<30))=true
 line:(apos.endLine==cpos.line)=true
 trees:backTo cpos (starEach [e] X.env)=[(false,eval e X.env)]
structure M2 (X:Cx)(o:Expr)(m:Str)(apos:Pos)(e f:Expr)(cpos:Pos):Prop where
 base:attributeBase o m X.env (eval o X.env)=eval o X.env
 few:((backTo cpos (starEach [e,f] X.env)).all (fun x=>!x.1)&&(backToKw cpos (keywordEach [] X.env)).all (fun x=>x.1.isSome)
  && decide (([e,f]:List Expr).length+([]:List Keyword).length+(if([]:List Keyword).isEmpty then 0 else 1)<30))=true
 line:(apos.endLine==cpos.line)=true
 trees:backTo cpos (starEach [e,f] X.env)=[(false,eval e X.env),(false,eval f X.env)]
end L2
namespace Att
open PySem PySem.W PySem.Calls PyProof.Rows
end Att
namespace L2
open PySem PySem.Spec PyProof.Rows List
end L2
namespace DL
open PySem PySem.Spec PyProof.Rows L2 List
structure CC (X:Cx)(af:List (Addr×Obj))(H:Hp)(B:Heap):Prop where
 trk:∀b o,H b=some o→∃o',B.get? b=some o'
 pin:∀p∈X.pn++af,∃o',B.get? p.1=some o'
 old:∀b o,X.s₀.heap.get? b=some o→b∉X.ex→b∉la X.stack→∃o',B.get? b=some o'
def Iy (X:Cx)(H:Hp)(a C:Addr)(s:Shared):Prop:=∃af σ,
 (∃h vs,L2.Inv X af σ H {s with heap:=h}∧Heap.MadeExcOf h s.heap a (.ref C) vs)∨
 (L2.Inv X af σ H s∧H a=none∧∃B a0,Heap.FlyingW B X.stack a (.ref C) a0 s.heap∧CC X af H B)∨
 (L2.Inv X af σ H s∧H a=none∧∃B a0 L,X.env.frame=some L∧Heap.HeldW B X.stack a (.ref C) a0 L s.heap∧CC X af H B)
def cQ (K:W.Frag)(c:Str)(C:Addr):Prop:=W.nsIn K mainGlobals c=some (some (.ref C))
theorem cQ.inj {K:W.Frag}{c:Str}{C C':Addr}(a:cQ K c C)(b:cQ K c C'):C=C':=by
 unfold cQ at a b;rw[a] at b;cases b;rfl
theorem lZ {P:Program}{w:World}{H:Hp}{h:Heap}{a:Addr}{o:HO}(x:cE P w H h a o):∃u,h.get? a=some u:=by
 cases o with
 | lst xs=>obtain⟨_,_,_,_,e⟩:=x;exact⟨_,e⟩
 | tup xs=>obtain⟨_,_,_,o,e,_⟩:=x;exact⟨_,e⟩
 | dK kvs=>obtain⟨_,_,_,_,o,_,_,e,_⟩:=x;exact⟨_,e⟩
 | dT kvs=>obtain⟨_,_,_,_,o,_,_,e,_⟩:=x;exact⟨_,e⟩
 | set S n=>obtain⟨o,_,_,_,e,_⟩:=x;exact⟨_,e⟩
 | ins C dx fs=>obtain⟨_,_,_,e,_⟩:=x;exact⟨_,e⟩
 | own y=>obtain⟨_,e⟩:=x;exact⟨_,e⟩
 | xd fs=>obtain⟨_,⟨_,_,_,e,_⟩,_⟩:=x;exact⟨_,e⟩
 | rng lo hi=>obtain⟨_,_,_,e⟩:=x;exact⟨_,e⟩
 | frz ob u=>obtain⟨e,_⟩:=x;exact⟨_,e⟩
 | tbl ps=>exact⟨_,show h.get? a=some _ from x⟩
 | met f y=>exact⟨_,show h.get? a=some _ from x⟩
 | ext φ=>obtain⟨_,⟨_,e⟩,_⟩:=x;exact⟨_,e⟩
section
variable {X:Cx}{af:List (Addr×Obj)}{σ:List (Option V)}{H:Hp}{s:Shared}{B h':Heap}{a C:Addr}
theorem kI (I:L2.Inv X af σ H s){b:Addr}{o:Obj}(e:X.s₀.heap.get? b=some o)(n:b∉X.fs):b∉la X.stack:=fun z=>by
 rcases mem_cons.mp (I.stkSub b z) with q|q
 ·have h1:=Heap.lt_size e;rw[q] at h1;exact absurd (Nat.lt_of_lt_of_le h1 I.ok.above) (Nat.lt_irrefl _)
 ·exact n q
theorem tQ {h h':Heap}{c:Addr}{v:Option Value}(u:h.UpToSlots h')(x:h.IsCell c v):h'.IsCell c v:=by
 obtain⟨o,e,d⟩:=x;obtain⟨sl,e'⟩:=u c o e fun vs q=>by rw[d] at q;cases q
 exact⟨_,e',d⟩
theorem gR (I:L2.Inv X af σ H s)(cov:CC X af H B)(hB:B.StaysIn s.heap)(hB':B.StaysIn h')(up:s.heap.UpToSlots h'):L2.Inv X af σ H {s with heap:=h'}:=by
 have keepB:∀b o o',B.get? b=some o'→s.heap.get? b=some o→h'.get? b=some o:=fun b o o' e1 e2=>by
  have:=hB b o' e1;rw[e2] at this;cases this;exact hB' b _ e1
 refine⟨I.ok,I.os,I.bare,⟨fun b o e n nf nx=>?_,fun b o e n hf nx=>?_,fun b o e n nx=>I.base.free b o e n nx,fun b o e nx=>?_,I.base.tups,I.base.frzs,I.base.tbls⟩,?_,fun x c e=>?_,I.free,I.freeC,fun p hp=>?_,fun b o e=>?_,I.len⟩
 ·obtain⟨o',e'⟩:=cov.old b o e nx (kI I e nf);exact keepB b o o' e' (I.base.keep b o e n nf nx)
 ·obtain⟨sl,e1⟩:=I.base.slot b o e n hf nx;obtain⟨_,ob,e2,nf⟩:=I.funs.mem hf;rw[e1] at e2;cases e2;obtain⟨sl',e3⟩:=up b _ e1 nf;exact⟨sl',e3⟩
 ·by_cases hf:b∈X.fs
  ·obtain⟨_,ob,e2,nf⟩:=I.funs.mem hf;obtain⟨sl',e3⟩:=up b _ e2 nf;exact⟨_,e3⟩
  ·obtain⟨o',e'⟩:=cov.old b o e nx (kI I e hf);exact⟨o',hB' b o' e'⟩
 ·obtain⟨m,hn,hl⟩:=I.loc;refine⟨m,up.ns hn,fun i x v e1 e2 e3=>?_⟩;obtain⟨u,r,lk⟩:=hl i x v e1 e2 e3;refine⟨u,r,?_⟩;rcases lk with lk|⟨k,c,ec,ic⟩
  ·exact .inl lk
  ·exact .inr ⟨k,c,ec,tQ up ic⟩
 ·obtain⟨v,ic⟩:=I.cell x c e;exact⟨v,tQ up ic⟩
 ·obtain⟨e,n,ne,nf,d⟩:=I.pin p hp;obtain⟨o',e'⟩:=cov.pin p hp;exact⟨keepB p.1 p.2 o' e' e,n,ne,nf,d⟩
 ·refine(I.hok b o e).stay (fun c u hc q=>?_) (fun _ q=>q) fun _ _ q=>q
  have:∃o,H c=some o:=by
   rcases hc with z|z
   ·exact⟨o,by rw[z];exact e⟩
   ·exact⟨_,z⟩
  obtain⟨oc,ec⟩:=this;obtain⟨o',e'⟩:=cov.trk c oc ec;exact keepB c u o' e' q
theorem pq (I:L2.Inv X af σ H s):CC X af H (W.hideAll s.heap (la X.stack)):=by
 refine⟨fun b o e=>?_,fun p hp=>?_,fun b o e nx nf=>?_⟩
 ·obtain⟨u,q⟩:=lZ (I.hok b o e);exact⟨u,W.hideAll_get _ q fun z=>by rw[I.stkFree b z] at e;cases e⟩
 ·obtain⟨e,n,ne,nf,d⟩:=I.pin p hp;exact⟨p.2,W.hideAll_get _ e fun z=>by
   rcases mem_cons.mp (I.stkSub _ z) with q|q
   ·exact ne q
   ·exact nf q⟩
 ·obtain⟨o',e'⟩:=I.base.there b o e nx;exact⟨o',W.hideAll_get _ e' nf⟩
theorem kh (I:L2.Inv X af σ H s):s.heap.FunFrames (W.hideAll s.heap (la X.stack)) X.stack:=
 W.funFrames_hide I.stack fun env he b hb=>mem_filterMap.mpr ⟨env,he,hb⟩
theorem mU {vs:List Value}{h:Heap}(I:L2.Inv X af σ H {s with heap:=h})(m:Heap.MadeExcOf h s.heap a (.ref C) vs):H a=none:=by
 cases q:H a with
 | none=>rfl
 | some o=>
  obtain⟨u,e⟩:=lZ (I.hok a o q);have e:h.get? a=some u:=e;rw[m.new] at e;cases e
end
def kr (P:Program)(w:World):vI:=fun outer H s E e s'=>∃a C H' B a0,e=.ref a∧s'.os=s.os∧AllBare s'.gens∧Un (la outer) [] H H' s.heap s'.heap∧iY P w H' s'.heap∧H' a=none∧
 Heap.FlyingW B outer a (.ref C) a0 s'.heap∧(∀b o,H' b=some o→∃o',B.get? b=some o')∧(∀b o,s.heap.get? b=some o→b∉la outer→∃o',B.get? b=some o')∧E (.ref C) (some a) H'
theorem rN {P:Program}{w:World}{K:W.Frag}{mg:Str→Option Value}{base:Heap}{N:List Str}{qual:Str}{scope:Scope}{f:Addr}{cdv:Value}{A:Around}{outer:List Env}{s s':Shared}{H H':Hp}{E:XK}{a C:Addr}
  (fl:Iy (jm (kr P w) P w K mg base N qual scope f cdv A outer s H E) H' a C s') (hE:E (.ref C) (some a) H'):(jm (kr P w) P w K mg base N qual scope f cdv A outer s H E).xe (.ref a) s':=by
 show wpAny (model P w) (A.deeper (envOfC qual scope s.heap.objs.size f cdv)) (leaving (envOfC qual scope s.heap.objs.size f cdv) (.ref a)) (fun _ s''=>kr P w outer H s E (.ref a) s'') (fun e' s''=>kr P w outer H s E e' s'') s';obtain⟨af,σ,fl⟩:=fl;have key:∀(B:Heap) (a0:Value) (h':Heap) (I:L2.Inv (jm (kr P w) P w K mg base N qual scope f cdv A outer s H E) af σ H' s'),B.StaysIn s'.heap→CC (jm (kr P w) P w K mg base N qual scope f cdv A outer s H E) af H' B→H' a=none→
   Heap.FlyingW B outer a (.ref C) a0 h'→s'.heap.UpToSlots h'→kr P w outer H s E (.ref a) {s' with heap:=h'}:=fun B a0 h' I hB cov hn fl' up=>by
  have I':=gR I cov hB fl'.1 up;refine⟨a,C,H',B,a0,rfl,I'.os,I'.bare,I'.base,I'.hok,hn,fl',cov.trk,fun b o e nf=>?_,hE⟩;exact cov.old b o e (by show b∉([]:List Addr);simp) (kI I e nf)
 rcases fl with⟨h,vs,I,m⟩|⟨I,hn,B,a0,fl,cov⟩|⟨I,hn,B,a0,L,hL,held,cov⟩
 ·have cov:=pq I;have hid:∀b o,(W.hideAll h (la (jm (kr P w) P w K mg base N qual scope f cdv A outer s H E).stack)).get? b=some o→h.get? b=some o:=fun b o q=>W.of_hideAll _ q
  refine wpAny_leaves_madeW (env:=envOfC qual scope s.heap.objs.size f cdv) (outer:=outer) I.ok.frames rfl hid (kh I) m fun h' t x1 x2 x3 x4=>?_
  exact key _ _ h' (I.kept (t':=s'.toks) (h':=s'.heap) m.keeps) (fun b o q=>m.keeps b o (hid b o q)) cov (mU I m) x1 x4
 ·refine wpAny_leaves_onW (env:=envOfC qual scope s.heap.objs.size f cdv) (outer:=outer) I.ok.frames rfl fl fun h' x1 x2=>?_
  exact key B a0 h' I fl.1 cov hn x1 x2
 ·unfold leaving;refine wpAny_bind (wpAny_noteFrame_againW hL held.2.2.2 ?_);refine wpAny_landsW held fun h' x1 x2=>?_
  obtain⟨k1,k2,⟨_,_,k3⟩,k4⟩:=x1;exact key B a0 h' I held.1 cov hn ⟨k1,k2,k3,k4⟩ x2
theorem ud {X:Cx}{af:List (Addr×Obj)}{σ:L2.St}{H:Hp}{s:Shared}{e:Value}{s':Shared}{E:XK}(I:L2.Inv X af σ H s)(h:kr X.prog X.w X.stack H s E e s'):∃a C H',e=.ref a∧Iy X H' a C s'∧E (.ref C) (some a) H':=by
 obtain⟨a,C,H',B,a0,rfl,os,bare,un,hok,hn,fl,trk,old,hE⟩:=h;refine⟨a,C,H',rfl,⟨af,σ,.inr (.inl ⟨I.call' os un hok bare (fun b z=>absurd z (by simp)),hn,B,a0,fl,trk,fun p hp=>?_,fun b o eb nx nf=>?_⟩)⟩,hE⟩
 ·obtain⟨eb,n,ne,nf,d⟩:=I.pin p hp;exact old p.1 p.2 eb fun z=>by
   rcases mem_cons.mp (I.stkSub _ z) with q|q
   ·exact ne q
   ·exact nf q
 ·obtain⟨o',e'⟩:=I.base.there b o eb nx;exact old b o' e' nf
inductive D where
 | non|bl (b:Bool)|int (i:Int)|str (x:Str)|tup (xs:List D)|lst (xs:List D)|ro (xs:List D)|mr (i:Nat)|exc (c:Str)|any
instance:Inhabited D:=⟨.non⟩
inductive MO where
 | lst (xs:List D)|obj (c:Str) (fs:List (Str×D))|dK (kvs:List (fc×D))|dT (kvs:List (List fc×D))
instance:Inhabited MO:=⟨.lst []⟩
abbrev av:=List MO
abbrev bc:=List (Option D)
inductive aN (α:Type) where
 | ok (a:α) (M:av)
 | err (c:Str) (M:av)
 | bad
def aN.bind {α β:Type}(o:aN α)(f:α→av→aN β):aN β:=
 match o with
 | .ok a M=>f a M
 | .err c M=>.err c M
 | .bad=>.bad
@[simp] theorem ah {α β:Type} (a:α) (M:av) (f:α→av→aN β):(aN.ok a M).bind f=f a M:=by rw[aN.bind]
@[simp] theorem FO {α β:Type} (c:Str) (M:av) (f:α→av→aN β):(aN.err c M:aN α).bind f=.err c M:=by rw[aN.bind]
@[simp] theorem F1 {α β:Type} (f:α→av→aN β):(aN.bad:aN α).bind f=.bad:=by rw[aN.bind]
def Kf (K:W.Frag)(a:Addr)(xs:List V):Prop:=∃(o:Obj) (its:Array Value) (n:Nat),K.lookup a=some o∧o.cls=.type "tuple"∧o.data=.seq its n∧its.size≤sizeLine∧aP xs its.toList
def KL (K:W.Frag)(a:Addr)(xs:List V):Prop:=∃(o:Obj) (its:Array Value) (n:Nat),K.lookup a=some o∧o.cls=.type "list"∧o.dict=none∧o.data=.seq its n∧its.size≤sizeLine∧aP xs its.toList
def kQ (K:W.Frag)(θ:List Addr)(H:Hp)(a:Addr)(xs:List V):Prop:=H a=some (.tup xs)∧a∉θ
def mS (θ:List Addr)(H:Hp)(a:Addr)(xs:List V):Prop:=H a=some (.lst xs)∧a∉θ
def nS (K:W.Frag)(θ:List Addr)(H:Hp)(a:Addr)(xs:List V):Prop:=(Rd H a (.lst xs)∧a∉θ)∨KL K a xs
theorem kQ.sq {K:W.Frag}{θ:List Addr}{H:Hp}{a:Addr}{xs:List V}(h:kQ K θ H a xs):oF K H a xs:=.inl (.inl h.1)
theorem mS.sq {K:W.Frag}{θ:List Addr}{H:Hp}{a:Addr}{xs:List V}(h:mS θ H a xs):jP K H a xs:=.inl (.inl h.1)
theorem nS.sq {K:W.Frag}{θ:List Addr}{H:Hp}{a:Addr}{xs:List V}(h:nS K θ H a xs):jP K H a xs:=by
 rcases h with⟨h,_⟩|h
 ·exact .inl h
 ·exact .inr h
def zR (a C:Addr):HO:=.ext fun h=>∃o,h.get? a=some o∧o.cls=.ref C
mutual
def cD (K:W.Frag)(θ:List Addr)(H:Hp):D→V→Prop
 | .non,v=>v=.non
 | .bl b,v=>v=.bl b
 | .int i,v=>v=.int i
 | .str x,v=>v=.str x
 | .tup ds,v=>∃a vs,v=.ref a∧kQ K θ H a vs∧a7 K θ H ds vs
 | .lst ds,v=>∃a vs,v=.ref a∧mS θ H a vs∧a7 K θ H ds vs
 | .ro ds,v=>∃a vs,v=.ref a∧nS K θ H a vs∧a7 K θ H ds vs
 | .mr i,v=>∃a,v=.ref a∧θ[i]?=some a
 | .exc c,v=>∃a C,v=.ref a∧cQ K c C∧H a=some (zR a C)∧a∉θ
 | .any,_=>True
def a7 (K:W.Frag)(θ:List Addr)(H:Hp):List D→List V→Prop
 | [],vs=>vs=[]
 | d::ds,vs=>∃v r,vs=v::r∧cD K θ H d v∧a7 K θ H ds r
end
def vc (K:W.Frag)(θ:List Addr)(H:Hp):List (Str×D)→List (Str×V)→Prop
 | [],vs=>vs=[]
 | (f,d)::fs,vs=>∃v r,vs=(f,v)::r∧cD K θ H d v∧vc K θ H fs r
def qR {κ:Type}(K:W.Frag)(θ:List Addr)(H:Hp):List (κ×D)→List (κ×V)→Prop
 | [],vs=>vs=[]
 | (k,d)::fs,vs=>∃v r,vs=(k,v)::r∧cD K θ H d v∧qR K θ H fs r
def mE (K:W.Frag)(θ:List Addr)(H:Hp):MO→Addr→Prop
 | .lst ds,a=>∃vs,H a=some (.lst vs)∧a7 K θ H ds vs
 | .obj c fs,a=>∃C dx vs,cQ K c C∧H a=some (.ins C dx vs)∧vc K θ H fs vs
 | .dK kvs,a=>∃vs,H a=some (.dK vs)∧qR K θ H kvs vs
 | .dT kvs,a=>∃vs,H a=some (.dT vs)∧qR K θ H kvs vs
def eW:List Str:=["ink_shown","table_within","slots_given","cast_on_slots"]
def y8 (x:Str):Str:=x++(".<locals>.<lambda>":Str)
def GL (c:Addr)(q:Str):HO:=.ext fun h=>h.CodeRec (.ref c) q
def JG (ob:Obj):HO:=.frz ob (.ext fun _=>True)
structure jJ (K:W.Frag)(H:Hp):Prop where
 tab:∀x,x∈eW→∀c P,W.tabIn K x=some (c,P)→∃ps,H P=some (.tbl ps)∧TriplesOk ps.toList∧∀pos cv,codeAmong pos ps.toList=some cv→∃c',cv=.ref c'∧H c'=some (GL c' (y8 x))
 bm:∀x,x∈eW→∀c P,W.tabIn K x=some (c,P)→∃bm ob,W.nsIn K mainGlobals "__builtins__"=some (some (.ref bm))∧H bm=some (JG ob)∧ob.cls=.type "module"∧ob.dict=some builtinsNs∧ob.data=.plain∧bm≠builtinsNs∧bm≠mainGlobals
theorem jJ.of {K:W.Frag}{H H':Hp}(t:jJ K H)(k1:∀b ps,H b=some (.tbl ps)→H' b=some (.tbl ps))(k2:∀b φ,H b=some (.ext φ)→H' b=some (.ext φ))(k3:∀b o u,H b=some (.frz o u)→H' b=some (.frz o u)):jJ K H':=
 ⟨fun x hx c P e=>by
  obtain⟨ps,h1,h2,h3⟩:=t.tab x hx c P e;refine⟨ps,k1 _ _ h1,h2,fun pos cv q=>?_⟩;obtain⟨c',e1,e2⟩:=h3 pos cv q;exact⟨c',e1,k2 _ _ e2⟩,fun x hx c P e=>by
  obtain⟨bm,ob,e1,e2,r⟩:=t.bm x hx c P e;exact⟨bm,ob,e1,k3 _ _ _ e2,r⟩⟩
theorem jJ.new {K:W.Frag}{H:Hp}{p:Addr}{o:HO}(t:jJ K H)(hp:H p=none):jJ K (cp H p o):=
 t.of (fun b ps e=>by rw[aI (bx e hp)];exact e) (fun b φ e=>by rw[aI (bx e hp)];exact e) fun b o u e=>by rw[aI (bx e hp)];exact e
def qQ:HO→Bool
 | .tbl _=>false
 | .ext _=>false
 | .frz _ _=>false
 | _=>true
theorem jJ.at_ {K:W.Frag}{H:Hp}{a:Addr}{o u:HO}(t:jJ K H)(ha:H a=some u)(hu:qQ u=true):jJ K (cp H a o):=
 t.of (fun b ps e=>by rw[aI (sA e ha (by intro z;subst z;cases hu))];exact e) (fun b φ e=>by rw[aI (sA e ha (by intro z;subst z;cases hu))];exact e) fun b o u e=>by rw[aI (sA e ha (by intro z;subst z;cases hu))];exact e
theorem jJ.no {K:W.Frag}{H:Hp}(h:∀x,x∈eW→W.nsIn K mainGlobals x=some none):jJ K H:=by
 have no:∀x,x∈eW→∀c P,W.tabIn K x≠some (c,P):=fun x hx c P e=>by
  unfold W.tabIn at e;rw[h x hx] at e;cases e
 exact⟨fun x hx c P e=>absurd e (no x hx c P),fun x hx c P e=>absurd e (no x hx c P)⟩
structure Wr (K:W.Frag)(θ:List Addr)(H:Hp)(M:av):Prop where
 len:θ.length=M.length
 nd:θ.Nodup
 at_:∀(i:Nat) a m,θ[i]?=some a→M[i]?=some m→mE K θ H m a
 tb:jJ K H
structure fZ (K:W.Frag)(θ:List Addr)(H:Hp)(σ:L2.St)(ρ:bc):Prop where
 len:ρ.length=σ.length
 at_:∀(i:Nat) d,ρ[i]?=some (some d)→∃v,σ[i]?=some (some v)∧cD K θ H d v
structure Grow (θ:List Addr)(H:Hp)(θ':List Addr)(H':Hp):Prop where
 ext:∃more,θ'=θ++more∧∀a∈more,H a=none
 keep:∀b o,H b=some o→b∉θ→(∀ps,o≠.tbl ps)→H' b=some o
 tkeep:∀b ps,H b=some (.tbl ps)→∃ps',H' b=some (.tbl ps')
structure Go (K:W.Frag)(θ:List Addr)(H:Hp)(θ':List Addr)(H':Hp)(M':av):Prop extends Grow θ H θ' H' where
 wr:Wr K θ' H' M'
section
variable {K:W.Frag}{θ θ' θ1 θ2:List Addr}{H H' H1 H2:Hp}{M M' M1 M2:av}{a p:Addr}{σ:L2.St}{ρ:bc}
theorem Wr.tracked (w:Wr K θ H M)(h:a∈θ):H a≠none:=by
 obtain⟨i,hi,e⟩:=mem_iff_getElem.mp h;have h1:θ[i]?=some a:=by rw[getElem?_eq_getElem hi,e]
 have h2:i<M.length:=by rw[←w.len];exact hi
 have h3:=w.at_ i a _ h1 (getElem?_eq_getElem h2);cases q:M[i] with
 | lst ds=>
  rw[q] at h3;obtain⟨vs,e,_⟩:=h3;rw[e];simp
 | obj c fs=>
  rw[q] at h3;obtain⟨C,dx,vs,_,e,_⟩:=h3;rw[e];simp
 | dK kvs=>
  rw[q] at h3;obtain⟨vs,e,_⟩:=h3;rw[e];simp
 | dT kvs=>
  rw[q] at h3;obtain⟨vs,e,_⟩:=h3;rw[e];simp
theorem mE.plain {m:MO}(h:mE K θ H m a):∃o,H a=some o∧qQ o=true:=by
 cases m with
 | lst ds=>obtain⟨vs,e,_⟩:=h;exact⟨_,e,rfl⟩
 | obj c fs=>obtain⟨C,dx,vs,_,e,_⟩:=h;exact⟨_,e,rfl⟩
 | dK kvs=>obtain⟨vs,e,_⟩:=h;exact⟨_,e,rfl⟩
 | dT kvs=>obtain⟨vs,e,_⟩:=h;exact⟨_,e,rfl⟩
theorem Wr.plain (w:Wr K θ H M){i:Nat}(h:θ[i]?=some a):∃o,H a=some o∧qQ o=true:=by
 have h2:i<M.length:=by rw[←w.len];exact(List.getElem?_eq_some_iff.mp h).1
 exact(w.at_ i a _ h (getElem?_eq_getElem h2)).plain
theorem Wr.fresh (w:Wr K θ H M)(h:H p=none):p∉θ:=fun z=>w.tracked z h
theorem Grow.refl (θ:List Addr)(H:Hp):Grow θ H θ H:=⟨⟨[],by simp,fun _ z=>by cases z⟩,fun _ _ h _ _=>h,fun b ps e=>⟨ps,e⟩⟩
theorem Go.refl (w:Wr K θ H M):Go K θ H θ H M:=⟨.refl θ H,w⟩
theorem Go.trans (a:Go K θ H θ1 H1 M1)(b:Go K θ1 H1 θ2 H2 M2):Go K θ H θ2 H2 M2:=by
 obtain⟨m1,e1,f1⟩:=a.ext;obtain⟨m2,e2,f2⟩:=b.ext;refine⟨⟨⟨m1++m2,by rw[e2,e1,append_assoc],fun x hx=>?_⟩,fun x o hx nx nt=>?_,fun x ps e=>?_⟩,b.wr⟩
 ·rcases mem_append.mp hx with z|z
  ·exact f1 x z
  ·cases q:H x with
   | none=>rfl
   | some o=>
    have nx:x∉θ:=by
     intro y;have nd:=b.wr.nd;rw[e2] at nd;have y1:x∈θ1:=by rw[e1];exact mem_append_left _ y
     exact(nodup_append.mp nd).2.2 x y1 x z rfl
    exfalso
    by_cases nt:∃ps,o=.tbl ps
    ·obtain⟨ps,rfl⟩:=nt;obtain⟨ps',e'⟩:=a.tkeep x ps q;rw[f2 x z] at e';cases e'
    ·have:=a.keep x o q nx fun ps e'=>nt ⟨ps,e'⟩
     rw[f2 x z] at this;cases this
 ·have h1:=a.keep x o hx nx nt;refine b.keep x o h1 ?_ nt;rw[e1];intro z;rcases mem_append.mp z with z|z
  ·exact nx z
  ·rw[f1 x z] at hx;cases hx
 ·obtain⟨ps',e'⟩:=a.tkeep x ps e;exact b.tkeep x ps' e'
theorem Grow.notin (g:Grow θ H θ' H'){o:HO}(h:H a=some o)(n:a∉θ):a∉θ':=by
 obtain⟨m,e,f⟩:=g.ext;rw[e];intro z;rcases mem_append.mp z with z|z
 ·exact n z
 ·rw[f a z] at h;cases h
theorem kQ.grow {xs:List V}(g:Grow θ H θ' H')(h:kQ K θ H a xs):kQ K θ' H' a xs:=⟨g.keep _ _ h.1 h.2 (by intro _ z;cases z),g.notin h.1 h.2⟩
theorem mS.grow {xs:List V}(g:Grow θ H θ' H')(h:mS θ H a xs):mS θ' H' a xs:=⟨g.keep _ _ h.1 h.2 (by intro _ z;cases z),g.notin h.1 h.2⟩
theorem nS.grow {xs:List V}(g:Grow θ H θ' H')(h:nS K θ H a xs):nS K θ' H' a xs:=by
 rcases h with⟨h|⟨o,h⟩,n⟩|h
 ·exact .inl ⟨.inl (g.keep _ _ h n (by intro _ z;cases z)),g.notin h n⟩
 ·exact .inl ⟨.inr ⟨o,g.keep _ _ h n (by intro _ z;cases z)⟩,g.notin h n⟩
 ·exact .inr h
mutual
theorem i3 (g:Grow θ H θ' H'):∀(d:D) (v:V),cD K θ H d v→cD K θ' H' d v
 | .non,v,h=>h
 | .bl b,v,h=>h
 | .int i,v,h=>h
 | .str x,v,h=>h
 | .tup ds,v,h=>by
  obtain⟨a,vs,e,t,r⟩:=h;exact⟨a,vs,e,t.grow g,cq g ds vs r⟩
 | .lst ds,v,h=>by
  obtain⟨a,vs,e,t,r⟩:=h;exact⟨a,vs,e,t.grow g,cq g ds vs r⟩
 | .ro ds,v,h=>by
  obtain⟨a,vs,e,t,r⟩:=h;exact⟨a,vs,e,t.grow g,cq g ds vs r⟩
 | .mr i,v,h=>by
  obtain⟨a,e,t⟩:=h;obtain⟨m,em,_⟩:=g.ext;refine⟨a,e,?_⟩;rw[em,getElem?_append_left (List.getElem?_eq_some_iff.mp t).1];exact t
 | .exc c,v,h=>by
  obtain⟨a,C,e,k,t,n⟩:=h;exact⟨a,C,e,k,g.keep _ _ t n (by intro _ z;cases z),g.notin t n⟩
 | .any,v,h=>h
theorem cq (g:Grow θ H θ' H'):∀(ds:List D) (vs:List V),a7 K θ H ds vs→a7 K θ' H' ds vs
 | [],vs,h=>h
 | d::ds,vs,h=>by
  obtain⟨v,r,e,h1,h2⟩:=h;exact⟨v,r,e,i3 g d v h1,cq g ds r h2⟩
end
theorem cD.go {d:D}{v:V}(h:cD K θ H d v)(g:Go K θ H θ' H' M'):cD K θ' H' d v:=i3 g.toGrow d v h
theorem a7.go {ds:List D}{vs:List V}(h:a7 K θ H ds vs)(g:Go K θ H θ' H' M'):a7 K θ' H' ds vs:=cq g.toGrow ds vs h
theorem fZ.go (h:fZ K θ H σ ρ)(g:Go K θ H θ' H' M'):fZ K θ' H' σ ρ:=⟨h.len,fun i d e=>let ⟨v,e1,e2⟩:=h.at_ i d e;⟨v,e1,e2.go g⟩⟩
theorem aq:∀{ds:List D} {vs:List V},a7 K θ H ds vs→ds.length=vs.length
 | [],vs,h=>by cases (show vs=[] from h);rfl
 | d::ds,vs,h=>by
  obtain⟨v,r,e,_,h2⟩:=h;subst e;rw[length_cons,length_cons,aq h2]
theorem bD:∀{ds es:List D} {vs us:List V},a7 K θ H ds vs→a7 K θ H es us→a7 K θ H (ds++es) (vs++us)
 | [],es,vs,us,h,k=>by cases (show vs=[] from h);exact k
 | d::ds,es,vs,us,h,k=>by
  obtain⟨v,r,e,h1,h2⟩:=h;subst e;exact⟨v,r++us,rfl,h1,bD h2 k⟩
theorem dD:∀{ds:List D} {vs:List V} {i:Nat} {d:D},a7 K θ H ds vs→ds[i]?=some d→∃v,vs[i]?=some v∧cD K θ H d v
 | [],vs,i,d,h,e=>by simp at e
 | x::ds,vs,0,d,h,e=>by
  obtain⟨v,r,e1,h1,h2⟩:=h;subst e1;simp at e;subst e;exact⟨v,rfl,h1⟩
 | x::ds,vs,i+1,d,h,e=>by
  obtain⟨v,r,e1,h1,h2⟩:=h;subst e1;obtain⟨u,e2,h3⟩:=dD (i:=i) h2 (by simpa using e);exact⟨u,by simpa using e2,h3⟩
theorem jL:∀{ds:List D} {vs:List V} (n:Nat),a7 K θ H ds vs→a7 K θ H (ds.take n) (vs.take n)
 | ds,vs,0,h=>by rw[take_zero,take_zero];exact rfl
 | [],vs,n+1,h=>by cases (show vs=[] from h);exact rfl
 | d::ds,vs,n+1,h=>by
  obtain⟨v,r,e,h1,h2⟩:=h;subst e;exact⟨v,r.take n,rfl,h1,jL n h2⟩
theorem jN:∀{ds:List D} {vs:List V} (n:Nat),a7 K θ H ds vs→a7 K θ H (ds.drop n) (vs.drop n)
 | ds,vs,0,h=>h
 | [],vs,n+1,h=>by cases (show vs=[] from h);exact rfl
 | d::ds,vs,n+1,h=>by
  obtain⟨v,r,e,h1,h2⟩:=h;subst e;exact jN n h2
theorem pH {d:D}{v:V}(hd:cD K θ H d v):∀{ds:List D} {vs:List V} (i:Nat),a7 K θ H ds vs→a7 K θ H (ds.set i d) (vs.set i v)
 | [],vs,i,h=>by cases (show vs=[] from h);exact rfl
 | x::ds,vs,0,h=>by
  obtain⟨u,r,e,h1,h2⟩:=h;subst e;exact⟨v,r,rfl,hd,h2⟩
 | x::ds,vs,i+1,h=>by
  obtain⟨u,r,e,h1,h2⟩:=h;subst e;exact⟨u,r.set i v,rfl,h1,pH hd i h2⟩
theorem jj {o:HO}(w:Wr K θ H M)(hp:H p=none):Grow θ H θ (cp H p o):=
 ⟨⟨[],by simp,fun _ z=>by cases z⟩,fun b u h _ _=>by rw[aI (bx h hp)];exact h,fun b ps h=>⟨ps,by rw[aI (bx h hp)];exact h⟩⟩
theorem mZ (g:Grow θ H θ' H'):∀{fs:List (Str×D)} {vs:List (Str×V)},vc K θ H fs vs→vc K θ' H' fs vs
 | [],vs,h=>h
 | (f,d)::fs,vs,h=>by
  obtain⟨v,r,e,h1,h2⟩:=h;exact⟨v,r,e,i3 g d v h1,mZ g h2⟩
theorem j4 {κ:Type}(g:Grow θ H θ' H'):∀{fs:List (κ×D)} {vs:List (κ×V)},qR K θ H fs vs→qR K θ' H' fs vs
 | [],vs,h=>h
 | (f,d)::fs,vs,h=>by
  obtain⟨v,r,e,h1,h2⟩:=h;exact⟨v,r,e,i3 g d v h1,j4 g h2⟩
theorem mE.grow {m:MO}(g:Grow θ H θ' H')(hs:H' a=H a)(h:mE K θ H m a):mE K θ' H' m a:=by
 cases m with
 | lst ds=>
  obtain⟨vs,e,r⟩:=h;exact⟨vs,by rw[hs];exact e,cq g ds vs r⟩
 | obj c fs=>
  obtain⟨C,dx,vs,k,e,r⟩:=h;exact⟨C,dx,vs,k,by rw[hs];exact e,mZ g r⟩
 | dK kvs=>
  obtain⟨vs,e,r⟩:=h;exact⟨vs,by rw[hs];exact e,j4 g r⟩
 | dT kvs=>
  obtain⟨vs,e,r⟩:=h;exact⟨vs,by rw[hs];exact e,j4 g r⟩
theorem dG {o:HO}(w:Wr K θ H M)(hp:H p=none):Go K θ H θ (cp H p o) M:=
 ⟨jj w hp,w.len,w.nd,fun i a m h1 h2=>by
  have ha:a≠p:=fun e=>w.fresh hp (by rw[←e];exact mem_of_getElem? h1)
  exact(w.at_ i a m h1 h2).grow (jj w hp) (aI ha),w.tb.new hp⟩
theorem nV {ds:List D}{vs:List V}(w:Wr K θ H M)(hp:H p=none)(r:a7 K θ H ds vs):cD K θ (cp H p (.tup vs)) (.tup ds) (.ref p):=
 ⟨p,vs,rfl,⟨cN,w.fresh hp⟩,cq (jj w hp) ds vs r⟩
theorem fD {ds:List D}{vs:List V}(w:Wr K θ H M)(hp:H p=none)(r:a7 K θ H ds vs):cD K θ (cp H p (.lst vs)) (.lst ds) (.ref p):=
 ⟨p,vs,rfl,⟨cN,w.fresh hp⟩,cq (jj w hp) ds vs r⟩
theorem ng {o:HO}(hp:H p=none):Grow θ H (θ++[p]) (cp H p o):=
 ⟨⟨[p],rfl,fun a ha=>by rw[mem_singleton.mp ha];exact hp⟩,fun b u h _ _=>by rw[aI (bx h hp)];exact h,fun b ps h=>⟨ps,by rw[aI (bx h hp)];exact h⟩⟩
theorem yV {m:MO}{o:HO}(w:Wr K θ H M)(hp:H p=none)(hm:mE K (θ++[p]) (cp H p o) m p):Go K θ H (θ++[p]) (cp H p o) (M++[m]):=by
 have np:=w.fresh hp;have g:Grow θ H (θ++[p]) (cp H p o):=ng hp;refine⟨g,by rw[length_append,length_append,w.len];rfl,?_,fun i a m' h1 h2=>?_,w.tb.new hp⟩
 ·rw[nodup_append];exact⟨w.nd,by simp,fun x hx y hy e=>np (by rw[mem_singleton.mp hy] at e;rw[←e];exact hx)⟩
 ·by_cases hi:i<θ.length
  ·rw[getElem?_append_left hi] at h1;rw[getElem?_append_left (by rw[←w.len];exact hi)] at h2;have ha:a≠p:=fun e=>np (by rw[←e];exact mem_of_getElem? h1)
   exact(w.at_ i a m' h1 h2).grow g (aI ha)
  ·have hi':i=θ.length:=by
    have:=(List.getElem?_eq_some_iff.mp h1).1;rw[length_append,length_singleton] at this;omega
   subst hi';rw[getElem?_append_right (Nat.le_refl _)] at h1;rw[getElem?_append_right (by rw[w.len];exact Nat.le_refl _)] at h2;simp only[Nat.sub_self,w.len,getElem?_cons_zero,Option.some.injEq] at h1 h2;subst h1;subst h2;exact hm
theorem l8 {ds:List D}{vs:List V}(w:Wr K θ H M)(hp:H p=none)(r:a7 K θ H ds vs):Go K θ H (θ++[p]) (cp H p (.lst vs)) (M++[.lst ds]):=
 yV w hp ⟨vs,cN,cq (ng hp) ds vs r⟩
theorem tU {i:Nat}{o:HO}(w:Wr K θ H M)(hi:θ[i]?=some a):Grow θ H θ (cp H a o):=by
 have ha:a∈θ:=mem_of_getElem? hi;obtain⟨u,hu,pu⟩:=w.plain hi;exact⟨⟨[],by simp,fun _ z=>by cases z⟩,fun b u h n _=>by rw[aI (fun e=>n (by rw[e];exact ha))];exact h,fun b ps h=>⟨ps,by rw[aI (sA h hu (by intro z;subst z;cases pu))];exact h⟩⟩
theorem zW {i:Nat}{m:MO}{o:HO}(w:Wr K θ H M)(hi:θ[i]?=some a)(hm:mE K θ (cp H a o) m a):Go K θ H θ (cp H a o) (M.set i m):=by
 have g:Grow θ H θ (cp H a o):=tU w hi;obtain⟨u,hu,pu⟩:=w.plain hi;refine⟨g,by rw[length_set];exact w.len,w.nd,fun j b m' h1 h2=>?_,w.tb.at_ hu pu⟩
 by_cases hj:j=i
 ·subst hj;rw[hi] at h1;cases h1;have hl:j<M.length:=by rw[←w.len];exact(List.getElem?_eq_some_iff.mp hi).1
  rw[getElem?_set_self hl] at h2;cases h2;exact hm
 ·rw[getElem?_set_ne (Ne.symm hj)] at h2;have hb:b≠a:=fun e=>by
   subst e;obtain⟨h3,e3⟩:=List.getElem?_eq_some_iff.mp h1;obtain⟨h4,e4⟩:=List.getElem?_eq_some_iff.mp hi;exact hj ((getElem_inj w.nd).mp (e3.trans e4.symm))
  exact(w.at_ j b m' h1 h2).grow g (aI hb)
theorem jZ {i:Nat}{ds ds':List D}{vs':List V}(w:Wr K θ H M)(hi:θ[i]?=some a)(r:a7 K θ H ds' vs'):Go K θ H θ (cp H a (.lst vs')) (M.set i (.lst ds')):=
 zW w hi ⟨vs',cN,cq (tU w hi) ds' vs' r⟩
end
abbrev GE:=bc→av→aN D
abbrev GT:=bc→av→aN Bool
abbrev GA:=bc→av→aN (List D)
inductive Fl where
 | nx (ρ:bc)|rt (d:D)|bk (ρ:bc)|ct (ρ:bc)
abbrev GS:=bc→av→aN Fl
def cV (X:Cx)(θ:List Addr)(H:Hp)(c:Str)(M:av):Prop:=∀C θ' H' a s',cQ X.K c C→Go X.K θ H θ' H' M→Iy X H' a C s'→X.xe (.ref a) s'
def aF (X:Cx)(θ:List Addr)(H:Hp)(Q:VK):aN D→Prop
 | .ok d M'=>∀v θ' H',Go X.K θ H θ' H' M'→cD X.K θ' H' d v→Q v H'
 | .err c M'=>cV X θ H c M'
 | .bad=>False
def jM (X:Cx)(θ:List Addr)(H:Hp)(Q:Bool→Hp→Prop):aN Bool→Prop
 | .ok b M'=>∀θ' H',Go X.K θ H θ' H' M'→Q b H'
 | .err c M'=>cV X θ H c M'
 | .bad=>False
def ve (X:Cx)(θ:List Addr)(H:Hp)(Q:List V→Hp→Prop):aN (List D)→Prop
 | .ok ds M'=>∀vs θ' H',Go X.K θ H θ' H' M'→a7 X.K θ' H' ds vs→Q vs H'
 | .err c M'=>cV X θ H c M'
 | .bad=>False
def bK (X:Cx)(θ:List Addr)(H:Hp)(D:n5):aN Fl→Prop
 | .ok (.nx ρ) M'=>∀σ θ' H',Go X.K θ H θ' H' M'→fZ X.K θ' H' σ ρ→D.nx σ H'
 | .ok (.bk ρ) M'=>∀σ θ' H',Go X.K θ H θ' H' M'→fZ X.K θ' H' σ ρ→D.bk σ H'
 | .ok (.ct ρ) M'=>∀σ θ' H',Go X.K θ H θ' H' M'→fZ X.K θ' H' σ ρ→D.ct σ H'
 | .ok (.rt d) M'=>∀v θ' H',Go X.K θ H θ' H' M'→cD X.K θ' H' d v→D.rt v H'
 | .err c M'=>cV X θ H c M'
 | .bad=>False
def tE (X:Cx)(g:GE):TE:=fun σ H Q=>∃ρ θ M,fZ X.K θ H σ ρ∧Wr X.K θ H M∧aF X θ H Q (g ρ M)
def tT (X:Cx)(g:GT):TT:=fun σ H Q=>∃ρ θ M,fZ X.K θ H σ ρ∧Wr X.K θ H M∧jM X θ H Q (g ρ M)
def tA (X:Cx)(g:GA):TA:=fun σ H Q=>∃ρ θ M,fZ X.K θ H σ ρ∧Wr X.K θ H M∧ve X θ H Q (g ρ M)
def tS (X:Cx)(g:GS):TS:=fun D σ H=>∃ρ θ M,fZ X.K θ H σ ρ∧Wr X.K θ H M∧bK X θ H D (g ρ M)
section
variable {X:Cx}{θ θ':List Addr}{H H':Hp}{M':av}
theorem cV.go {c:Str}{M:av}(g:Go X.K θ H θ' H' M')(h:cV X θ H c M):cV X θ' H' c M:=fun C θ2 H2 a s' k g2 fl=>h C θ2 H2 a s' k (g.trans g2) fl
theorem aF.go {Q:VK}{o:aN D}(g:Go X.K θ H θ' H' M')(h:aF X θ H Q o):aF X θ' H' Q o:=by
 cases o with
 | ok d M=>exact fun v θ2 H2 g2=>h v θ2 H2 (g.trans g2)
 | err c M=>exact cV.go (c:=c) (M:=M) g h
 | bad=>exact h
theorem jM.go {Q:Bool→Hp→Prop}{o:aN Bool}(g:Go X.K θ H θ' H' M')(h:jM X θ H Q o):jM X θ' H' Q o:=by
 cases o with
 | ok d M=>exact fun θ2 H2 g2=>h θ2 H2 (g.trans g2)
 | err c M=>exact cV.go (c:=c) (M:=M) g h
 | bad=>exact h
theorem ve.go {Q:List V→Hp→Prop}{o:aN (List D)}(g:Go X.K θ H θ' H' M')(h:ve X θ H Q o):ve X θ' H' Q o:=by
 cases o with
 | ok d M=>exact fun v θ2 H2 g2=>h v θ2 H2 (g.trans g2)
 | err c M=>exact cV.go (c:=c) (M:=M) g h
 | bad=>exact h
theorem bK.go {D:n5}{o:aN Fl}(g:Go X.K θ H θ' H' M')(h:bK X θ H D o):bK X θ' H' D o:=by
 cases o with
 | ok f M=>cases f <;> exact fun v θ2 H2 g2=>h v θ2 H2 (g.trans g2)
 | err c M=>exact cV.go (c:=c) (M:=M) g h
 | bad=>exact h
end
section
variable {X:Cx}{e:Expr}
theorem _root_.L2.PE.of {t t':TE}(h:PE X e t)(w:∀σ H Q,t' σ H Q→t σ H Q):PE X e t':=fun af s σ H Q I q=>h af s σ H Q I (w σ H Q q)
theorem _root_.L2.PT.of {t t':TT}(h:PT X e t)(w:∀σ H Q,t' σ H Q→t σ H Q):PT X e t':=fun af s σ H Q I q=>h af s σ H Q I (w σ H Q q)
theorem _root_.L2.PW.of {t t':TT}(h:PW X e t)(w:∀σ H Q,t' σ H Q→t σ H Q):PW X e t':=fun wh af s σ H Q I q=>h wh af s σ H Q I (w σ H Q q)
theorem _root_.L2.PA.of {es:List Expr}{t t':TA}(h:PA X es t)(w:∀σ H Q,t' σ H Q→t σ H Q):PA X es t':=fun pos af s σ H Q I q=>h pos af s σ H Q I (w σ H Q q)
theorem _root_.L2.PS.of {st:Stmt}{t t':TS}(h:PS X st t)(w:∀D σ H,t' D σ H→t D σ H):PS X st t':=fun af s σ H D I q=>h af s σ H D I (w D σ H q)
theorem _root_.L2.PSs.of {st:List Stmt}{t t':TS}(h:PSs X st t)(w:∀D σ H,t' D σ H→t D σ H):PSs X st t':=fun af s σ H D I q=>h af s σ H D I (w D σ H q)
theorem bG {g:GE}{σ:L2.St}{H:Hp}{Q:VK}{α:Type}{ρ:bc}{θ:List Addr}{M:av}(hd:fZ X.K θ H σ ρ)(hw:Wr X.K θ H M)(F:aN α→Prop)(Fe:∀c M',F (.err c M')→cV X θ H c M')(Fb:F .bad→False)
  {f:D→av→aN α} (h:F ((g ρ M).bind f))
  (k:∀d M1 v θ1 H1,Go X.K θ H θ1 H1 M1→cD X.K θ1 H1 d v→F (f d M1)→Q v H1):tE X g σ H Q:=by
 refine⟨ρ,θ,M,hd,hw,?_⟩;cases q:g ρ M with
 | ok d M1=>
  rw[q] at h;exact fun v θ1 H1 g1 r1=>k d M1 v θ1 H1 g1 r1 h
 | err c M1=>rw[q] at h;exact Fe c M1 h
 | bad=>rw[q] at h;exact(Fb h).elim
def ae (i:Nat):GE:=fun ρ M=>match ρ[i]? with
 | some (some d)=>.ok d M
 | _=>.bad
def gC (d:D):GE:=fun _ M=>.ok d M
theorem EB {i:Nat}(h:PE X e (D6 i)):PE X e (tE X (ae i)):=h.of fun σ H Q hxx=>by
 obtain⟨ρ,θ,M,hd,hw,f⟩:=hxx;unfold ae at f;split at f
 ·rename_i d q;obtain⟨v,e1,r⟩:=hd.at_ i d q;exact⟨v,e1,f v θ H (.refl hw) r⟩
 ·exact f.elim
theorem Cf {i j pos}:PE X (.Constant (.int i) j pos) (tE X (gC (.int i))):=yj.of fun σ H Q ⟨ρ,θ,M,hd,hw,f⟩=>f _ θ H (.refl hw) rfl
theorem Gb {b j pos}:PE X (.Constant (.bool b) j pos) (tE X (gC (.bl b))):=Gs.of fun σ H Q ⟨ρ,θ,M,hd,hw,f⟩=>f _ θ H (.refl hw) rfl
theorem BG {j pos}:PE X (.Constant .none j pos) (tE X (gC .non)):=DF.of fun σ H Q ⟨ρ,θ,M,hd,hw,f⟩=>f _ θ H (.refl hw) rfl
theorem D2 {x j pos}:PE X (.Constant (.str x) j pos) (tE X (gC (.str x))):=rq.of fun σ H Q ⟨ρ,θ,M,hd,hw,f⟩=>f _ θ H (.refl hw) rfl
abbrev F2:=D→D→av→aN D
def g2 (f:F2)(ga gb:GE):GE:=fun ρ M=>(ga ρ M).bind fun x M1=>(gb ρ M1).bind fun y M2=>f x y M2
def rD (X:Cx)(f:F2):R2:=fun x y H Q=>∃θ M dx dy,Wr X.K θ H M∧cD X.K θ H dx x∧cD X.K θ H dy y∧aF X θ H Q (f dx dy M)
theorem tB {f:F2}{ga gb:GE}{σ:L2.St}{H:Hp}{Q:VK}(h:tE X (g2 f ga gb) σ H Q):Fd (rD X f) (tE X ga) (tE X gb) σ H Q:=by
 obtain⟨ρ,θ,M,hd,hw,h⟩:=h;refine bG hd hw (aF X θ H Q) (fun c M' h=>h) (fun h=>h) h fun dx M1 x θ1 H1 g1 r1 h1=>?_
 refine bG (hd.go g1) g1.wr (aF X θ1 H1 Q) (fun c M' h=>h) (fun h=>h) (h1.go g1) fun dy M2 y θ2 H2 g2 r2 h2=>?_
 exact⟨θ2,M2,dx,dy,g2.wr,r1.go g2,r2,h2.go g2⟩
theorem F7 {a b:Expr}{op:Operator}{pos:Pos}{f:F2}{ga gb:GE}(ho:dM X (binaryOp op) (rD X f))(ha:PE X a (tE X ga))(hb:PE X b (tE X gb)):PE X (.BinOp a op b pos) (tE X (g2 f ga gb)):=
 (ES ho ha hb).of fun _ _ _ h=>tB h
theorem D4 {a b:Expr}{op:CmpOp}{pos:Pos}{f:F2}{ga gb:GE}(ho:dM X (compareOp op) (rD X f))(ha:PE X a (tE X ga))(hb:PE X b (tE X gb))(hm:behindInMarks op b=false):PE X (.Compare a [op] [b] pos) (tE X (g2 f ga gb)):=
 (AE ho ha hb hm).of fun _ _ _ h=>tB h
def vj:D→av→aN Bool
 | .bl b,M=>.ok b M
 | _,_=>.bad
def aw (g:GE):GT:=fun ρ M=>(g ρ M).bind vj
theorem v6 {θ:List Addr}{H:Hp}{Q:Bool→Hp→Prop}{o:aN D}(h:jM X θ H Q (o.bind vj)):aF X θ H (fun x H'=>∃k,x=.bl k∧Q k H') o:=by
 cases o with
 | ok d M=>
  cases d with
  | bl b=>exact fun v θ1 H1 g1 r1=>⟨b,r1,h θ1 H1 g1⟩
  | _=>exact h.elim
 | err c M=>exact h
 | bad=>exact h
theorem xN {g:GE}{σ:L2.St}{H:Hp}{Q:Bool→Hp→Prop}(h:tT X (aw g) σ H Q):tE X g σ H fun x H'=>∃k,x=.bl k∧Q k H':=by
 obtain⟨ρ,θ,M,hd,hw,h⟩:=h;exact⟨ρ,θ,M,hd,hw,v6 h⟩
theorem wf {a b:Expr}{op:CmpOp}{pos:Pos}{f:F2}{ga gb:GE}(ho:dM X (compareOp op) (rD X f))(ha:PE X a (tE X ga))(hb:PE X b (tE X gb))(hm:behindInMarks op b=false):PT X (.Compare a [op] [b] pos) (tT X (aw (g2 f ga gb))):=
 (zN ho ha hb hm).of fun σ H Q h=>tB (xN h)
def oH (f f':F2)(ga gb gc:GE):GE:=fun ρ M=>(ga ρ M).bind fun x M1=>(gb ρ M1).bind fun y M2=>(f x y M2).bind fun z M3=>match z with
 | .bl true=>(gc ρ M3).bind fun w M4=>f' y w M4
 | .bl false=>.ok (.bl false) M3
 | _=>.bad
theorem Be {f f':F2}{ga gb gc:GE}{σ:L2.St}{H:Hp}{Q:VK}(h:tE X (oH f f' ga gb gc) σ H Q):qT (rD X f) (rD X f') (tE X ga) (tE X gb) (tE X gc) σ H Q:=by
 obtain⟨ρ,θ,M,hd,hw,h⟩:=h;refine bG hd hw (aF X θ H Q) (fun c M' h=>h) (fun h=>h) h fun dx M1 x θ1 H1 g1 r1 h1=>?_
 refine bG (hd.go g1) g1.wr (aF X θ1 H1 Q) (fun c M' h=>h) (fun h=>h) (h1.go g1) fun dy M2 y θ2 H2 g2 r2 h2=>?_
 refine⟨θ2,M2,dx,dy,g2.wr,r1.go g2,r2,?_⟩;have h3:=h2.go g2;cases q:f dx dy M2 with
 | ok z M3=>
  rw[q] at h3;intro v θ3 H3 g3 r3;cases z with
  | bl k=>
   refine⟨k,r3,?_⟩;cases k with
   | true=>
    rw[if_pos rfl];refine bG ((hd.go g1).go (g2.trans g3)) g3.wr (aF X θ3 H3 Q) (fun c M' h=>h) (fun h=>h) (h3.go g3) fun dw M4 w θ4 H4 g4 r4 h4=>?_
    exact⟨θ4,M4,dy,dw,g4.wr,r2.go (g3.trans g4),r4,h4.go g4⟩
   | false=>
    rw[if_neg Bool.false_ne_true];exact h3 _ θ3 H3 g3 rfl
  | _=>exact h3.elim
 | err c M3=>rw[q] at h3;exact h3
 | bad=>rw[q] at h3;exact h3
theorem ym {a b c:Expr}{op op':CmpOp}{pos:Pos}{f f':F2}{ga gb gc:GE}(ho:dM X (compareOp op) (rD X f))(ho':dM X (compareOp op') (rD X f'))(ha:PE X a (tE X ga))(hb:PE X b (tE X gb))(hc:PE X c (tE X gc))
  (hm:lastMarks [op,op'] [b,c]=false:=by with_unfolding_all rfl):PE X (.Compare a [op,op'] [b,c] pos) (tE X (oH f f' ga gb gc)):=(xy ho ho' ha hb hc hm).of fun _ _ _ h=>Be h
theorem wg {a b c:Expr}{op op':CmpOp}{pos:Pos}{f f':F2}{ga gb gc:GE}(ho:dM X (compareOp op) (rD X f))(ho':dM X (compareOp op') (rD X f'))(ha:PE X a (tE X ga))(hb:PE X b (tE X gb))(hc:PE X c (tE X gc))
  (hm:lastMarks [op,op'] [b,c]=false:=by with_unfolding_all rfl):PT X (.Compare a [op,op'] [b,c] pos) (tT X (aw (oH f f' ga gb gc))):=(xI ho ho' ha hb hc hm).of fun σ H Q h=>Be (xN h)
def dQ (a b:GT):GT:=fun ρ M=>(a ρ M).bind fun c M1=>if c then b ρ M1 else .ok false M1
def cb (a b:GT):GT:=fun ρ M=>(a ρ M).bind fun c M1=>if c then .ok true M1 else b ρ M1
def du (a:GT):GT:=fun ρ M=>(a ρ M).bind fun c M1=>.ok (!c) M1
theorem p6 {g:GT}{σ:L2.St}{H:Hp}{Q:Bool→Hp→Prop}{α:Type}{ρ:bc}{θ:List Addr}{M:av}(hd:fZ X.K θ H σ ρ)(hw:Wr X.K θ H M)(F:aN α→Prop)(Fe:∀c M',F (.err c M')→cV X θ H c M')(Fb:F .bad→False)
  {f:Bool→av→aN α} (h:F ((g ρ M).bind f)) (k:∀d M1 θ1 H1,Go X.K θ H θ1 H1 M1→F (f d M1)→Q d H1):tT X g σ H Q:=by
 refine⟨ρ,θ,M,hd,hw,?_⟩;cases q:g ρ M with
 | ok d M1=>
  rw[q] at h;exact fun θ1 H1 g1=>k d M1 θ1 H1 g1 h
 | err c M1=>rw[q] at h;exact Fe c M1 h
 | bad=>rw[q] at h;exact(Fb h).elim
variable {a b:Expr}{pos:Pos}{rest:List Expr}{ta tb:GT}{ga gb:GE}
theorem yR (ha:PT X a (tT X ta)):PW X (.BoolOp .And [a] pos) (tT X ta):=Am ha
theorem B3 (ha:PT X a (tT X ta)):PW X (.BoolOp .Or [a] pos) (tT X ta):=Dd ha
theorem CU (ha:PT X a (tT X ta))(hb:PW X (.BoolOp .And (b::rest) pos) (tT X tb)):PW X (.BoolOp .And (a::b::rest) pos) (tT X (dQ ta tb)):=(C7 ha hb).of fun σ H Q hxx=>by
 obtain⟨ρ,θ,M,hd,hw,h⟩:=hxx;refine p6 hd hw (jM X θ H Q) (fun c M' h=>h) (fun h=>h) h fun c M1 θ1 H1 g1 h1=>?_
 cases c with
 | true=>exact⟨ρ,θ1,M1,hd.go g1,g1.wr,jM.go g1 h1⟩
 | false=>exact h1 θ1 H1 g1
theorem Ff (ha:PT X a (tT X ta))(hb:PW X (.BoolOp .Or (b::rest) pos) (tT X tb)):PW X (.BoolOp .Or (a::b::rest) pos) (tT X (cb ta tb)):=(Gw ha hb).of fun σ H Q hxx=>by
 obtain⟨ρ,θ,M,hd,hw,h⟩:=hxx;refine p6 hd hw (jM X θ H Q) (fun c M' h=>h) (fun h=>h) h fun c M1 θ1 H1 g1 h1=>?_
 cases c with
 | true=>exact h1 θ1 H1 g1
 | false=>exact⟨ρ,θ1,M1,hd.go g1,g1.wr,jM.go g1 h1⟩
theorem Cg (ha:PT X a (tT X ta)):PT X (.UnaryOp .Not a pos) (tT X (du ta)):=(Co ha).of fun σ H Q hxx=>by
 obtain⟨ρ,θ,M,hd,hw,h⟩:=hxx;exact p6 hd hw (jM X θ H Q) (fun c M' h=>h) (fun h=>h) h fun c M1 θ1 H1 g1 h1=>h1 θ1 H1 g1
def ag:GA:=fun _ M=>.ok [] M
def aa (g:GE)(r:GA):GA:=fun ρ M=>(g ρ M).bind fun d M1=>(r ρ M1).bind fun ds M2=>.ok (d::ds) M2
theorem iA {g:GA}{σ:L2.St}{H:Hp}{Q:List V→Hp→Prop}{α:Type}{ρ:bc}{θ:List Addr}{M:av}(hd:fZ X.K θ H σ ρ)(hw:Wr X.K θ H M)(F:aN α→Prop)(Fe:∀c M',F (.err c M')→cV X θ H c M')(Fb:F .bad→False)
  {f:List D→av→aN α} (h:F ((g ρ M).bind f)) (k:∀ds M1 vs θ1 H1,Go X.K θ H θ1 H1 M1→a7 X.K θ1 H1 ds vs→F (f ds M1)→Q vs H1):tA X g σ H Q:=by
 refine⟨ρ,θ,M,hd,hw,?_⟩;cases q:g ρ M with
 | ok d M1=>
  rw[q] at h;exact fun v θ1 H1 g1 r1=>k d M1 v θ1 H1 g1 r1 h
 | err c M1=>rw[q] at h;exact Fe c M1 h
 | bad=>rw[q] at h;exact(Fb h).elim
theorem Dm:PA X [] (tA X ag):=dX.of fun σ H Q ⟨ρ,θ,M,hd,hw,f⟩=>f [] θ H (.refl hw) rfl
theorem Ab {es:List Expr}{gr:GA}(ha:PE X e (tE X ga))(hr:PA X es (tA X gr))(hs:starEach (e::es) X.env=(false,eval e X.env)::starEach es X.env:=by rfl):PA X (e::es) (tA X (aa ga gr)):=
 (b9 ha hr hs).of fun σ H Q hxx=>by
  obtain⟨ρ,θ,M,hd,hw,h⟩:=hxx;refine bG hd hw (ve X θ H Q) (fun c M' h=>h) (fun h=>h) h fun d M1 v θ1 H1 g1 r1 h1=>?_
  refine iA (hd.go g1) g1.wr (ve X θ1 H1 Q) (fun c M' h=>h) (fun h=>h) (h1.go g1) fun ds M2 vs θ2 H2 g2 r2 h2=>?_
  exact h2 (v::vs) θ2 H2 g2 ⟨v,vs,rfl,r1.go g2,r2⟩
def k8 (ds:List D)(M:av):aN D:=if ds.length≤sizeLine then .ok (.tup ds) M else .bad
def aJ (ds:List D)(M:av):aN D:=if ds.length≤sizeLine then .ok (.lst ds) M else .bad
def cy (ds:List D)(M:av):aN D:=if ds.length≤sizeLine then .ok (.mr M.length) (M++[.lst ds]) else .bad
def dk (g:GA):GE:=fun ρ M=>(g ρ M).bind k8
def cA (g:GA):GE:=fun ρ M=>(g ρ M).bind aJ
def iV (g:GA):GE:=fun ρ M=>(g ρ M).bind cy
theorem aF.tup {θ:List Addr}{H:Hp}{Q:VK}{ds:List D}{M:av}{vs:List V}(h:aF X θ H Q (k8 ds M))(hw:Wr X.K θ H M)(r:a7 X.K θ H ds vs):vs.length≤sizeLine∧∀p,H p=none→Q (.ref p) (cp H p (.tup vs)):=by
 unfold k8 at h
 by_cases hl:ds.length≤sizeLine
 ·rw[if_pos hl] at h;exact⟨by rw[←aq r];exact hl,fun p hp=>h _ θ _ (dG hw hp) (nV hw hp r)⟩
 ·rw[if_neg hl] at h;exact h.elim
theorem aF.lst {θ:List Addr}{H:Hp}{Q:VK}{ds:List D}{M:av}{vs:List V}(h:aF X θ H Q (aJ ds M))(hw:Wr X.K θ H M)(r:a7 X.K θ H ds vs):vs.length≤sizeLine∧∀p,H p=none→Q (.ref p) (cp H p (.lst vs)):=by
 unfold aJ at h
 by_cases hl:ds.length≤sizeLine
 ·rw[if_pos hl] at h;exact⟨by rw[←aq r];exact hl,fun p hp=>h _ θ _ (dG hw hp) (fD hw hp r)⟩
 ·rw[if_neg hl] at h;exact h.elim
theorem aF.mut {θ:List Addr}{H:Hp}{Q:VK}{ds:List D}{M:av}{vs:List V}(h:aF X θ H Q (cy ds M))(hw:Wr X.K θ H M)(r:a7 X.K θ H ds vs):vs.length≤sizeLine∧∀p,H p=none→Q (.ref p) (cp H p (.lst vs)):=by
 unfold cy at h
 by_cases hl:ds.length≤sizeLine
 ·rw[if_pos hl] at h;refine⟨by rw[←aq r];exact hl,fun p hp=>h _ (θ++[p]) _ (l8 hw hp r) ⟨p,rfl,?_⟩⟩;rw[←hw.len,getElem?_append_right (Nat.le_refl _)];simp
 ·rw[if_neg hl] at h;exact h.elim
theorem Cr {es:List Expr}{x1}{g:GA}(h:PA X es (tA X g)):PE X (.Tuple es x1 pos) (tE X (dk g)):=(Cj h).of fun σ H Q ⟨ρ,θ,M,hd,hw,h⟩=>
 iA hd hw (aF X θ H Q) (fun c M' h=>h) (fun h=>h) h fun ds M1 vs θ1 H1 g1 r1 h1=>aF.tup (aF.go g1 h1) g1.wr r1
theorem DP {es:List Expr}{g:GA}(h:PA X es (tA X g)):PE X (.List es pos) (tE X (cA g)):=(ye h).of fun σ H Q ⟨ρ,θ,M,hd,hw,h⟩=>
 iA hd hw (aF X θ H Q) (fun c M' h=>h) (fun h=>h) h fun ds M1 vs θ1 H1 g1 r1 h1=>aF.lst (aF.go g1 h1) g1.wr r1
theorem DR {es:List Expr}{g:GA}(h:PA X es (tA X g)):PE X (.List es pos) (tE X (iV g)):=(ye h).of fun σ H Q ⟨ρ,θ,M,hd,hw,h⟩=>
 iA hd hw (aF X θ H Q) (fun c M' h=>h) (fun h=>h) h fun ds M1 vs θ1 H1 g1 r1 h1=>aF.mut (aF.go g1 h1) g1.wr r1
end
section
variable {K:W.Frag}{θ:List Addr}{H:Hp}{σ:L2.St}{ρ:bc}
theorem fZ.set {d:D}{v:V}(h:fZ K θ H σ ρ)(r:cD K θ H d v)(i:Nat):fZ K θ H (σ.set i (some v)) (ρ.set i (some d)):=by
 refine⟨by rw[length_set,length_set];exact h.len,fun j d' e=>?_⟩
 by_cases hj:j=i
 ·subst hj;have hl:j<ρ.length:=by
   have:=(List.getElem?_eq_some_iff.mp e).1;rw[length_set] at this;exact this
  rw[getElem?_set_self hl] at e;have e':d=d':=by simpa using e
  subst e';exact⟨v,getElem?_set_self (by rw[←h.len];exact hl),r⟩
 ·rw[getElem?_set_ne (Ne.symm hj)] at e;obtain⟨u,e1,r1⟩:=h.at_ j d' e;exact⟨u,by rw[getElem?_set_ne (Ne.symm hj)];exact e1,r1⟩
end
def aG:GS:=fun ρ M=>.ok (.nx ρ) M
def aj (a b:GS):GS:=fun ρ M=>(a ρ M).bind fun f M1=>match f with
 | .nx ρ1=>b ρ1 M1
 | .rt d=>.ok (.rt d) M1
 | .bk ρ1=>.ok (.bk ρ1) M1
 | .ct ρ1=>.ok (.ct ρ1) M1
def au (i:Nat)(g:GE):GS:=fun ρ M=>(g ρ M).bind fun d M1=>.ok (.nx (ρ.set i (some d))) M1
def a9 (g:GE):GS:=fun ρ M=>(g ρ M).bind fun d M1=>.ok (.rt d) M1
def cf (g:GE):GS:=fun ρ M=>(g ρ M).bind fun _ M1=>.ok (.nx ρ) M1
def ce (t:GT)(a b:GS):GS:=fun ρ M=>(t ρ M).bind fun c M1=>if c then a ρ M1 else b ρ M1
section
variable {X:Cx}{st:Stmt}{rest:List Stmt}{e:Expr}{g:GE}{t u:GS}{pos:Pos}
theorem B7:PSs X [] (tS X aG):=zm.of fun D σ H ⟨ρ,θ,M,hd,hw,f⟩=>f σ θ H (.refl hw) hd
theorem AD (h1:PS X st (tS X t))(h2:PSs X rest (tS X u)):PSs X (st::rest) (tS X (aj t u)):=(vN h1 h2).of fun D σ H hxx=>by
 obtain⟨ρ,θ,M,hd,hw,h⟩:=hxx;refine⟨ρ,θ,M,hd,hw,?_⟩;unfold aj at h;cases q:t ρ M with
 | ok f M1=>
  rw[q] at h;cases f with
  | nx ρ1=>exact fun σ1 θ1 H1 g1 d1=>⟨ρ1,θ1,M1,d1,g1.wr,bK.go g1 h⟩
  | rt d=>exact h
  | bk ρ1=>exact h
  | ct ρ1=>exact h
 | err c M1=>rw[q] at h;exact h
 | bad=>rw[q] at h;exact h
theorem Cd (h1:PS X st (tS X t)):PSs X [st] (tS X t):=zk h1
theorem Ci {i:Nat}{x:Str}{pos':Pos}(hN:X.N.Nodup)(hi:X.N[i]?=some x)(hx:qH X.env.scope x)(he:PE X e (tE X g))(hs:swapsWith e (some (.Name x pos')) pos.line X.env=pure false:=by rfl)(hf:X.fn x=true∨X.env.scope.names.lookup x=some .local:=by first|exact .inl rfl|exact .inr rfl|assumption) :
  PS X (.Assign [.Name x pos'] e pos) (tS X (au i g)):=(El hN hi hx he hs hf).of fun D σ H ⟨ρ,θ,M,hd,hw,h⟩=>
 bG hd hw (bK X θ H D) (fun c M' h=>h) (fun h=>h) h fun d M1 v θ1 H1 g1 r1 h1=>h1 _ θ1 H1 g1 ((hd.go g1).set r1 i)
theorem DW (he:PE X e (tE X g)):PS X (.Return (some e) pos) (tS X (a9 g)):=(Cp he).of fun D σ H ⟨ρ,θ,M,hd,hw,h⟩=>
 bG hd hw (bK X θ H D) (fun c M' h=>h) (fun h=>h) h fun d M1 v θ1 H1 g1 r1 h1=>h1 v θ1 H1 g1 r1
theorem yY (he:PE X e (tE X g))(hs:swapsWith e none pos.line X.env=pure false:=by rfl):PS X (.Expr e pos) (tS X (cf g)):=(Ai he hs).of fun D σ H ⟨ρ,θ,M,hd,hw,h⟩=>
 bG hd hw (bK X θ H D) (fun c M' h=>h) (fun h=>h) h fun d M1 v θ1 H1 g1 r1 h1=>h1 σ θ1 H1 g1 (hd.go g1)
theorem Gn {c:Expr}{a b:List Stmt}{tc:GT}(hc:PT X c (tT X tc))(ha:PSs X a (tS X t))(hb:PSs X b (tS X u)):PS X (.If c a b pos) (tS X (ce tc t u)):=(G7 hc ha hb).of fun D σ H hxx=>by
 obtain⟨ρ,θ,M,hd,hw,h⟩:=hxx;refine p6 hd hw (bK X θ H D) (fun c M' h=>h) (fun h=>h) h fun c M1 θ1 H1 g1 h1=>?_
 cases c with
 | true=>rw[if_pos rfl];exact⟨ρ,θ1,M1,hd.go g1,g1.wr,bK.go g1 h1⟩
 | false=>rw[if_neg Bool.false_ne_true];exact⟨ρ,θ1,M1,hd.go g1,g1.wr,bK.go g1 h1⟩
abbrev GG:=D→bc→Option bc
def tG (X:Cx)(s:GG):TG:=fun v σ H Q=>∃ρ θ M d,fZ X.K θ H σ ρ∧Wr X.K θ H M∧cD X.K θ H d v∧∃ρ',s d ρ=some ρ'∧∀σ',fZ X.K θ H σ' ρ'→Q σ' H
def cT (i:Nat):GG:=fun d ρ=>some (ρ.set i (some d))
def ig:List Nat→List D→bc→Option bc
 | [],[],ρ=>some ρ
 | i::is,d::ds,ρ=>ig is ds (ρ.set i (some d))
 | _,_,_=>none
def l5 (is:List Nat):GG:=fun d ρ=>match d with
 | .tup ds=>ig is ds ρ
 | _=>none
theorem ol {i:Nat}{x:Str}(hN:X.N.Nodup)(hi:X.N[i]?=some x)(hx:qH X.env.scope x)(hf:X.fn x=true∨X.env.scope.names.lookup x=some .local:=by first|exact .inl rfl|exact .inr rfl|assumption):PG X (.Name x pos) (tG X (cT i)):=by
 intro af s σ H v u Q I r h;obtain⟨ρ,θ,M,d,hd,hw,rd,ρ',e,h⟩:=h;cases e;exact A5 hN hi hx hf af s σ H v u Q I r (h _ (hd.set rd i))
def GZ (X:Cx)(is:List Nat):Bt:=fun vs σ H Q=>∃ρ θ M ds,fZ X.K θ H σ ρ∧Wr X.K θ H M∧a7 X.K θ H ds vs∧∃ρ',ig is ds ρ=some ρ'∧∀σ',fZ X.K θ H σ' ρ'→Q σ' H
theorem Af:zn X [] (GZ X []):=by
 intro af s σ H vs us Q I r h;obtain⟨ρ,θ,M,ds,hd,hw,rd,ρ',e,h⟩:=h;cases ds with
 | cons d ds=>cases e
 | nil=>
  have e2:vs=[]:=rd;subst e2;cases e;exact AB af s σ H [] us Q I r ⟨rfl,h σ hd⟩
theorem wt {i:Nat}{is:List Nat}{es:List Expr}(h1:PG X e (tG X (cT i)))(h2:zn X es (GZ X is))
  (hs:(assignEach (e::es) X.env).map (·.2)=assign e X.env::(assignEach es X.env).map (·.2):=by rfl):zn X (e::es) (GZ X (i::is)):=by
 intro af s σ H vs us Q I r h;obtain⟨ρ,θ,M,ds,hd,hw,rd,ρ',e1,h⟩:=h;cases ds with
 | nil=>cases e1
 | cons d ds=>
  obtain⟨v,vr,e2,rv,rr⟩:=rd;subst e2;refine yy h1 h2 hs af s σ H _ us Q I r ⟨v,vr,rfl,ρ,θ,M,d,hd,hw,rv,_,rfl,fun σ1 d1=>?_⟩;exact⟨_,θ,M,ds,d1,hw,rr,ρ',e1,h⟩
theorem Dx {is:List Nat}{es:List Expr}{k:Nat}{n:Nat}(hc:X.calm=true)(h:zn X es (GZ X is))(hl:is.length=n:=by rfl)
  (hn:(assignEach es X.env).length=n:=by rfl) (hst:(assignEach es X.env).findIdx? (·.1)=none:=by rfl):PG X (.Tuple es k pos) (tG X (l5 is)):=by
 intro af s σ H v u Q I r hw;obtain⟨ρ,θ,M,d,hd,hwr,rd,ρ',e1,hw⟩:=hw;cases d with
 | tup ds=>
  obtain⟨a,vs,e2,ta,rs⟩:=rd;have hlen:ds.length=is.length:=by
   have e1:ig is ds ρ=some ρ':=e1;clear hw hd hwr rs hn hst h hl
   induction is generalizing ds ρ with
   | nil=>
    cases ds with
    | nil=>rfl
    | cons _ _=>cases e1
   | cons i is ih=>
    cases ds with
    | nil=>cases e1
    | cons d ds=>rw[length_cons,length_cons,ih _ ds e1 e1]
  refine DT (n:=n) hc h hn hst af s σ H v u Q I r ⟨a,vs,e2,ta.sq,by rw[←aq rs,hlen,hl],?_⟩;exact⟨ρ,θ,M,ds,hd,hwr,rs,ρ',e1,hw⟩
 | _=>cases e1
def sv:List GG→List D→bc→Option bc
 | [],[],ρ=>some ρ
 | s::ss,d::ds,ρ=>match s d ρ with
  | some ρ1=>sv ss ds ρ1
  | none=>none
 | _,_,_=>none
def lL (s:GG)(g:GE):GS:=fun ρ M=>(g ρ M).bind fun d M1=>match s d ρ with
 | some ρ1=>.ok (.nx ρ1) M1
 | none=>.bad
theorem CF {tg:Expr}{s:GG}(he:PE X e (tE X g))(hg:PG X tg (tG X s))(hs:swapsWithSole [tg] e pos.line X.env=pure false:=by rfl)(hw:swappedStores [tg] e X.env=pure none:=by rfl)
  (h1:(assignEach [tg] X.env).map (·.2)=[assign tg X.env]:=by rfl):PS X (.Assign [tg] e pos) (tS X (lL s g)):=(wV he hg hs hw h1).of fun D σ H hxx=>by
 obtain⟨ρ,θ,M,hd,hwr,h⟩:=hxx;refine bG hd hwr (bK X θ H D) (fun c M' h=>h) (fun h=>h) h fun d M1 v θ1 H1 g1 r1 h1=>?_
 cases q:s d ρ with
 | some ρ1=>
  rw[q] at h1;exact⟨ρ,θ1,M1,d,hd.go g1,g1.wr,r1,ρ1,q,fun σ' d'=>h1 σ' θ1 H1 g1 d'⟩
 | none=>rw[q] at h1;exact h1.elim
def qA (o i x:D)(M:av):aN Unit:=match o,i with
 | .mr k,.int j=>match M[k]? with
  | some (.lst xs)=>match oJ xs.length j with
   | some n=>.ok () (M.set k (.lst (xs.set n x)))
   | none=>.bad
  | _=>.bad
 | _,_=>.bad
def fX (go gi g:GE):GS:=fun ρ M=>(g ρ M).bind fun x M1=>(go ρ M1).bind fun o M2=>(gi ρ M2).bind fun i M3=>(qA o i x M3).bind fun _ M4=>.ok (.nx ρ) M4
theorem Eb {o i:Expr}{ip:Pos}{go gi:GE}(he:PE X e (tE X g))(ho:PE X o (tE X go))(hi:PE X i (tE X gi))
  (ha:∀v,assign (.Subscript o i ip) X.env v=(do
   let ov ←holding [v] (eval o X.env)
   let iv ←holding [v,ov] (eval i X.env)
   standAt ip
   holding [v,ov,iv] (setItem ov iv v)
   release [v,ov,iv] []):=by intro _;rfl)
  (hs:swapsWithSole [.Subscript o i ip] e pos.line X.env=pure false:=by rfl) (hw:swappedStores [.Subscript o i ip] e X.env=pure none:=by rfl)
  (h1:(assignEach [.Subscript o i ip] X.env).map (·.2)=[assign (.Subscript o i ip) X.env]:=by rfl):PS X (.Assign [.Subscript o i ip] e pos) (tS X (fX go gi g)):=
 (wV he (By ho hi yl ha) hs hw h1).of fun D σ H hxx=>by
  obtain⟨ρ,θ,M,hd,hwr,h⟩:=hxx;refine bG hd hwr (bK X θ H D) (fun c M' h=>h) (fun h=>h) h fun dx M1 vx θ1 H1 g1 r1 h1=>?_
  refine bG (hd.go g1) g1.wr (bK X θ1 H1 D) (fun c M' h=>h) (fun h=>h) (h1.go g1) fun dob M2 vo θ2 H2 g2 r2 h2=>?_
  refine bG ((hd.go g1).go g2) g2.wr (bK X θ2 H2 D) (fun c M' h=>h) (fun h=>h) (h2.go g2) fun di M3 vi θ3 H3 g3 r3 h3=>?_
  have h4:=h3.go g3;unfold qA at h4;split at h4
  ·rename_i k j;split at h4
   ·rename_i xs q;split at h4
    ·rename_i n hn;obtain⟨a,ea,ta⟩:=r2.go g3;obtain⟨vs,ev,rv⟩:=g3.wr.at_ k a _ ta q;have ei:vi=.int j:=r3;refine⟨a,vs,j,n,ea,ei,ev,by rw[←aq rv];exact hn,?_⟩;have gs:=jZ (ds:=xs) g3.wr ta (pH (r1.go (g2.trans g3)) n rv);exact h4 σ θ3 _ gs ((((hd.go g1).go g2).go g3).go gs)
    ·exact h4.elim
   ·exact h4.elim
  ·exact h4.elim
end
mutual
def CO:D→D→Bool
 | .non,.non=>true
 | .bl a,.bl b=>a==b
 | .int a,.int b=>a==b
 | .str a,.str b=>a==b
 | .tup a,.tup b=>kg a b
 | .lst a,.lst b=>kg a b
 | .ro a,.ro b=>kg a b
 | .mr a,.mr b=>a==b
 | .exc a,.exc b=>a==b
 | .any,.any=>true
 | _,_=>false
def kg:List D→List D→Bool
 | [],[]=>true
 | a::as,b::bs=>CO a b&&kg as bs
 | _,_=>false
end
theorem ff {P:Prop}(h:false=true):P:=absurd h Bool.false_ne_true
mutual
theorem Ah:∀(a b:D),CO a b=true→a=b
 | .non,b,h=>by
  cases b with
  | non=>rfl
  | _=>exact ff h
 | .bl x,b,h=>by
  cases b with
  | bl y=>rw[eq_of_beq (show(x==y)=true from h)]
  | _=>exact ff h
 | .int x,b,h=>by
  cases b with
  | int y=>rw[eq_of_beq (show(x==y)=true from h)]
  | _=>exact ff h
 | .str x,b,h=>by
  cases b with
  | str y=>rw[eq_of_beq (show(x==y)=true from h)]
  | _=>exact ff h
 | .tup x,b,h=>by
  cases b with
  | tup y=>rw[g5 x y h]
  | _=>exact ff h
 | .lst x,b,h=>by
  cases b with
  | lst y=>rw[g5 x y h]
  | _=>exact ff h
 | .ro x,b,h=>by
  cases b with
  | ro y=>rw[g5 x y h]
  | _=>exact ff h
 | .mr x,b,h=>by
  cases b with
  | mr y=>rw[eq_of_beq (show(x==y)=true from h)]
  | _=>exact ff h
 | .exc x,b,h=>by
  cases b with
  | exc y=>rw[eq_of_beq (show(x==y)=true from h)]
  | _=>exact ff h
 | .any,b,h=>by
  cases b with
  | any=>rfl
  | _=>exact ff h
theorem g5:∀(a b:List D),kg a b=true→a=b
 | [],b,h=>by
  cases b with
  | nil=>rfl
  | cons _ _=>exact ff h
 | x::xs,b,h=>by
  cases b with
  | nil=>exact ff h
  | cons y ys=>
   have h:=Bool.and_eq_true_iff.mp (show(CO x y&&kg xs ys)=true from h);rw[Ah x y h.1,g5 xs ys h.2]
end
structure mj where
 ds:List D
 m:Option Nat
def mj.ok (t:mj)(M:av):Bool:=match t.m with
 | none=>true
 | some i=>match M[i]? with
  | some (.lst xs)=>kg xs t.ds
  | _=>false
abbrev GI:=bc→av→aN mj
def yI (K:W.Frag)(J:It)(θ:List Addr)(H:Hp)(t:mj):Prop:=∀θ1 H1 M1,Go K θ H θ1 H1 M1→t.ok M1=true→∀i:Nat,
 (∀d,t.ds[i]?=some d→J.go i H1∧∀x H2,J.yld i H1 x H2→Go K θ1 H1 θ1 H2 M1∧cD K θ1 H2 d x)∧(t.ds.length≤i→J.stop i H1)
def uB (X:Cx)(θ:List Addr)(H:Hp)(R:It→Hp→Prop):aN mj→Prop
 | .ok t M'=>∀J θ' H',Go X.K θ H θ' H' M'→yI X.K J θ' H' t→R J H'
 | .err c M'=>cV X θ H c M'
 | .bad=>False
def tI (X:Cx)(g:GI):TI:=fun σ H R=>∃ρ θ M,fZ X.K θ H σ ρ∧Wr X.K θ H M∧uB X θ H R (g ρ M)
def ni (d:D)(M:av):aN mj:=match d with
 | .lst ds=>.ok ⟨ds,none⟩ M
 | .ro ds=>.ok ⟨ds,none⟩ M
 | .tup ds=>.ok ⟨ds,none⟩ M
 | .mr k=>match M[k]? with
  | some (.lst ds)=>.ok ⟨ds,some k⟩ M
  | _=>.bad
 | _=>.bad
section
variable {X:Cx}{tg:Expr}
theorem sB {K:W.Frag}{θ:List Addr}{H:Hp}{a:Addr}{ds:List D}{vs:List V}(ta:nS K θ H a vs)(r:a7 K θ H ds vs):yI K (Hn K a) θ H ⟨ds,none⟩:=by
 intro θ1 H1 M1 g _ i;have t1:=(ta.grow g.toGrow).sq;have r1:=r.go g;refine⟨fun d e=>?_,fun hl=>⟨vs,t1,by rw[←aq r1];exact hl⟩⟩;obtain⟨v,e1,rv⟩:=dD r1 e;refine⟨⟨vs,v,t1,e1⟩,fun x H2 y=>?_⟩;obtain⟨eH,y⟩:=y;subst eH;have e2:=y vs t1;rw[e1] at e2;cases e2;exact⟨.refl g.wr,rv⟩
theorem yW {K:W.Frag}{θ:List Addr}{H:Hp}{a:Addr}{ds:List D}{vs:List V}(ta:kQ K θ H a vs)(r:a7 K θ H ds vs):yI K (IJ K a) θ H ⟨ds,none⟩:=by
 intro θ1 H1 M1 g _ i;have t1:=(ta.grow g.toGrow).sq;have r1:=r.go g;refine⟨fun d e=>?_,fun hl=>⟨vs,t1,by rw[←aq r1];exact hl⟩⟩;obtain⟨v,e1,rv⟩:=dD r1 e;refine⟨⟨vs,v,t1,e1⟩,fun x H2 y=>?_⟩;obtain⟨eH,y⟩:=y;subst eH;have e2:=y vs t1;rw[e1] at e2;cases e2;exact⟨.refl g.wr,rv⟩
theorem zS {K:W.Frag}{θ:List Addr}{H:Hp}{a:Addr}{ds:List D}{k:Nat}(ta:θ[k]?=some a):yI K (Hn K a) θ H ⟨ds,some k⟩:=by
 intro θ1 H1 M1 g hok i;have t1:θ1[k]?=some a:=by
  obtain⟨m,em,_⟩:=g.ext;rw[em,getElem?_append_left (List.getElem?_eq_some_iff.mp ta).1];exact ta
 have hok':(match M1[k]? with|some (.lst xs)=>kg xs ds|_=>false)=true:=hok;cases q:M1[k]? with
 | none=>rw[q] at hok';cases hok'
 | some m=>
  cases m with
  | lst xs=>
   rw[q] at hok';have e:xs=ds:=g5 xs ds hok';subst e;obtain⟨vs,hv,r1⟩:=g.wr.at_ k a _ t1 q;have s1:jP K H1 a vs:=.inl (.inl hv);refine⟨fun d e=>?_,fun hl=>⟨vs,s1,by rw[←aq r1];exact hl⟩⟩;obtain⟨v,e1,rv⟩:=dD r1 e;refine⟨⟨vs,v,s1,e1⟩,fun x H2 y=>?_⟩;obtain⟨eH,y⟩:=y;subst eH;have e2:=y vs s1;rw[e1] at e2;cases e2;exact⟨.refl g.wr,rv⟩
  | _=>rw[q] at hok';cases hok'
def aM (lo:Int)(n:Nat):List D:=(List.range n).map fun(k:Nat)=>D.int (lo+(k:Int))
theorem tH {K:W.Frag}{θ:List Addr}{H:Hp}(lo:Int)(n:Nat):yI K (Gh lo n) θ H ⟨aM lo n,none⟩:=by
 intro θ1 H1 M1 g _ i;refine⟨fun d e=>?_,fun hl=>?_⟩
 ·have hi:i<n:=by
   have:=(List.getElem?_eq_some_iff.mp e).1;simpa[aM] using this
  refine⟨hi,fun x H2 y=>?_⟩;obtain⟨eH,y⟩:=y;subst eH;refine⟨.refl g.wr,?_⟩;have e':D.int (lo+(i:Int))=d:=by
   have:(aM lo n)[i]?=some (D.int (lo+(i:Int))):=by simp[aM,hi]
   rw[this] at e;exact Option.some.inj e
  subst e';exact y
 ·have h2:(aM lo n).length≤i:=hl;have h3:n≤i:=by simpa[aM] using h2
  exact h3
def wq (ds:List D)(M:av):aN mj:=match ds with
 | [.int j]=>if -(2 ^ 62)≤j∧j<2 ^ 62 then .ok ⟨aM 0 j.toNat,none⟩ M else .bad
 | _=>.bad
def AZ (ds:List D)(M:av):aN mj:=match ds with
 | [.int i,.int j]=>if -(2 ^ 62)≤i∧i<2 ^ 62∧-(2 ^ 62)≤j∧j<2 ^ 62 then .ok ⟨aM i (j-i).toNat,none⟩ M else .bad
 | _=>.bad
def bM (g:GA):GI:=fun ρ M=>(g ρ M).bind wq
def eX (g:GA):GI:=fun ρ M=>(g ρ M).bind AZ
theorem uf {a:Expr}{g:GA}{p pos:Pos}(hg:Gl X "range")(hm:X.mg "range"=none)(ha:PA X [a] (tA X g))(hs:starEach [a] X.env=[(false,eval a X.env)]:=by rfl):PI X tg (.Call (.Name "range" p) [a] [] pos) (tI X (bM g)):=by
 intro af s σ H R I h;refine vC hg hm ha hs af s σ H R I ?_;obtain⟨ρ,θ,M,hd,hw,h⟩:=h;refine iA hd hw (uB X θ H R) (fun c M' h=>h) (fun h=>h) h fun ds M1 vs θ1 H1 g1 r1 h1=>?_
 unfold wq at h1;split at h1
 ·rename_i j;obtain⟨v,r,e,rv,rr⟩:=r1;have e2:r=[]:=rr;have e3:v=.int j:=rv;subst e2;subst e3;split at h1
  ·rename_i hj;exact⟨j,e,hj.1,hj.2,h1 _ θ1 H1 g1 (tH 0 j.toNat)⟩
  ·exact h1.elim
 ·exact h1.elim
theorem uH {a b:Expr}{g:GA}{p pos:Pos}(hg:Gl X "range")(hm:X.mg "range"=none)(ha:PA X [a,b] (tA X g))(hs:starEach [a,b] X.env=[(false,eval a X.env),(false,eval b X.env)]:=by rfl)(hs2:starEach [b] X.env=[(false,eval b X.env)]:=by rfl):PI X tg (.Call (.Name "range" p) [a,b] [] pos) (tI X (eX g)):=by
 intro af s σ H R I h;refine uw hg hm ha hs hs2 af s σ H R I ?_;obtain⟨ρ,θ,M,hd,hw,h⟩:=h;refine iA hd hw (uB X θ H R) (fun c M' h=>h) (fun h=>h) h fun ds M1 vs θ1 H1 g1 r1 h1=>?_
 unfold AZ at h1;split at h1
 ·rename_i i j;obtain⟨v,r,e,rv,v2,r2,e4,rv2,rr⟩:=r1;have e2:r2=[]:=rr;have e3:v=.int i:=rv;have e5:v2=.int j:=rv2;subst e2;subst e3;subst e5;subst e4;split at h1
  ·rename_i hj;exact⟨i,j,e,hj,h1 _ θ1 H1 g1 (tH i (j-i).toNat)⟩
  ·exact h1.elim
 ·exact h1.elim
def cH (t:mj)(s:GG)(body:GS):List D→bc→av→aN Fl
 | [],ρ,M=>if t.ok M then .ok (.nx ρ) M else .bad
 | d::r,ρ,M=>if t.ok M then
   match s d ρ with
   | none=>.bad
   | some ρ1=>(body ρ1 M).bind fun f M1=>match f with
    | .nx ρ2=>cH t s body r ρ2 M1
    | .ct ρ2=>cH t s body r ρ2 M1
    | .bk ρ2=>.ok (.nx ρ2) M1
    | .rt d=>.ok (.rt d) M1
  else .bad
def iQ (gi:GI)(s:GG)(body:GS):GS:=fun ρ M=>(gi ρ M).bind fun t M1=>cH t s body t.ds ρ M1
theorem CT {iter:Expr}{body:List Stmt}{gi:GI}{sg:GG}{gb:GS}{pos:Pos}(hp:PassesOwn (model X.prog X.w) X.A X.env X.xe)(hc:X.calm=true)(hi:PI X tg iter (tI X gi))(hg:PG X tg (tG X sg))(hb:PSs X body (tS X gb))
  (hs:∀x,foldedSetIterable iter X.env x=pure x:=by intro _;rfl):PS X (.For tg iter body [] pos) (tS X (iQ gi sg gb)):=(Dl hp hc hi hg hb hs).of fun D σ H hxx=>by
 obtain⟨ρ,θ,M,hd,hw,h⟩:=hxx;refine⟨ρ,θ,M,hd,hw,?_⟩;unfold iQ at h;cases q:gi ρ M with
 | err c M1=>rw[q] at h;exact h
 | bad=>rw[q] at h;exact h
 | ok t M1=>
  rw[q] at h;intro J θ1 H1 g1 hJ;have h:bK X θ H D (cH t sg gb t.ds ρ M1):=h;refine⟨fun i m σ' H'=>m=t.ds.length-i∧i≤t.ds.length∧∃ρ' θ' M',Go X.K θ1 H1 θ' H' M'∧fZ X.K θ' H' σ' ρ'∧bK X θ' H' D (cH t sg gb (t.ds.drop i) ρ' M'),
   ⟨t.ds.length,by simp,Nat.zero_le _,ρ,θ1,M1,.refl g1.wr,hd.go g1,bK.go g1 h⟩,?_⟩
  rintro i m σ' H' ⟨rfl,hil,ρ',θ',M',g',hd',h'⟩
  by_cases hok:t.ok M'=true
  ·obtain⟨hy,hst⟩:=hJ θ' H' M' g' hok i
   by_cases hlt:i<t.ds.length
   ·refine .inr ?_;have e1:t.ds[i]?=some t.ds[i]:=getElem?_eq_getElem hlt;obtain⟨hgo,hyl⟩:=hy _ e1;rw[drop_eq_getElem_cons hlt,cH,if_pos hok] at h';refine⟨hgo,fun σ2 H2=>∃ρ2 θ2 M2,Go X.K θ' H' θ2 H2 M2∧fZ X.K θ2 H2 σ2 ρ2∧bK X θ2 H2 D (cH t sg gb (t.ds.drop (i+1)) ρ2 M2),fun σ2 H2 ⟨ρ2,θ2,M2,g2,d2,h2⟩=>?_,fun x H2 y=>?_⟩
    ·exact⟨t.ds.length-(i+1),by omega,rfl,hlt,ρ2,θ2,M2,g'.trans g2,d2,h2⟩
    ·obtain⟨gy,rx⟩:=hyl x H2 y;cases qs:sg t.ds[i] ρ' with
     | none=>rw[qs] at h';exact h'.elim
     | some ρ1=>
      rw[qs] at h';refine⟨ρ',θ',M',_,hd'.go gy,gy.wr,rx,ρ1,qs,fun σ1 d1=>⟨ρ1,θ',M',d1,gy.wr,?_⟩⟩;have h':bK X θ' H2 D ((gb ρ1 M').bind _):=bK.go gy h';cases qb:gb ρ1 M' with
      | err c M2=>rw[qb] at h';exact h'
      | bad=>rw[qb] at h';exact h'
      | ok f M2=>
       rw[qb] at h';cases f with
       | nx ρ2=>exact fun σ2 θ2 H3 g2 d2=>⟨ρ2,θ2,M2,gy.trans g2,d2,bK.go g2 h'⟩
       | ct ρ2=>exact fun σ2 θ2 H3 g2 d2=>⟨ρ2,θ2,M2,gy.trans g2,d2,bK.go g2 h'⟩
       | bk ρ2=>exact h'
       | rt d=>exact h'
   ·have e:i=t.ds.length:=by omega
    subst e;rw[drop_length,cH,if_pos hok] at h';exact .inl ⟨hst (Nat.le_refl _),h' σ' θ' H' (.refl g'.wr) hd'⟩
  ·have hz:bK X θ' H' D .bad:=by
    cases hdr:t.ds.drop i with
    | nil=>rw[hdr,cH,if_neg hok] at h';exact h'
    | cons d r=>rw[hdr,cH,if_neg hok] at h';exact h'
   exact hz.elim
end
def DY (K:W.Frag)(θ:List Addr)(H:Hp)(E:XK)(c:Str)(M:av):Prop:=∀C θ' H' a,cQ K c C→Go K θ H θ' H' M→E (.ref C) (some a) H'
def wL (K:W.Frag)(θ:List Addr)(H:Hp)(Q:VK)(E:XK):aN D→Prop
 | .ok d M'=>∀v θ' H',Go K θ H θ' H' M'→cD K θ' H' d v→Q v H'
 | .err c M'=>DY K θ H E c M'
 | .bad=>False
abbrev FD:=List D→av→aN D
def sh (K:W.Frag)(n:Nat)(F:FD):Sp:=fun vs H Q E=>∃θ M ds,ds.length=n∧a7 K θ H ds vs∧Wr K θ H M∧wL K θ H Q E (F ds M)
theorem zw {K:W.Frag}{n:Nat}{F:FD}{ps:List Str}(hn:ps.length=n):∀vs H Q E,sh K n F vs H Q E→vs.length=ps.length:=fun vs H Q E ⟨θ,M,ds,hl,r,_⟩=>by rw[hn,←hl,aq r]
def jX (k:Nat)(ds:List D):bc:=ds.map some++List.replicate k none
def aQ (o:aN Fl):aN D:=o.bind fun f M=>match f with
 | .rt d=>.ok d M
 | .nx _=>.ok .non M
 | _=>.bad
def cr (k:Nat)(g:GS):FD:=fun ds M=>aQ (g (jX k ds) M)
theorem IV {K:W.Frag}{θ:List Addr}{H:Hp}{ds:List D}{vs:List V}(r:a7 K θ H ds vs)(N:List Str):fZ K θ H (L2.start N vs) (jX (N.length-vs.length) ds):=by
 have hl:=aq r;refine⟨by simp[L2.start,jX,hl],fun i d e=>?_⟩;unfold jX at e
 by_cases hi:i<ds.length
 ·rw[getElem?_append_left (by simpa using hi),getElem?_map] at e;cases q:ds[i]? with
  | none=>rw[q] at e;cases e
  | some d'=>
   rw[q] at e;have e':d'=d:=by simpa using e
   subst e';obtain⟨v,e1,rv⟩:=dD r q;refine⟨v,?_,rv⟩;unfold L2.start;rw[getElem?_append_left (by rw[length_map,←hl];exact hi),getElem?_map,e1];rfl
 ·rw[getElem?_append_right (by simpa using hi),getElem?_replicate] at e;split at e <;> cases e
section
variable {P:Program}{w:World}{K:W.Frag}{mg:Str→Option Value}{base:Heap}
theorem IT {x qual:Str}{st:Stmt}{f:Addr}{fd:FuncData}{N ps:List Str}{k n:Nat}{g:GS}(F:CK K x qual st f fd)(S:iu N ps (bq st))(hn:ps.length=n)
  (hbody:∀(cdv:Value) (A:Around) (outer:List Env) (s:Shared) (H:Hp) (E:XK),cB k (A.deeper (envOfC qual (bq st) s.heap.objs.size f cdv))→
   PSs (jm (kr P w) P w K mg base N qual (bq st) f cdv A outer s H E) (dP st) (tS (jm (kr P w) P w K mg base N qual (bq st) f cdv A outer s H E) g)) :
  fU P w K mg base (kr P w) (k+1) f fd ps (sh K n (cr (N.length-n) g)):=by
 obtain⟨oc,od,kV,doc,pm,an,cdv,ct,osl,rfl,lk,hcd⟩:=F.ex;refine EV lk hcd S (zw hn) fun A outer s H vs Q E hr h=>⟨_,hbody cdv A outer s H E hr,?_⟩
 obtain⟨θ,M,ds,hl,r,hw,h⟩:=h;have hv:vs.length=n:=by rw[←aq r];exact hl
 refine⟨jX (N.length-n) ds,θ,M,by rw[←hv];exact IV r N,hw,?_⟩;have h:wL K θ H Q E (aQ (g (jX (N.length-n) ds) M)):=h;unfold aQ at h;cases q:g (jX (N.length-n) ds) M with
 | bad=>rw[q] at h;exact h
 | err c M1=>
  rw[q] at h;have h:DY K θ H E c M1:=h;exact fun C θ' H' a s' kC g1 fl=>rN fl (h C θ' H' a kC g1)
 | ok fl M1=>
  rw[q] at h;cases fl with
  | rt d=>exact h
  | nx ρ1=>exact fun σ1 θ1 H1 g1 _=>h .non θ1 H1 g1 rfl
  | bk ρ1=>exact h.elim
  | ct ρ1=>exact h.elim
end
section
variable {X:Cx}{e:Expr}{es:List Expr}{x:Str}{p pos:Pos}{k n:Nat}{f:Addr}{fd:FuncData}{ps:List Str}{F:FD}{ga:GA}
def ar (n:Nat)(F:FD)(ga:GA):GE:=fun ρ M=>(ga ρ M).bind fun ds M1=>if ds.length=n then F ds M1 else .bad
def G0 (X:Cx):XK:=fun cls oa H'=>∃a C c θ M,oa=some a∧cls=.ref C∧cQ X.K c C∧Wr X.K θ H' M∧cV X θ H' c M
theorem pT:rJ (kr X.prog X.w) X (G0 X):=fun af σ H s e s' I h=>by
 obtain⟨a,C,H',rfl,fl,a',C',c,θ,M,e1,e2,kC,hw,ok⟩:=ud I h;cases e1;cases e2;exact ok C θ H' a s' kC (.refl hw) fl
theorem AW {θ:List Addr}{H:Hp}{c:Str}{M:av}(h:cV X θ H c M):DY X.K θ H (G0 X) c M:=fun C θ' H' a kC g=>⟨a,C,c,θ',M,rfl,rfl,kC,g.wr,h.go g⟩
theorem AJ (Fn:fU X.prog X.w X.K X.mg X.base (kr X.prog X.w) k f fd ps (sh X.K n F))(hr:cB k X.A)(hg:Gl X x)(hm:X.mg x=some (.ref f))(hk:W.keepIn X.K (.ref f)=true)(hb:ib X.K fd ps [])
  (ha:PA X (e::es) (tA X ga)) (hdb:(x==("__debug__":Str))=false:=by decide) (he:starEach (e::es) X.env=(false,eval e X.env)::starEach es X.env:=by rfl) (hpl:(backTo pos (starEach es X.env)).any (·.1)=false:=by rfl) :
  PE X (.Call (.Name x p) (e::es) [] pos) (tE X (ar n F ga)):=(zD Fn hr hg hm hk hb .nil pT ha hdb he hpl).of fun σ H Q hxx=>by
 obtain⟨ρ,θ,M,hd,hw,h⟩:=hxx;refine iA hd hw (aF X θ H Q) (fun c M' h=>h) (fun h=>h) h fun ds M1 vs θ1 H1 g1 r1 h1=>?_
 by_cases hl:ds.length=n
 ·rw[if_pos hl] at h1;refine⟨θ1,M1,ds,hl,by rw[append_nil];exact r1,g1.wr,?_⟩;have h2:=aF.go g1 h1;cases q:F ds M1 with
  | ok d M2=>rw[q] at h2;exact h2
  | err c M2=>rw[q] at h2;exact AW h2
  | bad=>rw[q] at h2;exact h2
 ·rw[if_neg hl] at h1;exact h1.elim
def rC (X:Cx)(F:FD):List V→Hp→VK→Prop:=fun xs H Q=>∃θ M ds,Wr X.K θ H M∧a7 X.K θ H ds xs∧aF X θ H Q (F ds M)
def az (F:FD)(ga:GA):GE:=fun ρ M=>(ga ρ M).bind F
theorem wX {σ:L2.St}{H:Hp}{Q:VK}(h:tE X (az F ga) σ H Q):Hz (rC X F) (tA X ga) σ H Q:=by
 obtain⟨ρ,θ,M,hd,hw,h⟩:=h;exact iA hd hw (aF X θ H Q) (fun c M' h=>h) (fun h=>h) h fun ds M1 vs θ1 H1 g1 r1 h1=>⟨θ1,M1,ds,g1.wr,r1,aF.go g1 h1⟩
theorem xT {id:String}(hc:cx X (.builtin id) (rC X F))(hg:Gl X x)(hm:X.mg x=none)(hv:bootBuiltins x=some (.builtin id))(ha:PA X (e::es) (tA X ga))(hn:x≠"__name__":=by decide)(hdb:(x==("__debug__":Str))=false:=by decide)
  (he:starEach (e::es) X.env=(false,eval e X.env)::starEach es X.env:=by rfl) (hpl:(backTo pos (starEach es X.env)).any (·.1)=false:=by rfl):PE X (.Call (.Name x p) (e::es) [] pos) (tE X (az F ga)):=
 (jF hc hg hm hv ha hn hdb he hpl).of fun σ H Q h=>wX h
theorem um {T:String}(hc:cx X (.type T) (rC X F))(hg:Gl X x)(hm:X.mg x=none)(hv:bootBuiltins x=some (.type T))(ha:PA X (e::es) (tA X ga))(hn:x≠"__name__":=by decide)(hdb:(x==("__debug__":Str))=false:=by decide)
  (he:starEach (e::es) X.env=(false,eval e X.env)::starEach es X.env:=by rfl) (hpl:(backTo pos (starEach es X.env)).any (·.1)=false:=by rfl):PE X (.Call (.Name x p) (e::es) [] pos) (tE X (az F ga)):=
 (vd hc hg hm hv ha hn hdb he hpl).of fun σ H Q h=>wX h
end
section
variable {prog:Program}{w:World}{A:Around}{E:Value→Shared→Prop}{s:Shared}
theorem yx {t b:Addr}{ws:List Value}{Q:Value→Shared→Prop}(ht:IsTup s.heap t #[])(hb:IsTup s.heap b ws.toArray)
  (h:Q (.ref b) s):wpAny (model prog w) A (binaryOp .Add (.ref t) (.ref b)) Q E s:=by
 obtain⟨⟨cls,dd,data,sl⟩,ho,hc,n,hd⟩:=id ht;obtain⟨⟨cls2,dd2,data2,sl2⟩,ho2,hc2,n2,hd2⟩:=id hb;simp only at hc hd hc2 hd2;subst hc hd hc2 hd2;exact concat_meets ⟨_,ho,rfl⟩ ⟨_,ho2,rfl⟩ noFill_tuple_add seq_tuple_add PySem.F.slot_tuple_add PySem.F.entry_tuple_add (PySem.F.args_tuple_add_2 _ _)
   (tuple_addW0 t b #[] ws.toArray n n2 dd dd2 sl sl2 (by simp)) ⟨ho,ho2,h⟩
theorem iz {t sl:Addr}{items:Array Value}{vl vu:Value}{lo hi:Option Int}{Q:Value→Shared→Prop}(ht:IsTup s.heap t items)(hs:s.heap.IsSliceOf sl vl vu .none)(pl:IsPart vl lo)(pu:IsPart vu hi)
  (hw:HT.sIx items.size 0 lo=0∧HT.sIx items.size items.size hi=items.size) (h:Q (.ref t) s):wpAny (model prog w) A (getItem (.ref t) (.ref sl)) Q E s:=by
 obtain⟨os,hos,hcs,hds⟩:=id hs;have hTs:s.TypeIs (.ref sl) "slice":=⟨os,hos,hcs⟩;unfold getItem
 try with_reducible refine wpAny_holding ?_
 first|refine wpAny_bind (wpAny_pure ?_)|skip
 refine wpAny_bind (wpAny_sequenceKey ht.typeIs (by decide) ?_);refine wpAny_bind (wpAny_callSpecial?_slot (name:=Str.ofString "__getitem__") ht.typeIs PyProof.Rows.slot_tuple_getitem
  (wpAny_call_entry PyProof.Rows.slot_tuple_getitem ht.typeIs entry_tuple_getitem ?_ (args_tuple_getitem _ _)))
 show wpAny _ _ (Builtin.Tuple.tupleItemsOf (.ref t) >>= _) _ _ s;refine wpAny_bind (tupleItemsOf_ ht ?_);refine wpAny_bind (wpAny_typeOf hTs ?_);rw[if_pos (by decide)];refine wpAny_bind (HT.sliceApplied_gen hs pl pu ?_);have hyes:(((HT.sIx items.size 0 lo:Nat):Int)==0&&(1:Int)==1&&(HT.sIx items.size items.size hi-HT.sIx items.size 0 lo)==items.size)=true:=by
  rw[hw.1,hw.2];simp
 show wpAny _ _ (if(((HT.sIx items.size 0 lo:Nat):Int)==0&&(1:Int)==1&&(HT.sIx items.size items.size hi-HT.sIx items.size 0 lo)==items.size)=true then _ else _) _ _ s;rw[if_pos hyes];unfold Builtin.Tuple.tupleIsExact;refine wpAny_bind (wpAny_bind (wpAny_typeOf ht.typeIs (wpAny_pure ?_)));rw[if_pos (by decide)]
 first
  | exact wpAny_bind (wpAny_rule (wpAny_bind (wpAny_pure ⟨_,rfl,wpAny_pure h⟩)))
  | exact wpAny_bind (wpAny_rule (wpAny_pure ⟨_,rfl,wpAny_pure h⟩))
  | exact wpAny_bind (wpAny_rule (wpAny_bind (wpAny_pure (wpAny_pure ⟨_,rfl,wpAny_pure h⟩))))
end
def jA (d:D)(M:av):Option (List D):=match d with
 | .lst xs=>some xs
 | .mr k=>match M[k]? with
  | some (.lst xs)=>some xs
  | _=>none
 | _=>none
def ax:F2:=fun x y M=>match x,y with
 | .int i,.int j=>.ok (.int (i+j)) M
 | .str a,.str b=>if a.length+b.length≤sizeLine then .ok (.str (a++b)) M else .bad
 | .tup a,.tup b=>if a.length+b.length≤sizeLine then .ok (.tup (a++b)) M else .bad
 | .bl a,.int j=>.ok (.int ((if a=true then 1 else 0)+j)) M
 | x,y=>match jA x M,jA y M with
  | some a,some b=>if a.length+b.length≤sizeLine then .ok (.lst (a++b)) M else .bad
  | _,_=>.bad
def li:F2:=fun x y M=>match jA x M,jA y M with
 | some a,some b=>if a.length+b.length≤sizeLine then .ok (.mr M.length) (M++[.lst (a++b)]) else .bad
 | _,_=>.bad
theorem lq {K:W.Frag}{θ:List Addr}{H:Hp}{M:av}{d:D}{xs:List D}{v:V}(hw:Wr K θ H M)(r:cD K θ H d v)(e:jA d M=some xs):∃a vs,v=.ref a∧H a=some (.lst vs)∧a7 K θ H xs vs:=by
 cases d with
 | lst ys=>cases e;obtain⟨a,vs,ea,ta,ra⟩:=r;exact⟨a,vs,ea,ta.1,ra⟩
 | mr k=>
  obtain⟨a,ea,ta⟩:=r;have e:(match M[k]? with|some (.lst xs)=>some xs|_=>none)=some xs:=e;cases q:M[k]? with
  | none=>rw[q] at e;cases e
  | some m=>
   cases m with
   | lst ys=>
    rw[q] at e;cases e;obtain⟨vs,hv,ra⟩:=hw.at_ k a _ ta q;exact⟨a,vs,ea,hv,ra⟩
   | _=>rw[q] at e;cases e
 | _=>cases e
def fO:F2:=fun x y M=>match x,y with
 | .int i,.int j=>.ok (.int (i-j)) M
 | _,_=>.bad
def dF:F2:=fun x y M=>match x,y with
 | .int i,.int j=>if(-(2 ^ 64)<i∧i<2 ^ 64)∨(-(2 ^ 64)<j∧j<2 ^ 64) then .ok (.int (i*j)) M else .bad
 | _,_=>.bad
def lB:F2:=fun x y M=>match x,y with
 | .int i,.int j=>if 0<j∧j.natAbs.log2<9000 then .ok (.int (i / j)) M else .bad
 | _,_=>.bad
def dt:F2:=fun x y M=>match x,y with
 | .int i,.int j=>if 0<j then .ok (.int (i % j)) M else .bad
 | _,_=>.bad
def qK:F2:=fun x y M=>match x,y with
 | .int i,.int j=>if 0≤j∧j≤1000000∧i.natAbs<2 ^ 64 then .ok (.int (i ^ j.toNat)) M else .bad
 | _,_=>.bad
section
variable {X:Cx}
theorem CH:dM X (binaryOp .Add) (rD X ax):=by
 intro af s σ H x y v u Q I rx ry h;obtain⟨θ,M,dx,dy,hw,r1,r2,h⟩:=h;unfold ax at h;split at h
 ·rename_i i j;exact Dj af s σ H x y v u Q I rx ry ⟨i,j,r1,r2,h _ θ H (.refl hw) rfl⟩
 ·rename_i a b;split at h
  ·rename_i hl;exact qY af s σ H x y v u Q I rx ry ⟨a,b,r1,r2,hl,h _ θ H (.refl hw) rfl⟩
  ·exact h.elim
 ·rename_i as bs;split at h
  ·rename_i hl;obtain⟨a,vs,ea,ta,ra⟩:=r1;obtain⟨b,us,eb,tb,rb⟩:=r2
   by_cases hv:vs=[]
   ·subst hv;have e0:as=[]:=length_eq_zero_iff.mp (aq ra);subst e0;subst ea;subst eb;cases rx;cases ry;obtain⟨its,q1,p1,_⟩:=I.tuple ta.sq;obtain⟨its2,q2,p2,_⟩:=I.tuple tb.sq;cases q1;exact yx p1 p2 ⟨.ref b,H,I,rfl,h _ θ H (.refl hw) ⟨b,us,rfl,tb,rb⟩⟩
   ·refine zL af s σ H x y v u Q I rx ry ⟨a,b,vs,us,ea,eb,ta.sq,tb.sq,hv,by rw[←aq ra,←aq rb];exact hl,fun hu=>?_,fun _ p hp=>h _ θ _ (dG hw hp) (nV hw hp (bD ra rb))⟩;subst hu;have e0:bs=[]:=length_eq_zero_iff.mp (aq rb);subst e0;exact h _ θ H (.refl hw) ⟨a,vs,rfl,ta,by rw[append_nil];exact ra⟩
  ·exact h.elim
 ·rename_i a j;have e1:x=.bl a:=r1;have e2:y=.int j:=r2;subst e1;subst e2;cases rx;obtain⟨t',rfl⟩:=ry;exact IntBool.add_bool_int ⟨.int _,H,I.tok _,⟨_,rfl⟩,h _ θ H (.refl hw) rfl⟩
 ·split at h
  ·rename_i as bs q1 q2;split at h
   ·rename_i hl;obtain⟨a,vs,ea,ta,ra⟩:=lq hw r1 q1;obtain⟨b,us,eb,tb,rb⟩:=lq hw r2 q2;exact wZ af s σ H x y v u Q I rx ry ⟨a,b,vs,us,ea,eb,ta,tb,by rw[←aq ra,←aq rb];exact hl,fun p hp=>h _ θ _ (dG hw hp) (fD hw hp (bD ra rb))⟩
   ·exact h.elim
  ·exact h.elim
theorem jh {K:W.Frag}{θ:List Addr}{H H':Hp}{M:av}{p:Addr}(hw:Wr K θ H M):cD K (θ++[p]) H' (.mr M.length) (.ref p):=by
 refine⟨p,rfl,?_⟩;rw[←hw.len,getElem?_append_right (Nat.le_refl _)];simp
theorem zZ:dM X (binaryOp .Add) (rD X li):=by
 intro af s σ H x y v u Q I rx ry h;obtain⟨θ,M,dx,dy,hw,r1,r2,h⟩:=h;unfold li at h;split at h
 ·rename_i as bs q1 q2;split at h
  ·rename_i hl;obtain⟨a,vs,ea,ta,ra⟩:=lq hw r1 q1;obtain⟨b,us,eb,tb,rb⟩:=lq hw r2 q2;exact wZ af s σ H x y v u Q I rx ry ⟨a,b,vs,us,ea,eb,ta,tb,by rw[←aq ra,←aq rb];exact hl,fun p hp=>h _ _ _ (l8 hw hp (bD ra rb)) (jh hw)⟩
  ·exact h.elim
 ·exact h.elim
theorem Dh:dM X (binaryOp .Sub) (rD X fO):=by
 intro af s σ H x y v u Q I rx ry h;obtain⟨θ,M,dx,dy,hw,r1,r2,h⟩:=h;unfold fO at h;split at h
 ·rename_i i j;exact BR af s σ H x y v u Q I rx ry ⟨i,j,r1,r2,h _ θ H (.refl hw) rfl⟩
 ·exact h.elim
theorem Ed:dM X (binaryOp .Mult) (rD X dF):=by
 intro af s σ H x y v u Q I rx ry h;obtain⟨θ,M,dx,dy,hw,r1,r2,h⟩:=h;unfold dF at h;split at h
 ·rename_i i j;split at h
  ·rename_i hc;exact BF af s σ H x y v u Q I rx ry ⟨i,j,r1,r2,hc,h _ θ H (.refl hw) rfl⟩
  ·exact h.elim
 ·exact h.elim
theorem yQ:dM X (binaryOp .FloorDiv) (rD X lB):=by
 intro af s σ H x y v u Q I rx ry h;obtain⟨θ,M,dx,dy,hw,r1,r2,h⟩:=h;unfold lB at h;split at h
 ·rename_i i j;split at h
  ·rename_i hc;have e1:x=.int i:=r1;have e2:y=.int j:=r2;subst e1;subst e2;obtain⟨t,rfl⟩:=rx;obtain⟨t',rfl⟩:=ry;have h1:(0:Int)<j:=hc.1;exact floordiv_int (by omega) (by rw[Int.fdiv_eq_ediv_of_nonneg i (by omega)];exact⟨.int (i / j),H,I.tok _,⟨_,rfl⟩,h _ θ H (.refl hw) rfl⟩) (.inl (PyProof.noPylong_of_log2 hc.2))
  ·exact h.elim
 ·exact h.elim
theorem Ce:dM X (binaryOp .Mod) (rD X dt):=by
 intro af s σ H x y v u Q I rx ry h;obtain⟨θ,M,dx,dy,hw,r1,r2,h⟩:=h;unfold dt at h;split at h
 ·rename_i i j;split at h
  ·rename_i hc;exact B5 af s σ H x y v u Q I rx ry ⟨i,j,r1,r2,hc,h _ θ H (.refl hw) rfl⟩
  ·exact h.elim
 ·exact h.elim
theorem BJ:dM X (binaryOp .Pow) (rD X qK):=by
 intro af s σ H x y v u Q I rx ry h;obtain⟨θ,M,dx,dy,hw,r1,r2,h⟩:=h;unfold qK at h;split at h
 ·rename_i i j;split at h
  ·rename_i hc;exact DZ af s σ H x y v u Q I rx ry ⟨i,j,r1,r2,hc,h _ θ H (.refl hw) rfl⟩
  ·exact h.elim
 ·exact h.elim
def ml (g:GE):GE:=fun ρ M=>(g ρ M).bind fun x M1=>match x with
 | .int i=>.ok (.int (-i)) M1
 | _=>.bad
theorem Eh {a:Expr}{pos:Pos}{g:GE}(ha:PE X a (tE X g)):PE X (.UnaryOp .USub a pos) (tE X (ml g)):=(GV CL ha).of fun σ H Q hxx=>by
 obtain⟨ρ,θ,M,hd,hw,h⟩:=hxx;refine bG hd hw (aF X θ H Q) (fun c M' h=>h) (fun h=>h) h fun d M1 v θ1 H1 g1 r1 h1=>?_
 split at h1
 ·rename_i i;exact⟨i,r1,h1 _ θ1 H1 g1 rfl⟩
 ·exact h1.elim
def je:F2:=fun x y M=>match x,y with
 | .int i,.int j=>.ok (.bl (decide (i<j))) M
 | _,_=>.bad
def mB:F2:=fun x y M=>match x,y with
 | .int i,.int j=>.ok (.bl (decide (i≤j))) M
 | _,_=>.bad
def DJ:F2:=fun x y M=>match x,y with
 | .int i,.int j=>.ok (.bl (decide (j<i))) M
 | _,_=>.bad
def Cm:F2:=fun x y M=>match x,y with
 | .int i,.int j=>.ok (.bl (decide (j≤i))) M
 | _,_=>.bad
theorem G1:dM X (compareOp .Lt) (rD X je):=by
 intro af s σ H x y v u Q I rx ry h;obtain⟨θ,M,dx,dy,hw,r1,r2,h⟩:=h;unfold je at h;split at h
 ·rename_i i j;exact GW af s σ H x y v u Q I rx ry ⟨i,j,r1,r2,h _ θ H (.refl hw) rfl⟩
 ·exact h.elim
theorem Gg:dM X (compareOp .LtE) (rD X mB):=by
 intro af s σ H x y v u Q I rx ry h;obtain⟨θ,M,dx,dy,hw,r1,r2,h⟩:=h;unfold mB at h;split at h
 ·rename_i i j;exact EU af s σ H x y v u Q I rx ry ⟨i,j,r1,r2,h _ θ H (.refl hw) rfl⟩
 ·exact h.elim
theorem FG:dM X (compareOp .Gt) (rD X DJ):=by
 intro af s σ H x y v u Q I rx ry h;obtain⟨θ,M,dx,dy,hw,r1,r2,h⟩:=h;unfold DJ at h;split at h
 ·rename_i i j;exact FP af s σ H x y v u Q I rx ry ⟨i,j,r1,r2,h _ θ H (.refl hw) rfl⟩
 ·exact h.elim
theorem G6:dM X (compareOp .GtE) (rD X Cm):=by
 intro af s σ H x y v u Q I rx ry h;obtain⟨θ,M,dx,dy,hw,r1,r2,h⟩:=h;unfold Cm at h;split at h
 ·rename_i i j;exact Gc af s σ H x y v u Q I rx ry ⟨i,j,r1,r2,h _ θ H (.refl hw) rfl⟩
 ·exact h.elim
def ER (d c:D):Option Bool:=match c,d with
 | .non,.non=>some true
 | .non,.any=>none
 | .non,_=>some false
 | .bl b,.bl b'=>some (b'==b)
 | .bl _,.non=>some false
 | .bl _,.int _=>some false
 | .bl _,.str _=>some false
 | .bl _,.tup _=>some false
 | .bl _,.lst _=>some false
 | .bl _,.ro _=>some false
 | .bl _,.mr _=>some false
 | _,_=>none
def mq (neg:Bool):F2:=fun x y M=>match ER x y with
 | some b=>.ok (.bl (b != neg)) M
 | none=>.bad
def VS:D→Value→Prop
 | .non,v=>v=.none
 | .bl b,v=>v=.bool b
 | .int i,v=>∃t,v=.int i t
 | .str i,v=>∃t,v=.str i t
 | .any,_=>True
 | _,v=>∃a,v=.ref a
theorem A9 {K:W.Frag}{θ:List Addr}{H:Hp}{d:D}{x:V}{v:Value}(r:cD K θ H d x)(q:RelV x v):VS d v:=by
 cases d with
 | non=>have e:x=.non:=r;rw[e] at q;exact q
 | bl b=>have e:x=.bl b:=r;rw[e] at q;exact q
 | int i=>have e:x=.int i:=r;rw[e] at q;exact q
 | str i=>have e:x=.str i:=r;rw[e] at q;exact q
 | any=>trivial
 | tup ds=>obtain⟨a,_,e,_⟩:=r;rw[e] at q;exact⟨a,q⟩
 | lst ds=>obtain⟨a,_,e,_⟩:=r;rw[e] at q;exact⟨a,q⟩
 | ro ds=>obtain⟨a,_,e,_⟩:=r;rw[e] at q;exact⟨a,q⟩
 | mr k=>obtain⟨a,e,_⟩:=r;rw[e] at q;exact⟨a,q⟩
 | exc c=>obtain⟨a,_,e,_⟩:=r;rw[e] at q;exact⟨a,q⟩
theorem fn {α:Type}{b:α}{P:Prop}(h:none=some b):P:=nomatch h
theorem tL {v u:Value}{b:Bool}(h:some false=some b)(k:plainIs v u=true∧(v==u)=false):plainIs v u=true∧(v==u)=b:=Option.some.inj h▸k
theorem FZ {dx dy:D}{v u:Value}{b:Bool}(p:VS dx v)(q:VS dy u)(h:ER dx dy=some b):plainIs v u=true∧(v==u)=b:=by
 cases dy with
 | non=>
  rw[show u=.none from q];cases dx with
  | non=>rw[show v=.none from p];exact Option.some.inj (show some true=some b from h)▸⟨rfl,rfl⟩
  | bl b=>rw[show v=.bool b from p];exact tL h ⟨rfl,rfl⟩
  | any=>exact fn h
  | _=>obtain⟨t,e⟩:=p;rw[e];exact tL h ⟨rfl,rfl⟩
 | bl c=>
  rw[show u=.bool c from q];cases dx with
  | non=>rw[show v=.none from p];exact tL h ⟨rfl,rfl⟩
  | bl b=>
   rw[show v=.bool b from p,←Option.some.inj h];refine⟨rfl,?_⟩;cases b <;> cases c <;> rfl
  | any=>exact fn h
  | exc _=>exact fn h
  | _=>obtain⟨t,e⟩:=p;rw[e];exact tL h ⟨rfl,rfl⟩
 | _=>exact fn h
theorem ED {K:W.Frag}{θ:List Addr}{H:Hp}{dx dy:D}{x y:V}{v u:Value}{b:Bool}(r1:cD K θ H dx x)(r2:cD K θ H dy y)(rx:RelV x v)(ry:RelV y u)(h:ER dx dy=some b) :
  plainIs v u=true∧(v==u)=b:=FZ (A9 r1 rx) (A9 r2 ry) h
theorem FT:dM X (compareOp .Is) (rD X (mq false)):=by
 intro af s σ H x y v u Q I rx ry h;obtain⟨θ,M,dx,dy,hw,r1,r2,h⟩:=h;unfold mq at h;split at h
 ·rename_i b q;obtain⟨hp,e⟩:=ED r1 r2 rx ry q;refine wpAny_is_plain hp ?_;rw[e];refine⟨.bl b,H,I,rfl,?_⟩;have:=h (.bl (b != false)) θ H (.refl hw) rfl;rw[Bool.bne_false] at this;exact this
 ·exact h.elim
mutual
def mi:D→PyData
 | .non=>.none
 | .bl b=>.bool b
 | .int i=>.int i
 | .str x=>.str x
 | .tup ds=>.tuple (jW ds)
 | .lst ds=>.list (jW ds)
 | .ro ds=>.list (jW ds)
 | .mr _=>.dict []
 | .exc _=>.dict []
 | .any=>.dict []
def jW:List D→List PyData
 | []=>[]
 | d::ds=>mi d::jW ds
end
mutual
def cz:Nat→D→Bool
 | _,.non=>true
 | _,.bl _=>true
 | _,.int _=>true
 | _,.str x=>PyData.strOk x
 | n+1,.tup ds=>a8 n ds
 | n+1,.lst ds=>a8 n ds
 | n+1,.ro ds=>a8 n ds
 | _,_=>false
def a8:Nat→List D→Bool
 | _,[]=>true
 | n,d::ds=>cz n d&&a8 n ds
end
mutual
def kq:D→D→Bool
 | .non,.non=>true
 | .bl a,.bl b=>a==b
 | .bl a,.int j=>(if a then 1 else 0)==j
 | .int i,.bl b=>i==(if b then 1 else 0)
 | .int i,.int j=>i==j
 | .str x,.str y=>x==y
 | .lst xs,.lst ys=>fL xs ys
 | .lst xs,.ro ys=>fL xs ys
 | .ro xs,.lst ys=>fL xs ys
 | .ro xs,.ro ys=>fL xs ys
 | .tup xs,.tup ys=>fL xs ys
 | _,_=>false
def fL:List D→List D→Bool
 | [],[]=>true
 | x::xs,y::ys=>kq x y&&fL xs ys
 | _,_=>false
end
mutual
theorem oD:∀(x y:D) (n m:Nat),cz n x=true→cz m y=true→PyData.eqv (mi x) (mi y)=kq x y
 | .non,y,n,m,hx,hy=>by cases y <;> rfl
 | .bl a,y,n,m,hx,hy=>by cases y <;> rfl
 | .int a,y,n,m,hx,hy=>by cases y <;> rfl
 | .str a,y,n,m,hx,hy=>by cases y <;> rfl
 | .tup xs,y,n,m,hx,hy=>by
  cases n with
  | zero=>exact ff hx
  | succ n=>
   cases y with
   | tup ys=>
    cases m with
    | zero=>exact ff hy
    | succ m=>
     exact fY xs ys n m hx hy
   | _=>rfl
 | .lst xs,y,n,m,hx,hy=>by
  cases n with
  | zero=>exact ff hx
  | succ n=>
   cases y with
   | lst ys=>
    cases m with
    | zero=>exact ff hy
    | succ m=>
     exact fY xs ys n m hx hy
   | ro ys=>
    cases m with
    | zero=>exact ff hy
    | succ m=>
     exact fY xs ys n m hx hy
   | _=>rfl
 | .ro xs,y,n,m,hx,hy=>by
  cases n with
  | zero=>exact ff hx
  | succ n=>
   cases y with
   | lst ys=>
    cases m with
    | zero=>exact ff hy
    | succ m=>
     exact fY xs ys n m hx hy
   | ro ys=>
    cases m with
    | zero=>exact ff hy
    | succ m=>
     exact fY xs ys n m hx hy
   | _=>rfl
 | .mr a,y,n,m,hx,hy=>by cases n <;> exact ff hx
 | .exc a,y,n,m,hx,hy=>by cases n <;> exact ff hx
 | .any,y,n,m,hx,hy=>by cases n <;> exact ff hx
theorem fY:∀(x y:List D) (n m:Nat),a8 n x=true→a8 m y=true→PyData.eqvAll (jW x) (jW y)=fL x y
 | [],y,n,m,hx,hy=>by cases y <;> rfl
 | x::xs,y,n,m,hx,hy=>by
  cases y with
  | nil=>rfl
  | cons y ys=>
   have hx:=Bool.and_eq_true_iff.mp (show(cz n x&&a8 n xs)=true from hx);have hy:=Bool.and_eq_true_iff.mp (show(cz m y&&a8 m ys)=true from hy);show(PyData.eqv (mi x) (mi y)&&PyData.eqvAll (jW xs) (jW ys))=(kq x y&&fL xs ys);rw[oD x y n m hx.1 hy.1,fY xs ys n m hx.2 hy.2]
end
mutual
theorem jz:∀(d:D) (n:Nat),cz n d=true→(mi d).canLay0=true∧(mi d).depth≤n
 | .non,n,h=>by simp[mi,PyData.canLay0,PyData.depth]
 | .bl a,n,h=>by simp[mi,PyData.canLay0,PyData.depth]
 | .int a,n,h=>by simp[mi,PyData.canLay0,PyData.depth]
 | .str a,n,h=>by
  have:PyData.strOk a=true:=by cases n <;> exact h
  simp[mi,PyData.canLay0,PyData.depth,this]
 | .tup xs,n,h=>by
  cases n with
  | zero=>exact ff h
  | succ n=>
   have:=iZ xs n h;simp only[mi,PyData.canLay0,PyData.depth];exact⟨this.1,by omega⟩
 | .lst xs,n,h=>by
  cases n with
  | zero=>exact ff h
  | succ n=>
   have:=iZ xs n h;simp only[mi,PyData.canLay0,PyData.depth];exact⟨this.1,by omega⟩
 | .ro xs,n,h=>by
  cases n with
  | zero=>exact ff h
  | succ n=>
   have:=iZ xs n h;simp only[mi,PyData.canLay0,PyData.depth];exact⟨this.1,by omega⟩
 | .mr a,n,h=>by cases n <;> exact ff h
 | .exc a,n,h=>by cases n <;> exact ff h
 | .any,n,h=>by cases n <;> exact ff h
theorem iZ:∀(ds:List D) (n:Nat),a8 n ds=true→PyData.canLayAll0 (jW ds)=true∧PyData.depthAll (jW ds)≤n
 | [],n,h=>by simp[jW,PyData.canLayAll0,PyData.depthAll]
 | d::ds,n,h=>by
  have h:=Bool.and_eq_true_iff.mp (show(cz n d&&a8 n ds)=true from h);have h1:=jz d n h.1;have h2:=iZ ds n h.2;simp only[jW,PyData.canLayAll0,PyData.depthAll,Bool.and_eq_true];exact⟨⟨h1.1,h2.1⟩,by omega⟩
end
mutual
theorem pc {af:List (Addr×Obj)}{s:Shared}{σ:L2.St}{H:Hp}{θ:List Addr}(I:Inv X af σ H s):∀(d:D) (n:Nat) (v:V) (u:Value),cz n d=true→cD X.K θ H d v→RelV v u→∃as,Reads s.heap u (mi d) as
 | .non,n,v,u,h,r,q=>by have e:v=.non:=r;subst e;cases q;exact⟨_,.none⟩
 | .bl a,n,v,u,h,r,q=>by have e:v=.bl a:=r;subst e;cases q;exact⟨_,.bool a⟩
 | .int a,n,v,u,h,r,q=>by have e:v=.int a:=r;subst e;obtain⟨t,rfl⟩:=q;exact⟨_,.int a t⟩
 | .str a,n,v,u,h,r,q=>by have e:v=.str a:=r;subst e;obtain⟨t,rfl⟩:=q;exact⟨_,.str a t⟩
 | .tup xs,n,v,u,h,r,q=>by
  cases n with
  | zero=>exact ff h
  | succ n=>
   obtain⟨a,vs,e,ta,ra⟩:=r;subst e;cases q;obtain⟨its,rv,⟨o,h1,h2,m,h3⟩,_⟩:=I.tuple ta.sq;obtain⟨as,R⟩:=fT I xs n vs its h ra rv;exact⟨_,.tuple h1 h2 h3 (by simpa using R)⟩
 | .lst xs,n,v,u,h,r,q=>by
  cases n with
  | zero=>exact ff h
  | succ n=>
   obtain⟨a,vs,e,ta,ra⟩:=r;subst e;cases q;obtain⟨its,rv,⟨o,m,h1,h2,_,h3⟩,_⟩:=I.list (ta.sq (K:=X.K));obtain⟨as,R⟩:=fT I xs n vs its h ra rv;exact⟨_,.list h1 h2 h3 (by simpa using R)⟩
 | .ro xs,n,v,u,h,r,q=>by
  cases n with
  | zero=>exact ff h
  | succ n=>
   obtain⟨a,vs,e,ta,ra⟩:=r;subst e;cases q;obtain⟨its,rv,⟨o,m,h1,h2,_,h3⟩,_⟩:=I.list ta.sq;obtain⟨as,R⟩:=fT I xs n vs its h ra rv;exact⟨_,.list h1 h2 h3 (by simpa using R)⟩
 | .mr a,n,v,u,h,r,q=>by cases n <;> exact ff h
 | .exc a,n,v,u,h,r,q=>by cases n <;> exact ff h
 | .any,n,v,u,h,r,q=>by cases n <;> exact ff h
theorem fT {af:List (Addr×Obj)}{s:Shared}{σ:L2.St}{H:Hp}{θ:List Addr}(I:Inv X af σ H s):∀(ds:List D) (n:Nat) (vs:List V) (us:List Value),a8 n ds=true→a7 X.K θ H ds vs→aP vs us→∃as,ReadsAll s.heap us (jW ds) as
 | [],n,vs,us,h,r,q=>by have e:vs=[]:=r;subst e;cases q;exact⟨_,.nil⟩
 | d::ds,n,vs,us,h,r,q=>by
  have h:=Bool.and_eq_true_iff.mp (show(cz n d&&a8 n ds)=true from h);obtain⟨v,rr,e,r1,r2⟩:=r;subst e;cases q with
  | cons q1 q2=>
   obtain⟨as,R1⟩:=pc I d n v _ h.1 r1 q1;obtain⟨bs,R2⟩:=fT I ds n rr _ h.2 r2 q2;exact⟨_,.cons R1 R2⟩
end
def now (d:D)(M:av):D:=match d with
 | .mr k=>match M[k]? with
  | some (.lst xs)=>.lst xs
  | _=>.mr k
 | d=>d
def aK (neg:Bool):F2:=fun x y M=>if cz 40 (now x M)&&cz 40 (now y M) then .ok (.bl (kq (now x M) (now y M) != neg)) M else .bad
theorem ik {af:List (Addr×Obj)}{s:Shared}{σ:L2.St}{H:Hp}{θ:List Addr}{M:av}(I:Inv X af σ H s)(hw:Wr X.K θ H M){d:D}{n:Nat}{v:V}{u:Value}(h:cz n (now d M)=true)(r:cD X.K θ H d v)(q:RelV v u):∃as,Reads s.heap u (mi (now d M)) as:=by
 cases d with
 | mr k=>
  obtain⟨a,e,ta⟩:=r;subst e;cases q;cases qm:M[k]? with
  | none=>
   have e:now (.mr k) M=.mr k:=by simp[now,qm]
   rw[e] at h;cases n <;> exact ff h
  | some m=>
   cases m with
   | lst xs=>
    have e:now (.mr k) M=.lst xs:=by simp[now,qm]
    rw[e] at h ⊢;cases n with
    | zero=>exact ff h
    | succ n=>
     obtain⟨vs,hv,ra⟩:=hw.at_ k a _ ta qm;obtain⟨its,rv,⟨o,m,h1,h2,_,h3⟩,_⟩:=I.list (X:=X) (xs:=vs) (.inl (.inl hv));obtain⟨as,R⟩:=fT I xs n vs its h ra rv;exact⟨_,.list h1 h2 h3 (by simpa using R)⟩
   | _=>
    have e:now (.mr k) M=.mr k:=by simp[now,qm]
    rw[e] at h;cases n <;> exact ff h
 | _=>exact pc I _ n v u h r q
theorem Gr (hu:X.A.units+64<cLine):dM X (compareOp .Eq) (rD X (aK false)):=by
 intro af s σ H x y v u Q I rx ry h;obtain⟨θ,M,dx,dy,hw,r1,r2,h⟩:=h;unfold aK at h;split at h
 ·rename_i hc;rw[Bool.and_eq_true] at hc;obtain⟨as,R1⟩:=ik I hw hc.1 r1 rx;obtain⟨bs,R2⟩:=ik I hw hc.2 r2 ry;have l1:=jz _ _ hc.1;have l2:=jz _ _ hc.2;refine SeqAt.compareEq_reads R1 R2 l1.1 l2.1 (by have:=l1.2;have:min (mi (now dx M)).depth (mi (now dy M)).depth≤(mi (now dx M)).depth:=Nat.min_le_left _ _;omega) ?_;rw[oD _ _ _ _ hc.1 hc.2];refine⟨.bl _,H,I,rfl,?_⟩;have:=h _ θ H (.refl hw) rfl;rw[Bool.bne_false] at this;exact this
 ·exact h.elim
theorem FL (hu:X.A.units+64<cLine):dM X (compareOp .NotEq) (rD X (aK true)):=by
 intro af s σ H x y v u Q I rx ry h;obtain⟨θ,M,dx,dy,hw,r1,r2,h⟩:=h;unfold aK at h;split at h
 ·rename_i hc;rw[Bool.and_eq_true] at hc;obtain⟨as,R1⟩:=ik I hw hc.1 r1 rx;obtain⟨bs,R2⟩:=ik I hw hc.2 r2 ry;have l1:=jz _ _ hc.1;have l2:=jz _ _ hc.2;refine SeqAt.compareNe_reads R1 R2 l1.1 l2.1 (by have:=l1.2;have:min (mi (now dx M)).depth (mi (now dy M)).depth≤(mi (now dx M)).depth:=Nat.min_le_left _ _;omega) ?_;rw[oD _ _ _ _ hc.1 hc.2];refine⟨.bl _,H,I,rfl,?_⟩;have:=h _ θ H (.refl hw) rfl;rw[Bool.bne_true] at this;exact this
 ·exact h.elim
def bv (d:D)(M:av):Option (List D):=match d with
 | .tup xs=>some xs
 | .lst xs=>some xs
 | .ro xs=>some xs
 | .mr k=>match M[k]? with
  | some (.lst xs)=>some xs
  | _=>none
 | _=>none
def qf:F2:=fun x y M=>match bv x M,y with
 | some xs,.int i=>match k9 xs i with
  | some d=>.ok d M
  | none=>.bad
 | _,_=>.bad
theorem wu {K:W.Frag}{θ:List Addr}{H:Hp}{ds:List D}{vs:List V}{i:Int}{d:D}(r:a7 K θ H ds vs)(e:k9 ds i=some d):∃v,k9 vs i=some v∧cD K θ H d v:=by
 unfold k9 at e ⊢;rw[←aq r];cases q:oJ ds.length i with
 | none=>rw[q] at e;cases e
 | some j=>
  rw[q] at e;exact dD r e
theorem iM {K:W.Frag}{θ:List Addr}{H:Hp}{M:av}{d:D}{xs:List D}{v:V}(hw:Wr K θ H M)(r:cD K θ H d v)(e:bv d M=some xs):∃a vs,v=.ref a∧(jP K H a vs∨oF K H a vs)∧a7 K θ H xs vs:=by
 cases d with
 | tup ds=>obtain⟨a,vs,e1,ta,ra⟩:=r;cases e;exact⟨a,vs,e1,.inr ta.sq,ra⟩
 | lst ds=>obtain⟨a,vs,e1,ta,ra⟩:=r;cases e;exact⟨a,vs,e1,.inl ta.sq,ra⟩
 | ro ds=>obtain⟨a,vs,e1,ta,ra⟩:=r;cases e;exact⟨a,vs,e1,.inl ta.sq,ra⟩
 | mr k=>
  obtain⟨a,e1,ta⟩:=r;have e:(match M[k]? with|some (.lst xs)=>some xs|_=>none)=some xs:=e;cases qm:M[k]? with
  | none=>rw[qm] at e;cases e
  | some m=>
   cases m with
   | lst ys=>
    rw[qm] at e;cases e;obtain⟨vs,hv,ra⟩:=hw.at_ k a _ ta qm;exact⟨a,vs,e1,.inl (.inl (.inl hv)),ra⟩
   | _=>rw[qm] at e;cases e
 | _=>cases e
theorem Fx:EE X (rD X qf):=by
 intro value slice af s σ H x y v u Q I rx ry h hs;obtain⟨θ,M,dx,dy,hw,r1,r2,h⟩:=h;unfold qf at h;split at h
 ·rename_i xs i q;split at h
  ·rename_i d qd;obtain⟨a,vs,ea,sq,ra⟩:=iM hw r1 q;obtain⟨z,ez,rz⟩:=wu ra qd;have hq:=h z θ H (.refl hw) rz;rcases sq with sq|sq
   ·exact zY value slice af s σ H x y v u Q I rx ry ⟨a,vs,i,z,ea,r2,sq,ez,hq⟩ hs
   ·exact Dz value slice af s σ H x y v u Q I rx ry ⟨a,vs,i,z,ea,r2,sq,ez,hq⟩ hs
  ·exact h.elim
 ·exact h.elim
def iy (xs:List D)(lo hi:Option Int):List D:=(xs.drop (HT.sIx xs.length 0 lo)).take (HT.sIx xs.length xs.length hi-HT.sIx xs.length 0 lo)
def j6 (x:D)(lo hi:Option Int)(M:av):aN D:=match x with
 | .tup xs=>.ok (.tup (iy xs lo hi)) M
 | .lst xs=>.ok (.lst (iy xs lo hi)) M
 | .ro xs=>.ok (.lst (iy xs lo hi)) M
 | .mr k=>match M[k]? with
  | some (.lst xs)=>.ok (.lst (iy xs lo hi)) M
  | _=>.bad
 | _=>.bad
abbrev GO:=bc→av→aN (Option Int)
def bn:GO:=fun _ M=>.ok none M
def aH (g:GE):GO:=fun ρ M=>(g ρ M).bind fun d M1=>match d with
 | .int i=>.ok (some i) M1
 | _=>.bad
def Hj (X:Cx)(θ:List Addr)(H:Hp)(Q:Option Int→Hp→Prop):aN (Option Int)→Prop
 | .ok b M'=>∀θ' H',Go X.K θ H θ' H' M'→Q b H'
 | .err c M'=>cV X θ H c M'
 | .bad=>False
def tO (X:Cx)(g:GO):TO:=fun σ H Q=>∃ρ θ M,fZ X.K θ H σ ρ∧Wr X.K θ H M∧Hj X θ H Q (g ρ M)
theorem _root_.L2.PO.of {e:Option Expr}{t t':TO}(h:PO X e t)(w:∀σ H Q,t' σ H Q→t σ H Q):PO X e t':=fun af s σ H Q I q=>h af s σ H Q I (w σ H Q q)
theorem Ac:PO X none (tO X bn):=zV.of fun σ H Q ⟨ρ,θ,M,hd,hw,f⟩=>f θ H (.refl hw)
theorem yZ {e:Expr}{g:GE}(h:PE X e (tE X g)):PO X (some e) (tO X (aH g)):=(Al h).of fun σ H Q hxx=>by
 obtain⟨ρ,θ,M,hd,hw,h⟩:=hxx;refine bG hd hw (Hj X θ H Q) (fun c M' h=>h) (fun h=>h) h fun d M1 v θ1 H1 g1 r1 h1=>?_
 split at h1
 ·rename_i i;exact⟨i,r1,h1 θ1 H1 g1⟩
 ·exact h1.elim
theorem Bl {g:GO}{σ:L2.St}{H:Hp}{Q:Option Int→Hp→Prop}{α:Type}{ρ:bc}{θ:List Addr}{M:av}(hd:fZ X.K θ H σ ρ)(hw:Wr X.K θ H M)(F:aN α→Prop)(Fe:∀c M',F (.err c M')→cV X θ H c M')(Fb:F .bad→False)
  {f:Option Int→av→aN α} (h:F ((g ρ M).bind f)) (k:∀d M1 θ1 H1,Go X.K θ H θ1 H1 M1→F (f d M1)→Q d H1):tO X g σ H Q:=by
 refine⟨ρ,θ,M,hd,hw,?_⟩;cases q:g ρ M with
 | ok d M1=>
  rw[q] at h;exact fun θ1 H1 g1=>k d M1 θ1 H1 g1 h
 | err c M1=>rw[q] at h;exact Fe c M1 h
 | bad=>rw[q] at h;exact(Fb h).elim
def J3 (X:Cx):V→Option Int→Option Int→Hp→VK→Prop:=fun x lo hi H Q=>∃θ M d,Wr X.K θ H M∧cD X.K θ H d x∧aF X θ H Q (j6 d lo hi M)
theorem jf {K:W.Frag}{θ:List Addr}{H:Hp}{ds:List D}{vs:List V}(r:a7 K θ H ds vs)(lo hi:Option Int):a7 K θ H (iy ds lo hi) (o5 vs lo hi):=by
 unfold iy o5;rw[←aq r];exact jL _ (jN _ r)
theorem HL:FU X (J3 X):=by
 intro af s σ H x v vl vu lo hi sl Q I rx hs pl pu h;obtain⟨θ,M,d,hw,r,h⟩:=h;cases d with
 | tup ds=>
  obtain⟨a,vs,e,ta,ra⟩:=r
  by_cases hc:HT.sIx vs.length 0 lo=0∧HT.sIx vs.length vs.length hi=vs.length
  ·subst e;cases rx;obtain⟨its,rv,ht,hz⟩:=I.tuple ta.sq;have hlen:its.toArray.size=vs.length:=by rw[size_toArray];exact rv.length.symm
   refine⟨"tuple",_,PyProof.Rows.slot_tuple_getitem.lookup,ht.typeIs,?_⟩;refine iz ht hs pl pu (by rw[hlen];exact hc) ⟨.ref a,H,I,rfl,h _ θ H (.refl hw) ⟨a,vs,rfl,ta,?_⟩⟩;have e:iy ds lo hi=ds:=by
    unfold iy;rw[aq ra,hc.1,hc.2,drop_zero,Nat.sub_zero,←aq ra,take_length]
   rw[e];exact ra
  ·exact CN af s σ H x v vl vu lo hi sl Q I rx hs pl pu ⟨a,vs,e,ta.sq,hc,fun p hp=>h _ θ _ (dG hw hp) (nV hw hp (jf ra lo hi))⟩
 | lst ds=>
  obtain⟨a,vs,e,ta,ra⟩:=r;exact nI af s σ H x v vl vu lo hi sl Q I rx hs pl pu ⟨a,vs,e,ta.sq,fun p hp=>h _ θ _ (dG hw hp) (fD hw hp (jf ra lo hi))⟩
 | ro ds=>
  obtain⟨a,vs,e,ta,ra⟩:=r;exact nI af s σ H x v vl vu lo hi sl Q I rx hs pl pu ⟨a,vs,e,ta.sq,fun p hp=>h _ θ _ (dG hw hp) (fD hw hp (jf ra lo hi))⟩
 | mr k=>
  obtain⟨a,e,ta⟩:=r;have h:aF X θ H Q (match M[k]? with|some (.lst xs)=>.ok (.lst (iy xs lo hi)) M|_=>.bad):=h;cases qm:M[k]? with
  | none=>rw[qm] at h;exact h.elim
  | some m=>
   cases m with
   | lst ys=>
    rw[qm] at h;obtain⟨vs,hv,ra⟩:=hw.at_ k a _ ta qm;exact nI af s σ H x v vl vu lo hi sl Q I rx hs pl pu ⟨a,vs,e,.inl (.inl hv),fun p hp=>h _ θ _ (dG hw hp) (fD hw hp (jf ra lo hi))⟩
   | _=>rw[qm] at h;exact h.elim
 | _=>exact h.elim
def Aq (d:D)(M:av):aN Bool:=match d with
 | .non=>.ok false M
 | .bl b=>.ok b M
 | .int i=>.ok (i != 0) M
 | .str x=>if x.length≤sizeLine then .ok ((x.length:Int) != 0) M else .bad
 | .tup xs=>.ok (!xs.isEmpty) M
 | .lst xs=>.ok (!xs.isEmpty) M
 | .ro xs=>.ok (!xs.isEmpty) M
 | .mr k=>match M[k]? with
  | some (.lst xs)=>.ok (!xs.isEmpty) M
  | _=>.bad
 | .exc _=>.bad
 | .any=>.bad
def iG (g:GE):GT:=fun ρ M=>(g ρ M).bind Aq
theorem gu {K:W.Frag}{θ:List Addr}{H:Hp}{ds:List D}{vs:List V}(r:a7 K θ H ds vs):(!vs.isEmpty)=!ds.isEmpty:=by
 have:=aq r;cases ds <;> cases vs <;> simp_all
theorem DS {a:Expr}{g:GE}(ha:PE X a (tE X g))(he:∀whole,isTrue a X.env whole=(do let v ←whole;standAt a.pos;holding [v] (truthy v)):=by intro _;rfl):PT X a (tT X (iG g)):=
 (wJ ha he).of fun σ H Q hxx=>by
  obtain⟨ρ,θ,M,hd,hw,h⟩:=hxx;refine bG hd hw (jM X θ H Q) (fun c M' h=>h) (fun h=>h) h fun d M1 v θ1 H1 g1 r1 h1=>?_
  cases d with
  | non=>have e:v=.non:=r1;subst e;exact⟨false,rfl,h1 θ1 H1 g1⟩
  | bl b=>have e:v=.bl b:=r1;subst e;exact⟨b,rfl,h1 θ1 H1 g1⟩
  | int i=>have e:v=.int i:=r1;subst e;exact⟨i != 0,rfl,h1 θ1 H1 g1⟩
  | str x=>
   have e:v=.str x:=r1;subst e;have h1:jM X θ H Q (if x.length≤sizeLine then .ok ((x.length:Int) != 0) M1 else .bad):=h1;split at h1
   ·rename_i hl;exact⟨_,⟨hl,rfl⟩,h1 θ1 H1 g1⟩
   ·exact h1.elim
  | tup xs=>
   obtain⟨a,vs,e,ta,ra⟩:=r1;subst e;exact⟨_,.inr (.inl ⟨vs,ta.sq,(gu ra).symm⟩),h1 θ1 H1 g1⟩
  | lst xs=>
   obtain⟨a,vs,e,ta,ra⟩:=r1;subst e;exact⟨_,.inl ⟨vs,ta.sq,(gu ra).symm⟩,h1 θ1 H1 g1⟩
  | ro xs=>
   obtain⟨a,vs,e,ta,ra⟩:=r1;subst e;exact⟨_,.inl ⟨vs,ta.sq,(gu ra).symm⟩,h1 θ1 H1 g1⟩
  | mr k=>
   obtain⟨a,e,ta⟩:=r1;subst e;have h1:jM X θ H Q (match M1[k]? with|some (.lst xs)=>.ok (!xs.isEmpty) M1|_=>.bad):=h1;cases qm:M1[k]? with
   | none=>rw[qm] at h1;exact h1.elim
   | some m=>
    cases m with
    | lst ys=>
     rw[qm] at h1;obtain⟨vs,hv,ra⟩:=g1.wr.at_ k a _ ta qm;exact⟨_,.inl ⟨vs,.inl (.inl hv),(gu ra).symm⟩,h1 θ1 H1 g1⟩
    | _=>rw[qm] at h1;exact h1.elim
  | exc c=>exact h1.elim
  | any=>exact h1.elim
def aO:FD:=fun ds M=>match ds with
 | [.str x]=>if x.length≤sizeLine then .ok (.int x.length) M else .bad
 | [d]=>match bv d M with
  | some xs=>.ok (.int xs.length) M
  | none=>.bad
 | _=>.bad
def oV:FD:=fun ds M=>match ds with
 | [.int i,.int j]=>.ok (.int (if j<i then j else i)) M
 | _=>.bad
def nF:FD:=fun ds M=>match ds with
 | [.int i]=>.ok (.int i) M
 | [.bl b]=>.ok (.int (if b then 1 else 0)) M
 | _=>.bad
def mh:FD:=fun ds M=>match ds with
 | [d]=>match bv d M with
  | some xs=>.ok (.lst xs) M
  | none=>.bad
 | _=>.bad
def lj:FD:=fun ds M=>match ds with
 | [d]=>match bv d M with
  | some xs=>.ok (.mr M.length) (M++[.lst xs])
  | none=>.bad
 | _=>.bad
theorem fg {K:W.Frag}{θ:List Addr}{H:Hp}{d:D}{xs:List V}(r:a7 K θ H [d] xs):∃v,xs=[v]∧cD K θ H d v:=by
 obtain⟨v,rr,e,h1,h2⟩:=r;have e2:rr=[]:=h2;subst e2;exact⟨v,e,h1⟩
theorem Dq {K:W.Frag}{θ:List Addr}{H:Hp}{d d':D}{xs:List V}(r:a7 K θ H [d,d'] xs):∃v v',xs=[v,v']∧cD K θ H d v∧cD K θ H d' v':=by
 obtain⟨v,rr,e,h1,h2⟩:=r;obtain⟨v',e2,h3⟩:=fg h2;subst e2;exact⟨v,v',e,h1,h3⟩
theorem Ei:cx X (.builtin "len") (rC X aO):=by
 intro af s σ H xs us Q I r h;obtain⟨θ,M,ds,hw,rd,h⟩:=h;unfold aO at h;split at h
 ·rename_i x;split at h
  ·rename_i hl;obtain⟨v,e,rv⟩:=fg rd;exact nR af s σ H xs us Q I r ⟨x,by rw[e,show v=.str x from rv],hl,h _ θ H (.refl hw) rfl⟩
  ·exact h.elim
 ·rename_i d _;split at h
  ·rename_i ys q;obtain⟨v,e,rv⟩:=fg rd;obtain⟨a,vs,ea,sq,ra⟩:=iM hw rv q;refine nQ af s σ H xs us Q I r ⟨a,vs,by rw[e,ea],sq,?_⟩;rw[←aq ra];exact h _ θ H (.refl hw) rfl
  ·exact h.elim
 ·exact h.elim
theorem BK (hc:X.calm=true):cx X (.builtin "min") (rC X oV):=by
 intro af s σ H xs us Q I r h;obtain⟨θ,M,ds,hw,rd,h⟩:=h;unfold oV at h;split at h
 ·rename_i i j;obtain⟨v,v',e,rv,rv'⟩:=Dq rd;exact t9 hc af s σ H xs us Q I r ⟨i,j,by rw[e,show v=.int i from rv,show v'=.int j from rv'],h _ θ H (.refl hw) rfl⟩
 ·exact h.elim
theorem Do:cx X (.type "int") (rC X nF):=by
 intro af s σ H xs us Q I r h;obtain⟨θ,M,ds,hw,rd,h⟩:=h;unfold nF at h;split at h
 ·rename_i i;obtain⟨v,e,rv⟩:=fg rd;exact m5 af s σ H xs us Q I r (.inl ⟨i,by rw[e,show v=.int i from rv],h _ θ H (.refl hw) rfl⟩)
 ·rename_i b;obtain⟨v,e,rv⟩:=fg rd;exact m5 af s σ H xs us Q I r (.inr ⟨b,by rw[e,show v=.bl b from rv],h _ θ H (.refl hw) rfl⟩)
 ·exact h.elim
theorem An:cx X (.type "list") (rC X mh):=by
 intro af s σ H xs us Q I r h;obtain⟨θ,M,ds,hw,rd,h⟩:=h;unfold mh at h;split at h
 ·rename_i d;split at h
  ·rename_i ys q;obtain⟨v,e,rv⟩:=fg rd;obtain⟨a,vs,ea,sq,ra⟩:=iM hw rv q;exact jG af s σ H xs us Q I r ⟨a,vs,by rw[e,ea],sq,fun l hl=>h _ θ _ (dG hw hl) (fD hw hl ra)⟩
  ·exact h.elim
 ·exact h.elim
theorem wc:cx X (.type "list") (rC X lj):=by
 intro af s σ H xs us Q I r h;obtain⟨θ,M,ds,hw,rd,h⟩:=h;unfold lj at h;split at h
 ·rename_i d;split at h
  ·rename_i ys q;obtain⟨v,e,rv⟩:=fg rd;obtain⟨a,vs,ea,sq,ra⟩:=iM hw rv q;exact jG af s σ H xs us Q I r ⟨a,vs,by rw[e,ea],sq,fun l hl=>h _ _ _ (l8 hw hl ra) (jh hw)⟩
  ·exact h.elim
 ·exact h.elim
end
def cU (cells:List (Str×Addr)):List (Str×NameKind)→List (Str×Addr)→List (Str×Addr)
 | [],acc=>acc
 | (n,k)::r,acc=>if k==.free then cU cells r ((n,(cells.lookup n).getD 0)::acc) else cU cells r acc
theorem k6 {env:Env}:∀(l:List (Str×NameKind)) (cs:List (Str×Addr)),(∀p∈l,p.2=.free→∃c,env.cells.lookup p.1=some c)→
  (forIn (m:=Sem) l cs fun x r=>match x with
   | (name,kind)=>if(kind==NameKind.free)=true then do let __do_lift ←cellOf env name;pure (ForInStep.yield ((name,__do_lift)::r)) else pure (ForInStep.yield r))=pure (cU env.cells l cs)
 | [],cs,h=>rfl
 | (n,k)::r,cs,h=>by
  have ih:=fun cs=>k6 (env:=env) r cs fun p hp=>h p (mem_cons_of_mem _ hp)
  rw[forIn_cons]
  by_cases hk:(k==NameKind.free)=true
  ·obtain⟨c,hc⟩:=h (n,k) mem_cons_self (by simpa using hk);have e:cellOf env n=pure c:=by unfold cellOf;rw[show List.lookup n env.cells=some c from hc]
   simp only[hk,if_true,cU,e,pure_bind];rw[ih,show List.lookup n env.cells=some c from hc];rfl
  ·simp only[hk,if_false,cU,pure_bind,Bool.false_eq_true];exact ih cs
theorem jE {env:Env}{scope:Scope}(h:∀p∈scope.names,p.2=.free→∃c,env.cells.lookup p.1=some c):closureFor scope env=pure (cU env.cells scope.names []):=by
 have:=k6 (env:=env) scope.names [] h;unfold closureFor;simp only[bind_pure_comp] at this ⊢
 first
  | (rw[this];rfl)
  | (simp[this])
  | exact this
theorem lU {cells:List (Str×Addr)}:∀(l:List (Str×NameKind)) (acc:List (Str×Addr)),(∀p∈acc,cells.lookup p.1=some p.2)→(∀p∈l,p.2=.free→∃c,cells.lookup p.1=some c)→
  ∀p∈cU cells l acc,cells.lookup p.1=some p.2
 | [],acc,ha,h=>ha
 | (n,k)::r,acc,ha,h=>by
  have hr:∀p∈r,p.2=.free→∃c,cells.lookup p.1=some c:=fun p hp=>h p (mem_cons_of_mem _ hp)
  unfold cU
  by_cases hk:(k==NameKind.free)=true
  ·rw[if_pos hk];refine lU r _ (fun p hp=>?_) hr;rcases mem_cons.mp hp with e|hp
   ·subst e;obtain⟨c,hc⟩:=h (n,k) mem_cons_self (by simpa using hk);have hc':cells.lookup n=some c:=hc;show cells.lookup n=some ((cells.lookup n).getD 0);rw[hc'];rfl
   ·exact ha p hp
  ·rw[if_neg hk];exact lU r acc ha hr
theorem lC {cells:List (Str×Addr)}:∀(l:List (Str×NameKind)) (acc:List (Str×Addr)),∀p∈acc,p∈cU cells l acc
 | [],acc,p,h=>h
 | (n,k)::r,acc,p,h=>by
  unfold cU
  by_cases hk:(k==NameKind.free)=true
  ·rw[if_pos hk];exact lC r _ p (mem_cons_of_mem _ h)
  ·rw[if_neg hk];exact lC r acc p h
theorem lP {cells:List (Str×Addr)}:∀(l:List (Str×NameKind)) (acc:List (Str×Addr)) (n:Str),(n,NameKind.free)∈l→∃c,(n,c)∈cU cells l acc
 | [],acc,n,h=>by cases h
 | (m,k)::r,acc,n,h=>by
  unfold cU;rcases mem_cons.mp h with e|h
  ·cases e;rw[if_pos (by rfl)];exact⟨_,lC r _ _ mem_cons_self⟩
  ·by_cases hk:(k==NameKind.free)=true
   ·rw[if_pos hk];exact lP r _ n h
   ·rw[if_neg hk];exact lP r acc n h
theorem iT {l:List (Str×Addr)}{n:Str}{c:Addr}(h:(n,c)∈l):∃c',l.lookup n=some c':=by
 induction l with
 | nil=>cases h
 | cons p r ih=>
  obtain⟨m,d⟩:=p
  by_cases e:(n==m)=true
  ·exact⟨d,by simp[List.lookup,e]⟩
  ·have e':(n==m)=false:=by simpa using e
   rcases mem_cons.mp h with q|q
   ·cases q;simp at e
   ·obtain⟨c',hc⟩:=ih q;exact⟨c',by simp only[List.lookup,e'];exact hc⟩
theorem eY {env:Env}:∀{names:List (Str×NameKind)} {x:Str} {k:NameKind},
  (names.map fun(n,k)=>if(k==NameKind.free&&env.scope.kind==.function&&env.kindOf n==some .cell) then(n,NameKind.cell) else(n,k)).lookup x=some k→
   names.lookup x=some k∨(k=.cell∧names.lookup x=some .free)
 | [],_,_,h=>by simp at h
 | (n,k')::r,x,k,h=>by
  have ih:=@eY env r x k;have h:List.lookup x ((if(k'==NameKind.free&&env.scope.kind==.function&&env.kindOf n==some .cell)=true then(n,NameKind.cell) else(n,k'))::_)=some k:=h
  by_cases hc:(k'==NameKind.free&&env.scope.kind==.function&&env.kindOf n==some .cell)=true
  ·rw[if_pos hc] at h;cases hx:x==n with
   | true=>
    simp only[lookup_cons,hx] at h ⊢;cases h;have:k'=.free:=by
     rw[Bool.and_eq_true,Bool.and_eq_true] at hc;simpa using hc.1.1
    subst this;exact .inr ⟨rfl,rfl⟩
   | false=>
    simp only[lookup_cons,hx] at h ⊢;exact ih h
  ·rw[if_neg hc] at h;cases hx:x==n with
   | true=>
    simp only[lookup_cons,hx] at h ⊢;exact .inl h
   | false=>
    simp only[lookup_cons,hx] at h ⊢;exact ih h
def bZ (sc:Scope)(fk:Str→Option NameKind)(xs:List Str)(R N:List Str):Bool:=
 decide (sc.kind=.function)&&xs.all (fun x=>sc.names.lookup x==some .local) &&
 sc.names.all (fun p=>match p.2 with
  | .cell=>false
  | .local=>(xs.contains p.1||p.1==(".0":Str))&&sc.names.lookup p.1==some .local
  | .free=>fk p.1==some .cell||fk p.1==some .free
  | _=>true) &&
 decide ((xs++R).Nodup)&&!(R.contains (".0":Str))&&R.length==N.length &&
 (R.zip N).all (fun p=>p.1==p.2||sc.names.lookup p.1 != some .free)
structure bL (sc:Scope)(fk:Str→Option NameKind)(xs:List Str)(R N:List Str):Prop where
 kind:sc.kind=.function
 own:∀x∈xs,sc.names.lookup x=some .local
 nocell:∀p∈sc.names,p.2≠.cell
 locs:∀p∈sc.names,p.2=.local→p.1∈xs∨p.1=(".0":Str)
 lnames:∀p∈sc.names,p.2=.local→sc.names.lookup p.1=some .local
 free:∀p∈sc.names,p.2=.free→fk p.1=some .cell∨fk p.1=some .free
 nd:(xs++R).Nodup
 no0:(".0":Str)∉R
 len:R.length=N.length
 same:∀(i:Nat) y,R[i]?=some y→sc.names.lookup y=some .free→N[i]?=some y
theorem bL.of {sc:Scope}{fk:Str→Option NameKind}{xs:List Str}{R N:List Str}(h:bZ sc fk xs R N=true):bL sc fk xs R N:=by
 unfold bZ at h;simp only[Bool.and_eq_true,decide_eq_true_eq,all_eq_true,Bool.not_eq_true',beq_iff_eq] at h;obtain⟨⟨⟨⟨⟨⟨h1,h2⟩,h3⟩,h4⟩,h5⟩,h6⟩,h7⟩:=h;refine⟨h1,h2,fun p hp e=>?_,fun p hp e=>?_,fun p hp e=>?_,fun p hp e=>?_,h4,?_,h6,fun i y hy hf=>?_⟩
 ·have:=h3 p hp;rw[e] at this;simp at this
 ·have:=h3 p hp;rw[e] at this;simp at this;exact this.1
 ·have:=h3 p hp;rw[e] at this;simp at this;exact this.2
 ·have:=h3 p hp;rw[e] at this;simp at this;exact this
 ·intro hm;have:R.contains (".0":Str)=true:=by simpa using hm
  rw[this] at h5;cases h5
 ·obtain⟨hi,e⟩:=List.getElem?_eq_some_iff.mp hy;have hn:i<N.length:=by rw[←h6];exact hi
  have hz:(R[i],N[i])∈R.zip N:=by
   rw[mem_iff_getElem];exact⟨i,by simp;omega,by simp⟩
  have:=h7 _ hz;simp only[Bool.or_eq_true,beq_iff_eq,bne_iff_ne,ne_eq] at this;rcases this with q|q
  ·rw[getElem?_eq_getElem hn,←q,e]
  ·rw[e] at q;exact absurd hf q
def aB (X:Cx)(scope:Scope)(xs:List Str)(R:List Str)(fp:List Addr)(s:Shared)(H:Hp)(C:Addr):Cx where
 prog:=X.prog
 w:=X.w
 K:=X.K
 mg:=X.mg
 base:=X.base
 A:=X.A
 N:=xs++R
 s₀:=s
 H₀:=H
 env:=compEnvC scope (cU X.env.cells scope.names []) C X.env
 outer:=X.stack
 stack:=X.stack
 ex:=fp
 fn:=fun _=>false
 calm:=X.calm
 pn:=[]
 xe:=fun _ _=>False
section
variable {X:Cx}{af:List (Addr×Obj)}{σ:L2.St}{H:Hp}{s:Shared}{scope:Scope}{xs:List Str}{R:List Str}{fp:List Addr}{C:Addr}
theorem bL.cells (S:bL scope X.env.kindOf xs R X.N)(I:L2.Inv X af σ H s):∀p∈scope.names,p.2=.free→∃c,X.env.cells.lookup p.1=some c:=fun p hp e=>I.ok.has p.1 (S.free p hp e)
theorem bX (S:bL scope X.env.kindOf xs R X.N)(I:L2.Inv X af σ H s){y:Str}{c:Addr}(h:(cU X.env.cells scope.names []).lookup y=some c):X.env.cells.lookup y=some c:=
 lU scope.names [] (fun _ z=>by cases z) (S.cells I) (y,c) (PySem.mem_of_lookup h)
theorem vX {h4:Heap}{m:Str→Option Value}{tk:Nat}(S:bL scope X.env.kindOf xs R X.N)(I:L2.Inv X af σ H s)(hC:s.heap.objs.size≤C)(k:∀b o,s.heap.get? b=some o→h4.get? b=some o)(hn:h4.Ns C m)
  (hf:∀b∈fp,iX X af H b) (hfl:∀b∈fp,b<s.heap.objs.size):L2.Inv (aB X scope xs R fp s H C) [] (List.replicate xs.length none++σ) H {s with heap:=h4,toks:=tk}:=by
 have hkn:∀y kk,(relabel scope X.env).names.lookup y=some kk→(kk=.cell∨kk=.free)→scope.names.lookup y=some .free:=fun y kk e hk=>by
  rcases eY e with q|q
  ·rcases hk with z|z
   ·subst z;exact absurd rfl (S.nocell _ (PySem.mem_of_lookup q))
   ·subst z;exact q
  ·exact q.2
 have hasc:∀y,scope.names.lookup y=some .free→∃c,(cU X.env.cells scope.names []).lookup y=some c:=fun y e=>by
  obtain⟨c,hc⟩:=lP (cells:=X.env.cells) scope.names [] y (PySem.mem_of_lookup e);exact iT hc
 refine⟨⟨I.ok.mod,S.kind,I.ok.glob,I.ok.blt,hC,fun y z c h1 h2=>I.ok.inj y z c (bX S I h1) (bX S I h2),fun y hy=>?_,fun y c z=>absurd (show false=true from z) Bool.false_ne_true,I.ok.hd,I.ok.frames,.inl rfl,fun b hb=>⟨?_,fun y c e=>?_⟩,I.bs,Nat.le_trans I.ok.bsz I.sz,fun b o e hb=>?_,fun b hb z=>?_,I.stack,I.stkFree⟩,
  rfl,I.bare,Un.kept k,⟨m,hn,fun i y v h1 h2 h3=>?_⟩,fun y c e=>?_,I.hok.fresh hC,fun y c e=>I.freeC y c (bX S I e),fun p hp=>absurd (show p∈([]:List (Addr×Obj)) from hp) (by simp),I.hok.kept k,?_⟩
 ·rcases hy with e|e
  ·exact hasc y (hkn y _ e (.inl rfl))
  ·exact hasc y (hkn y _ e (.inr rfl))
 ·exact Nat.ne_of_lt (Nat.lt_of_lt_of_le (hfl b hb) hC)
 ·exact(hf b hb).2.2.2.2.1 y c (bX S I e)
 ·rcases(hf b hb).2.2.2.1 with z|z
  ·exact I.ok.noex b o e z
  ·exact absurd (Nat.lt_of_lt_of_le (Heap.lt_size e) (Nat.le_trans I.ok.bsz z)) (Nat.lt_irrefl _)
 ·rcases mem_cons.mp (I.stkSub b z) with e|e
  ·exact(hf b hb).2.1 e
  ·exact(hf b hb).2.2.1 e
 ·by_cases hi:i<xs.length
  ·exfalso;rw[getElem?_append_left (by rw[length_replicate];exact hi),getElem?_replicate,if_pos hi] at h2;cases h2
  ·obtain⟨i,rfl⟩:∃j,i=xs.length+j:=⟨i-xs.length,by omega⟩;have h1:R[i]?=some y:=by
    have h1:(xs++R)[xs.length+i]?=some y:=h1;rw[getElem?_append_right (by omega)] at h1;simpa using h1
   have h2:σ[i]?=some (some v):=by
    rw[getElem?_append_right (by rw[length_replicate];omega)] at h2;simpa using h2
   have hyR:y∈R:=mem_of_getElem? h1;have hf':scope.names.lookup y=some .free∧((relabel scope X.env).names.lookup y=some .cell∨(relabel scope X.env).names.lookup y=some .free):=by
    have h3:(relabel scope X.env).names.lookup y=some .local∨(relabel scope X.env).names.lookup y=some .cell∨(relabel scope X.env).names.lookup y=some .free:=h3;rcases h3 with e|e|e
    ·rcases eY e with q|q
     ·exfalso;rcases S.locs _ (PySem.mem_of_lookup q) rfl with z|z
      ·exact(nodup_append.mp S.nd).2.2 y z y hyR rfl
      ·have z:y=(".0":Str):=z;rw[z] at hyR;exact S.no0 hyR
     ·exact absurd q.1 (by intro z;cases z)
    ·exact⟨hkn y _ e (.inl rfl),.inl e⟩
    ·exact⟨hkn y _ e (.inr rfl),.inr e⟩
   have hN:=S.same i y h1 hf'.1;have hk:=S.free (y,.free) (PySem.mem_of_lookup hf'.1) rfl;obtain⟨mX,hnX,hl⟩:=I.loc;have vis:B0 X.env.scope y:=by
    rcases hk with z|z
    ·exact .inr (.inl z)
    ·exact .inr (.inr z)
   obtain⟨u,r,l⟩:=hl i y v hN h2 vis;refine⟨u,r,.inr ⟨hf'.2,?_⟩⟩;rcases l with⟨z,_⟩|⟨_,c,hc,o,ho,hod⟩
   ·exfalso;rcases hk with q|q
    ·have q:X.env.kindOf y=some .cell:=q;rw[z] at q;cases q
    ·have q:X.env.kindOf y=some .free:=q;rw[z] at q;cases q
   ·obtain⟨c',hc'⟩:=hasc y hf'.1;have:c'=c:=by
     have:=bX S I hc';rw[hc] at this;exact(Option.some.inj this).symm
    subst this;exact⟨c',hc',o,k _ _ ho,hod⟩
 ·obtain⟨v,o,ho,hd⟩:=I.cell y c (bX S I e);exact⟨v,o,k _ _ ho,hd⟩
 ·show(List.replicate xs.length none++σ).length=(xs++R).length;rw[length_append,length_append,length_replicate,I.len,S.len]
end
def cF (t:mj)(gc:GT)(ge:GE):List D→bc→av→aN (List D)
 | [],ρ,M=>if t.ok M then .ok [] M else .bad
 | d::r,ρ,M=>if t.ok M then
   match gc (some d::ρ) M with
   | .ok true M1=>match ge (some d::ρ) M1 with
    | .ok e M2=>(cF t gc ge r ρ M2).bind fun es M3=>.ok (e::es) M3
    | _=>.bad
   | .ok false M1=>cF t gc ge r ρ M1
   | _=>.bad
  else .bad
def bJ:GT:=fun _ M=>.ok true M
def aU (t:mj)(n:Nat)(sg:GG)(gc:GT)(ge:GE):List D→bc→av→aN (List D)
 | [],ρ,M=>if t.ok M then .ok [] M else .bad
 | d::r,ρ,M=>if t.ok M then
   match sg d (List.replicate n none++ρ) with
   | none=>.bad
   | some ρ1=>match gc ρ1 M with
    | .ok true M1=>match ge ρ1 M1 with
     | .ok e M2=>(aU t n sg gc ge r ρ M2).bind fun es M3=>.ok (e::es) M3
     | _=>.bad
    | .ok false M1=>aU t n sg gc ge r ρ M1
    | _=>.bad
  else .bad
def bR (gi:GI)(n:Nat)(sg:GG)(gc:GT)(ge:GE)(mk:List D→av→aN D):GE:=fun ρ M=>(gi ρ M).bind fun t M1=>(aU t n sg gc ge t.ds ρ M1).bind mk
theorem oU (t:mj)(gc:GT)(ge:GE):∀(ds:List D) (ρ:bc) (M:av),cF t gc ge ds ρ M=aU t 1 (cT 0) gc ge ds ρ M
 | [],ρ,M=>rfl
 | d::r,ρ,M=>by
  have ih:=oU t gc ge r;unfold cF aU;show _=(if t.ok M=true then(match gc (some d::ρ) M with
    | .ok true M1=>match ge (some d::ρ) M1 with
     | .ok e M2=>(aU t 1 (cT 0) gc ge r ρ M2).bind fun es M3=>.ok (e::es) M3
     | _=>.bad
    | .ok false M1=>aU t 1 (cT 0) gc ge r ρ M1
    | _=>.bad) else .bad)
  simp only[ih]
def oO (n:Nat)(sg:GG):Prop:=∀d ρ ρ',sg d ρ=some ρ'→ρ'.length=ρ.length∧∀i:Nat,n≤i→ρ'[i]?=ρ[i]?
theorem sN {n i:Nat}(h:i<n):oO n (cT i):=fun d ρ ρ' e=>by
 have e:some (ρ.set i (some d))=some ρ':=e;cases e;exact⟨by rw[length_set],fun j hj=>by rw[getElem?_set_ne (by omega)]⟩
theorem pI {n:Nat}:∀{is:List Nat} {ds:List D} {ρ ρ':bc},is.all (fun i=>decide (i<n))=true→ig is ds ρ=some ρ'→ρ'.length=ρ.length∧∀i:Nat,n≤i→ρ'[i]?=ρ[i]?
 | [],[],ρ,ρ',_,e=>by cases e;exact⟨rfl,fun _ _=>rfl⟩
 | [],_::_,_,_,_,e=>by cases e
 | _::_,[],_,_,_,e=>by cases e
 | i::is,d::ds,ρ,ρ',h,e=>by
  rw[all_cons,Bool.and_eq_true] at h;have hi:i<n:=by simpa using h.1
  obtain⟨a,b⟩:=pI h.2 (show ig is ds (ρ.set i (some d))=some ρ' from e);exact⟨by rw[a,length_set],fun j hj=>by rw[b j hj,getElem?_set_ne (by omega)]⟩
theorem yX {n:Nat}{is:List Nat}(h:is.all (fun i=>decide (i<n))=true):oO n (l5 is):=fun d ρ ρ' e=>by
 cases d with
 | tup ds=>exact pI h e
 | _=>cases e
theorem oO.back {n:Nat}{sg:GG}{K:W.Frag}{θ:List Addr}{H:Hp}{τ:L2.St}{ρ ρ1:bc}{d:D}(o:oO n sg)(e:sg d (List.replicate n none++ρ)=some ρ1)(h:fZ K θ H τ ρ1):fZ K θ H τ (List.replicate n none++ρ):=by
 obtain⟨a,b⟩:=o _ _ _ e;refine⟨by rw[←a];exact h.len,fun i d' q=>?_⟩
 by_cases hi:i<n
 ·rw[getElem?_append_left (by rw[length_replicate];exact hi),getElem?_replicate,if_pos hi] at q;cases q
 ·rw[←b i (by omega)] at q;exact h.at_ i d' q
def aX (gi:GI)(gc:GT)(ge:GE)(mk:List D→av→aN D):GE:=fun ρ M=>(gi ρ M).bind fun t M1=>(cF t gc ge t.ds ρ M1).bind mk
theorem pN (elt target iter:Expr)(ifs:List Expr)(scope:Scope)(pos:Pos)(it acc:Value)(env:Env)(cond:Sem Bool)
  (hc:(forIn (m:=Sem) ifs true fun c r=>if r=true then do let ok ←isTrue c env (eval c env);pure (ForInStep.yield ok) else pure (ForInStep.yield r))=cond) :
  compTurn (.ListComp elt [⟨target,iter,ifs,0⟩] scope pos) 0 it acc env=(standAt iter.pos >>= fun _=>pyNext it >>= fun r=>match r with
   | none=>pure (.done .next)
   | some v=>letOwnedTupleGo target it v >>= fun _=>assign target env v >>= fun _=>cond >>= fun ok=>
    if ok=true then((eval elt env >>= fun x=>call (.builtin "list.append") [acc,x] >>= fun _=>pure ()) >>= fun _=>
     again (.compLoop (.ListComp elt [⟨target,iter,ifs,0⟩] scope pos) 0 it acc env)) else again (.compLoop (.ListComp elt [⟨target,iter,ifs,0⟩] scope pos) 0 it acc env)):=by
 subst hc;rfl
section
variable {prog:Program}{w:World}{A:Around}{R:Result→Shared→Prop}{s:Shared}
theorem h9 {elt target iter:Expr}{ifs:List Expr}{scope:Scope}{pos:Pos}{it acc:Value}{env:Env}{cond:Sem Bool}
  (hc:(forIn (m:=Sem) ifs true fun c r=>if r=true then do let ok ←isTrue c env (eval c env);pure (ForInStep.yield ok) else pure (ForInStep.yield r))=cond) (I:Nat→Shared→Prop)
  (turn:∀n s,I n s→wpAny (model prog w) A (pyNext it) (fun r s₁=>match r with
   | none=>R (.ok .next) s₁
   | some v=>wpAny (model prog w) A (letOwnedTupleGo target it v) (fun _ s₂=>wpAny (model prog w) A (assign target env v) (fun _ s₃=>wpAny (model prog w) A cond (fun ok s₄=>if ok=true then
     wpAny (model prog w) A (eval elt env) (fun x s₅=>wpAny (model prog w) A (call (.builtin "list.append") [acc,x]) (fun _ s₆=>∃m,m<n∧I m s₆) (fun _ _=>False) s₅) (fun _ _=>False) s₄
     else∃m,m<n∧I m s₄) (fun _ _=>False) s₃) (fun _ _=>False) s₂) (fun _ _=>False) s₁) (fun _ _=>False) s)
  (n:Nat) (h:I n s):codeAny (model prog w) A (.compLoop (.ListComp elt [⟨target,iter,ifs,0⟩] scope pos) 0 it acc env) R s:=by
 refine codeAny_loop rfl I (fun n s hI=>?_) n h;show wpAny _ _ ((compTurn (.ListComp elt [⟨target,iter,ifs,0⟩] scope pos) 0 it acc env).onRaise (fun x=>do noteFrame x env;theTreesLotGoes x)) _ _ s;refine wpAny_noted ?_;rw[pN _ _ _ _ _ _ _ _ _ _ hc];refine wpAny_bind (wpAny_standAt (wpAny_bind (wpAny_mono (turn n s hI) (fun r s₁ h₁=>?_) fun _ _ z=>z.elim)));cases r with
 | none=>exact wpAny_pure h₁
 | some v=>
  refine wpAny_bind (wpAny_mono h₁ (fun _ s₂ h₂=>?_) fun _ _ z=>z.elim);refine wpAny_bind (wpAny_mono h₂ (fun _ s₃ h₃=>?_) fun _ _ z=>z.elim);refine wpAny_bind (wpAny_mono h₃ (fun ok s₄ h₄=>?_) fun _ _ z=>z.elim);cases ok with
  | true=>
   rw[if_pos rfl] at h₄;rw[if_pos rfl];exact wpAny_bind (wpAny_bind (wpAny_mono h₄ (fun x s₅ h₅=>wpAny_bind (wpAny_mono h₅ (fun _ s₆ h₆=>wpAny_pure (wpAny_pure ⟨rfl,h₆⟩)) fun _ _ z=>z.elim)) fun _ _ z=>z.elim))
  | false=>
   rw[if_neg Bool.false_ne_true] at h₄;rw[if_neg Bool.false_ne_true];exact wpAny_pure ⟨rfl,h₄⟩
theorem rA {env:Env}:(forIn (m:=Sem) ([]:List Expr) true fun c r=>if r=true then do let ok ←isTrue c env (eval c env);pure (ForInStep.yield ok) else pure (ForInStep.yield r))=pure true:=rfl
theorem tZ {env:Env}{c:Expr}:(forIn (m:=Sem) [c] true fun c r=>if r=true then do let ok ←isTrue c env (eval c env);pure (ForInStep.yield ok) else pure (ForInStep.yield r))=isTrue c env (eval c env):=by
 rw[forIn_cons];simp
end
theorem AR {b a c:Nat}(h:b<a)(e:c=a+1):b≠c:=by omega
theorem xD {b a c:Nat}(h:b<c)(e:c=a):a≠b:=by omega
theorem nU {b a c:Nat}(h:b<c)(e:c=a):b≠a:=by omega
abbrev fe (its:List Value)(n:Nat):Obj:={cls:=.type "list",data:=.seq its.toArray n}
section
variable {X:Cx}{af:List (Addr×Obj)}{σ:L2.St}{s:Shared}{scope:Scope}{xs:List Str}{tg:Expr}{sg:GG}{R:List Str}{elt iter:Expr}{ifs:List Expr}{pos:Pos}{E:Value→Shared→Prop}
theorem zx {K:W.Frag}{θ:List Addr}{H:Hp}{σ:L2.St}{ρ:bc}{n:Nat}(h:fZ K θ H σ ρ):fZ K θ H (List.replicate n none++σ) (List.replicate n none++ρ):=by
 refine⟨by rw[length_append,length_append,length_replicate,length_replicate,h.len],fun i d e=>?_⟩
 by_cases hi:i<n
 ·rw[getElem?_append_left (by rw[length_replicate];exact hi),getElem?_replicate,if_pos hi] at e;cases e
 ·rw[getElem?_append_right (by rw[length_replicate];omega),length_replicate] at e ⊢;exact h.at_ _ d e
inductive Ke (X0:Cx) (fp:List Addr) (tn:Nat→Heap→Prop) (K:W.Frag) (acc:Addr) (t:mj) (ρ0:bc) (θ1:List Addr) (H2:Hp) (es:List D) (go:List D→av→aN (List D)) (Mend:av) (n:Nat) (s':Shared):Prop
 | mk (i:Nat) (τ:L2.St) (H':Hp) (θ':List Addr) (M':av) (ds rest:List D) (vs:List V) (its:List Value) (na:Nat) (e1:n=t.ds.length-i) (e2:i≤t.ds.length)
   (e3:L2.Inv X0 [(acc,fe its na)] τ H' s') (e4:fZ K θ' H' τ ρ0) (e5:tn i s'.heap) (e6:∀b∈fp,H' b=none) (e7:Go K θ1 H2 θ' H' M') (e8:a7 K θ' H' ds vs) (e9:aP vs its) (e10:go (t.ds.drop i) M'=.ok rest Mend) (e11:ds++rest=es)
theorem lu {fp:List Addr}{it:Addr}{tn:Nat→Heap→Prop}{J:It}{H2:Hp}{s2:Shared}{t:mj}{M1:av}{θ1:List Addr}{ρ:bc}{gc:GT}{ge:GE}{es:List D}{Mend:av}{RR:Value→Addr→Result→Shared→Prop}
  (S:bL scope X.env.kindOf xs R X.N) (hc:X.calm=true) (I2:L2.Inv X af σ H2 s2) (T:rf X.prog X.w X.K tg J fp it tn) (st2:tn 0 s2.heap) (f2:∀b∈fp,iX X af H2 b)
  (hw1:Wr X.K θ1 H2 M1) (hd1:fZ X.K θ1 H2 σ ρ) (hJ:yI X.K J θ1 H2 t) (hgo:aU t xs.length sg gc ge t.ds ρ M1=.ok es Mend) (hlen:es.length≤sizeLine)
  (hcd:∀C,∃cond,(forIn (m:=Sem) ifs true fun c r=>if r=true then do let ok ←isTrue c (aB X scope xs R fp s2 H2 C).env (eval c (aB X scope xs R fp s2 H2 C).env);pure (ForInStep.yield ok) else pure (ForInStep.yield r))=cond∧
   ∀(af:List (Addr×Obj)) (s:Shared) (σ:L2.St) (H:Hp) (Q:Bool→Hp→Prop),L2.Inv (aB X scope xs R fp s2 H2 C) af σ H s→tT (aB X scope xs R fp s2 H2 C) gc σ H Q→wpAny (model X.prog X.w) X.A cond (TP (aB X scope xs R fp s2 H2 C) af σ Q) (fun _ _=>False) s)
  (own:oO xs.length sg) (hg:∀C,PG (aB X scope xs R fp s2 H2 C) tg (tG (aB X scope xs R fp s2 H2 C) sg))
  (he:∀C,PE (aB X scope xs R fp s2 H2 C) elt (tE (aB X scope xs R fp s2 H2 C) ge))
  (fin:∀(acc C:Addr) (s':Shared) (H':Hp) (θ':List Addr) (vs:List V) (m:Str→Option Value),L2.Inv X af σ (cp H' acc (.lst vs)) s'→s'.heap.Ns C m→iX X af (cp H' acc (.lst vs)) C→Go X.K θ1 H2 θ' H' Mend→H' acc=none→a7 X.K θ' H' es vs→RR (.ref acc) C (.ok .next) s') :
  wpAny (model X.prog X.w) X.A (newList []) (fun acc s₃=>wpAny (model X.prog X.w) X.A (newFunctionEnv scope X.env.globals (cU X.env.cells scope.names []) [] X.env.qual none .none (some X.env)) (fun cenv s₄=>
   codeAny (model X.prog X.w) X.A (.compStart (.ListComp elt [⟨tg,iter,ifs,0⟩] scope pos) 0 (.ref it) acc {cenv with scope:=relabel scope X.env}) (RR acc cenv.locals) s₄) E s₃) E s2:=by
 refine wpAny_newObj_type (wpAny_newFunctionEnv S.nocell (by intro y hy;simp at hy) (fun h₁ hns₁ hsb₁=>?_) S.kind);dsimp only at hns₁ hsb₁ ⊢;generalize hHp:s2.heap.push {cls:=.type "list",dict:=none,data:=.seq ([]:List Value).toArray}=Hp2 at hns₁ hsb₁ ⊢;have hCe:Hp2.objs.size=s2.heap.objs.size+1:=by rw[←hHp,Heap.size_push]
 generalize hCd:Hp2.objs.size=C at hns₁ hsb₁ hCe ⊢;generalize hAd:s2.heap.objs.size=acc at hCe ⊢;have hDC:acc≠C:=by rw[hCe];exact Nat.ne_of_lt (Nat.lt_succ_self _)
 have old:∀b o,s2.heap.get? b=some o→h₁.get? b=some o:=fun b o e=>by
  have hb:b<acc:=by rw[←hAd];exact Heap.lt_size e
  refine hsb₁.extBut b o (AR hb hCe) (Heap.get?_push_of_some _ ?_);rw[←hHp];exact Heap.get?_push_of_some _ e
 have hacc0:h₁.get? acc=some (fe [] 0):=by
  refine hsb₁.extBut acc _ hDC (Heap.get?_push_of_some _ ?_);rw[←hHp,←hAd];exact Heap.get?_push_size _ rfl
 have hfl:∀b∈fp,b<s2.heap.objs.size:=fun b hb=>by
  obtain⟨o,e,_⟩:=T.obj 0 _ st2 b hb;exact Heap.lt_size e
 have hCs:s2.heap.objs.size≤C:=by omega
 have IY0:L2.Inv (aB X scope xs R fp s2 H2 C) [] (List.replicate xs.length none++σ) H2 {s2 with heap:=h₁,toks:=s2.toks+([]:List (Str×Value)).length}:=vX S I2 hCs old hns₁ f2 hfl;obtain⟨cond,hcond,hct⟩:=hcd C;have fpY:∀{H':Hp} {p:Obj},(∀b∈fp,H' b=none)→∀b∈fp,iX (aB X scope xs R fp s2 H2 C) [(acc,p)] H' b:=fun {H' p} hn b hb=>by
  refine⟨hn b hb,?_,fun z=>?_,.inl hb,fun y c e=>?_,fun q hq=>?_⟩
  ·exact Nat.ne_of_lt (Nat.lt_of_lt_of_le (hfl b hb) hCs)
  ·rcases mem_cons.mp (I2.stkSub b z) with e|e
   ·exact(f2 b hb).2.1 e
   ·exact(f2 b hb).2.2.1 e
  ·exact(f2 b hb).2.2.2.2.1 y c (bX S I2 e)
  ·have hq:q∈([]:List (Addr×Obj))++[(acc,p)]:=hq;have e:q=(acc,p):=by simpa using hq
   rw[e];exact xD (hfl b hb) hAd
 have accF:∀b∈la X.stack,acc≠b:=fun b hb e=>by
  have:acc∉X.env.locals::X.fs:=by
   intro z;rcases mem_cons.mp z with z|z
   ·exact xD I2.lt hAd z
   ·exact I2.nofs (Nat.le_of_eq hAd) z
  exact this (e▸I2.stkSub b hb)
 have loop:∀s₃:Shared,s₃={s2 with heap:=h₁,toks:=s2.toks+([]:List (Str×Value)).length}→
   codeAny (model X.prog X.w) X.A (.compLoop (.ListComp elt [⟨tg,iter,ifs,0⟩] scope pos) 0 (.ref it) (.ref acc) (aB X scope xs R fp s2 H2 C).env) (RR (.ref acc) C) s₃:=by
  rintro s₃ rfl;have pin0:∀{σ':L2.St} {H':Hp} {s':Shared} {its:List Value} {n:Nat},L2.Inv (aB X scope xs R fp s2 H2 C) [] σ' H' s'→s'.heap.get? acc=some (fe its n)→H' acc=none→L2.Inv (aB X scope xs R fp s2 H2 C) [(acc,fe its n)] σ' H' s':=fun {σ' H' s' its n} I' e hn=>
   I'.pins_of fun p hp=>by
    have ep:p=(acc,fe its n):=by simpa using hp
    subst ep;exact⟨e,hn,hDC,fun z=>accF acc z rfl,fun v z=>by cases z⟩
  refine h9 hcond (Ke (aB X scope xs R fp s2 H2 C) fp tn X.K acc t (List.replicate xs.length none++ρ) θ1 H2 es (fun l N=>aU t xs.length sg gc ge l ρ N) Mend) ?_ t.ds.length
   ⟨0,_,H2,θ1,M1,[],es,[],[],0,rfl,Nat.zero_le _,pin0 IY0 hacc0 (I2.hok.fresh (Nat.le_of_eq hAd)),zx hd1,T.keep 0 _ _ st2 (fun b hb o e=>old b o e),fun b hb=>(f2 b hb).1,.refl hw1,rfl,.nil,hgo,rfl⟩
  rintro n s' ⟨i,τ,H',θ',M',ds,rest,vs,its,na,rfl,hil,I',dn',st',fr',g',rd',rv',hrest,hes⟩;have hok:t.ok M'=true:=by
   cases hq:t.ok M' with
   | true=>rfl
   | false=>
    exfalso;cases hdr:t.ds.drop i with
    | nil=>rw[hdr,aU,if_neg (by rw[hq];exact Bool.false_ne_true)] at hrest;cases hrest
    | cons d r=>rw[hdr,aU,if_neg (by rw[hq];exact Bool.false_ne_true)] at hrest;cases hrest
  obtain⟨hy,hst⟩:=hJ θ' H' M' g' hok i
  by_cases hlt:i<t.ds.length
  ·have e1:t.ds[i]?=some t.ds[i]:=getElem?_eq_getElem hlt;obtain⟨hgo',hyl⟩:=hy _ e1;rw[drop_eq_getElem_cons hlt,aU,if_pos hok] at hrest;refine bW (T.item (aB X scope xs R fp s2 H2 C) rfl rfl rfl hc i _ s' _ H' _ I' (fpY fr') st' hgo') fun r s4 hxx=>?_
   obtain⟨u,hr,h4⟩:=hxx;subst hr;refine bW h4 fun _ s5 hxx=>?_
   obtain⟨v,H5,I5,r5,y5,st5,fr5⟩:=hxx;obtain⟨gy,rx⟩:=hyl v H5 y5;have I5':=I5.pinned (fpY fr5) (T.obj _ _ st5);cases qs:sg t.ds[i] (List.replicate xs.length none++ρ) with
   | none=>rw[qs] at hrest;cases hrest
   | some ρ1=>
   rw[qs] at hrest;dsimp only at hrest;refine bW (hg C _ s5 _ H5 v u (fun σ6 H6=>fZ X.K θ' H6 σ6 ρ1∧H6=H5) I5' r5 ⟨_,θ',M',t.ds[i],dn'.go gy,gy.wr,rx,ρ1,qs,fun σ6 d6=>⟨d6,rfl⟩⟩) fun _ s6 hxx=>?_
   obtain⟨σ6,H6,I6,hdY,eH6⟩:=hxx;subst eH6;cases qc:gc ρ1 M' with
   | bad=>rw[qc] at hrest;cases hrest
   | err c Mx=>rw[qc] at hrest;cases hrest
   | ok b Mb=>
    refine bW (hct _ s6 _ H6 (fun b' H7=>b'=b∧∃θ7,Go X.K θ' H6 θ7 H7 Mb) I6 ⟨_,θ',M',hdY,gy.wr,?_⟩) fun ok s7 ⟨H7,I7,eb,θ7,g7⟩=>?_
    ·rw[qc];exact fun θ7 H7 g7=>⟨rfl,θ7,g7⟩
    subst eb;have fpk:∀{s8:Shared} {σ8:L2.St} {H8:Hp},L2.Inv (aB X scope xs R fp s2 H2 C) ([(acc,fe its na)]++lO fp s5.heap) σ8 H8 s8→(∀b∈fp,H8 b=none)∧(∀b∈fp,∀o,s5.heap.get? b=some o→s8.heap.get? b=some o)∧s8.heap.get? acc=some (fe its na)∧H8 acc=none:=fun {s8 σ8 H8} I8=>by
     have pa:=I8.pin (acc,fe its na) (mem_append_right _ (mem_append_left _ (by simp)));refine⟨fun b hb=>?_,fun b hb o e=>(I8.pin (b,o) (mem_append_right _ (mem_append_right _ (gH hb e)))).1,pa.1,pa.2.1⟩;obtain⟨o,e,d⟩:=T.obj _ _ st5 b hb;exact(I8.pin (b,o) (mem_append_right _ (mem_append_right _ (gH hb e)))).2.1
    cases ok with
    | false=>
     rw[if_neg Bool.false_ne_true];rw[qc] at hrest;obtain⟨k1,k2,k3,k4⟩:=fpk I7;exact⟨t.ds.length-(i+1),by omega,i+1,σ6,H7,θ7,Mb,ds,rest,vs,its,na,rfl,hlt,I7.unpinned,own.back qs (hdY.go g7),T.keep _ _ _ st5 k2,k1,g'.trans (gy.trans g7),rd'.go (gy.trans g7),rv',hrest,hes⟩
    | true=>
     rw[if_pos rfl];rw[qc] at hrest;have hrest:(match ge ρ1 Mb with
      | .ok e M2=>(aU t xs.length sg gc ge (t.ds.drop (i+1)) ρ M2).bind fun es M3=>.ok (e::es) M3
      | _=>.bad)=aN.ok rest Mend:=hrest
     cases qe:ge ρ1 Mb with
     | bad=>rw[qe] at hrest;cases hrest
     | err c Mx=>rw[qe] at hrest;cases hrest
     | ok dv Mv=>
      rw[qe] at hrest;have hrest:((aU t xs.length sg gc ge (t.ds.drop (i+1)) ρ Mv).bind fun es M3=>aN.ok (dv::es) M3)=aN.ok rest Mend:=hrest;refine bW (he C _ s7 _ H7 (fun w H8=>∃θ8,Go X.K θ7 H7 θ8 H8 Mv∧cD X.K θ8 H8 dv w) I7 ⟨_,θ7,Mb,hdY.go g7,g7.wr,?_⟩) fun uv s8 ⟨w,H8,I8,rw8,θ8,g8,rd8⟩=>?_
      ·rw[qe];exact fun w θ8 H8 g8 rd8=>⟨θ8,g8,rd8⟩
      obtain⟨k1,k2,k3,k4⟩:=fpk I8;cases qr:aU t xs.length sg gc ge (t.ds.drop (i+1)) ρ Mv with
      | bad=>rw[qr] at hrest;cases hrest
      | err c Mx=>rw[qr] at hrest;cases hrest
      | ok rest' Mr=>
       rw[qr] at hrest;have hrest:aN.ok (dv::rest') Mr=aN.ok rest Mend:=hrest;cases hrest;have hsz:its.length<sizeLine:=by
        have e2:(ds++dv::rest').length≤sizeLine:=by rw[hes];exact hlen
        rw[length_append,length_cons,aq rd',rv'.length] at e2;omega
       refine call_meets F.slot_list_append ⟨_,k3,rfl⟩ F.entry_list_append (F.args_list_append_2 _ _) (PySem.list_append acc its.toArray na uv (by rw[size_toArray];omega)) ⟨k3,?_⟩;have qup:=PySem.IsL.update k3 (fun a=>a.push uv);have eup:(its.toArray.push uv)=(its++[uv]).toArray:=by simp
       have keepb:∀b o,b≠acc→s8.heap.get? b=some o→(s8.heap.update acc (Obj.mapSeq fun a=>a.push uv)).get? b=some o:=fun b o hb e=>(Heap.get?_update_other s8.heap _ (Ne.symm hb)).trans e
       have I9:L2.Inv (aB X scope xs R fp s2 H2 C) [] σ6 H8 {s8 with heap:=s8.heap.update acc (Obj.mapSeq fun a=>a.push uv),toks:=s8.toks}:=by
        refine Inv.turned (it:=acc) (I8.pins_of (pins':=[]) fun p hp=>absurd hp (by simp)) keepb k4 hDC (.inr (Nat.le_of_eq hAd)) (fun y c e z=>?_) fun p hp=>absurd (show p∈([]:List (Addr×Obj)) from hp) (by simp)
        obtain⟨v',o,ho,hdd⟩:=I2.cell y c (bX S I2 e);exact nU (Heap.lt_size ho) hAd z
       obtain⟨n',eq'⟩:∃n',(s8.heap.update acc (Obj.mapSeq fun a=>a.push uv)).get? acc=some (fe (its++[uv]) n'):=by
        have q2:=qup;rw[eup] at q2;exact⟨_,q2⟩
       exact⟨t.ds.length-(i+1),by omega,i+1,σ6,H8,θ8,Mv,ds++[dv],rest',vs++[w],its++[uv],n',rfl,hlt,pin0 I9 eq' k4,own.back qs (hdY.go (g7.trans g8)),T.keep _ _ _ st5 (fun b hb o e=>keepb b o (nU (hfl b hb) hAd) (k2 b hb o e)),k1,g'.trans (gy.trans (g7.trans g8)),bD (rd'.go (gy.trans (g7.trans g8))) ⟨w,[],rfl,rd8,rfl⟩,rv'.append (.cons rw8 .nil),qr,by rw[←hes];simp⟩
  ·have e:i=t.ds.length:=by omega
   subst e;rw[drop_length,aU,if_pos hok] at hrest;cases hrest;have hes:ds=es:=by rw[←hes];simp
   subst hes;refine bW (T.done (aB X scope xs R fp s2 H2 C) rfl rfl rfl hc _ _ s' _ H' _ I' (fpY fr') st' (hst (Nat.le_refl _))) fun r s4 hxx=>?_
   obtain⟨hr,I4⟩:=hxx;subst hr;have pa:=I4.pin (acc,fe its na) (mem_append_right _ (by simp));have e4:s4.heap.get? acc=some (fe its na):=pa.1;have n4:H' acc=none:=pa.2.1;have lv:vs.length≤sizeLine:=by rw[←aq rd'];exact hlen
   obtain⟨mC,hnC,_⟩:=I4.loc;have hHC:H' C=none:=I4.free;have u9:Un (la X.stack) fp H2 H' s2.heap s4.heap:=I4.base;have neA:∀{b:Addr} {o:Obj},s2.heap.get? b=some o→b≠acc:=fun {b o} e=>nU (Heap.lt_size e) hAd
   have neH:∀{b:Addr} {u:HO},H' b=some u→b≠acc:=fun {b u} e z=>by rw[z,n4] at e;cases e
   have un4:Un (la X.stack) fp H2 (cp H' acc (.lst vs)) s2.heap s4.heap:=by
    refine⟨u9.keep,u9.slot,fun b o e n hx=>?_,u9.there,fun b xs e=>?_,fun b o u e=>?_,fun b ps e=>?_⟩
    ·rw[aI (neA e)];exact u9.free b o e n hx
    ·have z:=u9.tups b xs e;rw[aI (neH z)];exact z
    ·have z:=u9.frzs b o u e;rw[aI (neH z)];exact z
    ·obtain⟨more,z⟩:=u9.tbls b ps e;exact⟨more,by rw[aI (neH z)];exact z⟩
   have hok4:iY X.prog X.w (cp H' acc (.lst vs)) s4.heap:=fun b u e=>by
    by_cases hb:b=acc
    ·subst hb;rw[cN] at e;cases e;exact⟨lv,its,na,rv',e4⟩
    ·rw[aI hb] at e;exact(I4.hok b u e).stay (fun c v _ q=>q) (fun c q=>by rw[aI (neH q)];exact q) fun c xs q=>by rw[aI (neH q)];exact q
   have IX:L2.Inv X af σ (cp H' acc (.lst vs)) s4:=I2.call' (ch:=fp) I4.os un4 hok4 I4.bare fun b hb=>⟨(f2 b hb).2.2.2.1,(f2 b hb).2.1,(f2 b hb).2.2.2.2.1,(f2 b hb).2.2.2.2.2⟩
   refine fin acc C s4 H' θ' vs mC IX hnC (I2.fpOk hCs ?_) g' n4 rd';rw[aI (Ne.symm hDC)];exact hHC
 exact codeAny_compStart_list (loop _ rfl) (T.self _ 0 _ _ _ (T.keep 0 _ _ st2 fun b hb o e=>old b o e) (loop _ rfl))
end
section
variable {X:Cx}{scope:Scope}{xs:List Str}{tg:Expr}{sg:GG}{x:Str}{px:Pos}{R:List Str}{elt iter:Expr}{ifs:List Expr}{pos:Pos}{gi:GI}{gc:GT}{ge:GE}
def En (mk:List D→av→aN D):Prop:=∀(X:Cx) (θ:List Addr) (H:Hp) (Q:VK) (ds:List D) (M:av) (vs:List V),aF X θ H Q (mk ds M)→Wr X.K θ H M→a7 X.K θ H ds vs→vs.length≤sizeLine∧∀p,H p=none→Q (.ref p) (cp H p (.lst vs))
theorem xo:En aJ:=fun X θ H Q ds M vs h hw r=>aF.lst h hw r
theorem xX:En cy:=fun X θ H Q ds M vs h hw r=>aF.mut h hw r
theorem yn {mk:List D→av→aN D}(hm:mk=aJ∨mk=cy){X:Cx}{θ:List Addr}{H:Hp}{Q:VK}{ds:List D}{M:av}(h:aF X θ H Q (mk ds M)):ds.length≤sizeLine:=by
 rcases hm with e|e <;> subst e
 ·unfold aJ at h;split at h
  ·assumption
  ·exact h.elim
 ·unfold cy at h;split at h
  ·assumption
  ·exact h.elim
theorem Bu {mk:List D→av→aN D}(hm:mk=aJ∨mk=cy):En mk:=by
 rcases hm with e|e <;> subst e
 ·exact xo
 ·exact xX
def f9 (X:Cx)(scope:Scope)(xs:List Str)(R:List Str)(ifs:List Expr)(gc:GT):Prop:=∀fp s2 H2 C,∃cond,(forIn (m:=Sem) ifs true fun c r=>if r=true then do let ok ←isTrue c (aB X scope xs R fp s2 H2 C).env (eval c (aB X scope xs R fp s2 H2 C).env);pure (ForInStep.yield ok) else pure (ForInStep.yield r))=cond∧
   ∀(af:List (Addr×Obj)) (s:Shared) (σ:L2.St) (H:Hp) (Q:Bool→Hp→Prop),L2.Inv (aB X scope xs R fp s2 H2 C) af σ H s→tT (aB X scope xs R fp s2 H2 C) gc σ H Q→wpAny (model X.prog X.w) X.A cond (TP (aB X scope xs R fp s2 H2 C) af σ Q) (fun _ _=>False) s
theorem wy:f9 X scope xs R [] bJ:=fun fp s2 H2 C=>⟨_,rA,fun af s σ H Q I ⟨ρ,θ,M,hd,hw,h⟩=>wpAny_pure ⟨H,I,h θ H (.refl hw)⟩⟩
theorem yA {c:Expr}(h:∀fp s2 H2 C,PT (aB X scope xs R fp s2 H2 C) c (tT (aB X scope xs R fp s2 H2 C) gc)):f9 X scope xs R [c] gc:=fun fp s2 H2 C=>⟨_,tZ,fun af s σ H Q I q=>h fp s2 H2 C af s σ H Q I q⟩
theorem gf {t:mj}{n:Nat}{sg:GG}{gc:GT}{ge:GE}{ρ:bc}{c:Str}{M':av}:∀(ds:List D) (M:av),aU t n sg gc ge ds ρ M=.err c M'→False
 | [],M,h=>by
  unfold aU at h;split at h <;> cases h
 | d::r,M,h=>by
  unfold aU at h;split at h
  ·split at h
   ·cases h
   ·split at h
    ·rename_i M1 q1;split at h
     ·rename_i e M2 q2;cases q:aU t n sg gc ge r ρ M2 with
      | ok es M3=>rw[q] at h;cases h
      | err c2 M3=>exact gf r M2 q
      | bad=>rw[q] at h;cases h
     ·cases h
    ·rename_i M1 q1;exact gf r M1 h
    ·cases h
  ·cases h
theorem oY {mk:List D→av→aN D}(hS:bZ scope X.env.kindOf xs R X.N=true)(hc:X.calm=true)(hm:mk=aJ∨mk=cy)(hi:PI X tg iter (tI X gi))(own:oO xs.length sg)(hg:∀fp s H C,PG (aB X scope xs R fp s H C) tg (tG (aB X scope xs R fp s H C) sg))(hts:f9 X scope xs R ifs gc)
  (he:∀fp s H C,PE (aB X scope xs R fp s H C) elt (tE (aB X scope xs R fp s H C) ge))
  (hs:∀x,foldedSetIterable iter X.env x=pure x:=by intro _;rfl):PE X (.ListComp elt [⟨tg,iter,ifs,0⟩] scope pos) (tE X (bR gi xs.length sg gc ge mk)):=by
 have S:=bL.of hS;intro af s σ H Q I h;obtain⟨ρ,θ,M,hd,hw,h⟩:=h;rw[eval_ListComp];refine wpAny_comprehension_free (use:=none) rfl hs (jE (S.cells I)) S.kind S.lnames ?_;refine bW (hi af s σ H (fun J H2=>∃t M1 θ1,gi ρ M=.ok t M1∧Go X.K θ H θ1 H2 M1∧yI X.K J θ1 H2 t) I ⟨ρ,θ,M,hd,hw,?_⟩) fun v s1 h1=>bW h1 fun itv s2 h2=>?_
 ·cases q:gi ρ M with
  | ok t M1=>exact fun J θ1 H1 g1 hJ=>⟨t,M1,θ1,rfl,g1,hJ⟩
  | err c M1=>unfold bR at h;rw[q] at h;exact h
  | bad=>unfold bR at h;rw[q] at h;exact h
 obtain⟨it,fp,tn,J,H2,rfl,I2,T,st2,f2,t,M1,θ1,eg,g1,hJ⟩:=h2;unfold bR at h;rw[eg] at h;have h:aF X θ H Q ((aU t xs.length sg gc ge t.ds ρ M1).bind mk):=h;cases q:aU t xs.length sg gc ge t.ds ρ M1 with
 | bad=>rw[q] at h;exact h.elim
 | err c Mx=>exact(gf _ _ q).elim
 | ok es Mend=>
  rw[q] at h;have h:aF X θ H Q (mk es Mend):=h;refine lu (RR:=fun acc C=>compPost (model X.prog X.w) X.A X.xe none (EP X af σ Q) acc C) S hc I2 T st2 f2 g1.wr (hd.go g1) hJ q (yn hm h) (fun C=>hts fp s2 H2 C) own (fun C=>hg fp s2 H2 C) (fun C=>he fp s2 H2 C) ?_;intro acc C s' H' θ' vs m IX hnC fC g' na rd;refine⟨m,hnC,fun h' sb=>?_⟩;have I3:L2.Inv X af σ (cp H' acc (.lst vs)) {s' with heap:=h',toks:=s'.toks}:=IX.turned (it:=C) (fun b o hb e=>(sb.2 b hb).trans e) fC.1 fC.2.1 fC.2.2.2.1 fC.2.2.2.2.1 fC.2.2.2.2.2;exact⟨.ref acc,_,I3,rfl,(Bu hm X θ' H' Q es Mend vs (aF.go (g1.trans g') h) g'.wr rd).2 acc na⟩
theorem pL {mk:List D→av→aN D}{j:Nat}{y:Str}{py spos:Pos}(hS:bZ scope X.env.kindOf xs R X.N=true)(hc:X.calm=true)(hm:mk=aJ∨mk=cy)(hi:PI X tg iter (tI X gi))(own:oO xs.length sg)(hg:∀fp s H C,PG (aB X scope xs R fp s H C) tg (tG (aB X scope xs R fp s H C) sg))(hts:f9 X scope xs R ifs gc)
  (he:∀fp s H C,PE (aB X scope xs R fp s H C) elt (tE (aB X scope xs R fp s H C) ge))
  (hN:X.N.Nodup) (hj:X.N[j]?=some y) (hy:X.env.scope.names.lookup y=some .local)
  (hsw:swapsWith (.ListComp elt [⟨tg,iter,ifs,0⟩] scope pos) (some (.Name y py)) spos.line X.env=pure true)
  (hs:∀x,foldedSetIterable iter X.env x=pure x:=by intro _;rfl):PS X (.Assign [.Name y py] (.ListComp elt [⟨tg,iter,ifs,0⟩] scope pos) spos) (tS X (au j (bR gi xs.length sg gc ge mk))):=by
 have S:=bL.of hS;intro af s σ H Q I h;obtain⟨ρ,θ,M,hd,hw,h⟩:=h;rw[exec_Assign_Name_used _ _ _ _ hsw];refine wpAny_bind (wpAny_standAt (wpAny_bind ?_));show wpAny _ X.A (do let _ ←comprehension (.ListComp elt [⟨tg,iter,ifs,0⟩] scope pos) scope X.env _ (newList []) false (eval iter X.env) (some (assign (.Name y py) X.env))) _ _ s;refine wpAny_bind (wpAny_mono (wpAny_comprehension_free (use:=some (assign (.Name y py) X.env)) (Q:=fun _ s'=>SP X af Q .next s') rfl hs (jE (S.cells I)) S.kind S.lnames ?_) (fun _ s' hq=>wpAny_pure (wpAny_pure hq)) fun _ _ e=>e);refine bW (hi af s σ H (fun J H2=>∃t M1 θ1,gi ρ M=.ok t M1∧Go X.K θ H θ1 H2 M1∧yI X.K J θ1 H2 t) I ⟨ρ,θ,M,hd,hw,?_⟩) fun v s1 h1=>bW h1 fun itv s2 h2=>?_
 ·cases q:gi ρ M with
  | ok t M1=>exact fun J θ1 H1 g1 hJ=>⟨t,M1,θ1,rfl,g1,hJ⟩
  | err c M1=>unfold au bR at h;rw[q] at h;exact h
  | bad=>unfold au bR at h;rw[q] at h;exact h
 obtain⟨it,fp,tn,J,H2,rfl,I2,T,st2,f2,t,M1,θ1,eg,g1,hJ⟩:=h2;unfold au bR at h;rw[eg] at h;have h:bK X θ H Q (((aU t xs.length sg gc ge t.ds ρ M1).bind mk).bind fun d M2=>.ok (.nx (ρ.set j (some d))) M2):=h;cases q:aU t xs.length sg gc ge t.ds ρ M1 with
 | bad=>rw[q] at h;exact h.elim
 | err c Mx=>exact(gf _ _ q).elim
 | ok es Mend=>
  rw[q] at h;have h:bK X θ H Q ((mk es Mend).bind fun d M2=>.ok (.nx (ρ.set j (some d))) M2):=h;have hE:aF X θ H (fun v H'=>∃θ' M',Go X.K θ H θ' H' M'∧∃d,mk es Mend=.ok d M'∧cD X.K θ' H' d v) (mk es Mend):=by
   cases qm:mk es Mend with
   | ok d M2=>exact fun v θ' H' g' r=>⟨θ',M2,g',d,rfl,r⟩
   | err c M2=>rw[qm] at h;exact h
   | bad=>rw[qm] at h;exact h
  refine lu (RR:=fun acc C=>compPost (model X.prog X.w) X.A X.xe (some (assign (.Name y py) X.env)) (fun _ s'=>SP X af Q .next s') acc C) S hc I2 T st2 f2 g1.wr (hd.go g1) hJ q (yn hm hE) (fun C=>hts fp s2 H2 C) own (fun C=>hg fp s2 H2 C) (fun C=>he fp s2 H2 C) ?_;intro acc C s' H' θ' vs m IX hnC fC g' na rd;obtain⟨θe,Me,ge',d,ed,rde⟩:=(Bu hm X θ' H' _ es Mend vs (aF.go (g1.trans g') hE) g'.wr rd).2 acc na;show wpAny _ X.A (assign (.Name y py) X.env (.ref acc)) _ _ s';refine wpAny_assign_Name (nj IX hN hj (.inl hy) (v:=.ref acc) rfl (fun s3 I3 hxx=>?_) (.inr hy));obtain⟨a,sa,ha⟩:=hxx;have hCa:C≠a:=by
   rcases ha with e|e
   ·rw[e];exact fC.2.1
   ·exact fun z=>fC.2.2.2.2.1 y a e z.symm
  refine⟨m,hnC.sameBut sa hCa,fun h' sb=>?_⟩;have I4:L2.Inv X af (σ.set j (some (.ref acc))) (cp H' acc (.lst vs)) {s3 with heap:=h',toks:=s3.toks}:=I3.turned (it:=C) (fun b o hb e=>(sb.2 b hb).trans e) fC.1 fC.2.1 fC.2.2.2.1 fC.2.2.2.2.1 fC.2.2.2.2.2;rw[ed] at h;exact⟨_,_,I4,h _ θe _ ge' ((hd.go ge').set rde j)⟩
theorem tV {px:Pos}(hS:bZ scope X.env.kindOf [x] R X.N=true)(fp:List Addr)(s:Shared)(H:Hp)(C:Addr):PG (aB X scope [x] R fp s H C) (.Name x px) (tG (aB X scope [x] R fp s H C) (cT 0)):=
 have S:=bL.of hS
 ol (X:=aB X scope [x] R fp s H C) S.nd rfl (.inl (lookup_relabel_local (S.own x (by simp)))) (.inr (lookup_relabel_local (S.own x (by simp))))
theorem sL (mk:List D→av→aN D):aX gi gc ge mk=bR gi 1 (cT 0) gc ge mk:=by
 funext ρ M;unfold aX bR;simp only[oU]
theorem Az {mk:List D→av→aN D}(hS:bZ scope X.env.kindOf [x] R X.N=true)(hc:X.calm=true)(hm:mk=aJ∨mk=cy)(hi:PI X (.Name x px) iter (tI X gi))(hts:f9 X scope [x] R ifs gc)
  (he:∀fp s H C,PE (aB X scope [x] R fp s H C) elt (tE (aB X scope [x] R fp s H C) ge))
  (hs:∀x,foldedSetIterable iter X.env x=pure x:=by intro _;rfl):PE X (.ListComp elt [⟨.Name x px,iter,ifs,0⟩] scope pos) (tE X (aX gi gc ge mk)):=by
 rw[sL];exact oY (xs:=[x]) hS hc hm hi (sN (Nat.zero_lt_one)) (tV hS) hts he hs
theorem qW {mk:List D→av→aN D}{j:Nat}{y:Str}{py spos:Pos}(hS:bZ scope X.env.kindOf [x] R X.N=true)(hc:X.calm=true)(hm:mk=aJ∨mk=cy)(hi:PI X (.Name x px) iter (tI X gi))(hts:f9 X scope [x] R ifs gc)
  (he:∀fp s H C,PE (aB X scope [x] R fp s H C) elt (tE (aB X scope [x] R fp s H C) ge))
  (hN:X.N.Nodup) (hj:X.N[j]?=some y) (hy:X.env.scope.names.lookup y=some .local)
  (hsw:swapsWith (.ListComp elt [⟨.Name x px,iter,ifs,0⟩] scope pos) (some (.Name y py)) spos.line X.env=pure true)
  (hs:∀x,foldedSetIterable iter X.env x=pure x:=by intro _;rfl):PS X (.Assign [.Name y py] (.ListComp elt [⟨.Name x px,iter,ifs,0⟩] scope pos) spos) (tS X (au j (aX gi gc ge mk))):=by
 rw[sL];exact pL (xs:=[x]) hS hc hm hi (sN (Nat.zero_lt_one)) (tV hS) hts he hN hj hy hsw hs
end
def cZ:List D→Option (List Bool)
 | []=>some []
 | .bl b::r=>(cZ r).map (b::·)
 | _=>none
def mx:FD:=fun ds M=>match ds with
 | [d]=>match bv d M with
  | some xs=>match cZ xs with
   | some bs=>.ok (.bl (bs.all id)) M
   | none=>.bad
  | none=>.bad
 | _=>.bad
theorem iH {K:W.Frag}{θ:List Addr}{H:Hp}:∀{ds:List D} {vs:List V} {us:List Value} {bs:List Bool},a7 K θ H ds vs→aP vs us→cZ ds=some bs→us=bs.map Value.bool
 | [],vs,us,bs,r,q,e=>by
  have e1:vs=[]:=r;subst e1;cases q;cases e;rfl
 | d::ds,vs,us,bs,r,q,e=>by
  obtain⟨v,rr,e1,h1,h2⟩:=r;subst e1;cases d with
  | bl b=>
   cases qb:cZ ds with
   | none=>simp[cZ,qb] at e
   | some bs'=>
    simp[cZ,qb] at e;subst e;have e2:v=.bl b:=h1;subst e2;cases q with
    | cons q1 q2=>
     cases q1;rw[map_cons,iH h2 q2 qb]
  | _=>simp[cZ] at e
theorem vA (bs:List Bool):(List.range bs.length).all (fun i=>bs.getD i false)=bs.all id:=by
 rw[Bool.eq_iff_iff];simp only[all_eq_true,mem_range,id];constructor
 ·intro h b hb;obtain⟨i,hi,e⟩:=mem_iff_getElem.mp hb;have:=h i hi;rw[getD_eq_getElem?_getD,getElem?_eq_getElem hi] at this;rw[←e];exact this
 ·intro h i hi;rw[getD_eq_getElem?_getD,getElem?_eq_getElem hi];exact h _ (getElem_mem hi)
section
variable {X:Cx}
theorem kf {prog:Program}{w:World}{A:Around}(bs:List Bool):TruthOf prog w A (fun i v=>((bs.map Value.bool).toArray)[i]?=some v) (fun i=>bs.getD i false):=fun i v s Q E hP hQ=>by
 have hP:(bs.map Value.bool)[i]?=some v:=by simpa using hP
 rw[getElem?_map] at hP;cases q:bs[i]? with
 | none=>rw[q] at hP;cases hP
 | some b=>
  rw[q] at hP;cases hP;have e:bs.getD i false=b:=by rw[getD_eq_getElem?_getD,q];rfl
  dsimp only at hQ;rw[e] at hQ;exact wpAny_truthy_bool hQ
theorem qJ {af:List (Addr×Obj)}{σ:L2.St}{H:Hp}{s:Shared}{d:D}{θ:List Addr}{M:av}{xs:List D}{bs:List Bool}{v:V}{u:Value}(hc:X.calm=true)(I:L2.Inv X af σ H s)(hw:Wr X.K θ H M)(rv:cD X.K θ H d v)(ru:RelV v u)(q:bv d M=some xs)(qb:cZ xs=some bs){Q:Bool→Hp→Prop}{f:(Nat→Bool)→Nat→Bool}{E:Value→Shared→Prop}
  (h:∀h' tk,L2.Inv X af σ H {s with heap:=h',toks:=tk}→Q (f (fun i=>bs.getD i false) bs.length) H) :
  wpAny (model X.prog X.w) X.A.in1 (pyIter u) (fun it s₂=>∃I fp wr n P St tr,it=.ref I∧Walks X.prog X.w X.A.in1 I fp wr n P St∧St 0 s₂.heap∧TruthOf X.prog X.w X.A.in1 P tr∧
   ∀h' tk,(∀b o,b∉wr→s₂.heap.get? b=some o→h'.get? b=some o)→EP X af σ (fun v H=>∃b,v=.bl b∧Q b H) (.bool (f tr n)) {s₂ with heap:=h',toks:=tk}) E s:=by
 have hh:X.A.in1.handled=none:=I.ok.hd hc;obtain⟨a,vs,ea,sq,ra⟩:=iM hw rv q;subst ea;cases ru;rcases sq with sq|sq
 ·obtain⟨its,r1,p,hz⟩:=I.list sq;have e:=iH ra r1 qb;subst e;have hlt:a<s.heap.objs.size:=by obtain⟨o,n,e,_⟩:=p;exact Heap.lt_size e
  refine wpAny_pyIter_list p.isList ⟨s.heap.objs.size,_,_,_,_,_,_,rfl,Walks.list hh s.heap.objs.size a (Nat.ne_of_lt hlt) _,⟨⟨_,Heap.get?_push_size _ rfl,rfl,rfl⟩,p.isList.push _⟩,kf bs,fun h' tk k=>?_⟩;have I':L2.Inv X af σ H {s with heap:=h',toks:=tk}:=I.kept fun b o e=>k b o (by have:=Heap.lt_size e;simp;exact Nat.ne_of_lt this) (Heap.get?_push_of_some _ e)
  refine⟨.bl _,H,I',rfl,_,rfl,?_⟩;have:=h h' tk I';simpa using this
 ·obtain⟨its,r1,p,hz⟩:=I.tuple sq;have e:=iH ra r1 qb;subst e;have hlt:a<s.heap.objs.size:=by obtain⟨o,e,_⟩:=p;exact Heap.lt_size e
  have pt:s.heap.IsTuple a (bs.map Value.bool).toArray:=p;refine wpAny_pyIter_tuple pt ⟨s.heap.objs.size,_,_,_,_,_,_,rfl,Walks.tuple hh s.heap.objs.size a (Nat.ne_of_lt hlt) _,⟨⟨_,Heap.get?_push_size _ rfl,rfl,rfl⟩,?_⟩,kf bs,fun h' tk k=>?_⟩
  ·obtain⟨o,e,r⟩:=p;exact⟨o,Heap.get?_push_of_some _ e,r⟩
  have I':L2.Inv X af σ H {s with heap:=h',toks:=tk}:=I.kept fun b o e=>k b o (by have:=Heap.lt_size e;simp;exact Nat.ne_of_lt this) (Heap.get?_push_of_some _ e)
  refine⟨.bl _,H,I',rfl,_,rfl,?_⟩;have:=h h' tk I';simpa using this
theorem CA (hc:X.calm=true):cx X (.builtin "all") (rC X mx):=by
 intro af s σ H xs us Q I r h;obtain⟨θ,M,ds,hw,rd,h⟩:=h;unfold mx at h;split at h
 ·rename_i d;obtain⟨v,e,rv⟩:=fg rd;subst e;obtain⟨u,rfl,ru⟩:=ki r;split at h
  ·rename_i ys q;split at h
   ·rename_i bs qb;refine bW (call_all_walk (qJ hc I hw rv ru q qb (Q:=fun b H=>Q (.bl b) H) (f:=fun tr n=>(List.range n).all tr) (fun h' tk I'=>?_))) fun u' s' ⟨v',H',I',r',b,eb,q'⟩=>⟨v',H',I',r',by rw[eb];exact q'⟩
    rw[vA];exact h _ θ H (.refl hw) rfl
   ·exact h.elim
  ·exact h.elim
 ·exact h.elim
def HD:D→Option String
 | .non=>some "NoneType"
 | .bl _=>some "bool"
 | .int _=>some "int"
 | .str _=>some "str"
 | .tup _=>some "tuple"
 | .lst _=>some "list"
 | .ro _=>some "list"
 | _=>none
def Ax (d:D)(M:av):Option String:=match d with
 | .mr k=>match M[k]? with
  | some (.lst _)=>some "list"
  | _=>none
 | d=>HD d
def rB (t T:String):Bool:=t==T||(t=="bool"&&T=="int")
def kt (T:String)(g:GE):GE:=fun ρ M=>(g ρ M).bind fun d M1=>match Ax d M1 with
 | some t=>.ok (.bl (rB t T)) M1
 | none=>.bad
def jw (T:String):Prop:=T="int"∨T="bool"∨T="str"∨T="tuple"∨T="list"
theorem dn (K:W.Frag){T:String}(hT:jw T):∀t∈["NoneType","bool","int","str","tuple","list"],W.kitOne K (.type t) (.type T)=some (rB t T):=by
 intro t ht;simp only[mem_cons,mem_nil_iff,or_false] at ht;rcases hT with rfl|rfl|rfl|rfl|rfl <;> rcases ht with rfl|rfl|rfl|rfl|rfl|rfl <;> rfl
theorem DA {T:String}(hT:jw T):cx X (.builtin "isinstance") (fun xs H Q=>∃θ M d v,Wr X.K θ H M∧cD X.K θ H d v∧xs=[v,.ty T]∧aF X θ H Q (match Ax d M with|some t=>.ok (.bl (rB t T)) M|none=>.bad)):=by
 intro af s σ H xs us Q I r h;obtain⟨θ,M,d,v,hw,rv,e,h⟩:=h;subst e;obtain⟨u,c,rfl,ru,rc⟩:=wd r;cases rc;have fin:∀t tk,Ax d M=some t→EP X af σ Q (.bool (rB t T)) {s with toks:=tk}:=fun t tk e=>by
  rw[e] at h;exact⟨.bl _,H,I.tok _,rfl,h _ θ H (.refl hw) rfl⟩
 cases d with
 | non=>have e:v=.non:=rv;subst e;cases ru;exact W.kia_one W.kitx_none I.kIn True.intro (dn X.K hT "NoneType" (by simp)) (fun z=>nomatch z) fun tk=>fin _ tk rfl
 | bl b=>have e:v=.bl b:=rv;subst e;cases ru;exact W.kia_one W.kitx_bool I.kIn True.intro (dn X.K hT "bool" (by simp)) (fun z=>nomatch z) fun tk=>fin _ tk rfl
 | int i=>have e:v=.int i:=rv;subst e;obtain⟨t,rfl⟩:=ru;exact W.kia_one W.kitx_int I.kIn True.intro (dn X.K hT "int" (by simp)) (fun z=>nomatch z) fun tk=>fin _ tk rfl
 | str i=>have e:v=.str i:=rv;subst e;obtain⟨t,rfl⟩:=ru;exact W.kia_one W.kitx_str I.kIn True.intro (dn X.K hT "str" (by simp)) (fun z=>nomatch z) fun tk=>fin _ tk rfl
 | tup ds=>
  obtain⟨a,vs,e,ta,ra⟩:=rv;subst e;cases ru;obtain⟨its,_,⟨o,h1,h2,_⟩,_⟩:=I.tuple ta.sq;exact W.kia_one W.kitx_tuple I.kIn ⟨o,h1,h2⟩ (dn X.K hT "tuple" (by simp)) (fun z=>nomatch z) fun tk=>fin _ tk rfl
 | lst ds=>
  obtain⟨a,vs,e,ta,ra⟩:=rv;subst e;cases ru;obtain⟨its,_,⟨o,n,h1,h2,_⟩,_⟩:=I.list (ta.sq (K:=X.K));exact W.kia_one W.kitx_list I.kIn ⟨o,h1,h2⟩ (dn X.K hT "list" (by simp)) (fun z=>nomatch z) fun tk=>fin _ tk rfl
 | ro ds=>
  obtain⟨a,vs,e,ta,ra⟩:=rv;subst e;cases ru;obtain⟨its,_,⟨o,n,h1,h2,_⟩,_⟩:=I.list ta.sq;exact W.kia_one W.kitx_list I.kIn ⟨o,h1,h2⟩ (dn X.K hT "list" (by simp)) (fun z=>nomatch z) fun tk=>fin _ tk rfl
 | mr k=>
  obtain⟨a,e,ta⟩:=rv;subst e;cases ru;cases qm:M[k]? with
  | none=>simp only[Ax,qm] at h;exact h.elim
  | some m=>
   cases m with
   | lst ys=>
    obtain⟨vs,hv,_⟩:=hw.at_ k a _ ta qm;obtain⟨its,_,⟨o,n,h1,h2,_⟩,_⟩:=I.list (X:=X) (xs:=vs) (.inl (.inl hv));exact W.kia_one W.kitx_list I.kIn ⟨o,h1,h2⟩ (dn X.K hT "list" (by simp)) (fun z=>nomatch z) fun tk=>fin _ tk (by simp only[Ax,qm])
   | _=>simp only[Ax,qm] at h;exact h.elim
 | exc c=>exact h.elim
 | any=>exact h.elim
theorem BV {T:String}{x:Str}{e:Expr}{p p2 pos:Pos}{g:GE}(hT:jw T)(hv:bootBuiltins x=some (.type T))(hg:Gl X x)(hm:X.mg x=none)(hgi:Gl X "isinstance")(hmi:X.mg "isinstance"=none)(he:PE X e (tE X g))
  (hn:x≠"__name__":=by decide) (hd:(x==("__debug__":Str))=false:=by decide) (hbi:bootBuiltins "isinstance"=some (.builtin "isinstance"):=by kernel_rfl) (hs:starEach [e,.Name x p2] X.env=(false,eval e X.env)::starEach [.Name x p2] X.env:=by rfl)
  (hs2:starEach [.Name x p2] X.env=(false,eval (.Name x p2) X.env)::starEach [] X.env:=by rfl) (hpl:(backTo pos (starEach [.Name x p2] X.env)).any (·.1)=false:=by rfl) :
  PE X (.Call (.Name "isinstance" p) [e,.Name x p2] [] pos) (tE X (kt T g)):=
 (jF (DA hT) hgi hmi hbi (b9 he (b9 (sU hg hm hv (v:=.ty T) rfl hn hd) dX hs2) hs) (by decide) (by decide) hs hpl).of fun σ H Q hxx=>by
  obtain⟨ρ,θ,M,hd,hw,h⟩:=hxx;refine bG hd hw (aF X θ H Q) (fun c M' h=>h) (fun h=>h) h fun d M1 v θ1 H1 g1 r1 h1=>?_
  exact⟨θ1,M1,d,v,g1.wr,r1,rfl,aF.go g1 h1⟩
end
def cL:D→Bool
 | .non=>true
 | .bl _=>true
 | .int _=>true
 | .str _=>true
 | _=>false
def yH:D→V
 | .non=>.non
 | .bl b=>.bl b
 | .int i=>.int i
 | .str x=>.str x
 | _=>.non
theorem jq {K:W.Frag}{θ:List Addr}{H:Hp}{d:D}{v:V}(r:cD K θ H d v)(f:cL d=true):v=yH d∧eA v=true:=by
 cases d with
 | non=>have e:v=.non:=r;subst e;exact⟨rfl,rfl⟩
 | bl b=>have e:v=.bl b:=r;subst e;exact⟨rfl,rfl⟩
 | int b=>have e:v=.int b:=r;subst e;exact⟨rfl,rfl⟩
 | str b=>have e:v=.str b:=r;subst e;exact⟨rfl,rfl⟩
 | _=>cases f
theorem h8 {K:W.Frag}{θ:List Addr}{H:Hp}:∀{ds:List D} {vs:List V},a7 K θ H ds vs→ds.all cL=true→vs=ds.map yH∧vs.all eA=true
 | [],vs,r,f=>by have e:vs=[]:=r;subst e;exact⟨rfl,rfl⟩
 | d::ds,vs,r,f=>by
  obtain⟨v,rr,e,h1,h2⟩:=r;subst e;rw[all_cons,Bool.and_eq_true] at f;obtain⟨e1,f1⟩:=jq h1 f.1;obtain⟨e2,f2⟩:=h8 h2 f.2;exact⟨by rw[map_cons,←e1,←e2],by rw[all_cons,f1,f2];rfl⟩
theorem nZ {x y:D}(fx:cL x=true)(fy:cL y=true):qG (yH x) (yH y)=kq x y:=by
 cases x <;> first|exact ff fx|(cases y <;> first|exact ff fy|rfl)
theorem oz {x:D}:∀{ds:List D},cL x=true→ds.all cL=true→Hu (yH x) (ds.map yH)=ds.any fun y=>kq y x
 | [],fx,fs=>rfl
 | d::ds,fx,fs=>by
  rw[all_cons,Bool.and_eq_true] at fs;have ih:=oz (x:=x) (ds:=ds) fx fs.2;unfold Hu at ih ⊢;rw[map_cons,any_cons,any_cons,ih,nZ fs.1 fx]
def kD (neg:Bool):F2:=fun x y M=>match bv y M with
 | some xs=>if cL x&&xs.all cL then .ok (.bl ((xs.any fun y=>kq y x) != neg)) M else .bad
 | none=>.bad
section
variable {X:Cx}
theorem Hi:dM X (compareOp .In) (rD X (kD false)):=by
 intro af s σ H x y v u Q I rx ry h;obtain⟨θ,M,dx,dy,hw,r1,r2,h⟩:=h;unfold kD at h;split at h
 ·rename_i xs q;split at h
  ·rename_i hc;rw[Bool.and_eq_true] at hc;obtain⟨a,vs,ea,sq,ra⟩:=iM hw r2 q;obtain⟨e1,f1⟩:=jq r1 hc.1;obtain⟨e2,f2⟩:=h8 ra hc.2;refine vk af s σ H x y v u Q I rx ry ⟨a,vs,ea,sq,f1,f2,?_⟩;have:=h _ θ H (.refl hw) rfl;rw[Bool.bne_false] at this;rw[if_neg (by decide),e1,e2,oz hc.1 hc.2];exact this
  ·exact h.elim
 ·exact h.elim
theorem xj:dM X (compareOp .NotIn) (rD X (kD true)):=by
 intro af s σ H x y v u Q I rx ry h;obtain⟨θ,M,dx,dy,hw,r1,r2,h⟩:=h;unfold kD at h;split at h
 ·rename_i xs q;split at h
  ·rename_i hc;rw[Bool.and_eq_true] at hc;obtain⟨a,vs,ea,sq,ra⟩:=iM hw r2 q;obtain⟨e1,f1⟩:=jq r1 hc.1;obtain⟨e2,f2⟩:=h8 ra hc.2;refine nC af s σ H x y v u Q I rx ry ⟨a,vs,ea,sq,f1,f2,?_⟩;have:=h _ θ H (.refl hw) rfl;rw[Bool.bne_true] at this;rw[if_pos rfl,e1,e2,oz hc.1 hc.2];exact this
  ·exact h.elim
 ·exact h.elim
end
section
variable {X:Cx}
def uh (k:Nat)(x:D)(M:av):aN D:=match M[k]? with
 | some (.lst xs)=>if xs.length<sizeLine then .ok .non (M.set k (.lst (xs++[x]))) else .bad
 | _=>.bad
def iF (go ge:GE):GE:=fun ρ M=>(go ρ M).bind fun o M1=>match o with
 | .mr k=>match M1[k]? with
  | some (.lst _)=>(ge ρ M1).bind (uh k)
  | _=>.bad
 | _=>.bad
theorem uu {o e:Expr}{go ge:GE}{apos cpos:Pos}(ho:PE X o (tE X go))(he:PE X e (tE X ge))
  (hbase:attributeBase o "append" X.env (eval o X.env)=eval o X.env:=by rfl)
  (hfew:((backTo cpos (starEach [e] X.env)).all (fun x=>!x.1)&&(backToKw cpos (keywordEach [] X.env)).all (fun x=>x.1.isSome)
   && decide ([e].length+([]:List Keyword).length+(if([]:List Keyword).isEmpty then 0 else 1)<30))=true:=by rfl)
  (hline:(apos.endLine==cpos.line)=true:=by rfl) (hs:starEach [e] X.env=(false,eval e X.env)::starEach [] X.env:=by rfl) (hplain:(backTo cpos (starEach [] X.env)).any (·.1)=false:=by rfl) :
  PE X (.Call (.Attribute o "append" apos) [e] [] cpos) (tE X (iF go ge)):=
 (iD PySem.F.plainAttrs_list PySem.F.slot_list_append PySem.F.type_list_append uQ ho (b9 he dX hs) hbase hfew hline hs hplain).of fun σ H Q hxx=>by
  obtain⟨ρ,θ,M,hd,hw,h⟩:=hxx;refine bG hd hw (aF X θ H Q) (fun c M' h=>h) (fun h=>h) h fun d M1 v θ1 H1 g1 r1 h1=>?_
  have h2:=aF.go g1 h1;cases d with
  | mr k=>
   have h2:aF X θ1 H1 Q (match M1[k]? with|some (.lst _)=>(ge ρ M1).bind (uh k)|_=>.bad):=h2;cases qm1:M1[k]? with
   | none=>rw[qm1] at h2;exact h2.elim
   | some m1=>
    cases m1 with
    | obj _ _=>rw[qm1] at h2;exact h2.elim
    | dK _=>rw[qm1] at h2;exact h2.elim
    | dT _=>rw[qm1] at h2;exact h2.elim
    | lst ys1=>
     rw[qm1] at h2;obtain⟨a1,ea1,ta1⟩:=id r1;obtain⟨vs1,hv1,_⟩:=g1.wr.at_ k a1 _ ta1 qm1;refine⟨by rw[ea1];exact .inl ⟨rfl,vs1,.inl (.inl hv1)⟩,?_⟩;refine bG (hd.go g1) g1.wr (aF X θ1 H1 Q) (fun c M' h=>h) (fun h=>h) h2 fun dx M2 vx θ2 H2 g2 r2 h3=>?_
     have h3:aF X θ1 H1 Q (match M2[k]? with|some (.lst xs)=>if xs.length<sizeLine then .ok .non (M2.set k (.lst (xs++[dx]))) else .bad|_=>.bad):=h3;obtain⟨a,ea,ta⟩:=r1.go g2;cases qm:M2[k]? with
     | none=>rw[qm] at h3;exact h3.elim
     | some m=>
      cases m with
      | obj _ _=>rw[qm] at h3;exact h3.elim
      | dK _=>rw[qm] at h3;exact h3.elim
      | dT _=>rw[qm] at h3;exact h3.elim
      | lst ys=>
       rw[qm] at h3;obtain⟨vs,hv,ra⟩:=g2.wr.at_ k a _ ta qm;have h3:aF X θ1 H1 Q (if ys.length<sizeLine then .ok .non (M2.set k (.lst (ys++[dx]))) else .bad):=h3;split at h3
       ·rename_i hl;have gs:=jZ (ds:=ys) g2.wr ta (bD ra (show a7 X.K θ2 H2 [dx] [vx] from⟨vx,[],rfl,r2,rfl⟩));exact⟨a,vs,vx,ea,rfl,hv,by rw[←aq ra];exact hl,h3 _ θ2 _ (g2.trans gs) rfl⟩
       ·exact h3.elim
  | _=>exact h2.elim
end
def br (f:D→Option D):List D→Option (List D)
 | []=>some []
 | d::ds=>match f d,br f ds with
  | some x,some xs=>some (x::xs)
  | _,_=>none
def frz (n:Nat)(M:av):Nat→D→Option D
 | 0,_=>none
 | f+1,d=>match d with
  | .mr k=>if k<n then some (.mr k) else match M[k]? with
   | some (.lst xs)=>(br (frz n M f) xs).map .lst
   | _=>none
  | .tup xs=>(br (frz n M f) xs).map .tup
  | .lst xs=>(br (frz n M f) xs).map .lst
  | .ro xs=>(br (frz n M f) xs).map .ro
  | d=>some d
def p7 (f:D→Option D):List (Str×D)→Option (List (Str×D))
 | []=>some []
 | (x,d)::r=>match f d,p7 f r with
  | some e,some r'=>some ((x,e)::r')
  | _,_=>none
def mH {κ:Type}(f:D→Option D):List (κ×D)→Option (List (κ×D))
 | []=>some []
 | (x,d)::r=>match f d,mH f r with
  | some e,some r'=>some ((x,e)::r')
  | _,_=>none
def eO (n:Nat)(M:av):List MO→Option (List MO)
 | []=>some []
 | .lst xs::r=>match br (frz n M 30) xs,eO n M r with
  | some ys,some r'=>some (.lst ys::r')
  | _,_=>none
 | .obj c fs::r=>match p7 (frz n M 30) fs,eO n M r with
  | some gs,some r'=>some (.obj c gs::r')
  | _,_=>none
 | .dK fs::r=>match mH (frz n M 30) fs,eO n M r with
  | some gs,some r'=>some (.dK gs::r')
  | _,_=>none
 | .dT fs::r=>match mH (frz n M 30) fs,eO n M r with
  | some gs,some r'=>some (.dT gs::r')
  | _,_=>none
def dJ (n:Nat)(o:aN D):aN D:=match o with
 | .ok d M=>if M.length=n then .ok d M else match frz n M 30 d,eO n M (M.take n) with
  | some d',some M'=>.ok d' M'
  | _,_=>.bad
 | .err c M=>if M.length=n then .err c M else match eO n M (M.take n) with
  | some M'=>.err c M'
  | none=>.bad
 | .bad=>.bad
section
variable {K:W.Frag}{θ more:List Addr}{H:Hp}{M:av}{n:Nat}
theorem eQ {f:D→Option D}{θ':List Addr}:∀{ds es:List D} {vs:List V},br f ds=some es→a7 K θ' H ds vs→(∀d∈ds,∀e v,f d=some e→cD K θ' H d v→cD K θ H e v)→a7 K θ H es vs
 | [],es,vs,h,r,k=>by cases h;exact r
 | d::ds,es,vs,h,r,k=>by
  obtain⟨v,rr,e,h1,h2⟩:=r;unfold br at h;cases q1:f d with
  | none=>rw[q1] at h;cases h
  | some x=>
   cases q2:br f ds with
   | none=>rw[q1,q2] at h;cases h
   | some xs=>
    rw[q1,q2] at h;cases h;exact⟨v,rr,e,k d mem_cons_self x v q1 h1,eQ q2 h2 fun d' hd=>k d' (mem_cons_of_mem _ hd)⟩
theorem kb (hw:Wr K (θ++more) H M)(hn:θ.length=n):∀(f:Nat) (d e:D) (v:V),frz n M f d=some e→cD K (θ++more) H d v→cD K θ H e v
 | 0,d,e,v,h,r=>by cases h
 | f+1,d,e,v,h,r=>by
  have ih:=kb hw hn f;have sub:∀{a:Addr},a∉θ++more→a∉θ:=fun {a} z y=>z (mem_append_left _ y)
  cases d with
  | mr k=>
   obtain⟨a,ea,ta⟩:=r
   by_cases hk:k<n
   ·have h:(if k<n then some (D.mr k) else _)=some e:=h;rw[if_pos hk] at h;cases h;exact⟨a,ea,by rw[getElem?_append_left (by rw[hn];exact hk)] at ta;exact ta⟩
   ·have h:(if k<n then some (D.mr k) else match M[k]? with|some (.lst xs)=>(br (frz n M f) xs).map .lst|_=>none)=some e:=h;rw[if_neg hk] at h;cases qm:M[k]? with
    | none=>rw[qm] at h;cases h
    | some m=>
     cases m with
     | lst xs=>
      rw[qm] at h;have h:(br (frz n M f) xs).map D.lst=some e:=h;obtain⟨vs,hv,ra⟩:=hw.at_ k a _ ta qm;cases qo:br (frz n M f) xs with
      | none=>rw[qo] at h;cases h
      | some ys=>
       rw[qo] at h;cases h;refine⟨a,vs,ea,⟨hv,fun z=>?_⟩,eQ qo ra fun d _ e v=>ih d e v⟩;rw[getElem?_append_right (by omega)] at ta;have hm:=mem_of_getElem? ta;exact(nodup_append.mp hw.nd).2.2 a z a hm rfl
     | _=>rw[qm] at h;cases h
  | tup xs=>
   have h:(br (frz n M f) xs).map D.tup=some e:=h;cases qo:br (frz n M f) xs with
   | none=>rw[qo] at h;cases h
   | some ys=>
    rw[qo] at h;cases h;obtain⟨a,vs,ea,ta,ra⟩:=r;exact⟨a,vs,ea,⟨ta.1,sub ta.2⟩,eQ qo ra fun d _ e v=>ih d e v⟩
  | lst xs=>
   have h:(br (frz n M f) xs).map D.lst=some e:=h;cases qo:br (frz n M f) xs with
   | none=>rw[qo] at h;cases h
   | some ys=>
    rw[qo] at h;cases h;obtain⟨a,vs,ea,ta,ra⟩:=r;exact⟨a,vs,ea,⟨ta.1,sub ta.2⟩,eQ qo ra fun d _ e v=>ih d e v⟩
  | ro xs=>
   have h:(br (frz n M f) xs).map D.ro=some e:=h;cases qo:br (frz n M f) xs with
   | none=>rw[qo] at h;cases h
   | some ys=>
    rw[qo] at h;cases h;obtain⟨a,vs,ea,ta,ra⟩:=r;refine⟨a,vs,ea,?_,eQ qo ra fun d _ e v=>ih d e v⟩;rcases ta with⟨t1,t2⟩|t
    ·exact .inl ⟨t1,sub t2⟩
    ·exact .inr t
  | non=>cases h;exact r
  | bl b=>cases h;exact r
  | int b=>cases h;exact r
  | str b=>cases h;exact r
  | exc c=>
   cases h;obtain⟨a,C,ea,kc,t1,t2⟩:=r;exact⟨a,C,ea,kc,t1,sub t2⟩
  | any=>cases h;exact r
theorem tP {f:D→Option D}{θ':List Addr}:∀{fs gs:List (Str×D)} {vs:List (Str×V)},p7 f fs=some gs→vc K θ' H fs vs→(∀d e v,f d=some e→cD K θ' H d v→cD K θ H e v)→vc K θ H gs vs
 | [],gs,vs,h,r,k=>by cases h;exact r
 | (x,d)::fs,gs,vs,h,r,k=>by
  obtain⟨v,rr,e,h1,h2⟩:=r;unfold p7 at h;cases q1:f d with
  | none=>rw[q1] at h;cases h
  | some y=>
   cases q2:p7 f fs with
   | none=>rw[q1,q2] at h;cases h
   | some ys=>
    rw[q1,q2] at h;cases h;exact⟨v,rr,e,k d y v q1 h1,tP q2 h2 k⟩
theorem nG {κ:Type}{f:D→Option D}{θ':List Addr}:∀{fs gs:List (κ×D)} {vs:List (κ×V)},mH f fs=some gs→qR K θ' H fs vs→(∀d e v,f d=some e→cD K θ' H d v→cD K θ H e v)→qR K θ H gs vs
 | [],gs,vs,h,r,k=>by cases h;exact r
 | (x,d)::fs,gs,vs,h,r,k=>by
  obtain⟨v,rr,e,h1,h2⟩:=r;unfold mH at h;cases q1:f d with
  | none=>rw[q1] at h;cases h
  | some y=>
   cases q2:mH f fs with
   | none=>rw[q1,q2] at h;cases h
   | some ys=>
    rw[q1,q2] at h;cases h;exact⟨v,rr,e,k d y v q1 h1,nG q2 h2 k⟩
theorem jD (hw:Wr K (θ++more) H M)(hn:θ.length=n):∀(l l':List MO),eO n M l=some l'→l'.length=l.length∧∀(i:Nat) m m' a,l[i]?=some m→l'[i]?=some m'→mE K (θ++more) H m a→mE K θ H m' a
 | [],l',h=>by cases h;exact⟨rfl,fun i m m' a e=>by simp at e⟩
 | .lst xs::r,l',h=>by
  unfold eO at h;cases q1:br (frz n M 30) xs with
  | none=>rw[q1] at h;cases h
  | some ys=>
   cases q2:eO n M r with
   | none=>rw[q1,q2] at h;cases h
   | some r'=>
    rw[q1,q2] at h;cases h;obtain⟨hl,hr⟩:=jD hw hn r r' q2;refine⟨by rw[length_cons,length_cons,hl],fun i m m' a e1 e2 ok=>?_⟩;cases i with
    | zero=>
     have e1:some (MO.lst xs)=some m:=e1;have e2:some (MO.lst ys)=some m':=e2;cases e1;cases e2;obtain⟨vs,hv,ra⟩:=ok;exact⟨vs,hv,eQ q1 ra fun d _ e v=>kb hw hn 30 d e v⟩
    | succ i=>exact hr i m m' a e1 e2 ok
 | .obj c fs::r,l',h=>by
  unfold eO at h;cases q1:p7 (frz n M 30) fs with
  | none=>rw[q1] at h;cases h
  | some gs=>
   cases q2:eO n M r with
   | none=>rw[q1,q2] at h;cases h
   | some r'=>
    rw[q1,q2] at h;cases h;obtain⟨hl,hr⟩:=jD hw hn r r' q2;refine⟨by rw[length_cons,length_cons,hl],fun i m m' a e1 e2 ok=>?_⟩;cases i with
    | zero=>
     have e1:some (MO.obj c fs)=some m:=e1;have e2:some (MO.obj c gs)=some m':=e2;cases e1;cases e2;obtain⟨C,dx,vs,kC,hv,ra⟩:=ok;exact⟨C,dx,vs,kC,hv,tP q1 ra fun d e v=>kb hw hn 30 d e v⟩
    | succ i=>exact hr i m m' a e1 e2 ok
 | .dK fs::r,l',h=>by
  unfold eO at h;cases q1:mH (frz n M 30) fs with
  | none=>rw[q1] at h;cases h
  | some gs=>
   cases q2:eO n M r with
   | none=>rw[q1,q2] at h;cases h
   | some r'=>
    rw[q1,q2] at h;cases h;obtain⟨hl,hr⟩:=jD hw hn r r' q2;refine⟨by rw[length_cons,length_cons,hl],fun i m m' a e1 e2 ok=>?_⟩;cases i with
    | zero=>
     have e1:some (MO.dK fs)=some m:=e1;have e2:some (MO.dK gs)=some m':=e2;cases e1;cases e2;obtain⟨vs,hv,ra⟩:=ok;exact⟨vs,hv,nG q1 ra fun d e v=>kb hw hn 30 d e v⟩
    | succ i=>exact hr i m m' a e1 e2 ok
 | .dT fs::r,l',h=>by
  unfold eO at h;cases q1:mH (frz n M 30) fs with
  | none=>rw[q1] at h;cases h
  | some gs=>
   cases q2:eO n M r with
   | none=>rw[q1,q2] at h;cases h
   | some r'=>
    rw[q1,q2] at h;cases h;obtain⟨hl,hr⟩:=jD hw hn r r' q2;refine⟨by rw[length_cons,length_cons,hl],fun i m m' a e1 e2 ok=>?_⟩;cases i with
    | zero=>
     have e1:some (MO.dT fs)=some m:=e1;have e2:some (MO.dT gs)=some m':=e2;cases e1;cases e2;obtain⟨vs,hv,ra⟩:=ok;exact⟨vs,hv,nG q1 ra fun d e v=>kb hw hn 30 d e v⟩
    | succ i=>exact hr i m m' a e1 e2 ok
theorem yt {θ0:List Addr}{H0:Hp}{θ':List Addr}{H':Hp}{M' M2:av}{n:Nat}(hn:θ0.length=n)(g:Go K θ0 H0 θ' H' M')(h:eO n M' (M'.take n)=some M2):Go K θ0 H0 θ0 H' M2:=by
 obtain⟨m,em,hm⟩:=g.ext;have hw:=g.wr;rw[em] at hw;obtain⟨hl,hr⟩:=jD hw hn _ _ h;have hlen:n≤M'.length:=by rw[←g.wr.len,em,length_append];omega
 refine⟨⟨⟨[],by simp,fun _ z=>by cases z⟩,g.keep,g.tkeep⟩,by rw[hl,length_take];omega,(nodup_append.mp hw.nd).1,fun i a mo e1 e2=>?_,g.wr.tb⟩;have hi:i<n:=by rw[←hn];exact(List.getElem?_eq_some_iff.mp e1).1
 have hiM:i<M'.length:=by omega
 refine hr i M'[i] mo a (by rw[getElem?_take_of_lt hi];exact getElem?_eq_getElem hiM) e2 (hw.at_ i a _ ?_ (getElem?_eq_getElem hiM));rw[getElem?_append_left (by rw[hn];exact hi)];exact e1
end
theorem DK {P:Program}{w:World}{K:W.Frag}{mg:Str→Option Value}{base:Heap}{k n:Nat}{f:Addr}{fd:FuncData}{ps:List Str}{F:FD}{CX:vI}(h:fU P w K mg base CX k f fd ps (sh K n F)) :
  fU P w K mg base CX k f fd ps (sh K n fun ds M=>dJ M.length (F ds M)):=h.imp fun vs H Q E hxx=>by
 obtain⟨θ,M,ds,hl,r,hw,q⟩:=hxx;refine⟨θ,M,ds,hl,r,hw,?_⟩;have q:wL K θ H Q E (dJ M.length (F ds M)):=q;cases e:F ds M with
 | bad=>rw[e] at q;exact q
 | err c M1=>
  rw[e] at q;have q:wL K θ H Q E (if M1.length=M.length then .err c M1 else match eO M.length M1 (M1.take M.length) with|some M'=>.err c M'|none=>.bad):=q;split at q
  ·exact q
  ·split at q
   ·rename_i M2 e2;exact fun C θ' H' a kC g=>q C θ H' a kC (yt hw.len g e2)
   ·exact q.elim
 | ok d M1=>
  rw[e] at q;have q:wL K θ H Q E (if M1.length=M.length then .ok d M1 else match frz M.length M1 30 d,eO M.length M1 (M1.take M.length) with|some d',some M'=>.ok d' M'|_,_=>.bad):=q;split at q
  ·exact q
  ·split at q
   ·rename_i d' M2 e1 e2;intro v θ' H' g rd;refine q v θ H' (yt hw.len g e2) ?_;obtain⟨m,em,_⟩:=g.ext;have hw':=g.wr;rw[em] at hw' rd;exact kb hw' hw.len 30 d d' v e1 rd
   ·exact q.elim
structure Fn (K:W.Frag)(mg:Str→Option Value)(x:Str)(st:Stmt)(f:Addr)(fd:FuncData)(ps:List Str):Prop where
 F:CK K x x st f fd
 m:mg x=some (.ref f)
 b:ib K fd ps []
section
variable {X:Cx}
theorem vv (i:Nat){x:Str}{pos:Pos}(hN:X.N[i]?=some x:=by rfl)(hv:B0 X.env.scope x:=by first|exact Or.inl rfl|exact Or.inr (Or.inl rfl)|exact Or.inr (Or.inr rfl))(hd:(x==("__debug__":Str))=false:=by decide)
  (hcd:(x==("__classdict__":Str))=false:=by decide):PE X (.Name x pos) (tE X (ae i)):=EB (wO hN hv hd hcd)
theorem ss (i:Nat){x:Str}{pos pos':Pos}{e:Expr}{g:GE}(hN:X.N.Nodup)(he:PE X e (tE X g))(hi:X.N[i]?=some x:=by rfl)(hx:qH X.env.scope x:=by first|exact Or.inl rfl|exact Or.inr rfl)
  (hs:swapsWith e (some (.Name x pos')) pos.line X.env=pure false:=by rfl) (hf:X.fn x=true∨X.env.scope.names.lookup x=some .local:=by first|exact .inl rfl|exact .inr rfl) :
  PS X (.Assign [.Name x pos'] e pos) (tS X (au i g)):=Ci hN hi hx he hs hf
theorem gg (i:Nat){x:Str}{pos:Pos}(hN:X.N.Nodup)(hi:X.N[i]?=some x:=by rfl)(hx:qH X.env.scope x:=by first|exact Or.inl rfl|exact Or.inr rfl)(hf:X.fn x=true∨X.env.scope.names.lookup x=some .local:=by first|exact .inl rfl|exact .inr rfl):PG X (.Name x pos) (tG X (cT i)):=ol hN hi hx hf
end
theorem C3 {K:W.Frag}{F:FD}{H:Hp}{a:Addr}{ns:List Int}(tb:jJ K H)(hS:jP K H a (ns.map V.int))(h:∃M',F [.ro (ns.map D.int)] []=.ok (.bl true) M'){E:XK}:sh K 1 F [.ref a] H (fun v _=>v=.bl true) E:=by
 obtain⟨M',e⟩:=h;refine⟨[],[],[.ro (ns.map D.int)],rfl,⟨_,[],rfl,⟨a,ns.map V.int,rfl,?_,?_⟩,rfl⟩,⟨rfl,nodup_nil,fun i a m e=>by simp at e,tb⟩,?_⟩
 ·rcases hS with h|h
  ·exact .inl ⟨h,by simp⟩
  ·exact .inr h
 ·clear e
  induction ns with
  | nil=>exact rfl
  | cons n ns ih=>
   refine⟨.int n,ns.map V.int,rfl,rfl,?_⟩;have gen:∀l:List Int,a7 K [] H (l.map D.int) (l.map V.int):=by
    intro l
    induction l with
    | nil=>exact rfl
    | cons m l ih=>exact⟨_,_,rfl,rfl,ih⟩
   exact gen ns
 ·rw[e];exact fun v θ' H' g r=>r
def bI (t:GT)(b:GS):Nat→bc→av→aN Fl
 | 0,_,_=>.bad
 | n+1,ρ,M=>(t ρ M).bind fun c M1=>if c then(b ρ M1).bind fun f M2=>match f with
   | .nx ρ2=>bI t b n ρ2 M2
   | .ct ρ2=>bI t b n ρ2 M2
   | .bk ρ2=>.ok (.nx ρ2) M2
   | .rt d=>.ok (.rt d) M2
  else .ok (.nx ρ) M1
def fh (n:Nat)(t:GT)(b:GS):GS:=bI t b n
theorem wY {X:Cx}{c:Expr}{body:List Stmt}{tc:GT}{gb:GS}{pos:Pos}{n:Nat}(hp:PassesOwn (model X.prog X.w) X.A X.env X.xe)(hc:PT X c (tT X tc))(hb:PSs X body (tS X gb)):PS X (.While c body [] pos) (tS X (fh n tc gb)):=
 (ya hp hc hb).of fun D σ H hxx=>by
  obtain⟨ρ,θ,M,hd,hw,h⟩:=hxx;refine⟨fun m σ' H'=>∃ρ' θ' M',fZ X.K θ' H' σ' ρ'∧Wr X.K θ' H' M'∧bK X θ' H' D (bI tc gb m ρ' M'),⟨n,ρ,θ,M,hd,hw,h⟩,?_⟩;rintro m σ' H' ⟨ρ',θ',M',hd',hw',h'⟩;cases m with
  | zero=>exact h'.elim
  | succ m=>
   have h':bK X θ' H' D ((tc ρ' M').bind _):=h';refine p6 hd' hw' (bK X θ' H' D) (fun c M' h=>h) (fun h=>h) h' fun c M1 θ1 H1 g1 h1=>?_
   cases c with
   | false=>
    rw[if_neg Bool.false_ne_true];exact h1 σ' θ1 H1 g1 (hd'.go g1)
   | true=>
    rw[if_pos rfl];refine⟨fun σ2 H2=>∃ρ2 θ2 M2,fZ X.K θ2 H2 σ2 ρ2∧Wr X.K θ2 H2 M2∧bK X θ2 H2 D (bI tc gb m ρ2 M2),fun σ2 H2 q=>⟨m,Nat.lt_succ_self _,q⟩,ρ',θ1,M1,hd'.go g1,g1.wr,?_⟩;have h2:=bK.go g1 h1;have h2:bK X θ1 H1 D ((gb ρ' M1).bind _):=h2;cases q:gb ρ' M1 with
    | bad=>rw[q] at h2;exact h2
    | err c M2=>rw[q] at h2;exact h2
    | ok f M2=>
     rw[q] at h2;cases f with
     | nx ρ2=>exact fun σ2 θ2 H2 g2 d2=>⟨ρ2,θ2,M2,d2,g2.wr,bK.go g2 h2⟩
     | ct ρ2=>exact fun σ2 θ2 H2 g2 d2=>⟨ρ2,θ2,M2,d2,g2.wr,bK.go g2 h2⟩
     | bk ρ2=>exact h2
     | rt d=>exact h2
def aC:Expr→Bool
 | .Starred _ _=>false
 | _=>true
def dA (es:List Expr):Bool:=es.all aC
theorem sE {e:Expr}{es:List Expr}{env:Env}(h:aC e=true):starEach (e::es) env=(false,eval e env)::starEach es env:=by
 cases e <;> first|rfl|(simp[aC] at h)
theorem sS {pos:Pos}{env:Env}:∀{es:List Expr},dA es=true→(backTo pos (starEach es env)).any (·.1)=false
 | [],_=>rfl
 | e::es,h=>by
  unfold dA at h;rw[all_cons,Bool.and_eq_true] at h;have ih:=sS (pos:=pos) (env:=env) (es:=es) h.2;rw[sE h.1];unfold backTo at ih ⊢;rw[map_cons,any_cons,ih];rfl
section
variable {X:Cx}{e:Expr}{es:List Expr}{x:Str}{p pos:Pos}{k n:Nat}{f:Addr}{fd:FuncData}{ps:List Str}{F:FD}{ga:GA}{g:GE}{tg:Expr}
theorem HH {gr:GA}(ha:PE X e (tE X g))(hr:PA X es (tA X gr))(h:aC e=true:=by rfl):PA X (e::es) (tA X (aa g gr)):=Ab ha hr (sE h)
theorem Gj (Fn:fU X.prog X.w X.K X.mg X.base (kr X.prog X.w) k f fd ps (sh X.K n F))(hr:cB k X.A)(hg:Gl X x)(hm:X.mg x=some (.ref f))(hk:W.keepIn X.K (.ref f)=true)(hb:ib X.K fd ps [])
  (ha:PA X (e::es) (tA X ga)) (hdb:(x==("__debug__":Str))=false:=by decide) (h1:aC e=true:=by rfl) (h2:dA es=true:=by rfl) :
  PE X (.Call (.Name x p) (e::es) [] pos) (tE X (ar n F ga)):=AJ Fn hr hg hm hk hb ha hdb (sE h1) (sS h2)
theorem Fp {id:String}(hc:cx X (.builtin id) (rC X F))(hg:Gl X x)(hm:X.mg x=none)(hv:bootBuiltins x=some (.builtin id))(ha:PA X (e::es) (tA X ga))(hn:x≠"__name__":=by decide)(hdb:(x==("__debug__":Str))=false:=by decide)
  (h1:aC e=true:=by rfl) (h2:dA es=true:=by rfl):PE X (.Call (.Name x p) (e::es) [] pos) (tE X (az F ga)):=xT hc hg hm hv ha hn hdb (sE h1) (sS h2)
theorem He {T:String}(hc:cx X (.type T) (rC X F))(hg:Gl X x)(hm:X.mg x=none)(hv:bootBuiltins x=some (.type T))(ha:PA X (e::es) (tA X ga))(hn:x≠"__name__":=by decide)(hdb:(x==("__debug__":Str))=false:=by decide)
  (h1:aC e=true:=by rfl) (h2:dA es=true:=by rfl):PE X (.Call (.Name x p) (e::es) [] pos) (tE X (az F ga)):=um hc hg hm hv ha hn hdb (sE h1) (sS h2)
theorem EZ {T:String}{p2:Pos}(hT:jw T)(hv:bootBuiltins x=some (.type T))(hg:Gl X x)(hm:X.mg x=none)(hgi:Gl X "isinstance")(hmi:X.mg "isinstance"=none)(he:PE X e (tE X g))
  (h1:aC e=true:=by rfl) (hn:x≠"__name__":=by decide) (hd:(x==("__debug__":Str))=false:=by decide):PE X (.Call (.Name "isinstance" p) [e,.Name x p2] [] pos) (tE X (kt T g)):=
 BV hT hv hg hm hgi hmi he hn hd boot_isinstance (sE h1) (sE rfl) (sS rfl)
theorem Fg {a:Expr}(hg:Gl X "range")(hm:X.mg "range"=none)(ha:PA X [a] (tA X ga))(h1:aC a=true:=by rfl):PI X tg (.Call (.Name "range" p) [a] [] pos) (tI X (bM ga)):=uf hg hm ha (sE h1)
theorem Gd {a b:Expr}(hg:Gl X "range")(hm:X.mg "range"=none)(ha:PA X [a,b] (tA X ga))(h1:aC a=true:=by rfl)(h2:aC b=true:=by rfl):PI X tg (.Call (.Name "range" p) [a,b] [] pos) (tI X (eX ga)):=uH hg hm ha (by rw[sE h1,sE h2];rfl) (sE h2)
end
end DL
namespace DL
open PySem L2
theorem AN {j:Int}(h:-(2 ^ 62)≤j∧j<2 ^ 62)(M:av):wq [.int j] M=.ok ⟨aM 0 j.toNat,none⟩ M:=by
 unfold wq;exact if_pos h
theorem yp {n:Nat}(h:n≤1000000)(M:av):wq [.int (n:Int)] M=.ok ⟨aM 0 n,none⟩ M:=by
 have:=AN (j:=(n:Int)) (by omega) M;rw[this];rfl
theorem z0 {i j:Int}(h:-(2 ^ 62)≤i∧i<2 ^ 62∧-(2 ^ 62)≤j∧j<2 ^ 62)(M:av):AZ [.int i,.int j] M=.ok ⟨aM i (j-i).toNat,none⟩ M:=by
 unfold AZ;exact if_pos h
theorem gx {ds:List D}{M:av}:mj.ok ⟨ds,none⟩ M=true:=rfl
theorem kW {ds0:List D}{ge:GE}{ρ:bc}{P:av→Prop}{Q:D→Prop}:∀(ds:List D),(∀d∈ds,∀M,P M→∃e M',P M'∧Q e∧ge (some d::ρ) M=.ok e M')→∀M,P M→
  ∃es M',P M'∧es.length=ds.length∧(∀e∈es,Q e)∧cF ⟨ds0,none⟩ bJ ge ds ρ M=.ok es M'
 | [],h,M,hM=>⟨[],M,hM,rfl,(fun e he=>by cases he),rfl⟩
 | d::ds,h,M,hM=>by
  obtain⟨e,M1,h1,q1,e1⟩:=h d List.mem_cons_self M hM;obtain⟨es,M2,h2,l2,q2,e2⟩:=kW (ds0:=ds0) ds (fun d' hd=>h d' (List.mem_cons_of_mem _ hd)) M1 h1;refine⟨e::es,M2,h2,by simp[l2],fun x hx=>?_,?_⟩
  ·rcases List.mem_cons.mp hx with z|z
   ·subst z;exact q1
   ·exact q2 x z
  ·simp[cF,gx,bJ,e1,e2]
theorem gV {ds0:List D}{ge:GE}{ρ:bc}{f:D→D}{M:av}:∀(ds:List D),(∀d∈ds,ge (some d::ρ) M=.ok (f d) M)→cF ⟨ds0,none⟩ bJ ge ds ρ M=.ok (ds.map f) M
 | [],h=>rfl
 | d::ds,h=>by
  have e1:=h d List.mem_cons_self;have e2:=gV (ds0:=ds0) ds fun d' hd=>h d' (List.mem_cons_of_mem _ hd)
  simp[cF,gx,bJ,e1,e2]
theorem nJ {ds:List D}{Q:Int→Prop}(h:∀d∈ds,∃k,d=.int k∧Q k):∃ks:List Int,ds=ks.map D.int∧∀k∈ks,Q k:=by
 induction ds with
 | nil=>exact⟨[],rfl,fun k hk=>by cases hk⟩
 | cons d ds ih=>
  obtain⟨k,e,q⟩:=h d List.mem_cons_self;obtain⟨ks,e2,q2⟩:=ih fun d' hd=>h d' (List.mem_cons_of_mem _ hd)
  refine⟨k::ks,by rw[e,e2];rfl,fun x hx=>?_⟩;rcases List.mem_cons.mp hx with z|z
  ·subst z;exact q
  ·exact q2 x z
theorem aY {n:Nat}(h:n≤1000000):n≤sizeLine:=Nat.le_trans h (by rw[sizeLine_eq];decide)
end DL
namespace DL
@[simp] theorem Jr (i j:Int):kq (.int i) (.int j)=(i==j):=rfl
@[simp] theorem Iq (i j:Bool):kq (.bl i) (.bl j)=(i==j):=rfl
@[simp] theorem Jt (i j:PySem.Str):kq (.str i) (.str j)=(i==j):=rfl
@[simp] theorem HY:kq .non .non=true:=rfl
@[simp] theorem IU (i:Int):kq (.int i) .non=false:=rfl
@[simp] theorem HN (i:Int):kq .non (.int i)=false:=rfl
@[simp] theorem HU (xs ys:List D):kq (.tup xs) (.tup ys)=fL xs ys:=rfl
@[simp] theorem Jm (xs ys:List D):kq (.lst xs) (.lst ys)=fL xs ys:=rfl
@[simp] theorem F3:fL [] []=true:=rfl
@[simp] theorem HC (y:D) (ys:List D):fL [] (y::ys)=false:=rfl
@[simp] theorem Hs (y:D) (ys:List D):fL (y::ys) []=false:=rfl
@[simp] theorem Hq (x y:D) (xs ys:List D):fL (x::xs) (y::ys)=(kq x y&&fL xs ys):=rfl
@[simp] theorem EK (n:Nat) (i:Int):cz n (.int i)=true:=by cases n <;> rfl
@[simp] theorem Gp (n:Nat) (i:Bool):cz n (.bl i)=true:=by cases n <;> rfl
@[simp] theorem EN (n:Nat):cz n .non=true:=by cases n <;> rfl
@[simp] theorem EL (n:Nat) (x:PySem.Str):cz n (.str x)=PySem.PyData.strOk x:=by cases n <;> rfl
@[simp] theorem vq (n:Nat) (xs:List D):cz (n+1) (.tup xs)=a8 n xs:=rfl
@[simp] theorem uX (n:Nat) (xs:List D):cz (n+1) (.lst xs)=a8 n xs:=rfl
@[simp] theorem Bo (xs:List D):cz 40 (.tup xs)=a8 39 xs:=vq 39 xs
@[simp] theorem Bq (xs:List D):cz 40 (.lst xs)=a8 39 xs:=uX 39 xs
@[simp] theorem De (n:Nat):a8 n []=true:=by cases n <;> rfl
@[simp] theorem Bg (n:Nat) (x:D) (xs:List D):a8 n (x::xs)=(cz n x&&a8 n xs):=by cases n <;> rfl
@[simp] theorem HG (i:Int) (M:av):now (.int i) M=.int i:=rfl
@[simp] theorem Ip (i:Bool) (M:av):now (.bl i) M=.bl i:=rfl
@[simp] theorem Hv (M:av):now .non M=.non:=rfl
@[simp] theorem Hm (x:PySem.Str) (M:av):now (.str x) M=.str x:=rfl
@[simp] theorem HA (xs:List D) (M:av):now (.tup xs) M=.tup xs:=rfl
@[simp] theorem HB (xs:List D) (M:av):now (.lst xs) M=.lst xs:=rfl
end DL
namespace DL
open PySem PySem.Spec PyProof.Rows L2 PySem.W PySem.Builtin PySem.Builtin.ObjectAttr PySem.Builtin.Getset_descriptor List
structure iO (K:Frag)(C:Addr):Prop where
 cl:(clsIn K C).isSome=true
 ca:findIn K (.ref C) "__class__"=some (some (.builtin "object.__class__"))
 sp:specialIn K (.builtin "object.__class__") "__get__"=some (some (.builtin "getset_descriptor.__get__"))
 tk:takesIn K (.builtin "object.__class__")=some true
 ob:mroIn K C (.type "object")=some true
 ga:findIn K (.ref C) "__getattribute__"=some (some (.builtin "BaseException.__getattribute__"))
 gh:findIn K (.ref C) "__getattr__"=some none
 be:mroIn K C (.type "BaseException")=some true
def As (a C:Addr)(h:Heap):Prop:=∃o,h.get? a=some o∧o.cls=.ref C
section
variable {prog:Program}{w:World}{A:Around}{E:Value→Shared→Prop}{K:Frag}{a C:Addr}{h:Heap}{g:Array GenState}{d:Drawn}{t:Nat}{os:OsState}
theorem As.type {M:Model}(I:As a C h):Looks M h (typeOf (.ref a)) (.ref C):=by
 obtain⟨o,e,c⟩:=I;exact c▸(Looks.ld e).andThen .now
theorem zP {R:Result→Shared→Prop}{tp:Value}(X:K.In h)(I:As a C h)(k:iO K C)(hq:R (.ok (.ret (.ref C))) ⟨h,g,d,t,os⟩) :
  codeAny (model prog w) A (.call (.builtin "getset_descriptor.__get__") ⟨[.builtin "object.__class__",.ref a,tp],[]⟩) R ⟨h,g,d,t,os⟩:=by
 have L0:=I.type (M:=model prog w);have L1:=looks_mroIn (M:=model prog w) X k.ob;have go:=KF.slot_gs.check (model prog w) A.in1;refine codeAny_call_builtin KF.slot_gs.plain KF.entry_gs ?_;refine go _ _ _ _ _ _ KF.type_class (KF.args_gs _ _ _) ?_;unfold Builtin.«getset_descriptor.__get__» descrGet;rw[dga_obj];refine wpAny_bind (wpAny_pure ?_);unfold descrGetter descrCheckInstance descrNameAndClass isInstance;simp only[KF.owner_class]
 repeat lk
 refine⟨Code.quiet_builtin _ (by decide +kernel),codeAny_builtin KF.entry_class ?_⟩;unfold Builtin.«object.__class__» shownTypeOf
 repeat lk
 exact hq
theorem xv (X:K.In h)(I:As a C h)(k:iO K C):Looks (model prog w) h (Builtin.ObjectAttr.find (.ref a) (.ref C) "__class__") (.bind (.builtin "getset_descriptor.__get__") (.builtin "object.__class__")):=by
 have L1:=looks_findIn (M:=model prog w) X k.ca;have L2:Looks (model prog w) h (Builtin.ObjectAttr.getOf (some (.builtin "object.__class__"))) (some (.builtin "getset_descriptor.__get__")):=looks_specialIn X k.sp;unfold Builtin.ObjectAttr.find;refine L1.andThen (L2.andThen ?_);have L3:=looks_takesIn (M:=model prog w) X k.tk;have L4:Looks (model prog w) h (Builtin.ObjectAttr.dataDescriptor? (some (.builtin "object.__class__")) (some (.builtin "getset_descriptor.__get__"))) (some (.builtin "getset_descriptor.__get__",.builtin "object.__class__")):=L3.andThen .now;exact L4.andThen (Looks.tag .now)
theorem uU {tk:Tok}{Q:PySem.Fin→Shared→Prop}(X:K.In h)(I:As a C h)(k:iO K C)(hq:Q (.done (.ret (.ref C))) ⟨h,g,d,t,os⟩) :
  wpAny (model prog w) A (Builtin.«object.__getattribute__» ⟨[.ref a,.str "__class__" tk],[]⟩) Q E ⟨h,g,d,t,os⟩:=by
 unfold Builtin.«object.__getattribute__»;refine wpAny_bind (wpAny_pure ?_);refine wpAny_bind (wpAny_pure ?_);refine wpAny_bind (I.type.at ?_);refine wpAny_bind ((xv X I k).at ?_);show wpAny (model prog w) A (Builtin.ObjectAttr.bindTo _ _ _ _) Q E _;unfold Builtin.ObjectAttr.bindTo;refine wpAny_bind (wpAny_holding (wpAny_call (zP X I k ?_)));exact wpAny_pure hq
theorem BW {tk:Tok}{Q:Value→Shared→Prop}(X:K.In h)(I:As a C h)(k:iO K C)(hq:Q (.ref C) ⟨h,g,d,t,os⟩):wpAny (model prog w) A (getAttrBy (.ref a) (.str "__class__" tk) false) Q E ⟨h,g,d,t,os⟩:=by
 have L0:=I.type (M:=model prog w);have L1:=looks_findIn (M:=model prog w) X k.ga;have L2:=looks_findIn (M:=model prog w) X k.gh;have hkind:builtinKind "BaseException.__getattribute__"=some .slot:=by decide +kernel
 have hcut:splitId "BaseException.__getattribute__"=some ("BaseException","__getattribute__"):=by decide +kernel
 have hargs:=F.args_bexc_ga (.ref a) (.str "__class__" tk);have LB:=looks_mroIn (M:=model prog w) X k.be;have chk:∀{A':Around} {E':Value→Shared→Prop} {Q':Unit→Shared→Prop},Q' () ⟨h,g,d,t,os⟩→wpAny (model prog w) A' (checkBuiltinCall "BaseException.__getattribute__" ⟨[.ref a,.str "__class__" tk],[]⟩) Q' E' ⟨h,g,d,t,os⟩:=fun hq'=>by
  simp only[checkBuiltinCall,hkind,hcut];refine wpAny_bind ?_;unfold isInstance;refine wpAny_bind (L0.at (LB.at ?_))
  repeat (first|wp_step)
  exact hq'
 have f3:=PySem.F.attr_ValueError.ga.bind (.ref a);unfold getAttrBy;refine wpAny_holding (wpAny_bind (L0.at (wpAny_bind (L1.at ?_))));show wpAny _ _ (getAttrByItsOwn _ _ _ _ _ _) _ _ _;unfold getAttrByItsOwn hookBefore;refine wpAny_bind ?_;rw[if_pos (show onTheHeap (Value.ref C)=true from rfl)];refine L2.at ?_;refine wpAny_bind (wpAny_attempt (wpAny_holding ?_));unfold callGetattribute;rw[if_neg (by simp)];unfold boundAndCalled;rw[f3];refine wpAny_bind (wpAny_pure ?_);refine wpAny_call (codeAny_call_builtin PySem.F.attr_ValueError.ga.plain F.entry_bexc_ga (chk (uU X I k ?_)));exact wpAny_pure hq
theorem vK {Q:Option Value→Shared→Prop}(X:K.In h)(I:As a C h)(k:iO K C)(hq:Q (some (.ref C)) ⟨h,g,d,t+1,os⟩):wpAny (model prog w) A (getAttr? (.ref a) "__class__") Q E ⟨h,g,d,t,os⟩:=by
 unfold getAttr? getAttrBy?;refine wpAny_bind (wpAny_mkText ?_);refine wpAny_bind (wpAny_attempt (BW X I k ?_));exact wpAny_pure hq
theorem wC (k:iO K C):KitX K (.ref a) (.ref C) (As a C) where
 ty:=fun M h _ I=>I.type
 it:=fun M h X I=>by
  have hc:=k.cl;obtain⟨cd,hc⟩:=Option.isSome_iff_exists.mp hc;unfold clsIn at hc;split at hc
  ·rename_i ho;intro A' Q' E' s' k' q;unfold isType loadHead;exact wpAny_bind (wpAny_loadPart (k' _ _ (X _ _ ho)) (wpAny_pure q))
  ·cases hc
 ne:=fun h tp dd its n sl X htp=>by
  refine Bool.eq_false_iff.mpr fun q=>?_
  obtain⟨cd,hc⟩:=Option.isSome_iff_exists.mp k.cl;have e:C=tp:=Value.ref.inj (beq_iff_eq.mp q);subst e;unfold clsIn at hc;split at hc
  ·rename_i ho;have z:=(X _ _ ho).symm.trans htp;cases z
  ·cases hc
 ca:=fun {prog w A E Q s} X I hq=>by
  obtain⟨h,g,d,t,os⟩:=s;exact vK X I k hq
end
end DL
namespace DL
open PySem PySem.Spec PyProof.Rows L2 List
abbrev FC:List Value:=[.type "ValueError",.type "Exception",.type "BaseException",.type "object"]
structure Ec (K:W.Frag)(mg:Str→Option Value)(c:Str)(C:Addr):Prop where
 at_:cQ K c C
 m:mg c=some (.ref C)
 k:iO K C
 ex:W.excIn K C FC "ValueError.__new__"=true
 ty:W.typeIn K (.ref C)=some (.type "type")
 sf:W.mroIn K C (.ref C)=some true
theorem BB {K:W.Frag}{h:Heap}{C:Addr}{bmB:List Value}{newId:String}(X:K.In h)(q:W.excIn K C bmB newId=true) :
  ∃bm N nm qn bs hdct sn sub ab col dd k0 k1 k2 k3 k5 mN,h.get? C=some (excClassObj nm qn C N bs bm hdct sn sub ab col dd k0 k1 k2 k3 k5 newId)∧h.Ns N mN∧mN "__init__"=none∧OwnTail h bmB bm:=by
 unfold W.excIn at q;split at q
 ·rename_i d1 cd s1 at1;split at q
  ·rename_i C2 rest j0 j1 j2 j3 nn j5 e1 e2;simp only[Bool.and_eq_true,beq_iff_eq,Bool.not_eq_true'] at q;obtain⟨⟨⟨⟨⟨r1,r2⟩,r3⟩,r4⟩,r5⟩,r6⟩:=q;subst r1;subst r2;cases cd with
   | mk c1 c2 c3 c4 c5 c6 c7 c8 c9 c10 c11=>
    dsimp only at e1 r3 r5 r6;subst e1;subst r3;have e3:s1=#[j0,j1,j2,j3,some (.builtin nn),j5]:=by
     cases s1 with
     | mk l=>
      have e4:l=_:=e2;rw[e4]
    subst e3;refine⟨rest,c4,c1,c5,c2,c6,c7,c8,c9,c10,d1,j0,j1,j2,j3,j5,h.nsMap c4,X _ _ at1,?_,W.nsMap_none_of_in X r5 r6,W.tail_of_in X r4⟩;exact Heap.Ns.of_isNs (W.isNs_of_in X r5)
  ·cases q
 ·cases q
def cS (c:Str)(g:GE):GS:=fun ρ M=>(g ρ M).bind fun _ M1=>.err c M1
theorem xu {X:Cx}{c:Str}{C:Addr}{e:Expr}{g:GE}{np cpos pos:Pos}(k:Ec X.K X.mg c C)(hc:X.calm=true)(hg:Gl X c)(he:PE X e (tE X g))(h1:aC e=true:=by rfl)(hd:(c==("__debug__":Str))=false:=by decide) :
  PS X (.Raise (some (.Call (.Name c np) [e] [] cpos)) none pos) (tS X (cS c g)):=by
 intro af s σ H D I h;obtain⟨ρ,θ,M,hdn,hw,h⟩:=h;obtain⟨bm,N,nm,qn,bs,hdct,sn,sub,ab,col,dd,k0,k1,k2,k3,k5,mN,hC,hN,hni,T⟩:=BB I.ok.mod.kin k.ex;have hs:starEach [e] X.env=(false,eval e X.env)::starEach [] X.env:=sE h1;have hplain:(backTo cpos (starEach [e] X.env)).any (·.1)=false:=sS (by unfold dA;simp[h1]);refine wpAny_Raise_call_subT (C:=C) (nm:=nm) (q:=qn) (N:=N) (bs:=bs) (bm:=bm) (hdct:=hdct) (sn:=sn) (sub:=sub) (ab:=ab) (col:=col) (dd:=dd) (k0:=k0) (k1:=k1) (k2:=k2) (k3:=k3) (k5:=k5)
  PySem.F.excBase_ValueError (mN:=mN) (T.hasType PySem.F.excBase_ValueError.hasBase) (I.ok.hd hc) hplain hni (kN I hg k.m ⟨rfl,?_⟩ hd)
 have hv:=b9 he dX hs cpos af s σ H (fun vs H1=>vs.length=1∧∃θ1 M1,Go X.K θ H θ1 H1 M1∧cV X θ1 H1 c M1) I (by
  refine bG hdn hw (bK X θ H D) (fun c M' h=>h) (fun h=>h) h fun d M1 v θ1 H1 g1 r1 h2=>?_
  exact⟨rfl,θ1,M1,g1,cV.go g1 h2⟩)
 rw[hs] at hv ⊢;refine Calls.evalArgs_plain (wpAny_mono hv (fun us s2 hq=>⟨rfl,?_⟩) fun _ _ y=>y);obtain⟨vs,H1,I1,rv,hl,θ1,M1,g1,ok⟩:=hq;refine⟨by show us.length≤sizeLine;rw[←rv.length,hl];exact Nat.le_trans (by decide:1≤1000000) (by rw[sizeLine_eq];decide),I1.bk _ _ hC,hN.keeps I1.bk,T.keeps I1.bk,fun h' e' hm=>?_⟩;exact ok C θ1 H1 e' _ k.at_ (.refl g1.wr) ⟨af,σ,.inl ⟨s2.heap,us,I1,hm⟩⟩
section
variable {M:Model}{A:Around}{E:Value→Shared→Prop}{K:W.Frag}{a C G:Addr}{h:Heap}{g:Array GenState}{d:Drawn}{t:Nat}{os:OsState}
theorem oA (X:K.In h)(k:(W.clsIn K G).isSome=true):W.Looks M h (isType (.ref G)) true:=by
 obtain⟨cd,hc⟩:=Option.isSome_iff_exists.mp k;unfold W.clsIn at hc;split at hc
 ·rename_i ho;intro A' Q' E' s' k' q;unfold isType loadHead;exact wpAny_bind (wpAny_loadPart (k' _ _ (X _ _ ho)) (wpAny_pure q))
 ·cases hc
theorem qh {Q:Bool→Shared→Prop}{b:Bool}(X:K.In h)(I:As a C h)(kG:iO K G)(tG:W.typeIn K (.ref G)=some (.type "type"))(hm:W.mroIn K C (.ref G)=some b)
  (hq:Q b ⟨h,g,d,t,os⟩):wpAny M A (excMatches (.ref a) (.ref G)) Q E ⟨h,g,d,t,os⟩:=by
 have L0:W.Looks M h (typeOf (.ref a)) (.ref C):=I.type;have L1:=W.looks_typeIn (M:=M) X tG;have L2:W.Looks M h (isSubtype (.type "type") (.type "tuple")) false:=W.Looks.of_pure tc_notTuple;have L3:=W.looks_mroIn (M:=M) X kG.be;have L4:=W.looks_mroIn (M:=M) X hm;have L5:W.Looks M h (isInstance (.ref G) (.type "tuple")) false:=L1.andThen L2;have L6:W.Looks M h (isType (.ref G)) true:=oA X kG.cl;unfold excMatches;refine wpAny_bind (L5.at ?_);simp only[Bool.false_eq_true,if_false];refine wpAny_bind (wpAny_pure ?_);simp only[forIn_cons,forIn_nil];unfold isExcClass;refine wpAny_bind (wpAny_bind (wpAny_bind (wpAny_bind (L6.at ?_))));simp only[if_true];refine L3.at ?_;simp only[Bool.not_true,Bool.false_eq_true,if_false];refine wpAny_pure ?_;refine wpAny_pure ?_;refine wpAny_bind (L0.at ?_);refine wpAny_bind (wpAny_bind (wpAny_bind (L4.at ?_)));cases b with
 | true=>
  simp only[if_true];exact wpAny_pure (wpAny_pure (wpAny_pure hq))
 | false=>
  simp only[Bool.false_eq_true,if_false];exact wpAny_pure (wpAny_pure (wpAny_pure hq))
end
section
variable {X:Cx}{af:List (Addr×Obj)}{σ:L2.St}{H:Hp}{s:Shared}{B:Heap}{a C:Addr}{a0:Value}
theorem uY (I:L2.Inv X af σ H s)(cov:CC X af H B)(fl:Heap.FlyingW B X.stack a (.ref C) a0 s.heap)(hn:H a=none):L2.Inv X af σ (cp H a (zR a C)) s:=by
 obtain⟨oe,vs,he,hcl,hd,_⟩:=fl.first;have hBa:B.get? a=none:=fl.2.1;have nfld:∀b o,s.heap.get? b=some o→(∀ws,o.data≠.fields ws)→b≠a:=fun b o e n z=>by
  subst z;rw[he] at e;cases e;exact n vs hd
 have nB:∀b o,B.get? b=some o→b≠a:=fun b o e z=>by rw[z,hBa] at e;cases e
 have nloc:X.env.locals≠a:=by
  obtain⟨m,⟨o,es,ep,ho,hdat,_⟩,_⟩:=I.loc;exact nfld _ o ho fun ws q=>by rw[hdat] at q;cases q
 have nold:∀b o,X.s₀.heap.get? b=some o→b∉X.ex→b≠a:=fun b o e nx=>by
  by_cases hf:b∈X.fs
  ·obtain⟨_,ob,e2,nf⟩:=I.funs.mem hf;exact nfld b ob e2 nf
  ·obtain⟨o',e'⟩:=cov.old b o e nx (kI I e hf);exact nB b o' e'
 refine⟨I.ok,I.os,I.bare,⟨I.base.keep,I.base.slot,fun b o e n nx=>?_,I.base.there,fun b xs e=>?_,fun b o u e=>?_,fun b ps e=>?_⟩,I.loc,I.cell,?_,fun x c e=>?_,fun p hp=>?_,fun b o e=>?_,I.len⟩
 ·rw[aI (nold b o e nx)];exact I.base.free b o e n nx
 ·have q:=I.base.tups b xs e;rw[aI (fun z=>by rw[z,hn] at q;cases q)];exact q
 ·have q:=I.base.frzs b o u e;rw[aI (fun z=>by rw[z,hn] at q;cases q)];exact q
 ·obtain⟨m,q⟩:=I.base.tbls b ps e;exact⟨m,by rw[aI (fun z=>by rw[z,hn] at q;cases q)];exact q⟩
 ·rw[aI nloc];exact I.free
 ·obtain⟨v,o,ho,hdat⟩:=I.cell x c e;rw[aI (nfld c o ho fun ws q=>by rw[hdat] at q;cases q)];exact I.freeC x c e
 ·obtain⟨e,n,ne,nf,d⟩:=I.pin p hp;obtain⟨o',e'⟩:=cov.pin p hp;exact⟨e,by rw[aI (nB _ _ e')];exact n,ne,nf,d⟩
 ·by_cases hb:b=a
  ·subst hb;rw[cN] at e;cases e;exact⟨⟨oe,he,hcl⟩,⟨oe,he⟩,fun h1 h2 ⟨o,e1,e2⟩ k=>⟨o,k o e1,e2⟩⟩
  ·rw[aI hb] at e;exact(I.hok b o e).stay (fun _ _ _ q=>q) (fun c q=>by rw[aI (fun z=>by rw[z,hn] at q;cases q)];exact q) fun c xs q=>by rw[aI (fun z=>by rw[z,hn] at q;cases q)];exact q
theorem io {M:Model}{A:Around}{E:Value→Shared→Prop}{i:Nat}{n:Str}{pos:Pos}{Q:Unit→Shared→Prop}(I:L2.Inv X af σ H s)(hN:X.N.Nodup)(hi:X.N[i]?=some n)(hl:X.env.kindOf n=some .local)
  (h:∀s',L2.Inv X af (σ.set i none) H s'→Q () s'):wpAny M A (do bindName X.env n .none;unbindBehindTheSuite X.env n pos) Q E s:=by
 obtain⟨m,hn,lk⟩:=I.loc;have hcls:(X.env.scope.kind==.class||(X.env.scope.kind==.module&&X.env.locals != X.env.globals))=false:=by rw[I.ok.kind];rfl
 have hiσ:i<σ.length:=by rw[I.len];exact(List.getElem?_eq_some_iff.mp hi).1
 refine wpAny_nameGoes_keeps hl hn hcls fun h' v hn' hs=>h _ ?_
 have old:∀b o,X.s₀.heap.get? b=some o→b≠X.env.locals:=fun b o e=>Nat.ne_of_lt (Nat.lt_of_lt_of_le (Heap.lt_size e) I.ok.above)
 refine⟨I.ok,I.os,I.bare,⟨fun b o e n hb hx=>(hs.2 b (old b o e)).trans (I.base.keep b o e n hb hx),fun b o e n hb hx=>?_,I.base.free,fun b o e hx=>?_,I.base.tups,I.base.frzs,I.base.tbls⟩,⟨_,hn',fun j y v' e1 e2 e3=>?_⟩,fun y c e=>?_,I.free,I.freeC,fun p hp=>?_,fun b o e=>?_,?_⟩
 ·obtain⟨sl,e1⟩:=I.base.slot b o e n hb hx;exact⟨sl,(hs.2 b (old b o e)).trans e1⟩
 ·obtain⟨o',e1⟩:=I.base.there b o e hx;exact⟨o',(hs.2 b (old b o e)).trans e1⟩
 ·by_cases hj:j=i
  ·subst hj;rw[getElem?_set_self hiσ] at e2;cases e2
  ·rw[getElem?_set_ne (Ne.symm hj)] at e2;obtain⟨u',r',q⟩:=lk j y v' e1 e2 e3;refine⟨u',r',?_⟩;rcases q with⟨k,e⟩|⟨k,c,e,z⟩
   ·have ny:y≠n:=fun e=>hj (kX hN e1 (e▸hi))
    exact .inl ⟨k,by show(if y=n then v else m y)=some u';rw[if_neg ny];exact e⟩
   ·exact .inr ⟨k,c,e,z.sameBut hs (I.cne y c e)⟩
 ·obtain⟨w',z⟩:=I.cell y c e;exact⟨w',z.sameBut hs (I.cne y c e)⟩
 ·obtain⟨e,n,ne,nf,d⟩:=I.pin p hp;exact⟨(hs.2 p.1 ne).trans e,n,ne,nf,d⟩
 ·refine(I.hok b o e).stay (fun c w' hc q=>(hs.2 c ?_).trans q) (fun _ q=>q) fun _ _ q=>q
  rintro z;have hf:=I.free;rw[←z] at hf;rcases hc with hc|hc
  ·rw[←hc,hf] at e;cases e
  ·rw[hf] at hc;cases hc
 ·rw[length_set];exact I.len
theorem rH {M:Model}{A:Around}{E:Value→Shared→Prop}{env:Env}{outer:List Env}{L:Addr}{base h:Heap}{vs:List Value}{Q:Unit→Shared→Prop}
  (hfr:A.frames=some (env::outer)) (hf:env.frame=some L) (hkb:base.StaysIn h) (hl:h.FunFrames base (env::outer)) (m:Heap.MadeExcOf h s.heap a (.ref C) vs)
  (hQ:∀h' t,Heap.HeldW base (env::outer) a (.ref C) (.ref t) L h'→s.heap.UpToSlots h'→Q () {s with heap:=h'}):wpAny M A (noteFrame (.ref a) env) Q E s:=by
 obtain⟨t,he,htn,ht⟩:=m.there;have fresh:base.get? a=none:=by
  cases hq:base.get? a with
  | none=>rfl
  | some o'=>have z:=hkb a o' hq;rw[m.new] at z;cases z
 unfold noteFrame;simp only[hf];refine wpAny_bind (wpAny_field he rfl (x:=.none) rfl ?_);rw[if_neg (by decide)];refine wpAny_entryW (a0:=.ref t) hfr (hl.of_keeps fun b o hb _=>⟨o,m.keeps b o hb,rfl⟩) hf he (fun b o hb=>m.keeps b o (hkb b o hb)) fresh rfl (by show 1<6;decide) rfl fun h' hN=>?_
 obtain⟨x1,x2,x3,x4⟩:=hN;exact hQ h' t ⟨x1,fresh,x2,x3⟩ x4
end
def u9 (i:Nat):Fl→Fl
 | .nx ρ=>.nx (ρ.set i none)
 | .bk ρ=>.bk (ρ.set i none)
 | .ct ρ=>.ct (ρ.set i none)
 | .rt d=>.rt d
def nN (i:Nat)(ok:Str→Bool)(gb gh:GS):GS:=fun ρ M=>match gb ρ M with
 | .err c M1=>if ok c then match gh ((List.replicate ρ.length none).set i (some (.exc c))) M1 with
   | .ok f M2=>.ok (u9 i f) M2
   | _=>.bad
  else .bad
 | o=>o
abbrev lA (X:Cx)(pn:List (Addr×Obj))(E:Value→Shared→Prop):Cx:={X with pn:=pn,xe:=E}
abbrev iW (X:Cx)(pn:List (Addr×Obj))(a:Addr):Cx:={X with A:=X.A.mark (some (.ref a)),calm:=false,pn:=pn,xe:=fun _ _=>False}
section
variable {X:Cx}{af pins' pn:List (Addr×Obj)}{σ:L2.St}{H:Hp}{s:Shared}{E:Value→Shared→Prop}{a:Addr}
theorem D0 (k:X.Ok):(lA X pn E).Ok:=⟨k.mod,k.kind,k.glob,k.blt,k.above,k.inj,k.has,k.cab,k.hd,k.frames,k.stk,k.exf,k.bs,k.bsz,k.noex,k.exfs,k.funs,k.frf⟩
theorem ze (k:X.Ok):(iW X pn a).Ok:=⟨k.mod,k.kind,k.glob,k.blt,k.above,k.inj,k.has,k.cab,(fun z=>by cases z),k.frames,k.stk,k.exf,k.bs,k.bsz,k.noex,k.exfs,k.funs,k.frf⟩
theorem pY (k:(lA X pn E).Ok):X.Ok:=⟨k.mod,k.kind,k.glob,k.blt,k.above,k.inj,k.has,k.cab,k.hd,k.frames,k.stk,k.exf,k.bs,k.bsz,k.noex,k.exfs,k.funs,k.frf⟩
theorem Ar (I:L2.Inv X af σ H s):L2.Inv (lA X (X.pn++af) E) [] σ H s:=⟨D0 I.ok,I.os,I.bare,I.base,I.loc,I.cell,I.free,I.freeC,fun p hp=>I.pin p (by simpa using hp),I.hok,I.len⟩
theorem ir (I:L2.Inv (lA X (X.pn++af) E) pins' σ H s):L2.Inv X af σ H s:=⟨pY I.ok,I.os,I.bare,I.base,I.loc,I.cell,I.free,I.freeC,fun p hp=>I.pin p (mem_append_left _ hp),I.hok,I.len⟩
theorem yh (I:L2.Inv (lA X pn E) pins' σ H s):L2.Inv (iW X pn a) pins' σ H s:=⟨ze (pY I.ok),I.os,I.bare,I.base,I.loc,I.cell,I.free,I.freeC,I.pin,I.hok,I.len⟩
theorem f7 (k:X.Ok)(I:L2.Inv (iW X (X.pn++af) a) pins' σ H s):L2.Inv X af σ H s:=⟨k,I.os,I.bare,I.base,I.loc,I.cell,I.free,I.freeC,fun p hp=>I.pin p (mem_append_left _ hp),I.hok,I.len⟩
end
theorem fZ.clear {K:W.Frag}{θ:List Addr}{H:Hp}{σ:L2.St}{ρ:bc}(h:fZ K θ H σ ρ)(i:Nat):fZ K θ H (σ.set i none) (ρ.set i none):=by
 refine⟨by rw[length_set,length_set];exact h.len,fun j d e=>?_⟩
 by_cases hj:j=i
 ·subst hj;have hl:j<ρ.length:=by have:=(List.getElem?_eq_some_iff.mp e).1;rw[length_set] at this;exact this
  rw[getElem?_set_self hl] at e;cases e
 ·rw[getElem?_set_ne (Ne.symm hj)] at e;obtain⟨u,e1,r1⟩:=h.at_ j d e;exact⟨u,by rw[getElem?_set_ne (Ne.symm hj)];exact e1,r1⟩
theorem yo {K:W.Frag}{θ:List Addr}{H:Hp}{σ:L2.St}{n i:Nat}{d:D}{v:V}(hl:σ.length=n)(r:cD K θ H d v):fZ K θ H (σ.set i (some v)) ((List.replicate n none).set i (some d)):=by
 refine⟨by rw[length_set,length_set,length_replicate,hl],fun j d' e=>?_⟩
 by_cases hj:j=i
 ·subst hj;have hlt:j<n:=by have:=(List.getElem?_eq_some_iff.mp e).1;rw[length_set,length_replicate] at this;exact this
  rw[getElem?_set_self (by rw[length_replicate];exact hlt)] at e;have e':d=d':=by simpa using e
  subst e';exact⟨v,getElem?_set_self (by rw[hl];exact hlt),r⟩
 ·rw[getElem?_set_ne (Ne.symm hj),getElem?_replicate] at e;split at e <;> cases e
theorem D5 {X:Cx}{G n:Str}{Ga:Addr}{i:Nat}{ok:Str→Bool}{gb gh:GS}{body suite:List Stmt}{b0:Stmt}{np hpos pos:Pos}(kG:Ec X.K X.mg G Ga)(hok:∀c C,ok c=true→cQ X.K c C→W.mroIn X.K C (.ref Ga)=some true)
  (hg:Gl X G) (hst:X.stack=X.env::X.outer) (hf:X.env.frame=some X.env.locals) (hN:X.N.Nodup) (hi:X.N[i]?=some n) (hl:X.env.kindOf n=some .local) (hfn:X.fn n=true∨X.env.scope.names.lookup n=some .local)
  (hb:∀pn E,PSs (lA X pn E) body (tS (lA X pn E) gb)) (hh:∀pn a,PSs (iW X pn a) (b0::suite) (tS (iW X pn a) gh)) (hd:(G==("__debug__":Str))=false:=by decide) :
  PS X (.Try body [.ExceptHandler (some (.Name G np)) (some n) (b0::suite) hpos] [] [] pos) (tS X (nN i ok gb gh)):=by
 intro af s σ H D I h;obtain⟨ρ,θ,M,hdn,hw,h⟩:=h;have fin:∀(f:Flow) (s1:Shared) (E:Value→Shared→Prop),SP (lA X (X.pn++af) E) [] D f s1→SP X af D f s1:=fun f s1 E q=>by
  cases f with
  | next=>obtain⟨σ',H',I',q⟩:=q;exact⟨σ',H',ir I',q⟩
  | brk=>obtain⟨σ',H',I',q⟩:=q;exact⟨σ',H',ir I',q⟩
  | cont=>obtain⟨σ',H',I',q⟩:=q;exact⟨σ',H',ir I',q⟩
  | ret u=>obtain⟨v,σ',H',I',r,q⟩:=q;exact⟨v,σ',H',ir I',r,q⟩
 refine wpAny_Try_except ?_;obtain⟨E,hE⟩:∃E:Value→Shared→Prop,E=(fun e s₁=>wpAny (model X.prog X.w) X.A (noteFrame e X.env) (fun _ s₂=>wpAny (model X.prog X.w) X.A (setFlight e none) (fun _ s₃=>wpAny (model X.prog X.w) X.A (handleBy e X.env [.ExceptHandler (some (.Name G np)) (some n) (b0::suite) hpos]) (SP X af D) X.xe s₃) X.xe s₂) X.xe s₁):=⟨_,rfl⟩;refine wpAny_mono (hb (X.pn++af) E [] s σ H D (Ar I) ⟨ρ,θ,M,hdn,hw,?_⟩) (fun f s1 q=>?_) fun e s₁ y=>by rw[hE] at y;exact y
 ·unfold nN at h;cases q:gb ρ M with
  | ok f M1=>rw[q] at h;cases f <;> exact h
  | bad=>rw[q] at h;exact h
  | err c M1=>
   rw[q] at h;have h:bK X θ H D (if ok c=true then(match gh ((List.replicate ρ.length none).set i (some (.exc c))) M1 with | .ok f M2=>.ok (u9 i f) M2|_=>.bad) else .bad):=h
   by_cases hc:ok c=true
   ·rw[if_pos hc] at h;intro C θ1 H1 a s1 kC g1 fl;obtain⟨pins',σ',fl⟩:=fl;show E (.ref a) s1;rw[hE];have land:∀(B:Heap) (a0:Value) (s5:Shared),L2.Inv (lA X (X.pn++af) E) pins' σ' H1 s5→H1 a=none→
      Heap.FlyingW B X.stack a (.ref C) a0 s5.heap→CC (iW X (X.pn++af) a) pins' H1 B→wpAny (model X.prog X.w) X.A (handleBy (.ref a) X.env [.ExceptHandler (some (.Name G np)) (some n) (b0::suite) hpos]) (SP X af D) X.xe s5:=fun B a0 s5 I5 hn fl5 cov=>by
     have J5:L2.Inv (iW X (X.pn++af) a) pins' σ' H1 s5:=yh I5;refine wpAny_handleBy_cons (codeAny_handlers_test (kN (X:=iW X (X.pn++af) a) J5 hg kG.m ?_ hd)) (by intro q;cases q);obtain⟨hp5,gg5,dd5,tt5,os5⟩:=s5;refine qh J5.kIn fl5.there kG.k kG.ty (hok c C hc kC) (codeAny_handlers_suite_as ?_);refine lands_againW fl5 fun h6 fl6 up6=>?_
     have J6:=gR J5 cov fl5.1 fl6.1 up6;have J7:=uY J6 cov fl6 hn;refine ia (X:=iW X (X.pn++af) a) J7 hN hi (.inl hl) (v:=.ref a) rfl (fun s8 J8=>?_) hfn;have g7:Go X.K θ1 H1 θ1 (cp H1 a (zR a C)) M1:=dG g1.wr hn;have ra:cD X.K θ1 (cp H1 a (zR a C)) (.exc c) (.ref a):=⟨a,C,rfl,kC,cN,g1.wr.fresh hn⟩;have hlen:σ'.length=ρ.length:=by rw[hdn.len,J7.len];exact I.len.symm
     refine wpAny_mono (hh (X.pn++af) a pins' s8 _ _ {nx:=fun σ2 H2=>D.nx (σ2.set i none) H2,bk:=fun σ2 H2=>D.bk (σ2.set i none) H2,ct:=fun σ2 H2=>D.ct (σ2.set i none) H2,rt:=D.rt} J8 ⟨_,θ1,M1,yo hlen ra,g7.wr,?_⟩) (fun f s9 q9=>?_) fun _ _ z=>z.elim
     ·cases qg:gh ((List.replicate ρ.length none).set i (some (.exc c))) M1 with
      | bad=>rw[qg] at h;exact h
      | err c2 M2=>rw[qg] at h;exact h.elim
      | ok f M2=>
       rw[qg] at h;have gg:=g1.trans g7;cases f with
       | nx ρ2=>exact fun σ2 θ2 H2 g2 d2=>h (σ2.set i none) θ2 H2 (gg.trans g2) (d2.clear i)
       | bk ρ2=>exact fun σ2 θ2 H2 g2 d2=>h (σ2.set i none) θ2 H2 (gg.trans g2) (d2.clear i)
       | ct ρ2=>exact fun σ2 θ2 H2 g2 d2=>h (σ2.set i none) θ2 H2 (gg.trans g2) (d2.clear i)
       | rt d=>exact fun v θ2 H2 g2 r2=>h v θ2 H2 (gg.trans g2) r2
     ·cases f with
      | next=>
       obtain⟨σ9,H9,I9,q9⟩:=q9;exact io (X:=iW X (X.pn++af) a) I9 hN hi hl fun s' I'=>⟨_,H9,f7 I.ok I',q9⟩
      | brk=>
       obtain⟨σ9,H9,I9,q9⟩:=q9;exact io (X:=iW X (X.pn++af) a) I9 hN hi hl fun s' I'=>⟨_,H9,f7 I.ok I',q9⟩
      | cont=>
       obtain⟨σ9,H9,I9,q9⟩:=q9;exact io (X:=iW X (X.pn++af) a) I9 hN hi hl fun s' I'=>⟨_,H9,f7 I.ok I',q9⟩
      | ret u=>
       obtain⟨v9,σ9,H9,I9,r9,q9⟩:=q9;exact io (X:=iW X (X.pn++af) a) I9 hN hi hl fun s' I'=>⟨v9,_,H9,f7 I.ok I',r9,q9⟩
    have hfrm:X.A.frames=some (X.env::X.outer):=by rw[←hst];exact I.ok.frames
    rcases fl with⟨h0,vs,I0,m⟩|⟨I0,hn,B,a0,fl,cov⟩|⟨I0,hn,B,a0,L,hL,held,cov⟩
    ·have cov:=pq I0;have hid:∀b o,(W.hideAll h0 (la X.stack)).get? b=some o→h0.get? b=some o:=fun b o q=>W.of_hideAll _ q
     have ff:h0.FunFrames (W.hideAll h0 (la X.stack)) (X.env::X.outer):=by rw[←hst];exact kh I0
     refine rH hfrm hf hid ff m fun h4 t held4 up4=>?_
     refine wpAny_landsW held4 fun h5 fl5 up5=>?_
     have I1:=I0.kept (t':=s1.toks) (h':=s1.heap) m.keeps;have I5:=gR (s:=s1) (h':=h5) I1 cov (fun b o q=>m.keeps b o (hid b o q)) fl5.1 (up4.trans up5);have fl6:=fl5;rw[←hst] at fl6;exact land _ _ _ I5 (mU I0 m) fl6 ⟨cov.trk,cov.pin,cov.old⟩
    ·have fl:Heap.FlyingW B (X.env::X.outer) a (.ref C) a0 s1.heap:=by rw[←hst];exact fl
     refine wpAny_looks_onW hfrm hf fl fun h4 held4 up4=>?_
     refine wpAny_landsW held4 fun h5 fl5 up5=>?_
     have I5:=gR (s:=s1) (h':=h5) I0 cov fl.1 fl5.1 (up4.trans up5);have fl6:=fl5;rw[←hst] at fl6;exact land B a0 _ I5 hn fl6 ⟨cov.trk,cov.pin,cov.old⟩
    ·refine wpAny_noteFrame_againW hL held.2.2.2 ?_;refine wpAny_landsW held fun h5 fl5 up5=>?_
     have I5:=gR (s:=s1) (h':=h5) I0 cov held.1 fl5.1 up5;exact land B a0 _ I5 hn fl5 ⟨cov.trk,cov.pin,cov.old⟩
   ·rw[if_neg hc] at h;exact h.elim
 ·cases f with
  | next=>exact wpAny_execs_nil (fin .next s1 _ q)
  | brk=>exact fin .brk s1 _ q
  | cont=>exact fin .cont s1 _ q
  | ret u=>exact fin (.ret u) s1 _ q
section
variable {X:Cx}
theorem lQ {x:V}:∀{xs:List V} {us:List Value},aP xs us→xs.all eA=true→us.countP (oq x)=xs.countP fun y=>qG y x
 | _,_,.nil,_=>rfl
 | y::xs,u::us,.cons r t,f=>by
  rw[all_cons,Bool.and_eq_true] at f;rw[countP_cons,countP_cons,nM r f.1,lQ t f.2]
theorem sX {x:V}:∀{xs:List V} {us:List Value},aP xs us→xs.all eA=true→us.findIdx? (oq x)=xs.findIdx? fun y=>qG y x
 | _,_,.nil,_=>rfl
 | y::xs,u::us,.cons r t,f=>by
  rw[all_cons,Bool.and_eq_true] at f;rw[findIdx?_cons,findIdx?_cons,nM r f.1,sX t f.2]
def dW (d:D)(M:av):Option (List D):=match d with
 | .lst xs=>some xs
 | .ro xs=>some xs
 | .mr k=>match M[k]? with
  | some (.lst xs)=>some xs
  | _=>none
 | _=>none
theorem n6 {K:W.Frag}{θ:List Addr}{H:Hp}{M:av}{d:D}{xs:List D}{v:V}(hw:Wr K θ H M)(r:cD K θ H d v)(e:dW d M=some xs):∃a vs,v=.ref a∧jP K H a vs∧a7 K θ H xs vs:=by
 cases d with
 | lst ys=>cases e;obtain⟨a,vs,ea,ta,ra⟩:=r;exact⟨a,vs,ea,ta.sq,ra⟩
 | ro ys=>cases e;obtain⟨a,vs,ea,ta,ra⟩:=r;exact⟨a,vs,ea,ta.sq,ra⟩
 | mr k=>
  obtain⟨a,ea,ta⟩:=r;have e:(match M[k]? with|some (.lst xs)=>some xs|_=>none)=some xs:=e;cases q:M[k]? with
  | none=>rw[q] at e;cases e
  | some m=>
   cases m with
   | lst ys=>
    rw[q] at e;cases e;obtain⟨vs,hv,ra⟩:=hw.at_ k a _ ta q;exact⟨a,vs,ea,.inl (.inl hv),ra⟩
   | _=>rw[q] at e;cases e
 | _=>cases e
def xb (K:W.Frag):V→List V→Hp→VK→Prop:=fun x vs H Q=>∃p xs y,x=.ref p∧vs=[y]∧jP K H p xs∧eA y=true∧xs.all eA=true∧Q (.int (xs.countP fun z=>qG z y)) H
theorem wz:EA X "list.count" (xb X.K):=by
 intro af s σ H x vs v us Q I rx rv h;obtain⟨p,xs,y,rfl,rfl,hq,fy,fs,q⟩:=h;cases rx;obtain⟨u,rfl,ru⟩:=rv.one;obtain⟨its,r,⟨o,n,h1,h2,h3,h4⟩,hz⟩:=I.list hq;obtain⟨c,dd,dat,sl⟩:=o;have e1:c=.type "list":=h2;have e2:dat=.seq its.toArray n:=h4;subst e1;subst e2;refine call_meets F.slot_list_count ⟨_,h1,rfl⟩ F.entry_list_count (F.args_list_count_2 _ _) (SeqAt.list_countAt p its.toArray n dd sl u (oq y)) ⟨h1,fun w hw=>eR ru fy r fs w (by simpa using hw),?_⟩;refine⟨.int (xs.countP fun z=>qG z y),H,I.tok _,⟨s.toks,?_⟩,q⟩;rw[←lQ r fs]
def xB (K:W.Frag):V→List V→Hp→VK→Prop:=fun x vs H Q=>∃p xs y j,x=.ref p∧vs=[y]∧jP K H p xs∧eA y=true∧xs.all eA=true∧(xs.findIdx? fun z=>qG z y)=some j∧Q (.int (j:Nat)) H
theorem xE:EA X "list.index" (xB X.K):=by
 intro af s σ H x vs v us Q I rx rv h;obtain⟨p,xs,y,j,rfl,rfl,hq,fy,fs,hj,q⟩:=h;cases rx;obtain⟨u,rfl,ru⟩:=rv.one;obtain⟨its,r,⟨o,n,h1,h2,h3,h4⟩,hz⟩:=I.list hq;obtain⟨c,dd,dat,sl⟩:=o;have e1:c=.type "list":=h2;have e2:dat=.seq its.toArray n:=h4;subst e1;subst e2;rw[←sX r fs] at hj;obtain⟨hlt,hhit,hno⟩:=findIdx?_eq_some_iff_getElem.mp hj;have hsz:j<its.toArray.size:=by simpa using hlt
 have hsmall:(j:Int)<2 ^ 63-1:=by
  have l1:=r.length;have l2:=g9;omega
 refine call_meets F.slot_list_index ⟨_,h1,rfl⟩ F.entry_list_index (F.args_list_index_2 _ _) (SeqAt.list_indexAt p its.toArray n dd sl u (oq y) j hsz hsmall (by simpa using hhit) (fun m hm hmj=>by have:=hno m hmj;simpa using this)) ⟨h1,fun w hw=>eR ru fy r fs w (by simpa using hw),?_⟩;exact⟨.int j,H,I.tok _,⟨s.toks,rfl⟩,q⟩
def gO (F:List D→D→av→aN D)(go ge:GE):GE:=fun ρ M=>(go ρ M).bind fun o M1=>match dW o M1 with
 | some _=>(ge ρ M1).bind fun x M2=>match dW o M2 with
  | some xs=>F xs x M2
  | none=>.bad
 | none=>.bad
def hV (xs:List D)(x:D)(M:av):aN D:=if cL x&&xs.all cL then .ok (.int (xs.countP fun y=>kq y x)) M else .bad
def hU (xs:List D)(x:D)(M:av):aN D:=if cL x&&xs.all cL then(match xs.findIdx? fun y=>kq y x with|some j=>.ok (.int (j:Nat)) M|none=>.bad) else .bad
theorem lx {x:D}:∀{ds:List D},cL x=true→ds.all cL=true→(ds.map yH).countP (fun z=>qG z (yH x))=ds.countP fun y=>kq y x
 | [],_,_=>rfl
 | d::ds,fx,f=>by
  rw[all_cons,Bool.and_eq_true] at f;rw[map_cons,countP_cons,countP_cons,lx fx f.2,nZ f.1 fx]
theorem tm {x:D}:∀{ds:List D},cL x=true→ds.all cL=true→(ds.map yH).findIdx? (fun z=>qG z (yH x))=ds.findIdx? fun y=>kq y x
 | [],_,_=>rfl
 | d::ds,fx,f=>by
  rw[all_cons,Bool.and_eq_true] at f;rw[map_cons,findIdx?_cons,findIdx?_cons,tm fx f.2,nZ f.1 fx]
section
variable {o e:Expr}{go ge:GE}{apos cpos:Pos}
theorem tw {F:List D→D→av→aN D}{rr:V→List V→Hp→VK→Prop}{σ:L2.St}{H:Hp}{Q:VK}(hs:starEach [e] X.env=(false,eval e X.env)::starEach [] X.env)
  (hF:∀θ H M o x xs v y Q,Wr X.K θ H M→cD X.K θ H o v→dW o M=some xs→cD X.K θ H x y→aF X θ H Q (F xs x M)→rr v [y] H Q) (h:tE X (gO F go ge) σ H Q):Hr X.K "list" rr (tE X go) (o9 (tE X ge) zK) σ H Q:=by
 obtain⟨ρ,θ,M,hd,hw,h⟩:=h;refine bG hd hw (aF X θ H Q) (fun c M' h=>h) (fun h=>h) h fun d M1 v θ1 H1 g1 r1 h1=>?_
 have h2:=aF.go g1 h1;cases ql:dW d M1 with
 | none=>rw[ql] at h2;exact h2.elim
 | some xs0=>
  rw[ql] at h2;obtain⟨a,vs,ea,sq,ra⟩:=n6 g1.wr r1 ql;refine⟨by rw[ea];exact .inl ⟨rfl,vs,sq⟩,?_⟩;refine bG (hd.go g1) g1.wr (aF X θ1 H1 Q) (fun c M' h=>h) (fun h=>h) h2 fun dx M2 vx θ2 H2 g2 r2 h3=>?_
  have h4:=aF.go g2 h3;cases ql2:dW d M2 with
  | none=>rw[ql2] at h4;exact h4.elim
  | some xs=>
   rw[ql2] at h4;exact hF θ2 H2 M2 d dx xs v vx Q g2.wr (r1.go g2) ql2 r2 h4
theorem x9 {θ:List Addr}{H:Hp}{M:av}{o x:D}{xs:List D}{v y:V}{Q:VK}(hw:Wr X.K θ H M)(r:cD X.K θ H o v)(el:dW o M=some xs)(ry:cD X.K θ H x y)(h:aF X θ H Q (hV xs x M)):xb X.K v [y] H Q:=by
 obtain⟨a,vs,ea,sq,ra⟩:=n6 hw r el;unfold hV at h;split at h
 ·rename_i hc;rw[Bool.and_eq_true] at hc;obtain⟨e1,f1⟩:=jq ry hc.1;obtain⟨e2,f2⟩:=h8 ra hc.2;refine⟨a,vs,y,ea,rfl,sq,f1,f2,?_⟩;rw[e1,e2,lx hc.1 hc.2];exact h _ θ H (.refl hw) rfl
 ·exact h.elim
theorem vV {θ:List Addr}{H:Hp}{M:av}{o x:D}{xs:List D}{v y:V}{Q:VK}(hw:Wr X.K θ H M)(r:cD X.K θ H o v)(el:dW o M=some xs)(ry:cD X.K θ H x y)(h:aF X θ H Q (hU xs x M)):xB X.K v [y] H Q:=by
 obtain⟨a,vs,ea,sq,ra⟩:=n6 hw r el;unfold hU at h;split at h
 ·rename_i hc;rw[Bool.and_eq_true] at hc;obtain⟨e1,f1⟩:=jq ry hc.1;obtain⟨e2,f2⟩:=h8 ra hc.2;split at h
  ·rename_i j hj;exact⟨a,vs,y,j,ea,rfl,sq,f1,f2,by rw[e1,e2,tm hc.1 hc.2];exact hj,h _ θ H (.refl hw) rfl⟩
  ·exact h.elim
 ·exact h.elim
theorem gL {env:Env}(h:aC e=true):((backTo cpos (starEach [e] env)).all (fun x=>!x.1)&&(backToKw cpos (keywordEach [] env)).all (fun x=>x.1.isSome)
   && decide ([e].length+([]:List Keyword).length+(if([]:List Keyword).isEmpty then 0 else 1)<30))=true:=by
 rw[sE h];rfl
theorem wG (ho:PE X o (tE X go))(he:PE X e (tE X ge))(h1:aC e=true:=by rfl)(hbase:attributeBase o "count" X.env (eval o X.env)=eval o X.env:=by rfl)(hline:(apos.endLine==cpos.line)=true:=by rfl) :
  PE X (.Call (.Attribute o "count" apos) [e] [] cpos) (tE X (gO hV go ge)):=
 (iD PySem.F.plainAttrs_list PySem.F.slot_list_count PySem.F.type_list_count wz ho (b9 he dX (sE h1)) hbase (gL h1) hline (sE h1) rfl).of fun σ H Q h=>tw (sE h1) (fun θ H M o x xs v y Q=>x9) h
theorem wx (ho:PE X o (tE X go))(he:PE X e (tE X ge))(h1:aC e=true:=by rfl)(hbase:attributeBase o "index" X.env (eval o X.env)=eval o X.env:=by rfl)(hline:(apos.endLine==cpos.line)=true:=by rfl) :
  PE X (.Call (.Attribute o "index" apos) [e] [] cpos) (tE X (gO hU go ge)):=
 (iD PySem.F.plainAttrs_list PySem.F.slot_list_index PySem.F.type_list_index xE ho (b9 he dX (sE h1)) hbase (gL h1) hline (sE h1) rfl).of fun σ H Q h=>tw (sE h1) (fun θ H M o x xs v y Q=>vV) h
end
def fj (ok:Str→Option Bool)(g:GE):GE:=fun ρ M=>(g ρ M).bind fun d M1=>match d with
 | .exc c=>match ok c with
  | some b=>.ok (.bl b) M1
  | none=>.bad
 | _=>.bad
theorem xM {c0:Value}{v0:V}{ok:Str→Option Bool}(r0:∀c,L2.RelV v0 c→c=c0)(hk:∀c b C,ok c=some b→cQ X.K c C→iO X.K C∧W.kitOne X.K (.ref C) c0=some b) :
  cx X (.builtin "isinstance") (fun xs H Q=>∃θ M d v,Wr X.K θ H M∧cD X.K θ H d v∧xs=[v,v0]∧aF X θ H Q (match d with | .exc c=>(match ok c with|some b=>.ok (.bl b) M|none=>.bad)|_=>.bad)):=by
 intro af s σ H xs us Q I r h;obtain⟨θ,M,d,v,hw,rv,e,h⟩:=h;subst e;obtain⟨u,c,rfl,ru,rc⟩:=wd r;have ec:c=c0:=r0 c rc;subst ec;cases d with
 | exc c=>
  obtain⟨a,C,ea,kC,t,na⟩:=rv;subst ea;cases ru;cases q:ok c with
  | none=>simp only[q] at h;exact h.elim
  | some b=>
   simp only[q] at h;obtain⟨kx,e1⟩:=hk c b C q kC;obtain⟨p,_,_⟩:=I.hok a _ t;exact W.kia_one (wC kx) I.kIn p e1 (fun z=>nomatch z) fun tk=>⟨.bl b,H,I.tok _,rfl,h _ θ H (.refl hw) rfl⟩
 | _=>exact h.elim
def pR (l:List (Str×Bool))(c:Str):Option Bool:=l.lookup c
theorem xt {K:W.Frag}{l:List (Str×Bool)}{c0:Value}(h:∀p∈l,∃C,cQ K p.1 C∧iO K C∧W.kitOne K (.ref C) c0=some p.2):∀c b C,pR l c=some b→cQ K c C→iO K C∧W.kitOne K (.ref C) c0=some b:=fun c b C e kC=>by
 obtain⟨C',k1,k2,k3⟩:=h (c,b) (PySem.mem_of_lookup e);have:=k1.inj kC;subst this;exact⟨k2,k3⟩
theorem Ay {K:W.Frag}{mg:Str→Option Value}{g:Str}{C G:Addr}{b:Bool}(kG:Ec K mg g G)(hm:W.mroIn K C (.ref G)=some b):W.kitOne K (.ref C) (.ref G)=some b:=by
 unfold W.kitOne;split
 ·rename_i q;have e:C=G:=Value.ref.inj (beq_iff_eq.mp q);subst e;rw[kG.sf] at hm;exact hm
 ·show(if((W.clsIn K G).isSome&&W.typeIn K (.ref G)==some (.type "type"))=true then W.subIn K (.ref C) (.ref G) else none)=some b;rw[if_pos (by rw[kG.k.cl,kG.ty];rfl)];exact hm
theorem vJ {K:W.Frag}{T:String}{C:Addr}{b:Bool}(hT:W.kitMeta T=true)(hm:W.mroIn K C (.type T)=some b):W.kitOne K (.ref C) (.type T)=some b:=by
 unfold W.kitOne;rw[if_neg (by intro q;cases beq_iff_eq.mp q)];show(if W.kitMeta T=true then W.subIn K (.ref C) (.type T) else none)=some b;rw[if_pos hT];exact hm
section
variable {e:Expr}{g:GE}{p p2 pos:Pos}{x:Str}{ok:Str→Option Bool}
theorem wm {v0:V}{σ:L2.St}{H:Hp}{Q:VK}(h:tE X (fj ok g) σ H Q):Hz (fun xs H Q=>∃θ M d v,Wr X.K θ H M∧cD X.K θ H d v∧xs=[v,v0]∧aF X θ H Q (match d with | .exc c=>(match ok c with|some b=>.ok (.bl b) M|none=>.bad)|_=>.bad)) (o9 (tE X g) (o9 (tC v0) zK)) σ H Q:=by
 obtain⟨ρ,θ,M,hd,hw,h⟩:=h;refine bG hd hw (aF X θ H Q) (fun c M' h=>h) (fun h=>h) h fun d M1 v θ1 H1 g1 r1 h1=>?_
 exact⟨θ1,M1,d,v,g1.wr,r1,rfl,aF.go g1 h1⟩
theorem Bz {G:Addr}(hm:X.mg x=some (.ref G))(hk:∀c b C,ok c=some b→cQ X.K c C→iO X.K C∧W.kitOne X.K (.ref C) (.ref G)=some b)(hg:Gl X x)(hgi:Gl X "isinstance")(hmi:X.mg "isinstance"=none)(he:PE X e (tE X g))
  (h1:aC e=true:=by rfl) (hd:(x==("__debug__":Str))=false:=by decide):PE X (.Call (.Name "isinstance" p) [e,.Name x p2] [] pos) (tE X (fj ok g)):=
 (jF (xM (v0:=.ref G) (fun c z=>z) hk) hgi hmi boot_isinstance (b9 he (b9 (oj hg hm (v:=.ref G) rfl hd) dX (sE rfl)) (sE h1)) (by decide) (by decide) (sE h1) (sS rfl)).of fun σ H Q h=>wm h
theorem AU {T:String}(hv:bootBuiltins x=some (.type T))(hm:X.mg x=none)(hk:∀c b C,ok c=some b→cQ X.K c C→iO X.K C∧W.kitOne X.K (.ref C) (.type T)=some b)(hg:Gl X x)(hgi:Gl X "isinstance")(hmi:X.mg "isinstance"=none)(he:PE X e (tE X g))
  (h1:aC e=true:=by rfl) (hn:x≠"__name__":=by decide) (hd:(x==("__debug__":Str))=false:=by decide):PE X (.Call (.Name "isinstance" p) [e,.Name x p2] [] pos) (tE X (fj ok g)):=
 (jF (xM (v0:=.ty T) (fun c z=>z) hk) hgi hmi boot_isinstance (b9 he (b9 (sU hg hm hv (v:=.ty T) rfl hn hd) dX (sE rfl)) (sE h1)) (by decide) (by decide) (sE h1) (sS rfl)).of fun σ H Q h=>wm h
end
theorem JZ {K:W.Frag}{l:List Str}{Ga:Addr}(h:∀c∈l,∃C,cQ K c C∧W.mroIn K C (.ref Ga)=some true):∀c C,l.contains c=true→cQ K c C→W.mroIn K C (.ref Ga)=some true:=fun c C e kC=>by
 obtain⟨C',k1,k2⟩:=h c (contains_iff_mem.mp e);have:=k1.inj kC;subst this;exact k2
end
end DL
namespace DL
open PySem L2
theorem G4 {P:Program}{w:World}{H:Hp}{s:Shared}{e:Value}{s':Shared}(z:kr P w [] H s (fun _ _ _=>False) e s'):False:=by
 obtain⟨_,_,_,_,_,_,_,_,_,_,_,_,_,_,h⟩:=z;exact h
end DL
namespace DL
open PySem PySem.Spec PyProof.Rows L2 List
structure Kc (K:W.Frag)(mg:Str→Option Value)(c:Str)(C:Addr):Prop where
 at_:cQ K c C
 m:mg c=some (.ref C)
 cl:J2 K C
section
variable {X:Cx}{c f:Str}{C:Addr}{o e value:Expr}{g go gv:GE}{pos pos' apos p:Pos}
def xJ (add:Bool)(x y:D)(M:av):aN D:=match x,y with
 | .int i,.int j=>.ok (.int (if add then i+j else i-j)) M
 | _,_=>.bad
def p9 (i:Nat)(add:Bool)(g:GE):GS:=fun ρ M=>(ae i ρ M).bind fun x M0=>(g ρ M0).bind fun y M1=>(xJ add x y M1).bind fun z M2=>.ok (.nx (ρ.set i (some z))) M2
theorem DU {i:Nat}{x:Str}{add:Bool}{op:Operator}(hop:op=if add then .Add else .Sub)(hN:X.N.Nodup)(hi:X.N[i]?=some x)(hx:qH X.env.scope x)(he:PE X e (tE X g))(hf:X.fn x=true∨X.env.scope.names.lookup x=some .local:=by first|exact .inl rfl|exact .inr rfl|assumption) :
  PS X (.AugAssign (.Name x pos') op e pos) (tS X (p9 i add g)):=by
 have ip:Hw X op (HP fun i j=>if add then i+j else i-j):=by
  subst hop;cases add with
  | true=>exact Ej
  | false=>exact Cb
 refine(yF hN hi hx he ip hf).of fun D σ H hxx=>?_
 obtain⟨ρ,θ,M,hd,hw,h⟩:=hxx;unfold p9 ae at h;split at h
 ·rename_i d q;obtain⟨v,e1,r⟩:=hd.at_ i d q;refine⟨v,e1,?_⟩;have h:bK X θ H D ((g ρ M).bind fun y M1=>(xJ add d y M1).bind fun z M2=>.ok (.nx (ρ.set i (some z))) M2):=h;refine bG hd hw (bK X θ H D) (fun c M' h=>h) (fun h=>h) h fun y M1 vy θ1 H1 g1 r1 h1=>?_
  cases d with
  | int a=>
   cases y with
   | int b=>exact⟨a,b,r,r1,h1 _ θ1 H1 g1 ((hd.go g1).set (d:=.int (if add then a+b else a-b)) rfl i)⟩
   | _=>exact h1.elim
  | _=>exact h1.elim
 ·exact h.elim
end
end DL
namespace DL
open PySem PySem.Spec PyProof.Rows L2 List
open AutoSeq1 (wpAny_loadPart')
end DL
namespace DL
open PySem PySem.Spec PyProof.Rows L2 List
def rl (o x:D)(lo hi:Int)(M:av):aN Unit:=match o,x with
 | .mr k,.lst ys=>match M[k]? with
  | some (.lst xs)=>if 0≤lo∧lo≤hi∧hi≤(xs.length:Int)∧xs.length+ys.length≤sizeLine then .ok () (M.set k (.lst (xs.take lo.toNat++ys++xs.drop hi.toNat))) else .bad
  | _=>.bad
 | _,_=>.bad
section
variable {X:Cx}{e o lo hi:Expr}{g go gl gh:GE}{pos ip sp:Pos}
def G9 (tab:List (Str×Int)):List (V×V):=tab.map fun p=>(.str p.1,.int p.2)
def mG (tab:List (Str×Int)):List (fc×V):=tab.map fun p=>(Sum.inr p.1,V.int p.2)
def rX (tab:List (Str×Int))(g:GE):GE:=fun ρ M=>(g ρ M).bind fun d M1=>match d with
 | .str x=>match jS (ej [] (mG tab)) (Sum.inr x) with
  | some (.int i)=>.ok (.int i) M1
  | _=>.bad
 | _=>.bad
end
def H0 (K:W.Frag)(a:Addr)(so:Obj)(xs:List V)(ts:List Addr)(bm:Addr)(ob:Obj):Hp:=fun b=>
 if b=a then(if K.lookup a=none then some (.frz so (.lst xs)) else none) else if b∈ts then some (.tbl #[]) else if b=bm then some (JG ob) else none
structure II (K:W.Frag)(x:Str)(c P:Addr):Prop where
 mem:x∈eW
 tab:W.tabIn K x=some (c,P)
 uniq:∀y,y∈eW→y≠x→∀c2,W.tabIn K y≠some (c2,P)
 hd:∃o vs file tf flags tg inF text tt,K.lookup c=some o∧o.cls=.type "code"∧o.data=.fields vs∧vs[11]?=some (.ref P)∧vs.getD 11 .none=.ref P∧vs.getD 18 .none=.str file tf∧
  vs.getD 7 .none=.int flags tg∧vs.getD 9 .none=.bool inF∧vs.getD 10 .none=.int text tt∧c≠P
end DL
namespace DL
open PySem PySem.Spec PyProof.Rows L2 List
section
open PySem.SeqAt
open PySem.AutoSeq1 (wpAny_loadPart')
open PySem.MeetsSeq PySem.MeetsSeq2 PySem.MeetsSeq3
end
end DL
namespace DL
open PySem PySem.Spec PyProof.Rows L2 List
section
variable {X:Cx}{o e:Expr}{go ge:GE}{apos cpos:Pos}
def bh:F2:=fun x y M=>match x,y with
 | .str z,.int i=>if z.length≤sizeLine then(match k9 z.cps.toList i with
  | some c=>.ok (.str ⟨#[c]⟩) M
  | none=>.bad) else .bad
 | x,y=>qf x y M
theorem C1:EE X (rD X bh):=by
 intro value slice af s σ H x y v u Q I rx ry h hs;obtain⟨θ,M,dx,dy,hw,r1,r2,h⟩:=h;have rest:aF X θ H Q (qf dx dy M)→_:=fun h=>Fx value slice af s σ H x y v u Q I rx ry ⟨θ,M,dx,dy,hw,r1,r2,h⟩ hs
 cases dx with
 | str z=>
  cases dy with
  | int i=>
   have h:aF X θ H Q (if z.length≤sizeLine then(match k9 z.cps.toList i with|some c=>.ok (.str ⟨#[c]⟩) M|none=>.bad) else .bad):=h;split at h
   ·rename_i hz;cases q:k9 z.cps.toList i with
    | none=>rw[q] at h;exact h.elim
    | some c=>
     rw[q] at h;exact Di value slice af s σ H x y v u Q I rx ry ⟨z,i,c,r1,r2,hz,q,h _ θ H (.refl hw) rfl⟩ hs
   ·exact h.elim
  | _=>exact rest h
 | _=>exact rest h
theorem BM {a b:Expr}{pos:Pos}{ga gb:GE}(ha:PE X a (tE X ga))(hb:PE X b (tE X gb))(hs:n9 b:=by intro _ _;rfl):PE X (.Subscript a b pos) (tE X (g2 bh ga gb)):=
 (FS C1 ha hb hs).of fun _ _ _ h=>tB h
def rZ (j i:Str):Bool:=!(Builtin.Str.occurrences j i 0 j.length 1).isEmpty
def yJ:F2:=fun x y M=>match x,y with
 | .str i,.str j=>.ok (.bl (rZ j i)) M
 | x,y=>kD false x y M
theorem CP:dM X (compareOp .In) (rD X yJ):=by
 intro af s σ H x y v u Q I rx ry h;obtain⟨θ,M,dx,dy,hw,r1,r2,h⟩:=h;have rest:aF X θ H Q (kD false dx dy M)→_:=fun h=>Hi af s σ H x y v u Q I rx ry ⟨θ,M,dx,dy,hw,r1,r2,h⟩
 cases dx with
 | str i=>
  cases dy with
  | str j=>exact uj af s σ H x y v u Q I rx ry ⟨i,j,r1,r2,h _ θ H (.refl hw) rfl⟩
  | _=>exact rest h
 | _=>exact rest h
def aS (F:Str→D→av→aN D)(go ge:GE):GE:=fun ρ M=>(go ρ M).bind fun o M1=>match o with
 | .str x=>(ge ρ M1).bind fun d M2=>F x d M2
 | _=>.bad
theorem jr {F:Str→D→av→aN D}{rr:V→List V→Hp→VK→Prop}{σ:L2.St}{H:Hp}{Q:VK}
  (hF:∀θ H M x d y Q,Wr X.K θ H M→cD X.K θ H d y→aF X θ H Q (F x d M)→rr (.str x) [y] H Q) (h:tE X (aS F go ge) σ H Q):Hr X.K "str" rr (tE X go) (o9 (tE X ge) zK) σ H Q:=by
 obtain⟨ρ,θ,M,hd,hw,h⟩:=h;refine bG hd hw (aF X θ H Q) (fun c M' h=>h) (fun h=>h) h fun d M1 v θ1 H1 g1 r1 h1=>?_
 have h2:=aF.go g1 h1;cases d with
 | str x=>
  have ev:v=.str x:=r1;subst ev;refine⟨rfl,?_⟩;refine bG (hd.go g1) g1.wr (aF X θ1 H1 Q) (fun c M' h=>h) (fun h=>h) h2 fun dx M2 vx θ2 H2 g2 r2 h3=>?_
  exact hF θ2 H2 M2 x dx vx Q g2.wr r2 (aF.go g2 h3)
 | _=>exact h2.elim
def kZ (x:Str)(d:D)(M:av):aN D:=match d with
 | .str y=>.ok (.int (Txt.find x y)) M
 | _=>.bad
def wU:V→List V→Hp→VK→Prop:=fun x vs H Q=>∃a b,x=.str a∧vs=[.str b]∧Q (.int (Txt.find a b)) H
theorem AY:EA X "str.find" wU:=by
 intro af s σ H x vs v us Q I rx rv h;obtain⟨a,b,rfl,rfl,q⟩:=h;obtain⟨t,rfl⟩:=rx;obtain⟨u,rfl,ru⟩:=rv.one;obtain⟨t',rfl⟩:=ru;exact SC.find ⟨.int _,H,I.tok _,⟨s.toks,rfl⟩,q⟩
theorem z8 {θ:List Addr}{H:Hp}{M:av}{x:Str}{d:D}{y:V}{Q:VK}(hw:Wr X.K θ H M)(ry:cD X.K θ H d y)(h:aF X θ H Q (kZ x d M)):wU (.str x) [y] H Q:=by
 cases d with
 | str z=>
  have ev:y=.str z:=ry;subst ev;exact⟨x,z,rfl,rfl,h _ θ H (.refl hw) rfl⟩
 | _=>exact h.elim
theorem yT (ho:PE X o (tE X go))(he:PE X e (tE X ge))(h1:aC e=true:=by rfl)(hbase:attributeBase o "find" X.env (eval o X.env)=eval o X.env:=by rfl)(hline:(apos.endLine==cpos.line)=true:=by rfl) :
  PE X (.Call (.Attribute o "find" apos) [e] [] cpos) (tE X (aS kZ go ge)):=
 (iD PySem.F.plainAttrs_str PySem.F.slot_str_find PySem.F.type_str_find AY ho (b9 he dX (sE h1)) hbase (gL h1) hline (sE h1) rfl).of fun σ H Q h=>jr (fun θ H M x d y Q=>z8) h
def bo (x:Str)(d:D)(M:av):aN D:=match d with
 | .str y=>(match Builtin.Str.occurrences x y 0 x.length 1 with
  | i::_=>.ok (.int (i:Nat)) M
  | []=>.bad)
 | _=>.bad
def su:V→List V→Hp→VK→Prop:=fun x vs H Q=>∃a b i r,x=.str a∧vs=[.str b]∧Builtin.Str.occurrences a b 0 a.length 1=i::r∧Q (.int (i:Nat)) H
theorem uV:EA X "str.index" su:=by
 intro af s σ H x vs v us Q I rx rv h;obtain⟨a,b,i,r,rfl,rfl,ho,q⟩:=h;obtain⟨t,rfl⟩:=rx;obtain⟨u,rfl,ru⟩:=rv.one;obtain⟨t',rfl⟩:=ru;exact SC.index ho ⟨.int _,H,I.tok _,⟨s.toks,rfl⟩,q⟩
theorem uO {θ:List Addr}{H:Hp}{M:av}{x:Str}{d:D}{y:V}{Q:VK}(hw:Wr X.K θ H M)(ry:cD X.K θ H d y)(h:aF X θ H Q (bo x d M)):su (.str x) [y] H Q:=by
 cases d with
 | str z=>
  have ev:y=.str z:=ry;subst ev;have h:aF X θ H Q (match Builtin.Str.occurrences x z 0 x.length 1 with|i::_=>.ok (.int (i:Nat)) M|[]=>.bad):=h;cases q:Builtin.Str.occurrences x z 0 x.length 1 with
  | nil=>rw[q] at h;exact h.elim
  | cons i r=>
   rw[q] at h;exact⟨x,z,i,r,rfl,rfl,q,h _ θ H (.refl hw) rfl⟩
 | _=>exact h.elim
theorem uz (ho:PE X o (tE X go))(he:PE X e (tE X ge))(h1:aC e=true:=by rfl)(hbase:attributeBase o "index" X.env (eval o X.env)=eval o X.env:=by rfl)(hline:(apos.endLine==cpos.line)=true:=by rfl) :
  PE X (.Call (.Attribute o "index" apos) [e] [] cpos) (tE X (aS bo go ge)):=
 (iD PySem.F.plainAttrs_str PySem.F.slot_str_index PySem.F.type_str_index uV ho (b9 he dX (sE h1)) hbase (gL h1) hline (sE h1) rfl).of fun σ H Q h=>jr (fun θ H M x d y Q=>uO) h
theorem Ep {x z:Str}{tk:Tok}{pos:Pos}(hg:Gl X x)(hm:X.mg x=some (.str z tk))(hd:(x==("__debug__":Str))=false:=by decide):PE X (.Name x pos) (tE X (gC (.str z))):=
 (oj hg hm (v:=.str z) ⟨tk,rfl⟩ hd).of fun σ H Q h=>by
  obtain⟨ρ,θ,M,_,hw,h⟩:=h;exact h _ θ H (.refl hw) rfl
end
end DL
namespace DL
open PySem PySem.Spec PyProof.Rows L2 List
def cw (x:Str):List D:=x.cps.toList.map fun c=>D.str ⟨#[c]⟩
def Ht (x:Str):It:=⟨fun i _=>i<x.cps.size,fun i H v H'=>H'=H∧∃c,x.cps[i]?=some c∧v=.str ⟨#[c]⟩,fun i _=>x.cps.size≤i⟩
theorem oS {P:Program}{w:World}{K:W.Frag}{tg:Expr}{T:String}{x:Str}{t:Tok}(it:Addr)(hn:["enumerate","zip","dict_itemiterator","dict_reverseitemiterator","odict_iterator","itertools.zip_longest","itertools.pairwise"].contains T=false)
  (W:∀A:Around,A.handled=none→Walks P w A it [it] [it] x.cps.size (fun i v=>∃c u,x.cps[i]?=some c∧v=.str ⟨#[c]⟩ u) fun i h=>h.IsStrIter it T x t i)
  (hs:∀(A:Around) (i:Nat) (s:Shared) (Q:Value→Shared→Prop) (E:Value→Shared→Prop),s.heap.IsStrIter it T x t i→Q (.ref it) s→wpAny (model P w) A (pyIter (.ref it)) Q E s) :
  rf P w K tg (Ht x) [it] it (fun i h=>h.IsStrIter it T x t i∧i≤x.cps.size) where
 mem:=by simp
 obj:=fun i h st b hb=>by
  have e:b=it:=by simpa using hb
  subst e;obtain⟨⟨o,e,c,d⟩,_⟩:=st;exact⟨o,e,fun v z=>by rw[d] at z;cases z⟩
 keep:=fun i h h' st k=>by
  obtain⟨⟨o,e,c,d⟩,hi⟩:=st;exact⟨⟨o,k it (by simp) o e,c,d⟩,hi⟩
 item:=by
  intro X hP hw hK hc i af s σ H E I hf st hg;subst hP hw hK;obtain⟨f0,f1,f2,f3,f4,f5⟩:=hf it (by simp);have hg:i<x.cps.size:=hg;refine(W X.A (I.ok.hd hc)).item i s _ _ hg st.1 fun v h' tk hv st' kk=>?_
  obtain⟨c,u,ec,rfl⟩:=hv;have I1:Inv X af σ H {s with heap:=h',toks:=tk}:=I.turned (fun b o hb e=>kk b o (by simpa using hb) e) f0 f1 f3 f4 f5;obtain⟨o,e,oc,od⟩:=id st';exact⟨_,rfl,oR (s:={s with heap:=h',toks:=tk}) e oc od hn ⟨.str ⟨#[c]⟩,H,I1,⟨u,rfl⟩,⟨rfl,c,ec,rfl⟩,⟨st',hg⟩,fun b hb=>(hf b hb).1⟩⟩
 done:=by
  intro X hP hw hK hc i af s σ H E I hf st hg;subst hP hw hK;obtain⟨f0,f1,f2,f3,f4,f5⟩:=hf it (by simp);have hg:x.cps.size≤i:=hg;have e:i=x.cps.size:=Nat.le_antisymm st.2 hg;subst e;exact(W X.A (I.ok.hd hc)).done s _ _ st.1 fun h' tk kk=>⟨rfl,I.turned (fun b o hb e=>kk b o (by simpa using hb) e) f0 f1 f3 f4 f5⟩
 self:=fun A i s Q E st h=>hs A i s Q E st.1 h
theorem zI {K:W.Frag}{θ:List Addr}{H:Hp}(x:Str):yI K (Ht x) θ H ⟨cw x,none⟩:=by
 intro θ1 H1 M1 g _ i;refine⟨fun d e=>?_,fun hl=>?_⟩
 ·have hi:i<x.cps.size:=by
   have:=(List.getElem?_eq_some_iff.mp e).1;simpa[cw] using this
  refine⟨hi,fun v H2 y=>?_⟩;obtain⟨eH,c,ec,rfl⟩:=y;subst eH;refine⟨.refl g.wr,?_⟩;have e':D.str ⟨#[c]⟩=d:=by
   have:(cw x)[i]?=some (D.str ⟨#[c]⟩):=by simp[cw,ec]
   rw[this] at e;exact Option.some.inj e
  subst e';rfl
 ·have h2:(cw x).length≤i:=hl;have h3:x.cps.size≤i:=by simpa[cw] using h2
  exact h3
def sj (d:D)(M:av):aN mj:=match d with
 | .str x=>.ok ⟨cw x,none⟩ M
 | d=>ni d M
def bF (g:GE):GI:=fun ρ M=>(g ρ M).bind sj
section
variable {X:Cx}{tg:Expr}
theorem v5 {af:List (Addr×Obj)}{s:Shared}{σ:L2.St}{H:Hp}{R:It→Hp→Prop}{x:Str}{t:Tok}(I:L2.Inv X af σ H s)(h:R (Ht x) H):wpAny (model X.prog X.w) X.A (pyIter (.str x t)) (HV X af σ tg R) X.xe s:=by
 have fp:∀b∈[s.heap.objs.size],iX X af H b:=fun b hb=>by
  have e:b=s.heap.objs.size:=by simpa using hb
  subst e;exact I.fpOk (Nat.le_refl _) (I.hok.fresh (Nat.le_refl _))
 cases ha:x.cps.all (·<128) with
 | true=>
  refine wpAny_pyIter_ascii ha ?_;refine⟨s.heap.objs.size,[s.heap.objs.size],_,_,H,rfl,I.kept (t':=s.toks) fun b o e=>Heap.get?_push_of_some _ e,oS (T:="str_ascii_iterator") (x:=x) (t:=t) _ (by decide) (fun A hA=>Walks.strAscii hA _ x t) (fun A i s Q E st hQ=>?_),⟨⟨_,Heap.get?_push_size _ rfl,rfl,rfl⟩,Nat.zero_le _⟩,fp,h⟩;exact wpAny_pyIter_striter_ascii st hQ
 | false=>
  refine wpAny_pyIter_wide ha ?_;refine⟨s.heap.objs.size,[s.heap.objs.size],_,_,H,rfl,I.kept (t':=s.toks) fun b o e=>Heap.get?_push_of_some _ e,oS (T:="str_iterator") (x:=x) (t:=t) _ (by decide) (fun A hA=>Walks.strWide hA _ x t) (fun A i s Q E st hQ=>?_),⟨⟨_,Heap.get?_push_size _ rfl,rfl,rfl⟩,Nat.zero_le _⟩,fp,h⟩;exact wpAny_pyIter_striter_wide st hQ
theorem Ew {l:Expr}{tl:TE}(hl:PE X l tl):PI X tg l (fun σ H R=>tl σ H fun x H1=>(∃z,x=.str z∧R (Ht z) H1)∨∃a,x=.ref a∧(((∃xs,jP X.K H1 a xs)∧R (Hn X.K a) H1)∨((∃xs,oF X.K H1 a xs)∧R (IJ X.K a) H1))):=by
 intro af s σ H R I h;refine bW (hl af s σ H _ I h) fun v s1 hxx=>?_
 obtain⟨x,H1,I1,r1,q1⟩:=hxx;rcases q1 with⟨z,e,q1⟩|⟨a,e,q1⟩
 ·subst e;obtain⟨t,rfl⟩:=r1;exact v5 I1 q1
 subst e;cases r1;rcases q1 with⟨⟨xs,hq⟩,q⟩|⟨⟨xs,hq⟩,q⟩
 ·obtain⟨its,rv,p,hz⟩:=I1.list hq;refine wpAny_pyIter_list p.isList ?_;refine⟨s1.heap.objs.size,[s1.heap.objs.size],_,_,H1,rfl,I1.kept (t':=s1.toks) fun b o e=>Heap.get?_push_of_some _ e,uM a _,⟨_,Heap.get?_push_size _ rfl,rfl,rfl⟩,fun b hb=>?_,q⟩;have e:b=s1.heap.objs.size:=by simpa using hb
  subst e;exact I1.fpOk (Nat.le_refl _) (I1.hok.fresh (Nat.le_refl _))
 ·obtain⟨its,rv,p,hz⟩:=I1.tuple hq;refine wpAny_pyIter_tuple (show s1.heap.IsTuple a its.toArray from p) ?_;refine⟨s1.heap.objs.size,[s1.heap.objs.size],_,_,H1,rfl,I1.kept (t':=s1.toks) fun b o e=>Heap.get?_push_of_some _ e,rW a _,⟨_,Heap.get?_push_size _ rfl,rfl,rfl⟩,fun b hb=>?_,q⟩;have e:b=s1.heap.objs.size:=by simpa using hb
  subst e;exact I1.fpOk (Nat.le_refl _) (I1.hok.fresh (Nat.le_refl _))
theorem zH {l:Expr}{g:GE}(hl:PE X l (tE X g)):PI X tg l (tI X (bF g)):=by
 intro af s σ H R I h;refine Ew hl af s σ H R I ?_;obtain⟨ρ,θ,M,hd,hw,h⟩:=h;refine bG hd hw (uB X θ H R) (fun c M' h=>h) (fun h=>h) h fun d M1 v θ1 H1 g1 r1 h1=>?_
 cases d with
 | str z=>exact .inl ⟨z,r1,h1 _ θ1 H1 g1 (zI z)⟩
 | lst ds=>
  obtain⟨a,vs,e,ta,r⟩:=r1;exact .inr ⟨a,e,.inl ⟨⟨vs,ta.sq⟩,h1 _ θ1 H1 g1 (sB (.inl ⟨.inl ta.1,ta.2⟩) r)⟩⟩
 | ro ds=>
  obtain⟨a,vs,e,ta,r⟩:=r1;exact .inr ⟨a,e,.inl ⟨⟨vs,ta.sq⟩,h1 _ θ1 H1 g1 (sB ta r)⟩⟩
 | tup ds=>
  obtain⟨a,vs,e,ta,r⟩:=r1;exact .inr ⟨a,e,.inr ⟨⟨vs,ta.sq⟩,h1 _ θ1 H1 g1 (yW ta r)⟩⟩
 | mr k=>
  obtain⟨a,e,ta⟩:=r1;have h2:uB X θ H R (match M1[k]? with|some (.lst ds)=>.ok ⟨ds,some k⟩ M1|_=>.bad):=h1;cases q:M1[k]? with
  | none=>rw[q] at h2;exact h2.elim
  | some m=>
   cases m with
   | lst ds=>
    rw[q] at h2;obtain⟨vs,hv,r⟩:=g1.wr.at_ k a _ ta q;exact .inr ⟨a,e,.inl ⟨⟨vs,.inl (.inl hv)⟩,h2 _ θ1 H1 g1 (zS ta)⟩⟩
   | _=>rw[q] at h2;exact h2.elim
 | _=>exact h1.elim
end
theorem m6:∀{ys:List Str} {us:List Value},aP (ys.map V.str) us→∃l:List (Str×Tok),us=strValues l∧l.map (·.1)=ys
 | [],us,h=>by cases h;exact⟨[],rfl,rfl⟩
 | y::ys,us,h=>by
  cases h with
  | cons h1 h2=>
   obtain⟨t,rfl⟩:=h1;obtain⟨l,rfl,e⟩:=m6 h2;exact⟨(y,t)::l,rfl,by rw[map_cons,e]⟩
def gM:List D→Option (List Str)
 | []=>some []
 | .str x::r=>(gM r).map (x::·)
 | _=>none
theorem pU {K:W.Frag}{θ:List Addr}{H:Hp}:∀{ds:List D} {ys:List Str} {vs:List V},gM ds=some ys→a7 K θ H ds vs→vs=ys.map V.str
 | [],ys,vs,h,r=>by cases h;exact r
 | d::ds,ys,vs,h,r=>by
  obtain⟨v,rr,e,h1,h2⟩:=r;cases d with
  | str x=>
   cases q:gM ds with
   | none=>simp[gM,q] at h
   | some ks=>
    simp only[gM,q,Option.map_some,Option.some.injEq] at h;subst h;have e1:v=.str x:=h1;subst e1;rw[e,pU q h2];rfl
  | _=>cases h
section
open Builtin Builtin.Str
end
section
variable {X:Cx}{o e:Expr}{go ge:GE}{apos cpos:Pos}
def cR (x:Str)(d:D)(M:av):aN D:=match dW d M with
 | some ds=>match gM ds with
  | some ys=>if JoinOk x ys then .ok (.str (Txt.join x ys)) M else .bad
  | none=>.bad
 | none=>.bad
def Bi (K:W.Frag):V→List V→Hp→VK→Prop:=fun x vs H Q=>∃a p ys,x=.str a∧vs=[.ref p]∧jP K H p (ys.map V.str)∧JoinOk a ys=true∧Q (.str (Txt.join a ys)) H
theorem zt:EA X "str.join" (Bi X.K):=by
 intro af s σ H x vs v us Q I rx rv h;obtain⟨a,p,ys,rfl,rfl,hq,ok,q⟩:=h;obtain⟨t,rfl⟩:=rx;obtain⟨u,rfl,ru⟩:=rv.one;cases ru;obtain⟨its,r,pl,hz⟩:=I.list hq;obtain⟨l,rfl,el⟩:=m6 r;exact SC.join pl.isList el ok fun t' k=>⟨.str _,H,I.tok k,⟨t',rfl⟩,q⟩
theorem yS {θ:List Addr}{H:Hp}{M:av}{x:Str}{d:D}{y:V}{Q:VK}(hw:Wr X.K θ H M)(ry:cD X.K θ H d y)(h:aF X θ H Q (cR x d M)):Bi X.K (.str x) [y] H Q:=by
 unfold cR at h;cases ql:dW d M with
 | none=>rw[ql] at h;exact h.elim
 | some ds=>
  rw[ql] at h;dsimp only at h;obtain⟨a,vs,ea,sq,ra⟩:=n6 hw ry ql;cases qs:gM ds with
  | none=>rw[qs] at h;exact h.elim
  | some ys=>
   rw[qs] at h;dsimp only at h;split at h
   ·rename_i hk;rw[pU qs ra] at sq;exact⟨x,a,ys,rfl,by rw[ea],sq,hk,h _ θ H (.refl hw) rfl⟩
   ·exact h.elim
theorem zu (ho:PE X o (tE X go))(he:PE X e (tE X ge))(h1:aC e=true:=by rfl)(hbase:attributeBase o "join" X.env (eval o X.env)=eval o X.env:=by rfl)(hline:(apos.endLine==cpos.line)=true:=by rfl) :
  PE X (.Call (.Attribute o "join" apos) [e] [] cpos) (tE X (aS cR go ge)):=
 (iD PySem.F.plainAttrs_str PySem.F.slot_str_join PySem.F.type_str_join zt ho (b9 he dX (sE h1)) hbase (gL h1) hline (sE h1) rfl).of fun σ H Q h=>jr (fun θ H M x d y Q=>yS) h
end
end DL
namespace DL
open PySem PySem.Spec PyProof.Rows L2 List
section
variable {X:Cx}
theorem rp {x:Str}{acc:Array Value}(h:ItemsOf (SignAt x) acc x.cps.size):aP (x.cps.toList.map fun c=>V.str ⟨#[c]⟩) acc.toList:=by
 obtain⟨h1,h2⟩:=h;have go:∀(cs:List Nat) (us:List Value),cs.length=us.length→(∀(j:Nat) (u:Value),us[j]?=some u→∃c t,cs[j]?=some c∧u=Value.str ⟨#[c]⟩ t)→aP (cs.map fun c=>V.str ⟨#[c]⟩) us:=by
  intro cs
  induction cs with
  | nil=>
   intro us hl _;cases us with
   | nil=>exact .nil
   | cons _ _=>cases hl
  | cons c cs ih=>
   intro us hl hu;cases us with
   | nil=>cases hl
   | cons u us=>
    obtain⟨c',t,ec,eu⟩:=hu 0 u rfl;cases ec;exact .cons ⟨t,eu⟩ (ih us (by simpa using hl) fun j v hj=>hu (j+1) v hj)
 refine go _ _ (by simp[h1]) fun j u hj=>?_
 obtain⟨c,t,ec,eu⟩:=h2 j u (by simpa using hj);exact⟨c,t,by simpa using ec,eu⟩
theorem iU {K:W.Frag}{θ:List Addr}{H:Hp}:∀cs:List Nat,a7 K θ H (cs.map fun c=>D.str ⟨#[c]⟩) (cs.map fun c=>V.str ⟨#[c]⟩)
 | []=>rfl
 | c::cs=>⟨_,_,rfl,rfl,iU cs⟩
def fG:FD:=fun ds M=>match ds with
 | [.str x]=>if x.cps.size≤sizeLine then .ok (.lst (cw x)) M else .bad
 | ds=>mh ds M
def eh:FD:=fun ds M=>match ds with
 | [.str x]=>if x.cps.size≤sizeLine then .ok (.mr M.length) (M++[.lst (cw x)]) else .bad
 | ds=>lj ds M
theorem iB (hc:X.calm=true):cx X (.type "list") (fun xs H Q=>∃x,xs=[.str x]∧x.cps.size≤sizeLine∧∀l,H l=none→Q (.ref l) (cp H l (.lst (x.cps.toList.map fun c=>V.str ⟨#[c]⟩)))):=by
 intro af s σ H xs us Q I r h;obtain⟨x,rfl,hz,q⟩:=h;obtain⟨u,rfl,rx⟩:=ki r;obtain⟨t,rfl⟩:=rx;refine call_list_str (I.ok.hd hc) x t (fun h' tk acc c' kp e it=>?_) hz;exact⟨.ref s.heap.objs.size,_,I.laid (t':=tk) kp (Nat.le_refl _) (show cE X.prog X.w _ h' _ (.lst (x.cps.toList.map fun c=>V.str ⟨#[c]⟩)) from⟨by simpa using hz,acc.toList,c',rp it,by simpa using e⟩),rfl,q _ (I.hok.fresh (Nat.le_refl _))⟩
theorem xg (hc:X.calm=true):cx X (.type "list") (rC X fG):=by
 intro af s σ H xs us Q I r h;obtain⟨θ,M,ds,hw,rd,h⟩:=h;have rest:aF X θ H Q (mh ds M)→_:=fun h=>An af s σ H xs us Q I r ⟨θ,M,ds,hw,rd,h⟩
 unfold fG at h;split at h
 ·rename_i x;split at h
  ·rename_i hz;obtain⟨v,e,rv⟩:=fg rd;have ev:v=.str x:=rv;subst ev;exact iB hc af s σ H xs us Q I r ⟨x,e,hz,fun l hl=>h _ θ _ (dG hw hl) (fD hw hl (iU _))⟩
  ·exact h.elim
 ·exact rest h
theorem ue (hc:X.calm=true):cx X (.type "list") (rC X eh):=by
 intro af s σ H xs us Q I r h;obtain⟨θ,M,ds,hw,rd,h⟩:=h;have rest:aF X θ H Q (lj ds M)→_:=fun h=>wc af s σ H xs us Q I r ⟨θ,M,ds,hw,rd,h⟩
 unfold eh at h;split at h
 ·rename_i x;split at h
  ·rename_i hz;obtain⟨v,e,rv⟩:=fg rd;have ev:v=.str x:=rv;subst ev;exact iB hc af s σ H xs us Q I r ⟨x,e,hz,fun l hl=>h _ _ _ (l8 hw hl (iU _)) (jh hw)⟩
  ·exact h.elim
 ·exact rest h
def oT (M:av)(k:Nat):Option (List D):=match M[k]? with
 | some (.lst xs)=>some xs
 | _=>none
theorem rP {M:av}{k:Nat}{xs:List D}(h:oT M k=some xs):M[k]?=some (.lst xs):=by
 unfold oT at h;split at h
 ·rename_i ys e;cases h;exact e
 ·cases h
def kz (F:List D→List D→Option (D×List D))(go:GE)(ga:GA):GE:=fun ρ M=>(go ρ M).bind fun o M1=>match o with
 | .mr k=>match oT M1 k with
  | some _=>(ga ρ M1).bind fun ds M2=>match oT M2 k with
   | some xs=>match F xs ds with
    | some r=>.ok r.1 (M2.set k (.lst r.2))
    | none=>.bad
   | none=>.bad
  | none=>.bad
 | _=>.bad
theorem wM {F:List D→List D→Option (D×List D)}{rr:V→List V→Hp→VK→Prop}{σ:L2.St}{H:Hp}{Q:VK}{go:GE}{ga:GA}
  (hF:∀θ H M a (k:Nat) xs vs ds us r Q,Wr X.K θ H M→θ[k]?=some a→M[k]?=some (.lst xs)→H a=some (.lst vs)→a7 X.K θ H xs vs→a7 X.K θ H ds us→F xs ds=some r→aF X θ H Q (.ok r.1 (M.set k (.lst r.2)))→rr (.ref a) us H Q)
  (h:tE X (kz F go ga) σ H Q):Hr X.K "list" rr (tE X go) (tA X ga) σ H Q:=by
 obtain⟨ρ,θ,M,hd,hw,h⟩:=h;refine bG hd hw (aF X θ H Q) (fun c M' h=>h) (fun h=>h) h fun d M1 v θ1 H1 g1 r1 h1=>?_
 have h2:=aF.go g1 h1;cases d with
 | mr k=>
  have h2:aF X θ1 H1 Q (match oT M1 k with
   | some _=>(ga ρ M1).bind fun ds M2=>match oT M2 k with
    | some xs=>match F xs ds with
     | some r=>.ok r.1 (M2.set k (.lst r.2))
     | none=>.bad
    | none=>.bad
   | none=>.bad):=h2
  cases q1:oT M1 k with
  | none=>rw[q1] at h2;exact h2.elim
  | some ys=>
   rw[q1] at h2;obtain⟨a,ea,ta⟩:=id r1;obtain⟨vs1,hv1,_⟩:=g1.wr.at_ k a _ ta (rP q1);refine⟨by rw[ea];exact .inl ⟨rfl,vs1,.inl (.inl hv1)⟩,?_⟩;refine iA (hd.go g1) g1.wr (aF X θ1 H1 Q) (fun c M' h=>h) (fun h=>h) h2 fun ds M2 us θ2 H2 g2 r2 h3=>?_
   have h4:=aF.go g2 h3;cases q2:oT M2 k with
   | none=>rw[q2] at h4;exact h4.elim
   | some xs=>
    rw[q2] at h4;dsimp only at h4;cases q3:F xs ds with
    | none=>rw[q3] at h4;exact h4.elim
    | some r=>
     rw[q3] at h4;obtain⟨a2,ea2,ta2⟩:=r1.go g2;rw[ea] at ea2;cases ea2;obtain⟨vs,hv,ra⟩:=g2.wr.at_ k a _ ta2 (rP q2);rw[ea];exact hF θ2 H2 M2 a k xs vs ds us r Q g2.wr ta2 (rP q2) hv ra r2 q3 h4
 | _=>exact h2.elim
def lh (xs ds:List D):Option (D×List D):=match ds with
 | [.int i]=>if 0≤i∧i<2 ^ 62 then(xs[i.toNat]?).map fun d=>(d,xs.eraseIdx i.toNat) else none
 | _=>none
theorem lJ {K:W.Frag}{θ:List Addr}{H:Hp}:∀{ds:List D} {vs:List V} (n:Nat),a7 K θ H ds vs→a7 K θ H (ds.eraseIdx n) (vs.eraseIdx n)
 | [],vs,n,h=>by cases (show vs=[] from h);rw[eraseIdx_nil,eraseIdx_nil];exact rfl
 | d::ds,vs,0,h=>by obtain⟨v,r,e,h1,h2⟩:=h;subst e;exact h2
 | d::ds,vs,n+1,h=>by
  obtain⟨v,r,e,h1,h2⟩:=h;subst e;exact⟨v,r.eraseIdx n,rfl,h1,lJ n h2⟩
theorem DE {θ:List Addr}{H:Hp}{M:av}{a:Addr}{k:Nat}{xs:List D}{vs:List V}{ds:List D}{us:List V}{r:D×List D}{Q:VK}(hw:Wr X.K θ H M)(ta:θ[k]?=some a)(em:M[k]?=some (.lst xs))(hv:H a=some (.lst vs))(ra:a7 X.K θ H xs vs)(ru:a7 X.K θ H ds us)
  (hF:lh xs ds=some r) (h:aF X θ H Q (.ok r.1 (M.set k (.lst r.2)))):xw (.ref a) us H Q:=by
 unfold lh at hF;split at hF
 ·rename_i i;split at hF
  ·rename_i hi;obtain⟨v,e,rv⟩:=fg ru;have ev:v=.int i:=rv;subst ev;cases qx:xs[i.toNat]? with
   | none=>rw[qx] at hF;cases hF
   | some d=>
    rw[qx] at hF;cases hF;obtain⟨y,ey,ry⟩:=dD ra qx;have hlt:=(List.getElem?_eq_some_iff.mp ey).1;have gs:=jZ (ds:=xs) hw ta (lJ i.toNat ra);refine⟨a,vs,i,i.toNat,y,rfl,e,hv,by omega,by omega,?_,ey,h _ θ _ gs (ry.go gs)⟩;unfold seqIndex?;have:¬i<0:=by omega
    have e1:(0≤i):=hi.1;have e2:i<(vs.length:Int):=by omega
    simp[this,e1,e2]
  ·cases hF
 ·cases hF
def sR:V→List V→Hp→VK→Prop:=fun x vs H Q=>∃l xs i y,x=.ref l∧vs=[.int i,y]∧H l=some (.lst xs)∧0≤i∧i<2 ^ 62∧xs.length<sizeLine∧Q .non (cp H l (.lst (xs.take i.toNat++y::xs.drop i.toNat)))
theorem vh:HE X "list.insert" sR:=by
 intro af s σ H x vs v us Q I rx rv h;obtain⟨l,xs,i,y,rfl,rfl,hH,i0,i1,hz,q⟩:=h;cases rx;obtain⟨u1,u2,rfl,r1,r2⟩:=rv.two;obtain⟨t,rfl⟩:=r1;obtain⟨z,its,n,r,hl,e⟩:=I.lstM hH;have fit:¬(!Builtin.List.listFitsIndex i)=true:=by
  unfold Builtin.List.listFitsIndex;simp;omega
 refine call_meets F.slot_list_insert ⟨_,e,rfl⟩ F.entry_list_insert (F.args_list_insert_3 _ _ _) (AutoSeq1.list_insert_list_int_val_1 l its.toArray n i t u2 fit (by rw[size_toArray];omega)) ⟨e,?_⟩;have nn:¬i<0:=by omega
 refine⟨.non,_,I.lset (its':=its.take i.toNat++u2::its.drop i.toNat) hH e ?_ ((r.take i.toNat).append (.cons r2 (r.drop i.toNat))) ?_,rfl,q⟩
 ·show((its.toArray.extract 0 (if i<0 then(i+((its.toArray.size:Nat):Int)).toNat else min i.toNat its.toArray.size)).push u2++its.toArray.extract (if i<0 then(i+((its.toArray.size:Nat):Int)).toNat else min i.toNat its.toArray.size))=_;rw[if_neg nn,size_toArray];apply Array.toList_inj.mp;rcases Nat.le_total i.toNat its.length with h|h
  ·rw[Nat.min_eq_left h];simp;exact take_of_length_le (by rw[length_drop];exact Nat.le_refl _)
  ·rw[Nat.min_eq_right h];simp[take_of_length_le h,drop_of_length_le h]
 ·rw[length_append,length_cons,length_take,length_drop];omega
def se (xs ds:List D):Option (D×List D):=match ds with
 | [.int i,d]=>if 0≤i∧i<2 ^ 62∧xs.length<sizeLine then some (.non,xs.take i.toNat++d::xs.drop i.toNat) else none
 | _=>none
theorem DM {θ:List Addr}{H:Hp}{M:av}{a:Addr}{k:Nat}{xs:List D}{vs:List V}{ds:List D}{us:List V}{r:D×List D}{Q:VK}(hw:Wr X.K θ H M)(ta:θ[k]?=some a)(em:M[k]?=some (.lst xs))(hv:H a=some (.lst vs))(ra:a7 X.K θ H xs vs)(ru:a7 X.K θ H ds us)
  (hF:se xs ds=some r) (h:aF X θ H Q (.ok r.1 (M.set k (.lst r.2)))):sR (.ref a) us H Q:=by
 unfold se at hF;split at hF
 ·rename_i i d;split at hF
  ·rename_i hi;cases hF;obtain⟨v1,r1,e1,q1,q2⟩:=ru;obtain⟨v2,r2,e2,q3,q4⟩:=q2;have e3:r2=[]:=q4;subst e3 e2 e1;have ev:v1=.int i:=q1;subst ev;have gs:=jZ (ds:=xs) hw ta (bD (jL i.toNat ra) (show a7 X.K θ H (d::xs.drop i.toNat) (v2::vs.drop i.toNat) from⟨v2,_,rfl,q3,jN i.toNat ra⟩));exact⟨a,vs,i,v2,rfl,rfl,hv,hi.1,hi.2.1,by rw[←aq ra];exact hi.2.2,h _ θ _ gs rfl⟩
  ·cases hF
 ·cases hF
variable {o e e2:Expr}{go:GE}{ga:GA}{apos cpos:Pos}
theorem yr (ho:PE X o (tE X go))(ha:PA X [e] (tA X ga))(h1:aC e=true:=by rfl)(hbase:attributeBase o "pop" X.env (eval o X.env)=eval o X.env:=by rfl)(hline:(apos.endLine==cpos.line)=true:=by rfl) :
  PE X (.Call (.Attribute o "pop" apos) [e] [] cpos) (tE X (kz lh go ga)):=
 (iD PySem.F.plainAttrs_list PySem.F.slot_list_pop PySem.F.type_list_pop wB ho ha hbase (gL h1) hline (sE h1) rfl).of fun σ H Q h=>wM (fun θ H M a k xs vs ds us r Q=>DE) h
theorem Ex {env:Env}(h:aC e=true)(h2:aC e2=true):((backTo cpos (starEach [e,e2] env)).all (fun x=>!x.1)&&(backToKw cpos (keywordEach [] env)).all (fun x=>x.1.isSome)
   && decide ([e,e2].length+([]:List Keyword).length+(if([]:List Keyword).isEmpty then 0 else 1)<30))=true:=by
 rw[sE h,sE h2];rfl
theorem vG (ho:PE X o (tE X go))(ha:PA X [e,e2] (tA X ga))(h1:aC e=true:=by rfl)(h2:aC e2=true:=by rfl)(hbase:attributeBase o "insert" X.env (eval o X.env)=eval o X.env:=by rfl)(hline:(apos.endLine==cpos.line)=true:=by rfl) :
  PE X (.Call (.Attribute o "insert" apos) [e,e2] [] cpos) (tE X (kz se go ga)):=
 (iD PySem.F.plainAttrs_list PySem.F.slot_list_insert PySem.F.type_list_insert vh ho ha hbase (Ex h1 h2) hline (sE h1) (by rw[sE h2];rfl)).of fun σ H Q h=>wM (fun θ H M a k xs vs ds us r Q=>DM) h
end
structure QE (X:Cx)(e:Expr)(g:GE):Prop where
 h:PE X e (tE X g)
structure QT (X:Cx)(e:Expr)(g:GT):Prop where
 h:PT X e (tT X g)
structure QW (X:Cx)(e:Expr)(g:GT):Prop where
 h:PW X e (tT X g)
structure QA (X:Cx)(es:List Expr)(g:GA):Prop where
 h:PA X es (tA X g)
structure QS (X:Cx)(st:Stmt)(g:GS):Prop where
 h:PS X st (tS X g)
structure QB (X:Cx)(st:List Stmt)(g:GS):Prop where
 h:PSs X st (tS X g)
structure QI (X:Cx)(tg e:Expr)(g:GI):Prop where
 h:PI X tg e (tI X g)
structure QG (X:Cx)(tg:Expr)(s:GG):Prop where
 h:PG X tg (tG X s)
structure EM (X:Cx)(tgs:List Expr)(is:List Nat):Prop where
 h:zn X tgs (GZ X is)
structure QP (X:Cx)(e:Option Expr)(g:GO):Prop where
 h:PO X e (tO X g)
structure Q2 (X:Cx)(f:Value→Value→Sem Value)(F:F2):Prop where
 h:dM X f (rD X F)
structure QC (X:Cx)(f:Value)(F:FD):Prop where
 h:cx X f (rC X F)
structure zQ (X:Cx)(scope:Scope)(xs:List Str)(R:List Str)(ifs:List Expr)(gc:GT):Prop where
 h:f9 X scope xs R ifs gc
structure QO (n:Nat)(sg:GG):Prop where
 h:oO n sg
section
variable {X:Cx}{e a b c o i:Expr}{es rest:List Expr}{x:Str}{p p2 pos pos':Pos}{g ga gb gc go gi ge:GE}{ta tb:GT}{gA:GA}
theorem GF:Q2 X (binaryOp .Add) ax:=⟨CH⟩
theorem Em:Q2 X (binaryOp .Add) li:=⟨zZ⟩
theorem Fy:Q2 X (binaryOp .Sub) fO:=⟨Dh⟩
theorem GY:Q2 X (binaryOp .Mult) dF:=⟨Ed⟩
theorem Du:Q2 X (binaryOp .FloorDiv) lB:=⟨yQ⟩
theorem GK:Q2 X (binaryOp .Mod) dt:=⟨Ce⟩
theorem E2:Q2 X (binaryOp .Pow) qK:=⟨BJ⟩
theorem ID:Q2 X (compareOp .Lt) je:=⟨G1⟩
theorem Jq:Q2 X (compareOp .LtE) mB:=⟨Gg⟩
theorem IG:Q2 X (compareOp .Gt) DJ:=⟨FG⟩
theorem Jc:Q2 X (compareOp .GtE) Cm:=⟨G6⟩
theorem Jn {k:Nat}(hr:cB k X.A):Q2 X (compareOp .Eq) (aK false):=⟨Gr hr.units⟩
theorem HW {k:Nat}(hr:cB k X.A):Q2 X (compareOp .NotEq) (aK true):=⟨FL hr.units⟩
theorem Il:Q2 X (compareOp .Is) (mq false):=⟨FT⟩
theorem Fi:QC X (.builtin "len") aO:=⟨Ei⟩
theorem FK (hc:X.calm=true:=by rfl):QC X (.builtin "min") oV:=⟨BK hc⟩
theorem Hg (hc:X.calm=true:=by rfl):QC X (.builtin "all") mx:=⟨CA hc⟩
theorem ET:QC X (.type "int") nF:=⟨Do⟩
theorem qv (i:Nat){x:Str}{pos:Pos}(hN:X.N[i]?=some x:=by rfl)(hv:B0 X.env.scope x:=by first|exact Or.inl rfl|exact Or.inr (Or.inl rfl)|exact Or.inr (Or.inr rfl))(hd:(x==("__debug__":Str))=false:=by decide)
  (hcd:(x==("__classdict__":Str))=false:=by decide):QE X (.Name x pos) (ae i):=⟨vv i hN hv hd hcd⟩
theorem CQ {i:Int}{j pos}:QE X (.Constant (.int i) j pos) (gC (.int i)):=⟨Cf⟩
theorem GH {b j pos}:QE X (.Constant (.bool b) j pos) (gC (.bl b)):=⟨Gb⟩
theorem Eu {j pos}:QE X (.Constant .none j pos) (gC .non):=⟨BG⟩
theorem Dt {x j pos}:QE X (.Constant (.str x) j pos) (gC (.str x)):=⟨D2⟩
theorem BD (h:QE X a g):QE X (.UnaryOp .USub a pos) (ml g):=⟨Eh h.h⟩
theorem Fm {op:Operator}{f:F2}(ho:Q2 X (binaryOp op) f)(ha:QE X a ga)(hb:QE X b gb):QE X (.BinOp a op b pos) (g2 f ga gb):=⟨F7 ho.h ha.h hb.h⟩
def BL:CmpOp→Bool
 | .In=>false
 | .NotIn=>false
 | _=>true
theorem nu {op:CmpOp}{b:Expr}(h:BL op=true):behindInMarks op b=false:=by
 cases op <;> first|exact Ee _|(cases h)
theorem B1 {op:CmpOp}{f:F2}(ho:Q2 X (compareOp op) f)(ha:QE X a ga)(hb:QE X b gb)(hm:BL op=true:=by rfl):QE X (.Compare a [op] [b] pos) (g2 f ga gb):=⟨D4 ho.h ha.h hb.h (nu hm)⟩
theorem Ct {op:CmpOp}{f:F2}(ho:Q2 X (compareOp op) f)(ha:QE X a ga)(hb:QE X b gb)(hm:BL op=true:=by rfl):QT X (.Compare a [op] [b] pos) (aw (g2 f ga gb)):=⟨wf ho.h ha.h hb.h (nu hm)⟩
theorem A2 {op:CmpOp}{f:F2}(ho:Q2 X (compareOp op) f)(ha:QE X a ga)(hb:QE X b gb)(hm:behindInMarks op b=false:=by with_unfolding_all rfl):QT X (.Compare a [op] [b] pos) (aw (g2 f ga gb)):=⟨wf ho.h ha.h hb.h hm⟩
theorem yv {op op':CmpOp}{f f':F2}(ho:Q2 X (compareOp op) f)(ho':Q2 X (compareOp op') f')(ha:QE X a ga)(hb:QE X b gb)(hc:QE X c gc)(hm:lastMarks [op,op'] [b,c]=false:=by with_unfolding_all rfl):QE X (.Compare a [op,op'] [b,c] pos) (oH f f' ga gb gc):=⟨ym ho.h ho'.h ha.h hb.h hc.h hm⟩
theorem vY {op op':CmpOp}{f f':F2}(ho:Q2 X (compareOp op) f)(ho':Q2 X (compareOp op') f')(ha:QE X a ga)(hb:QE X b gb)(hc:QE X c gc)(hm:lastMarks [op,op'] [b,c]=false:=by with_unfolding_all rfl):QT X (.Compare a [op,op'] [b,c] pos) (aw (oH f f' ga gb gc)):=⟨wg ho.h ho'.h ha.h hb.h hc.h hm⟩
theorem z7 (ha:QT X a ta):QW X (.BoolOp .And [a] pos) ta:=⟨yR ha.h⟩
theorem Ca (ha:QT X a ta):QW X (.BoolOp .Or [a] pos) ta:=⟨B3 ha.h⟩
theorem D8 (ha:QT X a ta)(hb:QW X (.BoolOp .And (b::rest) pos) tb):QW X (.BoolOp .And (a::b::rest) pos) (dQ ta tb):=⟨CU ha.h hb.h⟩
theorem FV (ha:QT X a ta)(hb:QW X (.BoolOp .Or (b::rest) pos) tb):QW X (.BoolOp .Or (a::b::rest) pos) (cb ta tb):=⟨Ff ha.h hb.h⟩
theorem F0 (h:QW X a ta):QT X a ta:=⟨PW.pt h.h⟩
theorem Ef (h:QT X a ta):QT X (.UnaryOp .Not a pos) (du ta):=⟨Cg h.h⟩
theorem C8 (h:QE X a g)(he:∀whole,isTrue a X.env whole=(do let v ←whole;standAt a.pos;holding [v] (truthy v)):=by intro _;rfl):QT X a (iG g):=⟨DS h.h he⟩
theorem Ey:QA X [] ag:=⟨Dm⟩
theorem IN {gr:GA}(ha:QE X e g)(hr:QA X es gr)(h:aC e=true:=by rfl):QA X (e::es) (aa g gr):=⟨HH ha.h hr.h h⟩
theorem Dy {x1}(h:QA X es gA):QE X (.Tuple es x1 pos) (dk gA):=⟨Cr h.h⟩
theorem C9 (h:QA X es gA):QE X (.List es pos) (cA gA):=⟨DP h.h⟩
theorem BN (h:QA X es gA):QE X (.List es pos) (iV gA):=⟨DR h.h⟩
theorem A0:QP X none bn:=⟨Ac⟩
theorem zA (h:QE X e g):QP X (some e) (aH g):=⟨yZ h.h⟩
section
variable {apos cpos:Pos}{k n:Nat}{f:Addr}{fd:FuncData}{ps:List Str}{F:FD}{T:String}{id:String}
theorem vD (ho:QE X o go)(he:QE X e ge)(h1:aC e=true:=by rfl)(hbase:attributeBase o "append" X.env (eval o X.env)=eval o X.env:=by rfl)(hline:(apos.endLine==cpos.line)=true:=by rfl):QE X (.Call (.Attribute o "append" apos) [e] [] cpos) (iF go ge):=⟨uu ho.h he.h hbase (gL h1) hline (sE h1) rfl⟩
theorem xq (ho:QE X o go)(he:QE X e ge)(h1:aC e=true:=by rfl)(hbase:attributeBase o "count" X.env (eval o X.env)=eval o X.env:=by rfl)(hline:(apos.endLine==cpos.line)=true:=by rfl):QE X (.Call (.Attribute o "count" apos) [e] [] cpos) (gO hV go ge):=⟨wG ho.h he.h h1 hbase hline⟩
theorem yf (ho:QE X o go)(he:QE X e ge)(h1:aC e=true:=by rfl)(hbase:attributeBase o "index" X.env (eval o X.env)=eval o X.env:=by rfl)(hline:(apos.endLine==cpos.line)=true:=by rfl):QE X (.Call (.Attribute o "index" apos) [e] [] cpos) (gO hU go ge):=⟨wx ho.h he.h h1 hbase hline⟩
theorem Ft (Fn:fU X.prog X.w X.K X.mg X.base (kr X.prog X.w) k f fd ps (sh X.K n F))(hr:cB k X.A)(hg:Gl X x)(hm:X.mg x=some (.ref f))(hk:W.keepIn X.K (.ref f)=true)(hb:ib X.K fd ps [])(ha:QA X (e::es) gA)
  (hdb:(x==("__debug__":Str))=false:=by decide) (h1:aC e=true:=by rfl) (h2:dA es=true:=by rfl):QE X (.Call (.Name x p) (e::es) [] pos) (ar n F gA):=⟨Gj Fn hr hg hm hk hb ha.h hdb h1 h2⟩
theorem Bn (hc:QC X (.builtin id) F)(hg:Gl X x)(hm:X.mg x=none)(hv:bootBuiltins x=some (.builtin id))(ha:QA X (e::es) gA)(hn:x≠"__name__":=by decide)(hdb:(x==("__debug__":Str))=false:=by decide)
  (h1:aC e=true:=by rfl) (h2:dA es=true:=by rfl):QE X (.Call (.Name x p) (e::es) [] pos) (az F gA):=⟨Fp hc.h hg hm hv ha.h hn hdb h1 h2⟩
theorem GD (hc:QC X (.type T) F)(hg:Gl X x)(hm:X.mg x=none)(hv:bootBuiltins x=some (.type T))(ha:QA X (e::es) gA)(hn:x≠"__name__":=by decide)(hdb:(x==("__debug__":Str))=false:=by decide)
  (h1:aC e=true:=by rfl) (h2:dA es=true:=by rfl):QE X (.Call (.Name x p) (e::es) [] pos) (az F gA):=⟨He hc.h hg hm hv ha.h hn hdb h1 h2⟩
theorem EW (hT:jw T)(hv:bootBuiltins x=some (.type T))(hg:Gl X x)(hm:X.mg x=none)(hgi:Gl X "isinstance")(hmi:X.mg "isinstance"=none)(he:QE X e g)
  (h1:aC e=true:=by rfl) (hn:x≠"__name__":=by decide) (hd:(x==("__debug__":Str))=false:=by decide):QE X (.Call (.Name "isinstance" p) [e,.Name x p2] [] pos) (kt T g):=⟨EZ hT hv hg hm hgi hmi he.h h1 hn hd⟩
theorem CW {G:Addr}{ok:Str→Option Bool}(hm:X.mg x=some (.ref G))(hk:∀c b C,ok c=some b→cQ X.K c C→iO X.K C∧W.kitOne X.K (.ref C) (.ref G)=some b)(hg:Gl X x)(hgi:Gl X "isinstance")(hmi:X.mg "isinstance"=none)(he:QE X e g)
  (h1:aC e=true:=by rfl) (hd:(x==("__debug__":Str))=false:=by decide):QE X (.Call (.Name "isinstance" p) [e,.Name x p2] [] pos) (fj ok g):=⟨Bz hm hk hg hgi hmi he.h h1 hd⟩
theorem zh {ok:Str→Option Bool}(hv:bootBuiltins x=some (.type T))(hm:X.mg x=none)(hk:∀c b C,ok c=some b→cQ X.K c C→iO X.K C∧W.kitOne X.K (.ref C) (.type T)=some b)(hg:Gl X x)(hgi:Gl X "isinstance")(hmi:X.mg "isinstance"=none)(he:QE X e g)
  (h1:aC e=true:=by rfl) (hn:x≠"__name__":=by decide) (hd:(x==("__debug__":Str))=false:=by decide):QE X (.Call (.Name "isinstance" p) [e,.Name x p2] [] pos) (fj ok g):=⟨AU hv hm hk hg hgi hmi he.h h1 hn hd⟩
end
theorem Gx {tg:Expr}(hg:Gl X "range")(hm:X.mg "range"=none)(ha:QA X [a] gA)(h1:aC a=true:=by rfl):QI X tg (.Call (.Name "range" p) [a] [] pos) (bM gA):=⟨Fg hg hm ha.h h1⟩
theorem E8 {tg:Expr}(hg:Gl X "range")(hm:X.mg "range"=none)(ha:QA X [a,b] gA)(h1:aC a=true:=by rfl)(h2:aC b=true:=by rfl):QI X tg (.Call (.Name "range" p) [a,b] [] pos) (eX gA):=⟨Gd hg hm ha.h h1 h2⟩
section
variable {scope:Scope}{R:List Str}{iter elt:Expr}{ifs:List Expr}{gI:GI}{gC:GT}{px:Pos}{mk:List D→av→aN D}
theorem uN {xs:List Str}:zQ X scope xs R [] bJ:=⟨wy⟩
theorem vn {xs:List Str}(h:∀fp s2 H2 C,QT (aB X scope xs R fp s2 H2 C) c ta):zQ X scope xs R [c] ta:=⟨yA fun fp s2 H2 C=>(h fp s2 H2 C).h⟩
theorem za (hS:bZ scope X.env.kindOf [x] R X.N=true)(hm:mk=aJ∨mk=cy)(hi:QI X (.Name x px) iter gI)(hts:zQ X scope [x] R ifs gC)(he:∀fp s H C,QE (aB X scope [x] R fp s H C) elt ge)
  (hc:X.calm=true:=by rfl) (hs:∀x,foldedSetIterable iter X.env x=pure x:=by intro _;rfl):QE X (.ListComp elt [⟨.Name x px,iter,ifs,0⟩] scope pos) (aX gI gC ge mk):=⟨Az hS hc hm hi.h hts.h (fun fp s H C=>(he fp s H C).h) hs⟩
theorem sr {j:Nat}{y:Str}{py spos:Pos}(hS:bZ scope X.env.kindOf [x] R X.N=true)(hm:mk=aJ∨mk=cy)(hN:X.N.Nodup)(hi:QI X (.Name x px) iter gI)(hts:zQ X scope [x] R ifs gC)(he:∀fp s H C,QE (aB X scope [x] R fp s H C) elt ge)
  (hc:X.calm=true:=by rfl) (hj:X.N[j]?=some y:=by rfl) (hy:X.env.scope.names.lookup y=some .local:=by rfl) (hsw:swapsWith (.ListComp elt [⟨.Name x px,iter,ifs,0⟩] scope pos) (some (.Name y py)) spos.line X.env=pure true:=by rfl)
  (hs:∀x,foldedSetIterable iter X.env x=pure x:=by intro _;rfl):QS X (.Assign [.Name y py] (.ListComp elt [⟨.Name x px,iter,ifs,0⟩] scope pos) spos) (au j (aX gI gC ge mk)):=⟨qW hS hc hm hi.h hts.h (fun fp s H C=>(he fp s H C).h) hN hj hy hsw hs⟩
theorem BI (n:Nat){is:List Nat}(h:is.all (fun i=>decide (i<n))=true:=by rfl):QO n (l5 is):=⟨yX h⟩
theorem mW {xs:List Str}{fp:List Addr}{s:Shared}{H:Hp}{C:Addr}{y:Str}(hS:bZ scope X.env.kindOf xs R X.N=true)(h:y∈xs):(aB X scope xs R fp s H C).env.scope.names.lookup y=some .local:=lookup_relabel_local ((bL.of hS).own y h)
theorem JX {xs:List Str}{fp:List Addr}{s:Shared}{H:Hp}{C:Addr}{y:Str}(i:Nat)(hS:bZ scope X.env.kindOf xs R X.N=true)(hi:(xs++R)[i]?=some y:=by rfl)(hx:y∈xs:=by simp):QG (aB X scope xs R fp s H C) (.Name y pos) (cT i):=
 ⟨ol (X:=aB X scope xs R fp s H C) (bL.of hS).nd hi (.inl (mW hS hx)) (.inr (mW hS hx))⟩
theorem wa {tg:Expr}{sg:GG}(xs:List Str)(hS:bZ scope X.env.kindOf xs R X.N=true)(hm:mk=aJ∨mk=cy)(own:QO xs.length sg)(hi:QI X tg iter gI)(hg:∀fp s H C,QG (aB X scope xs R fp s H C) tg sg)(hts:zQ X scope xs R ifs gC)(he:∀fp s H C,QE (aB X scope xs R fp s H C) elt ge)
  (hc:X.calm=true:=by rfl) (hs:∀x,foldedSetIterable iter X.env x=pure x:=by intro _;rfl):QE X (.ListComp elt [⟨tg,iter,ifs,0⟩] scope pos) (bR gI xs.length sg gC ge mk):=⟨oY hS hc hm hi.h own.h (fun fp s H C=>(hg fp s H C).h) hts.h (fun fp s H C=>(he fp s H C).h) hs⟩
end
def jd:Expr→Bool
 | .ListComp ..=>false
 | .SetComp ..=>false
 | .DictComp ..=>false
 | _=>true
theorem i4 {t:Option Expr}{l:Nat}{env:Env}(h:jd e=true):swapsWith e t l env=pure false:=by
 cases e <;> first|rfl|exact ff h
section
variable {st:Stmt}{stmts:List Stmt}{t u:GS}
theorem C4:QB X [] aG:=⟨B7⟩
theorem zX (h1:QS X st t)(h2:QB X stmts u):QB X (st::stmts) (aj t u):=⟨AD h1.h h2.h⟩
theorem Dv (h1:QS X st t):QB X [st] t:=⟨Cd h1.h⟩
theorem DV (i:Nat){x:Str}(hN:X.N.Nodup)(he:QE X e g)(hi:X.N[i]?=some x:=by rfl)(hx:qH X.env.scope x:=by first|exact Or.inl rfl|exact Or.inr rfl)(hs:jd e=true:=by rfl)(hf:X.fn x=true∨X.env.scope.names.lookup x=some .local:=by first|exact .inl rfl|exact .inr rfl) :
  QS X (.Assign [.Name x pos'] e pos) (au i g):=⟨ss i hN he.h hi hx (i4 hs) hf⟩
theorem DO (he:QE X e g):QS X (.Return (some e) pos) (a9 g):=⟨DW he.h⟩
theorem zj (he:QE X e g)(hs:jd e=true:=by rfl):QS X (.Expr e pos) (cf g):=⟨yY he.h (i4 hs)⟩
theorem Fv {a b:List Stmt}{tc:GT}(hc:QT X c tc)(ha:QB X a t)(hb:QB X b u):QS X (.If c a b pos) (ce tc t u):=⟨Gn hc.h ha.h hb.h⟩
theorem qn (i:Nat){x:Str}(hN:X.N.Nodup)(hi:X.N[i]?=some x:=by rfl)(hx:qH X.env.scope x:=by first|exact Or.inl rfl|exact Or.inr rfl)(hf:X.fn x=true∨X.env.scope.names.lookup x=some .local:=by first|exact .inl rfl|exact .inr rfl):QG X (.Name x pos) (cT i):=⟨gg i hN hi hx hf⟩
theorem zO:EM X [] []:=⟨Af⟩
theorem Gf {i:Nat}{is:List Nat}(h1:QG X e (cT i))(h2:EM X es is)(hs:(assignEach (e::es) X.env).map (·.2)=assign e X.env::(assignEach es X.env).map (·.2):=by rfl):EM X (e::es) (i::is):=⟨wt h1.h h2.h hs⟩
theorem BA {is:List Nat}{k n:Nat}(h:EM X es is)(hc:X.calm=true:=by rfl)(hl:is.length=n:=by rfl)(hn:(assignEach es X.env).length=n:=by rfl)(hst:(assignEach es X.env).findIdx? (·.1)=none:=by rfl):QG X (.Tuple es k pos) (l5 is):=⟨Dx hc h.h hl hn hst⟩
theorem BX {tg:Expr}{s:GG}(he:QE X e g)(hg:QG X tg s)(hs:jd e=true:=by rfl)(hw:swappedStores [tg] e X.env=pure none:=by rfl)(h1:(assignEach [tg] X.env).map (·.2)=[assign tg X.env]:=by rfl):QS X (.Assign [tg] e pos) (lL s g):=⟨CF he.h hg.h (i4 hs) hw h1⟩
theorem Ds {ip:Pos}(he:QE X e g)(ho:QE X o go)(hi:QE X i gi)
  (ha:∀v,assign (.Subscript o i ip) X.env v=(do
   let ov ←holding [v] (eval o X.env)
   let iv ←holding [v,ov] (eval i X.env)
   standAt ip
   holding [v,ov,iv] (setItem ov iv v)
   release [v,ov,iv] []):=by intro _;rfl)
  (hs:jd e=true:=by rfl) (hw:swappedStores [.Subscript o i ip] e X.env=pure none:=by rfl):QS X (.Assign [.Subscript o i ip] e pos) (fX go gi g):=⟨Eb he.h ho.h hi.h ha (by unfold swapsWithSole;exact i4 hs) hw rfl⟩
theorem CI {tg iter:Expr}{body:List Stmt}{gI:GI}{sg:GG}{gB:GS}(hp:PassesOwn (model X.prog X.w) X.A X.env X.xe)(hi:QI X tg iter gI)(hg:QG X tg sg)(hb:QB X body gB)(hc:X.calm=true:=by rfl)(hs:∀x,foldedSetIterable iter X.env x=pure x:=by intro _;rfl) :
  QS X (.For tg iter body [] pos) (iQ gI sg gB):=⟨CT hp hc hi.h hg.h hb.h hs⟩
theorem xG {body:List Stmt}{tc:GT}{gB:GS}{n:Nat}(hp:PassesOwn (model X.prog X.w) X.A X.env X.xe)(hc:QT X c tc)(hb:QB X body gB):QS X (.While c body [] pos) (fh n tc gB):=⟨wY hp hc.h hb.h⟩
theorem wl {x:Str}{C:Addr}{np cpos:Pos}(k:Ec X.K X.mg x C)(hg:Gl X x)(he:QE X e g)(hc:X.calm=true:=by rfl)(h1:aC e=true:=by rfl)(hd:(x==("__debug__":Str))=false:=by decide):QS X (.Raise (some (.Call (.Name x np) [e] [] cpos)) none pos) (cS x g):=⟨xu k hc hg he.h h1 hd⟩
theorem B2 {G n:Str}{Ga:Addr}{i:Nat}{ok:Str→Bool}{gB gh:GS}{body suite:List Stmt}{b0:Stmt}{np hpos:Pos}(kG:Ec X.K X.mg G Ga)(hok:∀c C,ok c=true→cQ X.K c C→W.mroIn X.K C (.ref Ga)=some true)(hN:X.N.Nodup)
  (hb:∀pn E,QB (lA X pn E) body gB) (hh:∀pn a,QB (iW X pn a) (b0::suite) gh)
  (hg:Gl X G:=by rfl) (hst:X.stack=X.env::X.outer:=by rfl) (hf:X.env.frame=some X.env.locals:=by rfl) (hi:X.N[i]?=some n:=by rfl) (hl:X.env.kindOf n=some .local:=by rfl) (hfn:X.fn n=true∨X.env.scope.names.lookup n=some .local:=by first|exact .inl rfl|exact .inr rfl)
  (hd:(G==("__debug__":Str))=false:=by decide):QS X (.Try body [.ExceptHandler (some (.Name G np)) (some n) (b0::suite) hpos] [] [] pos) (nN i ok gB gh):=⟨D5 kG hok hg hst hf hN hi hl hfn (fun pn E=>(hb pn E).h) (fun pn a=>(hh pn a).h) hd⟩
end
end
section
variable {X:Cx}{c f m:Str}{C:Addr}{o e value:Expr}{es:List Expr}{g go gv:GE}{gA:GA}{pos pos' apos p:Pos}{k n:Nat}{fa:Addr}{fd:FuncData}{ps:List Str}{F:FD}{pl:Sem Bool}
theorem Ek {x:Str}{add:Bool}{op:Operator}(i:Nat)(hN:X.N.Nodup)(hop:op=if add then .Add else .Sub)(he:QE X e g)(hi:X.N[i]?=some x:=by rfl)(hx:qH X.env.scope x:=by first|exact Or.inl rfl|exact Or.inr rfl)(hf:X.fn x=true∨X.env.scope.names.lookup x=some .local:=by first|exact .inl rfl|exact .inr rfl) :
  QS X (.AugAssign (.Name x pos') op e pos) (p9 i add g):=⟨DU hop hN hi hx he.h hf⟩
end
structure Mf (K:W.Frag)(C:Addr)(x qual:Str)(st:Stmt)(f:Addr)(fd:FuncData)(ps:List Str):Prop where
 F:CK K x qual st f fd
 me:HM K C x f
 b:ib K fd ps []
theorem FH {P:Program}{w:World}{K:W.Frag}{mg:Str→Option Value}{base:Heap}{x qual:Str}{st:Stmt}{f:Addr}{fd:FuncData}{N ps:List Str}{k n:Nat}{g:GS}(F:CK K x qual st f fd)(S:iu N ps (bq st))(hn:ps.length=n)
  (hbody:∀(cdv:Value) (A:Around) (outer:List Env) (s:Shared) (H:Hp) (E:XK),cB k (A.deeper (envOfC qual (bq st) s.heap.objs.size f cdv))→QB (jm (kr P w) P w K mg base N qual (bq st) f cdv A outer s H E) (dP st) g) :
  fU P w K mg base (kr P w) (k+1) f fd ps (sh K n (cr (N.length-n) g)):=IT F S hn fun cdv A outer s H E hr=>(hbody cdv A outer s H E hr).h
theorem BU {l:W.OpenLaw}{n k:Nat}{q:Program}{loose:List Str}{XP:(Str→Option Value)→Heap→Prop}{YP:World→Heap→Prop}{d:DefRec}{K:Params→W.Frag}{x:Str}{F:FD}
  (hn:l.most=some n) (hn2:n≤sizeLine) (hdf:d.params.defaults=[]) (hr:cB k callerA) (hY:∀(w:World) (h:Heap),YP w h→(K w.params).In h)
  (hF:∀(w:World) (mg:Str→Option Value) (fa:Addr) (h:Heap),(K w.params).In h→h.Ns mainGlobals mg→mg d.name=some (.ref fa)→
   ∃fd:FuncData,(∀(s:Shared) (u:Value),BindsTo s fd ⟨[u],[]⟩ [(x,u)])∧∀base:Heap,(K w.params).In base→base.Ns mainGlobals mg→fU l.prog w (K w.params) mg base (kr l.prog w) k fa fd [x] (sh (K w.params) 1 F))
  (h1:∀w:World,W.nsIn (K w.params) mainGlobals "ink_shown"=some none) (h2:∀w:World,W.nsIn (K w.params) mainGlobals "table_within"=some none)
  (h3:∀w:World,W.nsIn (K w.params) mainGlobals "slots_given"=some none) (h4:∀w:World,W.nsIn (K w.params) mainGlobals "cast_on_slots"=some none)
  (ht:∀ns:List Int,ns.length≤n→∃M',F [.ro (ns.map D.int)] []=.ok (.bl true) M') :
  W.WalkO q loose XP YP l.row.toRowW d [] (fun f vs=>PySem.call f vs):=
 L2.walk_of (CX:=fun w=>kr l.prog w) (sp:=fun w=>sh (K w.params) 1 F) hn hn2 hdf hr hY hF (fun w H a ns hl _ hS=>C3 (.no fun y hy=>by
  simp only[eW,mem_cons,not_mem_nil,or_false] at hy;rcases hy with rfl|rfl|rfl|rfl
  ·exact h1 w
  ·exact h2 w
  ·exact h3 w
  ·exact h4 w) hS (ht ns hl)) fun w H s e s' z=>G4 z
section
variable {X:Cx}{e a b o:Expr}{x z:Str}{p pos apos cpos:Pos}{g ga gb go ge:GE}{gA:GA}
theorem D3 (ha:QE X a ga)(hb:QE X b gb)(hs:n9 b:=by intro _ _;rfl):QE X (.Subscript a b pos) (g2 bh ga gb):=⟨BM ha.h hb.h hs⟩
theorem Hb:Q2 X (compareOp .In) yJ:=⟨CP⟩
theorem A4 {tg:Expr}(h:QE X e g):QI X tg e (bF g):=⟨zH h.h⟩
theorem Ap (hc:X.calm=true:=by rfl):QC X (.type "list") fG:=⟨xg hc⟩
theorem v4 (hc:X.calm=true:=by rfl):QC X (.type "list") eh:=⟨ue hc⟩
theorem zC (ho:QE X o go)(he:QE X e ge)(h1:aC e=true:=by rfl)(hbase:attributeBase o "find" X.env (eval o X.env)=eval o X.env:=by rfl)(hline:(apos.endLine==cpos.line)=true:=by rfl):QE X (.Call (.Attribute o "find" apos) [e] [] cpos) (aS kZ go ge):=⟨yT ho.h he.h h1 hbase hline⟩
theorem uJ (ho:QE X o go)(he:QE X e ge)(h1:aC e=true:=by rfl)(hbase:attributeBase o "index" X.env (eval o X.env)=eval o X.env:=by rfl)(hline:(apos.endLine==cpos.line)=true:=by rfl):QE X (.Call (.Attribute o "index" apos) [e] [] cpos) (aS bo go ge):=⟨uz ho.h he.h h1 hbase hline⟩
theorem zb (ho:QE X o go)(he:QE X e ge)(h1:aC e=true:=by rfl)(hbase:attributeBase o "join" X.env (eval o X.env)=eval o X.env:=by rfl)(hline:(apos.endLine==cpos.line)=true:=by rfl):QE X (.Call (.Attribute o "join" apos) [e] [] cpos) (aS cR go ge):=⟨zu ho.h he.h h1 hbase hline⟩
theorem wR (ho:QE X o go)(ha:QA X [e] gA)(h1:aC e=true:=by rfl)(hbase:attributeBase o "pop" X.env (eval o X.env)=eval o X.env:=by rfl)(hline:(apos.endLine==cpos.line)=true:=by rfl):QE X (.Call (.Attribute o "pop" apos) [e] [] cpos) (kz lh go gA):=⟨yr ho.h ha.h h1 hbase hline⟩
theorem uP (ho:QE X o go)(ha:QA X [e,a] gA)(h1:aC e=true:=by rfl)(h2:aC a=true:=by rfl)(hbase:attributeBase o "insert" X.env (eval o X.env)=eval o X.env:=by rfl)(hline:(apos.endLine==cpos.line)=true:=by rfl):QE X (.Call (.Attribute o "insert" apos) [e,a] [] cpos) (kz se go gA):=⟨vG ho.h ha.h h1 h2 hbase hline⟩
theorem Ez (hm:∃tk,X.mg x=some (.str z tk))(hg:Gl X x:=by rfl)(hd:(x==("__debug__":Str))=false:=by decide):QE X (.Name x pos) (gC (.str z)):=by
 obtain⟨tk,hm⟩:=hm;exact⟨Ep hg hm hd⟩
end
section
variable {X:Cx}{x:Str}{z:Int}{pos:Pos}
theorem AG {tk:Tok}(hg:Gl X x)(hm:X.mg x=some (.int z tk))(hd:(x==("__debug__":Str))=false:=by decide):PE X (.Name x pos) (tE X (gC (.int z))):=
 (oj hg hm (v:=.int z) ⟨tk,rfl⟩ hd).of fun σ H Q h=>by
  obtain⟨ρ,θ,M,_,hw,h⟩:=h;exact h _ θ H (.refl hw) rfl
theorem zz (hm:∃tk,X.mg x=some (.int z tk))(hg:Gl X x:=by rfl)(hd:(x==("__debug__":Str))=false:=by decide):QE X (.Name x pos) (gC (.int z)):=by
 obtain⟨tk,hm⟩:=hm;exact⟨AG hg hm hd⟩
end
end DL
namespace PySem
end PySem
namespace L2
open PySem PySem.Spec PyProof.Rows List
def GJ (ns:List Int):List Int:=ns.mergeSort fun a b=>decide (a≤b)
end L2
namespace DL
open PySem PySem.Spec PyProof.Rows L2 List
def Hf:D→Option fc
 | .int i=>some (.inl i)
 | .str x=>some (.inr x)
 | _=>none
def Ia:List D→Option (List fc)
 | []=>some []
 | d::ds=>match Hf d,Ia ds with
  | some k,some ks=>some (k::ks)
  | _,_=>none
section
variable {X:Cx}{pos apos cpos:Pos}{o e f:Expr}
def GU:List D→Option (List Int)
 | []=>some []
 | .int i::ds=>(GU ds).map (i::·)
 | _::_=>none
def JM:FD:=fun ds M=>match ds with
 | [d]=>match jA d M with
  | some xs=>match GU xs with
   | some ns=>if ns.length<64 then .ok (.lst ((GJ ns).map D.int)) M else .bad
   | none=>.bad
  | none=>.bad
 | _=>.bad
end
end DL
namespace L2
open PySem PySem.Spec PyProof.Rows List
theorem mm:seqSlot? (.type "list") (dunderI "add")=pure (some (.builtin "list.__iadd__")):=PySem.seqSlot_of PySem.F.slot_list_iadd.lookup (by decide +kernel)
theorem jR:fillsInplaceSlot (.type "list") "add" (Operator.Add==.Add)=pure false:=by
 unfold fillsInplaceSlot;show(typeLookup (.type "list") (dunderI "add") >>= fun fi=>pure (fi.isSome&&!isSeqSlot fi))=pure false;have e:isSeqSlot (some (Value.builtin "list.__iadd__"))=true:=by decide +kernel
 rw[PySem.F.slot_list_iadd.lookup,pure_bind,e];rfl
section
variable {X:Cx}
theorem n8 {M:Model}{A:Around}{E:Value→Shared→Prop}{s:Shared}{a b:Value}{Q:Value→Shared→Prop}(ha:s.TypeIs a "list")(hb:s.TypeIs b "list")
  (hc:wpAny M A (call (.builtin "list.__iadd__") [a,b]) Q E s):wpAny M A (inplaceOp .Add a b) Q E s:=by
 unfold inplaceOp;refine wpAny_holding ?_;refine wpAny_bind (wpAny_typeOf ha (wpAny_bind (wpAny_of_eq jR ?_)));show wpAny M A (if false=true then _ else _) Q E s;rw[if_neg Bool.false_ne_true];refine wpAny_bind (wpAny_binaryOp1_none (nm:="add") ha hb PySem.noFill_list_add ?_);refine wpAny_bind (wpAny_of_eq mm ?_);exact wpAny_bind (wpAny_rule hc)
def Gy:V→V→Hp→VK→Prop:=fun x y H Q=>(∃i j,x=.int i∧y=.int j∧Q (.int (i+j)) H)∨
 ∃l b xs zs,x=.ref l∧y=.ref b∧H l=some (.lst xs)∧H b=some (.lst zs)∧xs.length+zs.length≤sizeLine∧Q (.ref l) (cp H l (.lst (xs++zs)))
theorem sw:Cy X .Add Gy:=by
 intro af s σ H x y u v Q I rx ry h;rcases h with⟨i,j,e1,e2,q⟩|⟨l,b,xs,zs,rfl,rfl,hH,hB,hz,q⟩
 ·exact B6 af s σ H x y u v Q I rx ry ⟨i,j,e1,e2,q⟩
 ·cases rx;cases ry;obtain⟨z,its,n,r,hl,e⟩:=I.lstM hH;obtain⟨z2,its2,n2,r2,hl2,e2⟩:=I.lstM hB;have hsz:its.toArray.size+its2.toArray.size≤sizeLine:=by rw[size_toArray,size_toArray];omega
  have hlong:¬(!its.toArray.isEmpty&&Builtin.List.listTooLong (its.toArray.size+its2.toArray.size))=true:=by
   rw[pZ hsz,Bool.and_false];exact Bool.false_ne_true
  refine n8 ⟨_,e,rfl⟩ ⟨_,e2,rfl⟩ (call_meets PySem.F.slot_list_iadd ⟨_,e,rfl⟩ PySem.F.entry_list_iadd (PySem.F.args_list_iadd_2 _ _)
   (AutoSeq1.list___iadd___list_list_0 l its.toArray n b its2.toArray n2 hlong (by rw[size_toArray];omega) (by omega)) ⟨e,e2,?_⟩)
  refine⟨.ref l,_,I.lset (its':=its++its2) hH e (by simp) (r.append r2) ?_,rfl,q⟩;rw[length_append];omega
end
end L2
namespace DL
open PySem PySem.Spec PyProof.Rows L2 List
section
variable {X:Cx}{c f:Str}{C:Addr}{o value:Expr}{go gv:GE}{pos pos' tpos:Pos}
def rY (x y:D)(M:av):aN D:=match x with
 | .int i=>match y with
  | .int j=>.ok (.int (i+j)) M
  | _=>.bad
 | .mr k=>match M[k]? with
  | some (.lst xs)=>match jA y M with
   | some ys=>if xs.length+ys.length≤sizeLine then .ok (.mr k) (M.set k (.lst (xs++ys))) else .bad
   | none=>.bad
  | _=>.bad
 | _=>.bad
def Jd (X:Cx):V→V→Hp→VK→Prop:=fun x y H Q=>∃θ M dx dy,Wr X.K θ H M∧cD X.K θ H dx x∧cD X.K θ H dy y∧aF X θ H Q (rY dx dy M)
theorem Cq:Cy X .Add (Jd X):=by
 intro af s σ H x y u v Q I rx ry ⟨θ,M,dx,dy,hw,r1,r2,h⟩;unfold rY at h;cases dx with
 | int i=>
  cases dy with
  | int j=>exact sw af s σ H x y u v Q I rx ry (.inl ⟨i,j,r1,r2,h _ θ H (.refl hw) rfl⟩)
  | _=>exact h.elim
 | mr k=>
  dsimp only at h;cases q:M[k]? with
  | none=>rw[q] at h;exact h.elim
  | some m=>
   cases m with
   | obj _ _=>rw[q] at h;exact h.elim
   | dK _=>rw[q] at h;exact h.elim
   | dT _=>rw[q] at h;exact h.elim
   | lst xs=>
    rw[q] at h;dsimp only at h;cases q2:jA dy M with
    | none=>rw[q2] at h;exact h.elim
    | some ys=>
     rw[q2] at h;dsimp only at h;split at h
     ·rename_i hl;obtain⟨a,ea,ta⟩:=r1;obtain⟨vs,hv,ra⟩:=hw.at_ k a _ ta q;obtain⟨b,ws,eb,tb,rb⟩:=lq hw r2 q2;have gs:=jZ (ds:=xs) hw ta (bD ra rb);exact sw af s σ H x y u v Q I rx ry (.inr ⟨a,b,vs,ws,ea,eb,hv,tb,by rw[←aq ra,←aq rb];exact hl,h _ _ _ gs ⟨a,rfl,ta⟩⟩)
     ·exact h.elim
 | _=>exact h.elim
end
end DL
namespace L2
open PySem PySem.Spec PyProof.Rows List
end L2
namespace DL
open PySem PySem.Spec PyProof.Rows L2 List
section
variable {X:Cx}
theorem lY {K:W.Frag}{θ:List Addr}{H:Hp}{ds:List D}{vs:List V}(h:a7 K θ H ds vs):∀k:Nat,a7 K θ H (List.replicate k ds).flatten (List.replicate k vs).flatten
 | 0=>rfl
 | k+1=>by
  rw[replicate_succ,replicate_succ,flatten_cons,flatten_cons];exact bD h (lY h k)
end
theorem cW {N ps:List Str}{sc:Scope}(h1:sc.kind=.function:=by rfl)(h2:sc.isCoroutine=false:=by rfl)(h3:sc.isGenerator=false:=by rfl)(h4:N.Nodup:=by decide +kernel)(h5:N.take ps.length=ps:=by rfl)
  (h6:∀x∈ps,sc.names.lookup x=some .local∨sc.names.lookup x=some .cell:=by decide +kernel) (h7:∀y∈sc.names,y.2≠.free:=by decide +kernel):iu N ps sc:=⟨h1,h2,h3,h4,h5,h6,h7⟩
section
variable {X:Cx}{e:Expr}{es:List Expr}{x:Str}{p pos:Pos}{gA:GA}{k k' n:Nat}{f:Addr}{fd:FuncData}{ps:List Str}{F:FD}{st:Stmt}{id:String}{T:String}
theorem Fc (hc:QC X (.builtin id) F)(hm:X.mg x=none)(hv:bootBuiltins x=some (.builtin id))(ha:QA X (e::es) gA)(hg:Gl X x:=by rfl)(hn:x≠"__name__":=by decide)(hdb:(x==("__debug__":Str))=false:=by decide)
  (h1:aC e=true:=by rfl) (h2:dA es=true:=by rfl):QE X (.Call (.Name x p) (e::es) [] pos) (az F gA):=Bn hc hg hm hv ha hn hdb h1 h2
end
def FF (K:W.Frag)(mg:Str→Option Value)(x:Str)(st:Stmt)(ps:List Str):Prop:=∃f fd,Fn K mg x st f fd ps
def KC (K:W.Frag)(mg:Str→Option Value)(c:Str)(C:Addr):Prop:=Kc K mg c C∧W.makesIn K C=true∧W.keepIn K (.ref C)=true
def MF (K:W.Frag)(mg:Str→Option Value)(c m q:Str)(st:Stmt)(ps:List Str):Prop:=∃C f fd,KC K mg c C∧Mf K C m q st f fd ps
def LF (K:W.Frag)(mg:Str→Option Value)(x:Str)(st:Stmt)(ps:List Str):Prop:=∃f fd c P,Fn K mg x st f fd ps∧W.nsIn K mainGlobals x=some (some (.ref f))∧II K x c P
def NA (K:W.Frag)(mg:Str→Option Value)(c f:Str):Prop:=∃C,KC K mg c C∧Es K C f
def EX (K:W.Frag)(mg:Str→Option Value)(x:Str):Prop:=∃C,Ec K mg x C
def IX (K:W.Frag)(mg:Str→Option Value)(x:Str)(tab:List (Str×Bool)):Prop:=∃G,Ec K mg x G∧∀p∈tab,∃C,Ec K mg p.1 C∧W.mroIn K C (.ref G)=some p.2
def IB (K:W.Frag)(mg:Str→Option Value)(x:String)(tab:List (Str×Bool)):Prop:=∀p∈tab,∃C,Ec K mg p.1 C∧W.mroIn K C (.type x)=some p.2
def Ls {α:Type}(P:α→Prop)(l:List α):Prop:=∀t∈l,P t
section
variable {α β γ:Type}{P:α→Prop}{l:List α}{a:α}
theorem Ls.nil:Ls P []:=fun _ h=>by cases h
theorem Ls.cons (h:P a)(t:Ls P l):Ls P (a::l):=fun x hx=>by
 rcases mem_cons.mp hx with e|e
 ·rw[e];exact h
 ·exact t x e
end
structure RN (l c:Nat)(xs R:List Str):Prop
theorem rn (l c:Nat)(xs R:List Str):RN l c xs R:=⟨⟩
def Ok (P:Program)(w:World)(K:W.Frag)(mg:Str→Option Value)(base:Heap)(x:Str)(k n:Nat)(F:FD):Prop:=
 ∃f fd ps,fU P w K mg base (kr P w) k f fd ps (sh K n F)∧mg x=some (.ref f)∧W.keepIn K (.ref f)=true∧ib K fd ps []
section
variable {P:Program}{w:World}{K:W.Frag}{mg:Str→Option Value}{base:Heap}{x c m q:Str}{st:Stmt}{N ps:List Str}{k n:Nat}{g:GS}{F:FD}
theorem jK (h:Ok P w K mg base x k n F):Ok P w K mg base x k n fun ds M=>dJ M.length (F ds M):=by
 obtain⟨f,fd,ps,h1,h2,h3,h4⟩:=h;exact⟨f,fd,ps,DK h1,h2,h3,h4⟩
theorem fR (T:FF K mg x st ps)(N:List Str)(S:iu N ps (bq st))(hn:ps.length=n)
  (hb:∀(f:Addr) (cdv:Value) (A:Around) (outer:List Env) (s:Shared) (H:Hp) (E:XK),N.Nodup→cB k (A.deeper (envOfC x (bq st) s.heap.objs.size f cdv))→QB (jm (kr P w) P w K mg base N x (bq st) f cdv A outer s H E) (dP st) g) :
  Ok P w K mg base x (k+1) n (cr (N.length-n) g):=by
 obtain⟨f,fd,T⟩:=T;exact⟨f,fd,ps,FH T.F S hn fun cdv A outer s H E hr=>hb f cdv A outer s H E S.nd hr,T.m,T.F.kp,T.b⟩
end
section
variable {X:Cx}{e a o value:Expr}{es:List Expr}{x c m f:Str}{p p2 pos apos pos':Pos}{gA:GA}{g go gv:GE}{k k' n:Nat}{F:FD}{tab:List (Str×Bool)}{bs:List Str}
theorem E0 (h:Ok X.prog X.w X.K X.mg X.base x k n F)(hr:cB k' X.A)(ha:QA X (e::es) gA)(hk:k≤k':=by first|decide|omega)(hg:Gl X x:=by rfl)
  (hdb:(x==("__debug__":Str))=false:=by decide) (h1:aC e=true:=by rfl) (h2:dA es=true:=by rfl):QE X (.Call (.Name x p) (e::es) [] pos) (ar n F gA):=by
 obtain⟨f,fd,ps,h1',h2',h3,h4⟩:=h;exact Ft h1' (hr.mono hk) hg h2' h3 h4 ha hdb h1 h2
theorem ur {np cpos:Pos}(h:EX X.K X.mg x)(he:QE X e g)(hg:Gl X x:=by rfl)(hc:X.calm=true:=by rfl)(h1:aC e=true:=by rfl)(hd:(x==("__debug__":Str))=false:=by decide):QS X (.Raise (some (.Call (.Name x np) [e] [] cpos)) none pos) (cS x g):=by
 obtain⟨C,h⟩:=h;exact wl h hg he hc h1 hd
theorem zG (h:IX X.K X.mg x tab)(hmi:X.mg "isinstance"=none)(he:QE X e g)(hg:Gl X x:=by rfl)(hgi:Gl X "isinstance":=by rfl)
  (h1:aC e=true:=by rfl) (hd:(x==("__debug__":Str))=false:=by decide):QE X (.Call (.Name "isinstance" p) [e,.Name x p2] [] pos) (fj (pR tab) g):=by
 obtain⟨G,h,t⟩:=h;exact CW h.m (xt fun p hp=>(t p hp).elim fun C q=>⟨C,q.1.at_,q.1.k,Ay h q.2⟩) hg hgi hmi he h1 hd
theorem xO {T:String}(h:IB X.K X.mg T tab)(hm:X.mg x=none)(hmi:X.mg "isinstance"=none)(he:QE X e g)(hT:W.kitMeta T=true)(hv:bootBuiltins x=some (.type T))(hg:Gl X x:=by rfl)(hgi:Gl X "isinstance":=by rfl)
  (h1:aC e=true:=by rfl) (hn:x≠"__name__":=by decide) (hd:(x==("__debug__":Str))=false:=by decide):QE X (.Call (.Name "isinstance" p) [e,.Name x p2] [] pos) (fj (pR tab) g):=
 zh hv hm (xt fun p hp=>(h p hp).elim fun C q=>⟨C,q.1.at_,q.1.k,vJ hT q.2⟩) hg hgi hmi he h1 hn hd
theorem Au {l:List Str}{G n:Str}{i:Nat}{gB gh:GS}{body suite:List Stmt}{b0:Stmt}{np hpos:Pos}(h:IX X.K X.mg G tab)(hN:X.N.Nodup)
  (hb:∀pn E,QB (lA X pn E) body gB) (hh:∀pn a,QB (iW X pn a) (b0::suite) gh) (hl:tab=l.map (·,true):=by rfl)
  (hg:Gl X G:=by rfl) (hst:X.stack=X.env::X.outer:=by rfl) (hf:X.env.frame=some X.env.locals:=by rfl) (hi:X.N[i]?=some n:=by rfl) (hl:X.env.kindOf n=some .local:=by rfl) (hfn:X.fn n=true∨X.env.scope.names.lookup n=some .local:=by first|exact .inl rfl|exact .inr rfl)
  (hd:(G==("__debug__":Str))=false:=by decide):QS X (.Try body [.ExceptHandler (some (.Name G np)) (some n) (b0::suite) hpos] [] [] pos) (nN i (List.contains l) gB gh):=by
 obtain⟨C,h,t⟩:=h;refine B2 h (JZ (l:=l) fun c hc=>?_) hN hb hh hg hst hf hi hl hfn hd;subst tab;obtain⟨D,q1,q2⟩:=t (c,true) (mem_map.mpr ⟨c,hc,rfl⟩);exact⟨D,q1.at_,q2⟩
end
section
variable {X:Cx}{x:Str}{pos px:Pos}{ge:GE}{scope:Scope}{xs R:List Str}{iter elt tg:Expr}{ifs:List Expr}{gI:GI}{gC:GT}{sg:GG}{mk:List D→av→aN D}{j:Nat}{y:Str}{py spos:Pos}{n:Nat}
theorem yg (hS:bZ scope X.env.kindOf [x] X.N X.N=true)(hm:mk=aJ∨mk=cy)(hi:QI X (.Name x px) iter gI)(hts:zQ X scope [x] X.N ifs gC)(he:∀fp s H C,QE (aB X scope [x] X.N fp s H C) elt ge)
  (hc:X.calm=true:=by rfl) (hs:∀x,foldedSetIterable iter X.env x=pure x:=by intro _;rfl):QE X (.ListComp elt [⟨.Name x px,iter,ifs,0⟩] scope pos) (aX gI gC ge mk):=za hS hm hi hts he hc hs
theorem qz (hS:bZ scope X.env.kindOf [x] X.N X.N=true)(hm:mk=aJ∨mk=cy)(hN:X.N.Nodup)(hi:QI X (.Name x px) iter gI)(hts:zQ X scope [x] X.N ifs gC)(he:∀fp s H C,QE (aB X scope [x] X.N fp s H C) elt ge)
  (hc:X.calm=true:=by rfl) (hj:X.N[j]?=some y:=by rfl) (hy:X.env.scope.names.lookup y=some .local:=by rfl) (hsw:swapsWith (.ListComp elt [⟨.Name x px,iter,ifs,0⟩] scope pos) (some (.Name y py)) spos.line X.env=pure true:=by rfl)
  (hs:∀x,foldedSetIterable iter X.env x=pure x:=by intro _;rfl):QS X (.Assign [.Name y py] (.ListComp elt [⟨.Name x px,iter,ifs,0⟩] scope pos) spos) (au j (aX gI gC ge mk)):=sr hS hm hN hi hts he hc hj hy hsw hs
theorem u6 (_:RN pos.line pos.col xs R)(hS:bZ scope X.env.kindOf xs R X.N=true)(hm:mk=aJ∨mk=cy)(own:QO xs.length sg)(hi:QI X tg iter gI)(hg:∀fp s H C,QG (aB X scope xs R fp s H C) tg sg)(hts:zQ X scope xs R ifs gC)(he:∀fp s H C,QE (aB X scope xs R fp s H C) elt ge)
  (hn:xs.length=n:=by rfl) (hc:X.calm=true:=by rfl) (hs:∀x,foldedSetIterable iter X.env x=pure x:=by intro _;rfl):QE X (.ListComp elt [⟨tg,iter,ifs,0⟩] scope pos) (bR gI n sg gC ge mk):=hn▸wa xs hS hm own hi hg hts he hc hs
end
structure Tx (tab:List (Str×Stmt×List Str))(mtab:List (Str×Str×Str×Stmt×List Str))(ls:List (Str×Stmt×List Str))(zs es:List Str)(rs:List (Str×List (Str×Bool)))(vt:List (Str×Bool))(nas:List (Str×Str))(cs:List (Str×Str))(ci:List (Str×Int))
  (P:Program) (w:World) (K:W.Frag) (mg:Str→Option Value) (base:Heap):Prop where
 f:Ls (fun t=>FF K mg t.1 t.2.1 t.2.2) tab
 m:Ls (fun t=>MF K mg t.1 t.2.1 t.2.2.1 t.2.2.2.1 t.2.2.2.2) mtab
 l:Ls (fun t=>LF K mg t.1 t.2.1 t.2.2) ls
 z:∀x∈zs,mg x=none
 e:∀x∈es,EX K mg x
 r:Ls (fun t=>IX K mg t.1 t.2) rs
 b:IB K mg "ValueError" vt
 a:∀t∈nas,NA K mg t.1 t.2
 s:Ls (fun t=>∃tk,mg t.1=some (.str t.2 tk)) cs
 i:Ls (fun t=>∃tk,mg t.1=some (.int t.2 tk)) ci
theorem Ba {K:W.Frag}{mg:Str→Option Value}{l:List (Str×List (Str×Bool))}{x:Str}{t:List (Str×Bool)}(h:Ls (fun t=>IX K mg t.1 t.2) l)(e:l.lookup x=some t):IX K mg x t:=by
 refine h (x,t) ?_
 induction l with
 | nil=>cases e
 | cons p l ih=>
  obtain⟨y,u⟩:=p;rw[lookup_cons] at e;split at e
  ·rename_i q;cases e;rw[eq_of_beq q];exact .head _
  ·exact .tail _ (ih (fun t ht=>h t (.tail _ ht)) e)
section
variable {K:W.Frag}{mg:Str→Option Value}{x c m q:Str}{st:Stmt}{ps:List Str}{l:List (Str×Stmt×List Str)}{l':List (Str×Str×Str×Stmt×List Str)}
theorem fQ (h:Ls (fun t=>FF K mg t.1 t.2.1 t.2.2) l)(i:Nat)(e:l[i]?=some (x,st,ps):=by rfl):FF K mg x st ps:=h _ (mem_of_getElem? e)
theorem JY {l:List (Str×Str)}{z:Str}(h:Ls (fun t=>∃tk,mg t.1=some (.str t.2 tk)) l)(i:Nat)(e:l[i]?=some (x,z):=by rfl):∃tk,mg x=some (.str z tk):=h _ (mem_of_getElem? e)
theorem Ka {l:List (Str×Int)}{z:Int}(h:Ls (fun t=>∃tk,mg t.1=some (.int t.2 tk)) l)(i:Nat)(e:l[i]?=some (x,z):=by rfl):∃tk,mg x=some (.int z tk):=h _ (mem_of_getElem? e)
end
section
variable {K:W.Frag}{h:Heap}{mg:Str→Option Value}{x c m q f':Str}{st:Stmt}{ps:List Str}{f C G:Addr}{oc kV dc pm cd ct:Value}{od an:Option Addr}{sl:Array (Option Value)}
theorem FI (X:K.In h)(Gm:h.Ns mainGlobals mg)(a:W.nsIn K mainGlobals x=some (some (.ref f)))(l:K.lookup f=some ⟨oc,od,.func (W.fnOf x x (gw st) (dP st) (bq st) .none kV dc pm an cd ct),sl⟩)(c:W.codeIn K cd x=true)(k:W.keepIn K (.ref f)=true)
  (b:∀(kV doc pm:Value) (an:Option Addr) (cdv ct:Value) (us:List Value),us.length=ps.length→bindArgs (W.fnOf x x (gw st) (dP st) (bq st) .none kV doc pm an cdv ct) ⟨us,[]⟩=pure (ps.zip us)):FF K mg x st ps:=
 ⟨f,_,xR (st:=st) l c k,W.mg_of X Gm a,(xR (st:=st) l c k).binds b⟩
theorem GC (kC:KC K mg c C)(a:W.findIn K (.ref C) f'=some none):NA K mg c f':=⟨C,kC,a⟩
theorem Fa (X:K.In h)(Gm:h.Ns mainGlobals mg)(q:W.nsIn K mainGlobals x=some (some (.ref C)))(cl:W.isClsIn K C=true)(ca:W.findIn K (.ref C) "__class__"=some (some (.builtin "object.__class__")))(sp:W.specialIn K (.builtin "object.__class__") "__get__"=some (some (.builtin "getset_descriptor.__get__")))(tk:W.takesIn K (.builtin "object.__class__")=some true)
  (ob:W.mroIn K C (.type "object")=some true) (ga:W.findIn K (.ref C) "__getattribute__"=some (some (.builtin "BaseException.__getattribute__"))) (gh:W.findIn K (.ref C) "__getattr__"=some none) (be:W.mroIn K C (.type "BaseException")=some true)
  (ex:W.excIn K C FC "ValueError.__new__"=true) (ty:W.typeIn K (.ref C)=some (.type "type")) (sf:W.mroIn K C (.ref C)=some true):Ec K mg x C:=⟨q,W.mg_of X Gm q,⟨cl,ca,sp,tk,ob,ga,gh,be⟩,ex,ty,sf⟩
theorem Gq (h:Ec K mg x C):EX K mg x:=⟨C,h⟩
theorem EY {tab:List (Str×Bool)}(h:Ec K mg x G)(t:Ls (fun p=>∃C,Ec K mg p.1 C∧W.mroIn K C (.ref G)=some p.2) tab):IX K mg x tab:=⟨G,h,t⟩
theorem FQ {T:Value}{b:Bool}(h:Ec K mg x C)(e:W.mroIn K C T=some b):∃C,Ec K mg x C∧W.mroIn K C T=some b:=⟨C,h,e⟩
theorem Je (X:K.In h)(Gm:h.Ns mainGlobals mg)(e:W.nsIn K mainGlobals x=some none):mg x=none:=W.mg_none_of X Gm e
theorem FW {u:Tok→Value}{tk:Tok}(X:K.In h)(Gm:h.Ns mainGlobals mg)(e:W.nsIn K mainGlobals x=some (some (u tk))):∃tk,mg x=some (u tk):=⟨tk,W.mg_of X Gm e⟩
end
theorem DB {l:W.OpenLaw}{w:World}{K:W.Frag}{mg:Str→Option Value}{fa:Addr}{st:Stmt}{k:Nat}{F:FD}(hfa:mg "law"=some (.ref fa))(L:FF K mg "law" st ["script"])
  (h:∀(base:Heap) (f:Addr) (fd:FuncData),Fn K mg "law" st f fd ["script"]→fU l.prog w K mg base (kr l.prog w) k f fd ["script"] (sh K 1 F))
  (hb:∀(kV doc pm:Value) (an:Option Addr) (cdv ct:Value) (v:Value),bindArgs (W.fnOf "law" "law" (gw st) (dP st) (bq st) .none kV doc pm an cdv ct) ⟨[v],[]⟩=pure [(("script":Str),v)]) :
  ∃fd:FuncData,(∀(s:Shared) (v:Value),BindsTo s fd ⟨[v],[]⟩ [("script",v)])∧∀base:Heap,K.In base→base.Ns mainGlobals mg→fU l.prog w K mg base (kr l.prog w) k fa fd ["script"] (sh K 1 F):=by
 obtain⟨f,fd,L⟩:=L;have e:=hfa.symm.trans L.m;cases e;refine⟨fd,fun s v=>?_,fun base _ _=>h base _ fd L⟩;obtain⟨oc,od,kV,doc,pm,an,cdv,ct,osl,rfl,lk,hcd⟩:=L.F.ex;exact .of_eq (hb kV doc pm an cdv ct v)
section
variable {X:Cx}{e:Expr}{g:GE}{pos pos':Pos}
def kj (i:Nat)(g:GE):GS:=fun ρ M=>(ae i ρ M).bind fun x M0=>(g ρ M0).bind fun y M1=>(rY x y M1).bind fun z M2=>.ok (.nx (ρ.set i (some z))) M2
theorem zU {i:Nat}{x:Str}(hN:X.N.Nodup)(hi:X.N[i]?=some x)(hx:qH X.env.scope x)(he:PE X e (tE X g))(hf:X.fn x=true∨X.env.scope.names.lookup x=some .local) :
  PS X (.AugAssign (.Name x pos') .Add e pos) (tS X (kj i g)):=
 (yF hN hi hx he Cq hf).of fun D σ H hxx=>by
  obtain⟨ρ,θ,M,hd,hw,h⟩:=hxx;unfold kj ae at h;split at h
  ·rename_i d q;obtain⟨v,e1,r⟩:=hd.at_ i d q;refine⟨v,e1,?_⟩;have h:bK X θ H D ((g ρ M).bind fun y M1=>(rY d y M1).bind fun z M2=>.ok (.nx (ρ.set i (some z))) M2):=h;refine bG hd hw (bK X θ H D) (fun c M' h=>h) (fun h=>h) h fun y M1 vy θ1 H1 g1 r1 h1=>?_
   have h1:=bK.go g1 h1;refine⟨θ1,M1,d,y,g1.wr,r.go g1,r1,?_⟩;cases qa:rY d y M1 with
   | bad=>rw[qa] at h1;exact h1.elim
   | err c2 M3=>rw[qa] at h1;exact h1
   | ok z M3=>
    rw[qa,ah] at h1;intro vz θ3 H3 g3 rz;exact h1 _ θ3 H3 g3 (((hd.go g1).go g3).set rz i)
  ·exact h.elim
theorem AO {x:Str}(i:Nat)(hN:X.N.Nodup)(he:QE X e g)(hi:X.N[i]?=some x:=by rfl)(hx:qH X.env.scope x:=by first|exact Or.inl rfl|exact Or.inr rfl)(hf:X.fn x=true∨X.env.scope.names.lookup x=some .local:=by first|exact .inl rfl|exact .inr rfl) :
  QS X (.AugAssign (.Name x pos') .Add e pos) (kj i g):=⟨zU hN hi hx he.h hf⟩
end
end DL
namespace DL
open PySem PySem.Spec PyProof.Rows PySem.W L2 List
section
variable {key:Nat→Int}{N:Nat}{s:Shared}{cmp:Nat→Nat→(Bool→Shared→Prop)→Shared→Prop}
def kp (key:Nat→Int)(p:Array Nat)(k:Nat):Int:=key (p.getD k 0)
def uS (N:Nat)(p:Array Nat):Prop:=∀k,p.getD k 0<N
def up (key:Nat→Int)(p:Array Nat)(n:Nat):Prop:=∀k,k+1<n→kp key p k≤kp key p (k+1)
def xK (key:Nat→Int)(p:Array Nat)(n:Nat):Prop:=∀k,k+1<n→kp key p (k+1)≤kp key p k
def pd (key:Nat→Int)(N:Nat)(s:Shared)(cmp:Nat→Nat→(Bool→Shared→Prop)→Shared→Prop):Prop:=∀i j C,i<N→j<N→C (decide (key i<key j)) s→cmp i j C s
theorem wv {p q:Array Nat}{i j:Nat}(h:p[i]?=q[j]?):kp key p i=kp key q j:=by
 unfold kp;rw[Array.getD_eq_getD_getElem?,Array.getD_eq_getD_getElem?,h]
theorem Ea {p q:Array Nat}(h:∀k:Nat,∃j:Nat,p[k]?=q[j]?)(i:uS N q):uS N p:=fun k=>by
 obtain⟨j,e⟩:=h k;have:=i j;rw[Array.getD_eq_getD_getElem?] at this ⊢;rw[e];exact this
theorem Bh {p:Array Nat}{n:Nat}(h:up key p n):∀(d i:Nat),i+d<n→kp key p i≤kp key p (i+d)
 | 0,i,_=>Int.le_refl _
 | d+1,i,q=>Int.le_trans (Bh h d i (by omega)) (h (i+d) (by omega))
theorem wb {p:Array Nat}{n i j:Nat}(h:up key p n)(hij:i≤j)(hj:j<n):kp key p i≤kp key p j:=by
 have:=Bh h (j-i) i (by omega);rwa [show i+(j-i)=j by omega] at this
theorem rK {p:Array Nat}{i j:Nat}(hj:j≤p.size)(k:Nat):(kas_rev p i j)[k]?=if i≤k∧k<j then p[i+j-1-k]? else p[k]?:=getElem?_mirror_all hj k
theorem lc {p:Array Nat}{i j:Nat}(hj:j≤p.size)(h:uS N p):uS N (kas_rev p i j):=Ea (fun k=>by
 rw[rK hj k];split
 ·exact⟨_,rfl⟩
 ·exact⟨_,rfl⟩) h
theorem lH {p:Array Nat}{i j:Nat}(hj:j≤p.size)(e:∀k,i≤k→k<j→kp key p k=kp key p (j-1))(k:Nat):kp key (kas_rev p i j) k=kp key p k:=by
 have h:=rK (i:=i) hj k
 by_cases q:i≤k∧k<j
 ·rw[if_pos q] at h;rw[wv h,e _ (by omega) (by omega),e k q.1 q.2]
 ·rw[if_neg q] at h;exact wv h
theorem qL (hc:pd key N s cmp){p:Array Nat}(hp:uS N p){Q:Nat→Shared→Prop}:∀(f n:Nat),1≤n→up key p n→(∀m,n≤m→m≤n+f→up key p m→(m<n+f→kp key p m<kp key p (m-1))→Q m s)→(kas_asc p f n).kasWp cmp Q s
 | 0,n,h1,u,h=>h n (Nat.le_refl _) (Nat.le_refl _) u (fun z=>absurd z (by omega))
 | f+1,n,h1,u,h=>by
  refine hc _ _ _ (hp _) (hp _) ?_
  by_cases q:kp key p n<kp key p (n-1)
  ·rw[decide_eq_true (show key (p.getD n 0)<key (p.getD (n-1) 0) from q)];exact h n (Nat.le_refl _) (by omega) u fun _=>q
  ·rw[decide_eq_false (show¬key (p.getD n 0)<key (p.getD (n-1) 0) from q)];refine qL hc hp f (n+1) (by omega) (fun k hk=>?_) fun m a b c d=>h m (by omega) (by omega) c fun z=>d (by omega)
   by_cases e:k+1<n
   ·exact u k e
   ·have:k=n-1:=by omega
    subst this;rw[show n-1+1=n by omega];omega
theorem kL (hc:pd key N s cmp){Q:Array Nat×Nat×Nat→Shared→Prop}:∀(f:Nat) (p:Array Nat) (n q:Nat),uS N p→n+f≤p.size→q+1≤n→xK key p n→(∀k,n-(q+1)≤k→k<n→kp key p k=kp key p (n-1))→
  (∀p' n' q',p'.size=p.size→p'.Perm p→uS N p'→n≤n'→n'≤n+f→q'+1≤n'→xK key p' n'→(∀k,n'-(q'+1)≤k→k<n'→kp key p' k=kp key p' (n'-1))→Q (p',n',q') s)→(kas_desc f p n q).kasWp cmp Q s
 | 0,p,n,q,hp,hz,hq,hd,he,h=>h p n q rfl (Array.Perm.refl _) hp (Nat.le_refl _) (Nat.le_refl _) hq hd he
 | f+1,p,n,q,hp,hz,hq,hd,he,h=>by
  refine hc _ _ _ (hp _) (hp _) ?_
  by_cases c:kp key p n<kp key p (n-1)
  ·rw[decide_eq_true (show key (p.getD n 0)<key (p.getD (n-1) 0) from c)];dsimp only;rw[if_pos rfl];have hd':xK key p (n+1):=fun k hk=>by
    by_cases e:k+1<n
    ·exact hd k e
    ·have:k=n-1:=by omega
     subst this;rw[show n-1+1=n by omega];omega
   by_cases z:q>0
   ·rw[if_pos z];have sm:=lH (key:=key) (p:=p) (i:=n-(q+1)) (j:=n) (by omega) he;refine kL hc f (kas_rev p (n-(q+1)) n) (n+1) 0 (lc (by omega) hp) (by rw[kas_rev_size];omega) (by omega) (fun k hk=>by rw[sm,sm];exact hd' k hk) (fun k a b=>by rw[show k=n by omega];rfl) fun p' n' q' a b c1 d e g i j=>h p' n' q' (a.trans (kas_rev_size ..)) (b.trans (mirror_perm ..)) c1 (by omega) (by omega) g i j
   ·rw[if_neg z];exact kL hc f p (n+1) 0 hp (by omega) (by omega) hd' (fun k a b=>by rw[show k=n by omega];rfl) fun p' n' q' a b c1 d e g i j=>h p' n' q' a b c1 (by omega) (by omega) g i j
  ·rw[decide_eq_false (show¬key (p.getD n 0)<key (p.getD (n-1) 0) from c)];dsimp only;rw[if_neg (by simp)];refine hc _ _ _ (hp _) (hp _) ?_
   by_cases c2:kp key p (n-1)<kp key p n
   ·rw[decide_eq_true (show key (p.getD (n-1) 0)<key (p.getD n 0) from c2)];dsimp only;rw[if_pos rfl];exact h p n q rfl (Array.Perm.refl _) hp (Nat.le_refl _) (by omega) hq hd he
   ·rw[decide_eq_false (show¬key (p.getD (n-1) 0)<key (p.getD n 0) from c2)];dsimp only;rw[if_neg (by simp)];have eq:kp key p n=kp key p (n-1):=by omega
    refine kL hc f p (n+1) (q+1) hp (by omega) (by omega) (fun k hk=>?_) (fun k a b=>?_) fun p' n' q' a b c1 d e g i j=>h p' n' q' a b c1 (by omega) (by omega) g i j
    ·by_cases e:k+1<n
     ·exact hd k e
     ·have:k=n-1:=by omega
      subst this;rw[show n-1+1=n by omega];omega
    ·show _=kp key p n
     by_cases e:k<n
     ·rw[he k (by omega) e];omega
     ·rw[show k=n by omega]
theorem oQ (hc:pd key N s cmp){p:Array Nat}{n m:Nat}(hp:uS N p)(h1:1≤n)(hn:n≤m)(hz:m≤p.size)(hd:xK key p n){Q:Nat×Array Nat→Shared→Prop}
  (h:∀k p',p'.size=p.size→p'.Perm p→uS N p'→1≤k→k≤m→up key p' k→Q (k,p') s):(kas_tail3 n m p).kasWp cmp Q s:=by
 unfold kas_tail3;rw[KasT.kasWp_bind];have at':∀k,k<n→kp key (kas_rev p 0 n) k=kp key p (n-1-k):=fun k hk=>by
  have e:=rK (i:=0) (j:=n) (p:=p) (by omega) k;rw[if_pos ⟨by omega,hk⟩] at e;rw[wv e,show 0+n-1-k=n-1-k by omega]
 refine qL hc (lc (by omega) hp) _ n h1 (fun k hk=>?_) fun k a b c _=>h k _ (kas_rev_size ..) (mirror_perm ..) (lc (by omega) hp) (by omega) (by omega) c
 rw[at' k (by omega),at' (k+1) hk];have:=hd (n-1-(k+1)) (by omega);rwa [show n-1-(k+1)+1=n-1-k by omega] at this
theorem km (hc:pd key N s cmp){p:Array Nat}{n m:Nat}(hp:uS N p)(hn:n+1≤m)(hz:m≤p.size)(hd:xK key p (n+1)){Q:Nat×Array Nat→Shared→Prop}
  (h:∀k p',p'.size=p.size→p'.Perm p→uS N p'→1≤k→k≤m→up key p' k→Q (k,p') s):(kas_descPart n m p).kasWp cmp Q s:=by
 unfold kas_descPart;rw[KasT.kasWp_bind];refine kL hc _ p (n+1) 0 hp (by omega) (by omega) hd (fun k a b=>by rw[show k=n by omega];rfl) fun p' n' q' a b c d e g i j=>?_
 dsimp only;split
 ·have sm:=lH (key:=key) (p:=p') (i:=n'-(q'+1)) (j:=n') (by omega) j;exact oQ hc (lc (by omega) c) (by omega) (by omega) (by rw[kas_rev_size];omega) (fun k hk=>by rw[sm,sm];exact i k hk) fun k p2 a2 b2 c2 d2 e2 g2=>h k p2 (a2.trans ((kas_rev_size ..).trans a)) (b2.trans ((mirror_perm ..).trans b)) c2 d2 e2 g2
 ·exact oQ hc c (by omega) (by omega) (by omega) i fun k p2 a2 b2 c2 d2 e2 g2=>h k p2 (a2.trans a) (b2.trans b) c2 d2 e2 g2
theorem qi (hc:pd key N s cmp){p:Array Nat}{m:Nat}(hp:uS N p)(h1:1≤m)(hz:m≤p.size){Q:Nat×Array Nat→Shared→Prop}
  (h:∀k p',p'.size=p.size→p'.Perm p→uS N p'→1≤k→k≤m→up key p' k→Q (k,p') s):(kas_count m p).kasWp cmp Q s:=by
 unfold kas_count;rw[KasT.kasWp_bind];refine qL hc hp _ 1 (Nat.le_refl _) (fun k hk=>absurd hk (by omega)) fun n a b c d=>?_
 by_cases e:n=m
 ·rw[if_pos (by simp[e])];exact h n p rfl (Array.Perm.refl _) hp a (by omega) c
 ·rw[if_neg (by simp[e])];have lt:=d (by omega)
  by_cases z:n>1
  ·rw[if_pos z];refine hc _ _ _ (hp _) (hp _) ?_
   by_cases t:kp key p 0<kp key p (n-1)
   ·rw[decide_eq_true (show key (p.getD 0 0)<key (p.getD (n-1) 0) from t)];dsimp only;rw[if_pos rfl];exact h n p rfl (Array.Perm.refl _) hp a (by omega) c
   ·rw[decide_eq_false (show¬key (p.getD 0 0)<key (p.getD (n-1) 0) from t)];dsimp only;rw[if_neg (by simp)];have al:∀k,0≤k→k<n→kp key p k=kp key p (n-1):=fun k _ hk=>by
     have x:=wb c (show 0≤k by omega) hk;have y:=wb c (show k≤n-1 by omega) (by omega);omega
    have sm:=lH (key:=key) (p:=p) (i:=0) (j:=n) (by omega) al;refine km hc (lc (by omega) hp) (by omega) (by rw[kas_rev_size];omega) (fun k hk=>?_) fun k p2 a2 b2 c2 d2 e2 g2=>h k p2 (a2.trans (kas_rev_size ..)) (b2.trans (mirror_perm ..)) c2 d2 e2 g2
    rw[sm,sm]
    by_cases w:k+1<n
    ·rw[al k (by omega) (by omega),al (k+1) (by omega) w];exact Int.le_refl _
    ·have:k=n-1:=by omega
     subst this;rw[show n-1+1=n by omega];omega
  ·rw[if_neg z];have e1:n=1:=by omega
   subst e1;refine km hc hp (by omega) hz (fun k hk=>?_) h;have:k=0:=by omega
   subst this;exact Int.le_of_lt lt
end
end DL
namespace DL
open PySem PySem.Spec PyProof.Rows L2 List
end DL
namespace DL
open PySem PySem.Spec PyProof.Rows PySem.W L2 List
end DL
namespace DL
open PySem PySem.Spec PyProof.Rows L2 List
section
variable {X:Cx}
def GP:V→V→Hp→VK→Prop:=fun x y H Q=>∃l k xs,x=.ref l∧y=.int k∧H l=some (.lst xs)∧0≤k∧k≤100000∧xs.length*k.toNat≤100000∧∀p,H p=none→Q (.ref p) (cp H p (.lst (List.replicate k.toNat xs).flatten))
theorem pW {α:Type}:∀k:Nat,(List.replicate k ([]:List α)).flatten=[]
 | 0=>rfl
 | k+1=>by rw[replicate_succ,flatten_cons,pW k];rfl
theorem sG:dM X (binaryOp .Mult) GP:=by
 intro af s σ H x y v u Q I rx ry h;obtain⟨l,k,xs,rfl,rfl,hH,h1,h2,hz,q⟩:=h;cases rx;obtain⟨t,rfl⟩:=ry;obtain⟨its,r,pl,z⟩:=I.list (.inl (.inl hH));have hl:=r.length;obtain⟨n,e⟩:∃n,s.heap.get? l=some {cls:=.type "list",dict:=none,data:=.seq its.toArray n,slots:=#[]}:=by
  have:=I.hok l _ hH;obtain⟨_,its',n,r',e⟩:=this;have:its=its':=by
   obtain⟨o,e1,_,m,e2⟩:=pl.isList;rw[e] at e1;cases e1;cases e2;rfl
  subst this;exact⟨n,e⟩
 have hnew:List.foldl (fun x1 x2=>x1++x2) #[] (List.replicate (if its.toArray.isEmpty=true then 0 else k.toNat) its.toArray)=(List.replicate k.toNat its).flatten.toArray:=by
  cases its with
  | nil=>
   rw[pW];rfl
  | cons a b=>
   have:=m8 (a::b) k.toNat [];rw[nil_append] at this;exact this
 have fl:(List.replicate k.toNat its).flatten.length≤100000:=by rw[sY,←hl,Nat.mul_comm];exact hz
 have hsz:its.toArray.size*k.toNat≤100000:=by rw[size_toArray,←hl];exact hz
 refine wpAny_binaryOp_repeat_ref (T:="list") (U:="int") (by decide) ⟨_,e,rfl⟩ (fun s'=>typeIs_int s' k t) PySem.noFill_list_mul PySem.F.fills_int_mul PySem.F.slot_int_rmul PySem.repeat_list PySem.F.slot_int_index.lookup
  (call_meets PySem.F.slot_int_rmul (typeIs_int s k t) PySem.F.entry_int_rmul (PySem.F.args_int_rmul_2 _ _) (PySem.int___rmul___int_list k t l its.toArray n)
   ⟨e,rfl,⟨_,e,rfl⟩,call_meets PySem.F.slot_list_mul ⟨_,e,rfl⟩ PySem.F.entry_list_mul (PySem.F.args_list_mul_2 _ _) (AutoListH.list___mul___list_int_3 l its.toArray n k t
    (by unfold Builtin.List.listFitsIndex;simp;omega) (by omega) (by intro hh;unfold Builtin.List.listTooLong at hh;have hh:=of_decide_eq_true hh;rw[sizeLine_eq] at hh;omega)) ⟨e,?_⟩⟩)
 rw[hnew];refine⟨.ref _,_,I.laid (t':=s.toks) (fun _ _ q=>Heap.get?_push_of_some _ q) (Nat.le_refl _) (show cE X.prog X.w _ _ _ (.lst (List.replicate k.toNat xs).flatten) from ?_),rfl,q _ I.fresh⟩;exact⟨by rw[sY,Nat.mul_comm];exact aY (by omega),_,0,r.rep k.toNat,Heap.get?_push_size _ rfl⟩
def jH:F2:=fun x y M=>match jA x M,y with
 | some xs,.int k=>if 0≤k∧k≤100000∧xs.length*k.toNat≤100000 then .ok (.lst (List.replicate k.toNat xs).flatten) M else .bad
 | _,_=>.bad
def wQ:F2:=fun x y M=>match jA x M,y with
 | some xs,.int k=>if 0≤k∧k≤100000∧xs.length*k.toNat≤100000 then .ok (.mr M.length) (M++[.lst (List.replicate k.toNat xs).flatten]) else .bad
 | _,_=>.bad
theorem AS:dM X (binaryOp .Mult) (rD X jH):=by
 intro af s σ H x y v u Q I rx ry h;obtain⟨θ,M,dx,dy,hw,r1,r2,h⟩:=h;unfold jH at h;split at h
 ·rename_i xs k q1;split at h
  ·rename_i hc;obtain⟨a,vs,ea,ta,ra⟩:=lq hw r1 q1;have hl:=aq ra;exact sG af s σ H x y v u Q I rx ry ⟨a,k,vs,ea,r2,ta,hc.1,hc.2.1,by rw[←hl];exact hc.2.2,fun p hp=>h _ θ _ (dG hw hp) (fD hw hp (lY ra _))⟩
  ·exact h.elim
 ·exact h.elim
theorem Ad:dM X (binaryOp .Mult) (rD X wQ):=by
 intro af s σ H x y v u Q I rx ry h;obtain⟨θ,M,dx,dy,hw,r1,r2,h⟩:=h;unfold wQ at h;split at h
 ·rename_i xs k q1;split at h
  ·rename_i hc;obtain⟨a,vs,ea,ta,ra⟩:=lq hw r1 q1;have hl:=aq ra;exact sG af s σ H x y v u Q I rx ry ⟨a,k,vs,ea,r2,ta,hc.1,hc.2.1,by rw[←hl];exact hc.2.2,fun p hp=>h _ _ _ (l8 hw hp (lY ra _)) (jh hw)⟩
  ·exact h.elim
 ·exact h.elim
theorem BH:Q2 X (binaryOp .Mult) jH:=⟨AS⟩
theorem C6:Q2 X (binaryOp .Mult) wQ:=⟨Ad⟩
end
def E6:D→D→Option Bool
 | .int a,.int b=>some (decide (a<b))
 | .str a,.str b=>some (decide (a.cps.toList<b.cps.toList))
 | _,_=>none
def cM:List D→D→Option D
 | [],b=>some b
 | a::r,b=>match E6 a b with
  | some true=>cM r a
  | some false=>cM r b
  | none=>none
def Br:List D→Option D
 | a::r=>cM r a
 | _=>none
theorem DQ {K:W.Frag}{θ:List Addr}{H:Hp}{a b:D}{va vb:V}{ua ub:Value}{r:Bool}{A:Around}{s:Shared}{prog:Program}{w:World}{E:Value→Shared→Prop}{Q:Value→Shared→Prop}
  (h:E6 a b=some r) (ra:cD K θ H a va) (rb:cD K θ H b vb) (rua:RelV va ua) (rub:RelV vb ub) (q:Q (.bool r) s):wpAny (model prog w) A (richCompare .Lt ua ub) Q E s:=by
 cases a with
 | int x=>
  cases b with
  | int y=>
   cases h;have e1:va=.int x:=ra;have e2:vb=.int y:=rb;subst e1 e2;obtain⟨t,rfl⟩:=rua;obtain⟨t',rfl⟩:=rub;exact HT.rcLt_int _ _ _ _ _ _ _ _ _ _ q
  | _=>cases h
 | str x=>
  cases b with
  | str y=>
   cases h;have e1:va=.str x:=ra;have e2:vb=.str y:=rb;subst e1 e2;obtain⟨t,rfl⟩:=rua;obtain⟨t',rfl⟩:=rub;exact(PyProof.Rows.lt_str q:wpAny (model prog w) A (compareOp .Lt (.str x t) (.str y t')) Q E s)
  | _=>cases h
 | _=>cases h
theorem uK (a:Value):argsOk "min" ⟨[a],[]⟩:=by unfold argsOk;kernel_rfl
section
variable {X:Cx}{af:List (Addr×Obj)}{σ:L2.St}
theorem uF {l it S:Addr}{ds0:List D}{vs:List V}{Q:VK}{R:Result→Shared→Prop}{H:Hp}{θ:List Addr}{M:av}{db:D}{k:Nat}
  (hr:cB (k+1) X.A) (hcalm:X.calm=true) (hw:Wr X.K θ H M) (ta:nS X.K θ H l vs) (r:a7 X.K θ H ds0 vs)
  (hnI:S≠it) (hR:∀u s',EP X af σ Q u s'→R (.ok (.ret u)) s') (fi:iX X af H it) (fS:iX X af H S) (hQ:∀v,cD X.K θ H db v→Q v H) :
  ∀(rest:List D) (j:Nat) (s:Shared) (b:D) (vb:V) (ub:Value) (n:Nat),ds0.drop j=rest→L2.Inv X af σ H s→s.heap.IsListIter it l j→s.heap.get? S=some (seqObj "list" #[ub,ub] n)→
   cD X.K θ H b vb→RelV vb ub→cM rest b=some db→
   codeAny (model X.prog X.w) X.A (.builtin "min.loop" ⟨[.ref it,.none,.ref S],[]⟩) R s:=by
 have hname:(toString "min"++toString ".loop":String)="min.loop":=by decide
 have hr1:cB k X.A.in1:=hr.in1;intro rest
 induction rest with
 | nil=>
  intro j s b vb ub n hd I st eS rb rvb h;refine codeAny_builtin PySem.F.entry_min_loop ?_;rw[Around.under_plainId PySem.F.plain_min_loop _];show wpAny _ X.A.in1 (seqItems? (.ref S) >>= _) _ _ _;refine wpAny_bind (wpAny_seqItems eS rfl ?_);obtain⟨its,rv,p,hz⟩:=I.list ta.sq;have hlen:vs.length≤j:=by rw[←aq r];exact drop_eq_nil_iff.mp hd
  have hl:=rv.length;show wpAny _ X.A.in1 (tryCatch (pyNext (.ref it)) _ >>= _) _ _ _;refine wpAny_bind (wpAny_tryCatch (wpAny_pyNext_list_end (show X.A.in1.handled=none from I.ok.hd hcalm) st p.isList (by simp;omega) fun h' eb=>?_));have I1:L2.Inv X af σ H {s with heap:=h'}:=I.turned (t':=s.toks) (fun b o hb e=>eb b o hb e) fi.1 fi.2.1 fi.2.2.2.1 fi.2.2.2.2.1 fi.2.2.2.2.2;have eS':h'.get? S=some (seqObj "list" #[ub,ub] n):=eb S _ hnI eS;show wpAny _ X.A.in1 (updateSeq S (fun _=>#[]) >>= _) _ _ _;refine wpAny_bind (wpAny_updateSeq eS' rfl (wpAny_bind (wpAny_letGo (wpAny_pure ?_))));have I2:L2.Inv X af σ H {s with heap:=h'.update S (Obj.mapSeq fun _=>#[])}:=I1.turned (t':=s.toks) (fun b o hb e=>(Heap.get?_update_other h' _ (Ne.symm hb)).trans e) fS.1 fS.2.1 fS.2.2.2.1 fS.2.2.2.2.1 fS.2.2.2.2.2;have h:some b=some db:=h;cases h;exact hR ub _ ⟨vb,H,I2,rvb,hQ vb rb⟩
 | cons d rest ih=>
  intro j s b vb ub n hd I st eS rb rvb h;have hj:ds0[j]?=some d:=by
   have:=congrArg (·[0]?) hd;simpa using this
  have hd':ds0.drop (j+1)=rest:=by
   rw[←drop_drop,hd];rfl
  obtain⟨v,ev,rdv⟩:=dD r hj;refine codeAny_builtin PySem.F.entry_min_loop ?_;rw[Around.under_plainId PySem.F.plain_min_loop _];show wpAny _ X.A.in1 (seqItems? (.ref S) >>= _) _ _ _;refine wpAny_bind (wpAny_seqItems eS rfl ?_);obtain⟨its,rv,p,hz⟩:=I.list ta.sq;obtain⟨u,eu,ru⟩:=rv.get ev;show wpAny _ X.A.in1 (tryCatch (pyNext (.ref it)) _ >>= _) _ _ _;refine wpAny_bind (wpAny_tryCatch (wpAny_pyNext_list_item st p.isList (x:=u) (by simpa using eu) fun h' st' sb=>?_));have I1:L2.Inv X af σ H {s with heap:=h'}:=I.turned (t':=s.toks) (fun b o hb e=>(sb.2 b hb).trans e) fi.1 fi.2.1 fi.2.2.2.1 fi.2.2.2.2.1 fi.2.2.2.2.2;have eS1:h'.get? S=some (seqObj "list" #[ub,ub] n):=(sb.2 S hnI).trans eS;have h:(match E6 d b with|some true=>cM rest d|some false=>cM rest b|none=>none)=some db:=h;cases q:E6 d b with
  | none=>rw[q] at h;cases h
  | some r0=>
   rw[q] at h;refine wpAny_bind (wpAny_pure ?_);show wpAny _ X.A.in1 (tryCatch (holding [u,u] (richCompare .Lt u ub >>= _)) _ >>= _) _ _ _;refine wpAny_bind (wpAny_tryCatch (wpAny_holding (wpAny_bind (DQ q rdv rb ru rvb ?_))));refine wpAny_bind (wpAny_holding (wpAny_truthy_bool ?_));refine wpAny_bind (wpAny_letGo (wpAny_pure ?_));cases r0 with
   | true=>
    simp only[if_true];refine wpAny_bind (wpAny_updateSeq eS1 rfl (wpAny_bind (wpAny_letGo ?_)));rw[hname];obtain⟨n3,eS3⟩:∃n3,(h'.update S (Obj.mapSeq fun _=>#[u,u])).get? S=some (seqObj "list" #[u,u] n3):=⟨_,get?_update_seq eS1 fun _=>#[u,u]⟩;have kp:∀b o,b≠S→h'.get? b=some o→(h'.update S (Obj.mapSeq fun _=>#[u,u])).get? b=some o:=fun b o hb e=>(Heap.get?_update_other h' _ (Ne.symm hb)).trans e
    have I3:L2.Inv X af σ H {s with heap:=h'.update S (Obj.mapSeq fun _=>#[u,u])}:=I1.turned (t':=s.toks) kp fS.1 fS.2.1 fS.2.2.2.1 fS.2.2.2.2.1 fS.2.2.2.2.2;obtain⟨oI,hoI,cI,dI⟩:=id st';exact wpAny_pure ⟨plainId_quiet PySem.F.plain_min_loop _,ih (j+1) _ d _ u n3 hd' I3 ⟨oI,kp it oI (Ne.symm hnI) hoI,cI,dI⟩ eS3 rdv ru h⟩
   | false=>
    simp only[Bool.false_eq_true,if_false];refine wpAny_bind (wpAny_letGo ?_);rw[hname];exact wpAny_pure ⟨plainId_quiet PySem.F.plain_min_loop _,ih (j+1) _ b _ ub n hd' I1 st' eS1 rb rvb h⟩
theorem vH {l:Addr}{ds0:List D}{vs:List V}{Q:VK}{H:Hp}{θ:List Addr}{M:av}{db:D}{k:Nat}{s:Shared}
  (hr:cB (k+1) X.A) (hcalm:X.calm=true) (I:L2.Inv X af σ H s) (hw:Wr X.K θ H M) (ta:nS X.K θ H l vs) (r:a7 X.K θ H ds0 vs) (h:Br ds0=some db) (hQ:∀v,cD X.K θ H db v→Q v H) :
  wpAny (model X.prog X.w) X.A (call (.builtin "min") [.ref l] []) (EP X af σ Q) X.xe s:=by
 have hname:(toString "min"++toString ".loop":String)="min.loop":=by decide
 cases ds0 with
 | nil=>cases h
 | cons d rest=>
   have h:cM rest d=some db:=h;obtain⟨v,ev,rdv⟩:=dD (i:=0) r rfl;obtain⟨its,rv,p,hz⟩:=I.list ta.sq;refine kmk_tree PySem.F.kind_min PySem.F.plain_min PySem.F.entry_min (uK _) ?_;show wpAny _ X.A.in1 (Builtin.Builtins.bindParams "min" ["key","default"] 0 ⟨[],[]⟩ >>= _) _ _ s;refine wpAny_bind (wpAny_of_eq (show Builtin.Builtins.bindParams "min" ["key","default"] 0 ⟨[],[]⟩=pure [none,none] from rfl) ?_);refine wpAny_bind (wpAny_pure ?_);refine wpAny_bind (wpAny_pyIter_list p.isList ?_);refine wpAny_bind (wpAny_newList ?_ (Nat.zero_le _));rw[hname];have hS:(s.heap.push {cls:=.type "list_iterator",data:=.fields #[.ref l,.int 0 0]}).objs.size=s.heap.objs.size+1:=size_push' ..;have fi:iX X af H s.heap.objs.size:=I.fpOk (Nat.le_refl _) (I.hok.fresh (Nat.le_refl _));have leS:s.heap.objs.size≤(s.heap.push {cls:=.type "list_iterator",data:=.fields #[.ref l,.int 0 0]}).objs.size:=by rw[hS];exact Nat.le_succ _
   have fS:iX X af H (s.heap.push {cls:=.type "list_iterator",data:=.fields #[.ref l,.int 0 0]}).objs.size:=I.fpOk leS (I.hok.fresh leS);have hnI:(s.heap.push {cls:=.type "list_iterator",data:=.fields #[.ref l,.int 0 0]}).objs.size≠s.heap.objs.size:=by rw[hS];exact Nat.ne_of_gt (Nat.lt_succ_self _)
   have gI:((s.heap.push {cls:=.type "list_iterator",data:=.fields #[.ref l,.int 0 0]}).push (seqObj "list" #[] 0)).get? s.heap.objs.size=some {cls:=.type "list_iterator",data:=.fields #[.ref l,.int 0 0]}:=Heap.get?_push_of_some _ (Heap.get?_push_size _ rfl);have gS:((s.heap.push {cls:=.type "list_iterator",data:=.fields #[.ref l,.int 0 0]}).push (seqObj "list" #[] 0)).get? (s.heap.push {cls:=.type "list_iterator",data:=.fields #[.ref l,.int 0 0]}).objs.size=some (seqObj "list" #[] 0):=Heap.get?_push_size _ rfl;have I0:L2.Inv X af σ H {s with heap:=(s.heap.push {cls:=.type "list_iterator",data:=.fields #[.ref l,.int 0 0]}).push (seqObj "list" #[] 0)}:=I.kept (t':=s.toks) fun b o e=>Heap.get?_push_of_some _ (Heap.get?_push_of_some _ e)
   generalize (s.heap.push {cls:=.type "list_iterator",data:=.fields #[.ref l,.int 0 0]}).objs.size=S at *;generalize hit:s.heap.objs.size=it at *;refine wpAny_pure ⟨plainId_quiet PySem.F.plain_min_loop _,?_⟩;refine codeAny_builtin PySem.F.entry_min_loop ?_;rw[Around.under_plainId PySem.F.plain_min_loop _];show wpAny _ X.A.in1 (seqItems? (.ref S) >>= _) _ _ _;refine wpAny_bind (wpAny_seqItems gS rfl ?_);obtain⟨its',rv',p',hz'⟩:=I0.list ta.sq;obtain⟨u',eu',ru'⟩:=rv'.get ev;show wpAny _ X.A.in1 (tryCatch (pyNext (.ref it)) _ >>= _) _ _ _;refine wpAny_bind (wpAny_tryCatch (wpAny_pyNext_list_item (i:=0) ⟨_,gI,rfl,rfl⟩ p'.isList (x:=u') (by simpa using eu') fun h' st' sb=>?_));have I1:L2.Inv X af σ H {s with heap:=h'}:=I0.turned (t':=s.toks) (fun b o hb e=>(sb.2 b hb).trans e) fi.1 fi.2.1 fi.2.2.2.1 fi.2.2.2.2.1 fi.2.2.2.2.2;have eS1:h'.get? S=some (seqObj "list" #[] 0):=(sb.2 S hnI).trans gS;obtain⟨oI,hoI,cI,dI⟩:=id st';refine wpAny_bind (wpAny_pure ?_);refine wpAny_bind ?_;show wpAny _ X.A.in1 (updateSeq S (fun _=>#[u',u'])) _ _ _;refine wpAny_updateSeq eS1 rfl ?_;rw[hname];obtain⟨n3,eS3⟩:∃n3,(h'.update S (Obj.mapSeq fun _=>#[u',u'])).get? S=some (seqObj "list" #[u',u'] n3):=⟨_,get?_update_seq eS1 fun _=>#[u',u']⟩;have kp:∀b o,b≠S→h'.get? b=some o→(h'.update S (Obj.mapSeq fun _=>#[u',u'])).get? b=some o:=fun b o hb e=>(Heap.get?_update_other h' _ (Ne.symm hb)).trans e
   have I3:L2.Inv X af σ H {s with heap:=h'.update S (Obj.mapSeq fun _=>#[u',u'])}:=I1.turned (t':=s.toks) kp fS.1 fS.2.1 fS.2.2.2.1 fS.2.2.2.2.1 fS.2.2.2.2.2;exact wpAny_pure ⟨plainId_quiet PySem.F.plain_min_loop _,uF hr hcalm hw ta r hnI (fun u s' e=>e) fi fS hQ rest 1 _ d v u' n3 rfl I3 ⟨oI,kp it oI (Ne.symm hnI) hoI,cI,dI⟩ eS3 rdv ru' h⟩
def jc:FD:=fun ds M=>match ds with
 | [.lst xs]=>match Br xs with
  | some d=>.ok d M
  | none=>.bad
 | _=>.bad
theorem z6 {k:Nat}(hr:cB (k+1) X.A)(hc:X.calm=true):cx X (.builtin "min") (rC X jc):=by
 intro af s σ H xs us Q I r h;obtain⟨θ,M,ds,hw,rd,h⟩:=h;unfold jc at h;split at h
 ·rename_i ys;split at h
  ·rename_i d q;obtain⟨v,rr,e,⟨a,vs,ea,ta,rs⟩,er⟩:=rd;have er:rr=[]:=er;subst er e ea;obtain⟨u,rfl,ru⟩:=ki r;have ru:u=.ref a:=ru;subst ru;exact vH hr hc I hw (.inl ⟨.inl ta.1,ta.2⟩) rs q fun v rv=>h v θ H (.refl hw) rv
  ·exact h.elim
 ·exact h.elim
theorem C5 {k:Nat}(hr:cB (k+1) X.A)(hc:X.calm=true:=by rfl):QC X (.builtin "min") jc:=⟨z6 hr hc⟩
end
section
variable {X:Cx}
def bU (z:Str)(lo hi:Option Int):Str:=⟨((z.cps.toList.drop (HT.sIx z.length 0 lo)).take (HT.sIx z.length z.length hi-HT.sIx z.length 0 lo)).toArray⟩
theorem rO (lo hi:Option Int)(n:Nat):Builtin.Str.strSliceIndices lo hi 1 n=(List.range (HT.sIx n n hi-HT.sIx n 0 lo)).map (HT.sIx n 0 lo+·):=by
 rw[←sliceRange_one];unfold Builtin.Str.strSliceIndices;have key:∀(o:Option Int) (d:Nat),(match o with|none=>(d:Int)|some i=>max 0 (min (if i<0 then i+(n:Int) else i) (n:Int)))=((HT.sIx n d o:Nat):Int):=by
  intro o d;cases o with
  | none=>rfl
  | some v=>
   show max 0 (min (if v<0 then v+(n:Int) else v) (n:Int))=(((if v<0 then(v+(n:Int)).toNat else min v.toNat n):Nat):Int)
   by_cases hv:v<0
   ·simp only[if_pos hv];omega
   ·simp only[if_neg hv];omega
 have h1:=key lo 0;have h2:=key hi n;simp only[show(1:Int)>0 by decide,if_true];rw[←h1,←h2];cases lo <;> cases hi <;> rfl
theorem mI (z:Str)(lo hi:Option Int):Txt.slice z lo hi=bU z lo hi:=by
 unfold Txt.slice bU;rw[rO,pick_run];split
 ·rename_i h;have h:(HT.sIx z.length z.length hi-HT.sIx z.length 0 lo==z.length)=true:=by simpa using h
  have h:=eq_of_beq h;have l1:=HT.sIx_le z.length z.length (Nat.le_refl _) hi
  by_cases h0:z.length=0
  ·have:z.cps.toList=[]:=length_eq_zero_iff.mp (by simpa[Str.length] using h0);cases z with
   | mk c=>simp only at this;simp[this];exact Array.toList_eq_nil_iff.mp this
  ·have e:HT.sIx z.length 0 lo=0:=by omega
   rw[e,Nat.sub_zero];have:HT.sIx z.length z.length hi=z.length:=by omega
   rw[this,drop_zero,take_of_length_le (by simp[Str.length])]
 ·rfl
def gQ (d:D)(lo hi:Option Int)(M:av):aN D:=match d with
 | .str z=>if z.length≤sizeLine then .ok (.str (bU z lo hi)) M else .bad
 | d=>j6 d lo hi M
def cC (g:GE)(gl gh:GO):GE:=fun ρ M=>(g ρ M).bind fun x M1=>(gl ρ M1).bind fun lo M2=>(gh ρ M2).bind fun hi M3=>gQ x lo hi M3
def Ir (X:Cx):V→Option Int→Option Int→Hp→VK→Prop:=fun x lo hi H Q=>∃θ M d,Wr X.K θ H M∧cD X.K θ H d x∧aF X θ H Q (gQ d lo hi M)
theorem sD {v:Value}{o:Option Int}(p:IsPart v o):∃q:Option (Int×Tok),v=partValue q∧q.map (·.1)=o:=by
 cases p with
 | none=>exact⟨none,rfl,rfl⟩
 | int i t=>exact⟨some (i,t),rfl,rfl⟩
theorem G8:FU X (Ir X):=by
 intro af s σ H x v vl vu lo hi sl Q I rx hs pl pu h;obtain⟨θ,M,d,hw,r,h⟩:=h;have rest:aF X θ H Q (j6 d lo hi M)→_:=fun h=>HL af s σ H x v vl vu lo hi sl Q I rx hs pl pu ⟨θ,M,d,hw,r,h⟩
 cases d with
 | str z=>
  have h:aF X θ H Q (if z.length≤sizeLine then .ok (.str (bU z lo hi)) M else .bad):=h;split at h
  ·rename_i hz;have ev:x=.str z:=r;subst ev;obtain⟨t,rfl⟩:=rx;obtain⟨ql,rfl,el⟩:=sD pl;obtain⟨qu,rfl,eu⟩:=sD pu;subst el eu;refine⟨"str",_,PySem.F.slot_str_getitem.lookup,typeIs_str _ _ _,wpAny_getItem_str_slice (l:=ql) (u:=qu) (st:=none) hs rfl ?_⟩;refine post_val_or_str (y:=z) (z:=⟨((slicePicked z ql qu none).filterMap (z.cps[·]?)).toArray⟩) (c:=((1:Int)==1&&(slicePicked z ql qu none).length==z.length)=true) ?_;have e:(if((1:Int)==1&&(slicePicked z ql qu none).length==z.length)=true then z else⟨((slicePicked z ql qu none).filterMap (z.cps[·]?)).toArray⟩)=bU z (ql.map (·.1)) (qu.map (·.1)):=mI z _ _;rw[e];refine⟨Nat.le_trans (by rw[←mI];exact Txt.slice_le z _ _) hz,fun t' k=>⟨.str (bU z (ql.map (Prod.fst:Int×Tok→Int)) (qu.map (Prod.fst:Int×Tok→Int))),H,I.tok k,⟨t',rfl⟩,h _ θ H (.refl hw) rfl⟩⟩
  ·exact h.elim
 | _=>exact rest h
theorem Dg {e:Expr}{g:GE}{p2 pos:Pos}{lo hi:Option Expr}{gl gh:GO}(he:QE X e g)(hl:QP X lo gl)(hh:QP X hi gh):QE X (.Subscript e (.Slice lo hi none p2) pos) (cC g gl gh):=
 ⟨(xf G8 he.h hl.h hh.h).of fun σ H Q hxx=>by
  obtain⟨ρ,θ,M,hd,hw,h⟩:=hxx;refine bG hd hw (aF X θ H Q) (fun c M' h=>h) (fun h=>h) h fun d M1 v θ1 H1 g1 r1 h1=>?_
  refine Bl (hd.go g1) g1.wr (aF X θ1 H1 Q) (fun c M' h=>h) (fun h=>h) (h1.go g1) fun l M2 θ2 H2 g2 h2=>?_
  refine Bl ((hd.go g1).go g2) g2.wr (aF X θ2 H2 Q) (fun c M' h=>h) (fun h=>h) (h2.go g2) fun u M3 θ3 H3 g3 h3=>?_
  exact⟨θ3,M3,d,g3.wr,r1.go (g2.trans g3),h3.go g3⟩⟩
def iK:F2:=fun x y M=>match x,y with
 | .str i,.str j=>.ok (.bl (!rZ j i)) M
 | x,y=>kD true x y M
theorem zJ:dM X (compareOp .NotIn) (rD X iK):=by
 intro af s σ H x y v u Q I rx ry h;obtain⟨θ,M,dx,dy,hw,r1,r2,h⟩:=h;have rest:aF X θ H Q (kD true dx dy M)→_:=fun h=>xj af s σ H x y v u Q I rx ry ⟨θ,M,dx,dy,hw,r1,r2,h⟩
 cases dx with
 | str i=>
  cases dy with
  | str j=>exact oy af s σ H x y v u Q I rx ry ⟨i,j,r1,r2,h _ θ H (.refl hw) rfl⟩
  | _=>exact rest h
 | _=>exact rest h
theorem D1:Q2 X (compareOp .NotIn) iK:=⟨zJ⟩
def gn (x:Str)(d:D)(M:av):aN D:=match d with
 | .str y=>if x.length≤sizeLine then .ok (.str (Txt.lstripChars x y)) M else .bad
 | _=>.bad
def sy:V→List V→Hp→VK→Prop:=fun x vs H Q=>∃a b,x=.str a∧vs=[.str b]∧a.length≤sizeLine∧Q (.str (Txt.lstripChars a b)) H
theorem uL:EA X "str.lstrip" sy:=by
 intro af s σ H x vs v us Q I rx rv h;obtain⟨a,b,rfl,rfl,hz,q⟩:=h;obtain⟨t,rfl⟩:=rx;obtain⟨u,rfl,ru⟩:=rv.one;obtain⟨t',rfl⟩:=ru;exact SC.lstripChars (fun t' k=>⟨.str _,H,I.tok k,⟨t',rfl⟩,q⟩) hz
theorem vp {θ:List Addr}{H:Hp}{M:av}{x:Str}{d:D}{y:V}{Q:VK}(hw:Wr X.K θ H M)(ry:cD X.K θ H d y)(h:aF X θ H Q (gn x d M)):sy (.str x) [y] H Q:=by
 cases d with
 | str z=>
  have ev:y=.str z:=ry;subst ev;have h:aF X θ H Q (if x.length≤sizeLine then .ok (.str (Txt.lstripChars x z)) M else .bad):=h;split at h
  ·rename_i hz;exact⟨x,z,rfl,rfl,hz,h _ θ H (.refl hw) rfl⟩
  ·exact h.elim
 | _=>exact h.elim
variable {o e:Expr}{go ge:GE}{gA:GA}{apos cpos:Pos}
theorem ux (ho:QE X o go)(he:QE X e ge)(h1:aC e=true:=by rfl)(hbase:attributeBase o "lstrip" X.env (eval o X.env)=eval o X.env:=by rfl)(hline:(apos.endLine==cpos.line)=true:=by rfl) :
  QE X (.Call (.Attribute o "lstrip" apos) [e] [] cpos) (aS gn go ge):=
 ⟨(iD PySem.F.plainAttrs_str PySem.F.slot_str_lstrip PySem.F.type_str_lstrip uL ho.h (b9 he.h dX (sE h1)) hbase (gL h1) hline (sE h1) rfl).of fun σ H Q h=>jr (fun θ H M x d y Q=>vp) h⟩
def j7 (xs ds:List D):Option (D×List D):=match ds with
 | [.lst ys]=>if xs.length+ys.length≤sizeLine then some (.non,xs++ys) else none
 | _=>none
theorem Cc {θ:List Addr}{H:Hp}{M:av}{a:Addr}{k:Nat}{xs:List D}{vs:List V}{ds:List D}{us:List V}{r:D×List D}{Q:VK}(hw:Wr X.K θ H M)(ta:θ[k]?=some a)(em:M[k]?=some (.lst xs))(hv:H a=some (.lst vs))(ra:a7 X.K θ H xs vs)(ru:a7 X.K θ H ds us)
  (hF:j7 xs ds=some r) (h:aF X θ H Q (.ok r.1 (M.set k (.lst r.2)))):tX (.ref a) us H Q:=by
 unfold j7 at hF;split at hF
 ·rename_i ys;split at hF
  ·rename_i hi;cases hF;obtain⟨v1,r1,e1,⟨b,ws,eb,tb,rb⟩,q2⟩:=ru;have e3:r1=[]:=q2;subst e3 e1 eb;have gs:=jZ (ds:=xs) hw ta (bD ra rb);exact⟨a,b,vs,ws,rfl,rfl,hv,tb.1,by rw[←aq ra,←aq rb];exact hi,h _ θ _ gs rfl⟩
  ·cases hF
 ·cases hF
theorem uW (ho:QE X o go)(ha:QA X [e] gA)(h1:aC e=true:=by rfl)(hbase:attributeBase o "extend" X.env (eval o X.env)=eval o X.env:=by rfl)(hline:(apos.endLine==cpos.line)=true:=by rfl) :
  QE X (.Call (.Attribute o "extend" apos) [e] [] cpos) (kz j7 go gA):=
 ⟨(iD PySem.F.plainAttrs_list PySem.F.slot_list_extend PySem.F.type_list_extend uo ho.h ha.h hbase (gL h1) hline (sE h1) rfl).of fun σ H Q h=>wM (fun θ H M a k xs vs ds us r Q=>Cc) h⟩
end
section
theorem kA:isSubtype (.type "range_iterator") (.type "reversed")=pure false:=by rw[isSubtype_type];kernel_rfl
theorem my:bootBuiltins "reversed"=some (.type "reversed"):=by decide +kernel
variable {prog:Program}{w:World}{A:Around}{E:Value→Shared→Prop}{s:Shared}
theorem lF {r:Addr}{n:Int}{t u v:Tok}{Q:Value→Shared→Prop}(hr:IsRange s.heap r 0 n 1 t u v)(h0:0≤n)(h1:n≤100000)
  (h:Q (.ref s.heap.objs.size) {s with heap:=s.heap.push {cls:=.type "range_iterator",data:=.fields #[rawInt (n-1),rawInt n,rawInt (-1)]}}):wpAny (model prog w) A (call (.builtin "range.__reversed__") [.ref r]) Q E s:=by
 have hT:s.TypeIs (.ref r) "range":=⟨_,hr,rfl⟩;refine wpAny_call_entry PySem.F.slot_range_reversed hT PySem.F.entry_range_reversed ?_ (PySem.F.args_range_reversed_1 _);unfold Builtin.«range.__reversed__»;refine wpAny_bind (wpAny_of_eq (a:=Value.ref r) rfl ?_);unfold Builtin.Range.rangeFields;refine wpAny_bind ?_;refine wpAny_bind (wpAny_field hr rfl (x:=.int 0 t) rfl ?_);refine wpAny_bind (wpAny_of_eq (a:=some 0) rfl ?_);refine wpAny_bind (wpAny_field hr rfl (x:=.int n u) rfl ?_);refine wpAny_bind (wpAny_of_eq (a:=some n) rfl ?_);refine wpAny_bind (wpAny_field hr rfl (x:=.int 1 v) rfl ?_);refine wpAny_bind (wpAny_of_eq (a:=some 1) rfl ?_);refine wpAny_pure ?_;have e:Builtin.Range.rangeSize 0 n 1=n:=by rw[rangeSize_one];split <;> omega
 dsimp only;rw[e];have small:(Builtin.Range.rangeFitsLong 0&&Builtin.Range.rangeFitsLong n&&Builtin.Range.rangeFitsLong 1&&Builtin.Range.rangeFitsLong (-1)&&Builtin.Range.rangeFitsLong (0-1)&&Builtin.Range.rangeFitsLong n)=true:=by
  simp only[Builtin.Range.rangeFitsLong,Bool.and_eq_true,decide_eq_true_eq];omega
 rw[small];have e2:0+(n-1)*1=n-1:=by omega
 rw[e2];exact wpAny_bind (wpAny_newObj_type (wpAny_pure ⟨_,rfl,h⟩))
theorem jl {r:Addr}{n:Int}{t u v:Tok}{Q₁:Value→Shared→Prop}(hr:IsRange s.heap r 0 n 1 t u v)(h0:0≤n)(h1:n≤100000)
  (h:Q₁ (.ref s.heap.objs.size) {s with heap:=s.heap.push {cls:=.type "range_iterator",data:=.fields #[rawInt (n-1),rawInt n,rawInt (-1)]}}) :
  codeAny (model prog w) A (.call (.builtin "reversed.__new__") ⟨[.type "reversed",.ref r],[]⟩) (wants Q₁ E) s:=by
 have hT:s.TypeIs (.ref r) "range":=⟨_,hr,rfl⟩;refine codeAny_of_tree ?_;show wpAny _ A.in1 (do checkBuiltinCall "reversed.__new__" ⟨[.type "reversed",.ref r],[]⟩;again (.builtin "reversed.__new__" ⟨[.type "reversed",.ref r],[]⟩)) _ _ s;refine wpAny_bind (wpAny_of_eq (PySem.F.newCall_reversed_1 _) (wpAny_pure ⟨plainId_quiet PySem.F.plain_reversed_new _,codeAny_builtin PySem.F.entry_reversed_new ?_⟩));rw[Around.under_plainId PySem.F.plain_reversed_new _];unfold Builtin.«reversed.__new__»;refine wpAny_bind (wpAny_of_eq (newClass_reversed _) ?_)
 try dsimp only
 refine wpAny_bind (wpAny_of_eq (a:=()) (by first|rfl|kernel_rfl) ?_);refine wpAny_bind (wpAny_of_eq (a:=()) (by first|rfl|kernel_rfl) ?_)
 try dsimp only
 refine wpAny_bind (wpAny_specialOf hT PySem.F.slot_range_reversed.lookup ?_)
 try dsimp only
 refine wpAny_bind (wpAny_of_eq (PySem.F.slot_range_reversed.bind _) ?_)
 try dsimp only
 first
 | rw[if_neg (show¬((Value.builtin "range.__reversed__"==Value.none)=true) from Bool.false_ne_true)]
 | (show wpAny _ _ (if(Value.builtin "range.__reversed__"==Value.none)=true then _ else _) _ _ _;rw[if_neg (show¬((Value.builtin "range.__reversed__"==Value.none)=true) from Bool.false_ne_true)])
 refine wpAny_bind (wpAny_rule ?_);refine wpAny_bind (m:=runValue (.call (.builtin "range.__reversed__") ⟨[.ref r],[]⟩)) (show wpAny _ _ (call (.builtin "range.__reversed__") [.ref r]) _ _ _ from lF hr h0 h1 ?_)
 first
 | exact wpAny_pure h
 | exact wpAny_bind (wpAny_pure (wpAny_pure h))
theorem i7 {r:Addr}{n:Int}{t u v:Tok}{Q:Value→Shared→Prop}(hr:IsRange s.heap r 0 n 1 t u v)(h0:0≤n)(h1:n≤100000)
  (h:Q (.ref s.heap.objs.size) {s with heap:=s.heap.push {cls:=.type "range_iterator",data:=.fields #[rawInt (n-1),rawInt n,rawInt (-1)]}}):wpAny (model prog w) A (call (.type "reversed") [.ref r]) Q E s:=by
 refine callType_other (U:="range_iterator") (Q₁:=fun obj s₁=>obj=.ref s.heap.objs.size∧s₁={s with heap:=s.heap.push {cls:=.type "range_iterator",data:=.fields #[rawInt (n-1),rawInt n,rawInt (-1)]}}) (by decide +kernel) PySem.F.create_reversed ⟨_,_,PySem.F.mro_reversed⟩ PySem.F.made_reversed kA (PySem.F.typeCall_reversed_1 _) (jl hr h0 h1 ⟨rfl,rfl⟩) ?_;rintro obj s₁ ⟨rfl,rfl⟩;exact⟨⟨_,Heap.get?_push_size _ rfl,rfl⟩,h⟩
end
section
variable {X:Cx}{tg:Expr}
def Jh (lo c:Int)(n:Nat):It:=⟨fun i _=>i<n,fun i H x H'=>H'=H∧x=.int (lo+(i:Int)*c),fun i _=>n≤i⟩
theorem qq {P:Program}{w:World}{K:W.Frag}{tg:Expr}(it:Addr)(lo c:Int)(n:Nat):rf P w K tg (Jh lo c n) [it] it (fun i h=>IsRangeIter h it (lo+(i:Nat)*c) ((n:Int)-(i:Nat)) c) where
 mem:=by simp
 obj:=fun i h st b hb=>by
  have e:b=it:=by simpa using hb
  subst e;exact⟨_,st,fun v z=>by
   have z':Data.fields _=Data.cell v:=z;cases z'⟩
 keep:=fun i h h' st k=>k it (by simp) _ st
 item:=by
  intro X hP hw hK hc i af s σ H E I hf st hg;subst hP hw hK;obtain⟨f0,f1,f2,f3,f4,f5⟩:=hf it (by simp);have W:=Walks.range (prog:=X.prog) (w:=X.w) (I.ok.hd hc) it lo c n;refine W.item i s _ _ hg st fun v h' tk hv st' kk=>?_
  obtain⟨t,rfl⟩:=hv;have I1:L2.Inv X af σ H {s with heap:=h',toks:=tk}:=I.turned (fun b o hb e=>kk b o (by simpa using hb) e) f0 f1 f3 f4 f5;exact⟨_,rfl,oR (s:={s with heap:=h',toks:=tk}) (n:="range_iterator") st' rfl rfl (by decide) ⟨.int (lo+i*c),H,I1,⟨t,rfl⟩,⟨rfl,rfl⟩,st',fun b hb=>(hf b hb).1⟩⟩
 done:=by
  intro X hP hw hK hc i af s σ H E I hf st hg;subst hP hw hK;obtain⟨f0,f1,f2,f3,f4,f5⟩:=hf it (by simp);exact wpAny_pyNext_range_end (I.ok.hd hc) st (by have:n≤i:=hg;omega) fun h' eb=>⟨rfl,I.turned (t':=s.toks) (fun b o hb e=>eb b o hb e) f0 f1 f3 f4 f5⟩
 self:=fun _ _ _ _ _ st h=>wpAny_pyIter_rangeiter st h
def IL (ta:TA):TI:=fun σ H R=>ta σ H fun vs H1=>∃j:Int,vs=[.int j]∧0≤j∧j≤100000∧R (Jh (j-1) (-1) j.toNat) H1
theorem BE {a:Expr}{ta:TA}{p p2 pos pos2:Pos}(hg:Gl X "reversed")(hm:X.mg "reversed"=none)(hg2:Gl X "range")(hm2:X.mg "range"=none)(ha:PA X [a] ta)
  (hs0:starEach [.Call (.Name "range" p2) [a] [] pos2] X.env=[(false,eval (.Call (.Name "range" p2) [a] [] pos2) X.env)]:=by rfl) (hs:starEach [a] X.env=[(false,eval a X.env)]:=by rfl) :
  PI X tg (.Call (.Name "reversed" p) [.Call (.Name "range" p2) [a] [] pos2] [] pos) (IL ta):=by
 intro af s σ H R I h;refine Call_ (iR I hg hm my (PyProof.Rows.callWith_type1 ?_ hs0 rfl));rw[hs0];show wpAny _ _ (spliced ((false,eval (.Call (.Name "range" p2) [a] [] pos2) X.env)::backTo pos [])) _ _ s;refine Calls.spliced_cons (Call_ (iR I hg2 hm2 boot_range (PyProof.Rows.callWith_type1 (bW (ha pos2 af s σ H _ I h) fun us s1 hxx=>?_) hs rfl)));obtain⟨vs,H1,I1,r1,q1⟩:=hxx;obtain⟨j,e,q1,q2,q⟩:=q1;subst e;cases r1 with
 | cons r rr=>
  cases rr;obtain⟨t,rfl⟩:=r;refine call_range_1 (Calls.spliced_nil ?_);refine i7 (IsRange.new ..) q1 q2 ?_;have I2:L2.Inv X af σ H1 {s1 with heap:=s1.heap.push {cls:=.type "range",data:=.fields #[.int 0 s1.toks,.int j t,.int 1 (s1.toks+1)]},toks:=s1.toks+1+1}:=I1.kept fun b o e=>Heap.get?_push_of_some _ e
  generalize s1.heap.push {cls:=.type "range",data:=.fields #[.int 0 s1.toks,.int j t,.int 1 (s1.toks+1)]}=hh at I2 ⊢;have st0:IsRangeIter (hh.push {cls:=.type "range_iterator",data:=.fields #[rawInt (j-1),rawInt j,rawInt (-1)]}) hh.objs.size (j-1+((0:Nat):Int)*(-1)) (((j.toNat:Nat):Int)-((0:Nat):Int)) (-1):=by
   have e1:j-1+((0:Nat):Int)*(-1)=j-1:=by omega
   have e2:((j.toNat:Nat):Int)-((0:Nat):Int)=j:=by omega
   rw[e1,e2];exact Heap.get?_push_size _ rfl
  refine wpAny_pyIter_rangeiter (x:=j-1+((0:Nat):Int)*(-1)) (left:=((j.toNat:Nat):Int)-((0:Nat):Int)) (step:=-1) st0 ?_;refine⟨hh.objs.size,[hh.objs.size],_,_,H1,rfl,I2.kept (t':=s1.toks+1+1) fun b o e=>Heap.get?_push_of_some _ e,qq _ (j-1) (-1) j.toNat,st0,fun b hb=>?_,q⟩;have e:b=hh.objs.size:=by simpa using hb
  subst e;exact I2.fpOk (Nat.le_refl _) (I2.hok.fresh (Nat.le_refl _))
def lg (lo c:Int)(n:Nat):List D:=(List.range n).map fun(i:Nat)=>D.int (lo+(i:Int)*c)
theorem vR {K:W.Frag}{θ:List Addr}{H:Hp}(lo c:Int)(n:Nat):yI K (Jh lo c n) θ H ⟨lg lo c n,none⟩:=by
 intro θ1 H1 M1 g _ i;refine⟨fun d e=>?_,fun hl=>?_⟩
 ·have hi:i<n:=by
   have:=(List.getElem?_eq_some_iff.mp e).1;simpa[lg] using this
  refine⟨hi,fun x H2 y=>?_⟩;obtain⟨eH,y⟩:=y;subst eH;refine⟨.refl g.wr,?_⟩;have e:((List.range n).map fun(i:Nat)=>D.int (lo+(i:Int)*c))[i]?=some d:=e;simp[hi] at e;subst e;exact y
 ·have hl:(lg lo c n).length≤i:=hl;have:n≤i:=by simpa[lg] using hl
  exact this
def FA (ds:List D)(M:av):aN mj:=match ds with
 | [.int j]=>if 0≤j∧j≤100000 then .ok ⟨lg (j-1) (-1) j.toNat,none⟩ M else .bad
 | _=>.bad
def pp (g:GA):GI:=fun ρ M=>(g ρ M).bind FA
theorem BQ {a:Expr}{g:GA}{p p2 pos pos2:Pos}(hg:Gl X "reversed")(hm:X.mg "reversed"=none)(hg2:Gl X "range")(hm2:X.mg "range"=none)(ha:QA X [a] g)(h1:aC a=true:=by rfl) :
  QI X tg (.Call (.Name "reversed" p) [.Call (.Name "range" p2) [a] [] pos2] [] pos) (pp g):=by
 refine⟨?_⟩;intro af s σ H R I h;refine BE hg hm hg2 hm2 ha.h rfl (by rw[sE h1];rfl) af s σ H R I ?_;obtain⟨ρ,θ,M,hd,hw,h⟩:=h;refine iA hd hw (uB X θ H R) (fun c M' h=>h) (fun h=>h) h fun ds M1 vs θ1 H1 g1 r1 h1=>?_
 unfold FA at h1;split at h1
 ·rename_i j;obtain⟨v,r,e,rv,rr⟩:=r1;have rr:r=[]:=rr;have rv:v=.int j:=rv;subst rr rv;split at h1
  ·rename_i hj;exact⟨j,e,hj.1,hj.2,h1 _ θ1 H1 g1 (vR (j-1) (-1) j.toNat)⟩
  ·exact h1.elim
 ·exact h1.elim
end
section
variable {prog:Program}{w:World}{A:Around}{E:Value→Shared→Prop}{s:Shared}
theorem nw {it l:Addr}{items:Array Value}(hne:l≠it):∀(n i:Nat) (s:Shared) (Q:List Value→Shared→Prop),s.heap.IsListIter it l i→s.heap.IsList l items→i+n≤items.size→
  (∀h',h'.IsListIter it l (i+n)→Heap.SameBut it s.heap h'→Q ((items.toList.drop i).take n) {s with heap:=h'})→wpAny (model prog w) A (draw (.ref it) n) Q E s
 | 0,i,s,Q,hit,_,_,hQ=>by
  show wpAny _ _ (pure []) Q E s;exact wpAny_pure (by simpa using hQ s.heap hit (Heap.SameBut.refl ..))
 | n+1,i,s,Q,hit,ht,hle,hQ=>by
  have hlt:i<items.size:=by omega
  show wpAny _ _ (pyNext (.ref it) >>= _) Q E s;refine wpAny_bind (wpAny_pyNext_list_item hit ht (x:=items[i]) (by simp[hlt]) fun h₁ hit₁ hs₁=>?_);have ht₁:h₁.IsList l items:=by obtain⟨o,ho,r⟩:=ht;exact⟨o,(hs₁.2 l hne).trans ho,r⟩
  refine wpAny_bind (wpAny_holding (nw hne n (i+1) _ _ hit₁ ht₁ (by omega) fun h₂ hit₂ hs₂=>wpAny_pure ?_));have hd:items.toList.drop i=items[i]::items.toList.drop (i+1):=by simp[drop_eq_getElem_cons,hlt]
  have:=hQ h₂ (by rw[show i+(n+1)=i+1+n by omega];exact hit₂) (hs₁.trans hs₂);rw[hd,take_succ_cons] at this;exact this
theorem p8 {l:Addr}{items:Array Value}{elts:List Expr}{x1}{pos:Pos}{env:Env}{Q:Unit→Shared→Prop}(hh:A.handled=none)(ht:s.heap.IsList l items)
  (hn:(assignEach elts env).length=items.size) (hstar:(assignEach elts env).findIdx? (·.1)=none)
  (h:∀h',Heap.ExtBut s.heap.objs.size s.heap h'→wpAny (model prog w) A (assignInOrder ((assignEach elts env).map (·.2)) items.toList) Q E {s with heap:=h'}) :
  wpAny (model prog w) A (assign (.Tuple elts x1 pos) env (.ref l)) Q E s:=by
 rw[assign_Tuple];refine wpAny_bind (wpAny_standAt ?_);unfold unpack;rw[hn,hstar];refine wpAny_bind (wpAny_holding ?_);have hlt:l≠s.heap.objs.size:=by obtain⟨o,ho,_⟩:=ht;exact Nat.ne_of_lt (Heap.lt_size ho)
 unfold unpackItems;refine wpAny_bind ?_
 ·unfold notIterableAtAll;refine wpAny_bind (wpAny_specialOf ht.typeIs PySem.F.slot_list_iter.lookup ?_);refine wpAny_pure ?_;simp only[Bool.false_eq_true,if_false];refine wpAny_bind (wpAny_holding (wpAny_pyIter_list ht ?_));have htp:(s.heap.push {cls:=.type "list_iterator",data:=.fields #[.ref l,.int 0 0]}).IsList l items:=by obtain⟨o,ho,r⟩:=ht;exact⟨o,Heap.get?_push_of_some _ ho,r⟩
  refine wpAny_bind (wpAny_holding (nw hlt items.size 0 _ _ ⟨_,Heap.get?_push_size _ rfl,rfl,rfl⟩ htp (by omega) fun h₁ hit₁ hs₁=>?_));have hall:List.take items.size (List.drop 0 items.toList)=items.toList:=by
   rw[drop_zero];exact take_of_length_le (by simp)
  rw[hall];rw[if_neg (by simp)];have ht₁:h₁.IsList l items:=by obtain⟨o,ho,r⟩:=htp;exact⟨o,(hs₁.2 l hlt).trans ho,r⟩
  refine wpAny_bind (wpAny_holding (wpAny_pyNext_list_end hh hit₁ ht₁ (by simp) fun h₂ he₂=>?_));simp only[Option.isSome_none,Bool.false_eq_true,if_false];refine wpAny_pure (h h₂ fun b o hb e=>he₂ b o hb (hs₁.extBut b o hb (Heap.get?_push_of_some _ e)))
end
section
variable {X:Cx}
def xW (is:List Nat):GG:=fun d ρ=>match d with
 | .lst ds=>ig is ds ρ
 | _=>none
theorem CJ {es:List Expr}{is:List Nat}{k n:Nat}{pos:Pos}(h:EM X es is)(hc:X.calm=true:=by rfl)(hl:is.length=n:=by rfl)(hn:(assignEach es X.env).length=n:=by rfl)(hst:(assignEach es X.env).findIdx? (·.1)=none:=by rfl):QG X (.Tuple es k pos) (xW is):=by
 refine⟨?_⟩;intro af s σ H v u Q I r hw;obtain⟨ρ,θ,M,d,hd,hwr,rd,ρ',e1,hw⟩:=hw;cases d with
 | lst ds=>
  obtain⟨a,vs,e2,ta,rs⟩:=rd;have hlen:ds.length=is.length:=by
   have e1:ig is ds ρ=some ρ':=e1;clear hw hd hwr rs hn hst h hl
   induction is generalizing ds ρ with
   | nil=>
    cases ds with
    | nil=>rfl
    | cons _ _=>cases e1
   | cons i is ih=>
    cases ds with
    | nil=>cases e1
    | cons d ds=>rw[length_cons,length_cons,ih _ ds e1 e1]
  subst e2;cases r;obtain⟨its,rv,p,hz⟩:=I.list ta.sq;refine p8 (I.ok.hd hc) p.isList (by rw[hn,size_toArray,←rv.length,←aq rs,hlen,hl]) hst fun h' hx=>?_
  have I1:L2.Inv X af σ H {s with heap:=h'}:=I.kept (t':=s.toks) fun b o e=>hx b o (Nat.ne_of_lt (Heap.lt_size e)) e
  exact h.h af _ σ H vs _ Q I1 (by simpa using rv) ⟨ρ,θ,M,ds,hd,hwr,rs,ρ',e1,hw⟩
 | _=>cases e1
end
section
variable {X:Cx}
def Fs:Nat ⊕ Int→TE
 | .inl i=>D6 i
 | .inr n=>tC (.int n)
def G5 (tab:List (Str×(Nat ⊕ Int))):List (TE×TE):=tab.map fun p=>(tC (.str p.1),Fs p.2)
def mY (ρ:bc):Nat ⊕ Int→Option Int
 | .inl i=>match ρ[i]? with
  | some (some (.int n))=>some n
  | _=>none
 | .inr n=>some n
def ku (ρ:bc):List (Str×(Nat ⊕ Int))→Option (List (Str×Int))
 | []=>some []
 | p::r=>match mY ρ p.2,ku ρ r with
  | some n,some t=>some ((p.1,n)::t)
  | _,_=>none
theorem ke {ρ:bc}:∀{tab:List (Str×(Nat ⊕ Int))} {t:List (Str×Int)},ku ρ tab=some t→t.length=tab.length
 | [],t,h=>by cases h;rfl
 | p::r,t,h=>by
  have h:(match mY ρ p.2,ku ρ r with|some n,some t=>some ((p.1,n)::t)|_,_=>none)=some t:=h;cases q1:mY ρ p.2 with
  | none=>rw[q1] at h;cases h
  | some n=>
   cases q2:ku ρ r with
   | none=>rw[q1,q2] at h;cases h
   | some t'=>
    rw[q1,q2] at h;cases h;rw[length_cons,length_cons,ke q2]
theorem lI {K:W.Frag}{θ:List Addr}{σ:L2.St}{H:Hp}{ρ:bc}(hd:fZ K θ H σ ρ):∀{tab:List (Str×(Nat ⊕ Int))} {t:List (Str×Int)} {H':Hp} {Q:List (V×V)→Hp→Prop},ku ρ tab=some t→Q (G9 t) H'→nY (G5 tab) σ H' Q
 | [],t,H',Q,h,q=>by cases h;exact q
 | p::r,t,H',Q,h,q=>by
  have h:(match mY ρ p.2,ku ρ r with|some n,some t=>some ((p.1,n)::t)|_,_=>none)=some t:=h;cases q1:mY ρ p.2 with
  | none=>rw[q1] at h;cases h
  | some n=>
   cases q2:ku ρ r with
   | none=>rw[q1,q2] at h;cases h
   | some t'=>
    rw[q1,q2] at h;cases h;have ih:=lI hd (tab:=r) (H':=H') (Q:=fun ps H3=>Q ((.str p.1,.int n)::ps) H3) q2 q;obtain⟨k,v⟩:=p;cases v with
    | inr m=>
     have e:some m=some n:=q1;cases e;exact ih
    | inl i=>
     have q1:(match ρ[i]? with|some (some (.int n))=>some n|_=>none)=some n:=q1;cases q3:ρ[i]? with
     | none=>rw[q3] at q1;cases q1
     | some o=>
      cases o with
      | none=>rw[q3] at q1;cases q1
      | some d=>
       rw[q3] at q1;cases d with
       | int m=>
        cases q1;obtain⟨v,e1,r1⟩:=hd.at_ i _ q3;have e2:v=.int n:=r1;subst e2;exact⟨_,e1,ih⟩
       | _=>cases q1
def jt (tab:List (Str×(Nat ⊕ Int)))(g:GE):GE:=fun ρ M=>match ku ρ tab with
 | some t=>rX t g ρ M
 | none=>.bad
structure B4 (X:Cx)(pos:Pos)(keys:List (Option Expr))(values:List Expr)(tab:List (Str×(Nat ⊕ Int))):Prop where
 h:GQ X pos keys values (G5 tab)
variable {e i:Expr}{g:GE}{pos dpos p1 p2:Pos}{keys:List (Option Expr)}{values:List Expr}{tab:List (Str×(Nat ⊕ Int))}
theorem AF:B4 X pos [] [] []:=⟨AQ⟩
theorem FY {k:Str}{v:Int}{k1 k2}(h:B4 X pos keys values tab):B4 X pos (some (.Constant (.str k) k1 p1)::keys) (.Constant (.int v) k2 p2::values) ((k,.inr v)::tab):=⟨pJ rq yj h.h⟩
theorem Gv (n:Nat){k x:Str}{k1}(h:B4 X pos keys values tab)(hN:X.N[n]?=some x:=by rfl)(hv:B0 X.env.scope x:=by first|exact Or.inl rfl|exact Or.inr rfl|exact Or.inr (Or.inl rfl)|exact Or.inr (Or.inr rfl))(hd:(x==("__debug__":Str))=false:=by decide)(hcd:(x==("__classdict__":Str))=false:=by decide) :
  B4 X pos (some (.Constant (.str k) k1 p1)::keys) (.Name x p2::values) ((k,.inl n)::tab):=⟨pJ rq (wO hN hv hd hcd) h.h⟩
theorem zf {k:Nat}(hr:cB k X.A)(hD:B4 X dpos keys values tab)(hi:QE X i g)(hall:keys.all (·.isSome)=true:=by rfl)(hl:keys.length=values.length:=by rfl)(h0:keys≠[]:=by simp)(h15:keys.length≤15:=by decide)(ht:tab.length≤15:=by decide)(hs:Dp i:=by intro _ _;rfl) :
  QE X (.Subscript (.Dict keys values dpos) i pos) (jt tab g):=⟨(yN (F5 hr) (zi hD.h hall hl h0 h15) hi.h hs).of fun σ H Q hxx=>by
 obtain⟨ρ,θ,M,hd,hw,h⟩:=hxx;have h:aF X θ H Q (match ku ρ tab with|some t=>rX t g ρ M|none=>.bad):=h;cases qt:ku ρ tab with
 | none=>rw[qt] at h;exact h.elim
 | some t=>
  rw[qt] at h;have hlt:t.length≤15:=by rw[ke qt];exact ht
  have h:aF X θ H Q (rX t g ρ M):=h;intro p hp;refine lI hd qt ⟨cN,mG t,by simp[G9,mG,kV],by simp[mG,hlt],?_⟩;rw[zy];have g0:Go X.K θ H θ (cp H p (.dK (ej [] (mG t)))) M:=dG hw hp;refine bG (hd.go g0) g0.wr (aF X θ (cp H p (.dK (ej [] (mG t)))) Q) (fun c M' h=>h) (fun h=>h) (aF.go g0 h) fun d M1 v θ1 H1 g1 r1 h1=>?_
  have kp:H1 p=some (.dK (ej [] (mG t))):=g1.keep p _ cN (hw.fresh hp) (by intro _ z;cases z);cases d with
  | str x=>
   have h1:aF X θ (cp H p (.dK (ej [] (mG t)))) Q (match jS (ej [] (mG t)) (Sum.inr x) with|some (.int i)=>.ok (.int i) M1|_=>.bad):=h1;have ev:v=.str x:=r1;subst ev;cases q:jS (ej [] (mG t)) (Sum.inr x) with
   | none=>rw[q] at h1;exact False.elim h1
   | some y=>
    rw[q] at h1;cases y with
    | int n=>exact⟨p,.int n,rfl,by have:=uk.k (k:=Sum.inr x) kp;rw[q] at this;exact this,h1 _ θ1 H1 g1 rfl⟩
    | _=>exact False.elim h1
  | _=>exact False.elim h1⟩
end
section
variable {M:Model}
theorem jO {Γ:PySem.Ctx}{p:Pos}{t:Sem Fin}{fs:List Frame}{s:Shared}{e:End}{s':Shared}(h:Runs M Γ p t fs s e s'):s.toks≤s'.toks:=by
 induction h <;> first|exact Nat.le_refl _|assumption|(simp only[Shared.setGen] at *;omega)|omega
theorem rR {Γ:PySem.Ctx}{p:Pos}{g:Nat}{r:Resume}{s:Shared}{res:GenResult}{s':Shared}(h:Wakes M Γ p g r s res s'):s.toks≤s'.toks:=by
 unfold Wakes at h;split at h
 ·exact h.elim
 ·split at h
  ·obtain⟨e1,s1,hr,_,_,rfl⟩:=h;have q:=jO hr;exact q
  ·rw[h.2];exact Nat.le_refl _
  ·rw[h.2];exact Nat.le_refl _
 ·obtain⟨e1,s1,hr,_,_,rfl⟩:=h;have q:=jO hr;exact q
 ·rw[h.2];exact Nat.le_refl _
 ·rw[h.2];exact Nat.le_refl _
theorem nP {α:Type}{Γ:PySem.Ctx}{n:Nat}{E:Value→Pos→Shared→Prop}{Q:α→Pos→Shared→Prop}(t:Sem α):∀{p:Pos} {s:Shared},n≤s.toks→Sem.wp M Γ t Q E p s→Sem.wp M Γ t (fun a p' s'=>Q a p' s'∧n≤s'.toks) E p s:=by
 induction t <;> intro p s hn h <;> simp only[Sem.wp] at h ⊢
 all_goals first|exact h|exact⟨h,hn⟩|skip
 all_goals rename_i ih
 all_goals first
  | exact ih _ hn h
  | exact ih _ (Nat.le_succ_of_le hn) h
  | exact⟨h.1,ih _ hn h.2⟩
  | (obtain⟨o,e,h⟩:=h;exact⟨o,e,ih _ hn h⟩)
  | (obtain⟨r,s1,hr,h⟩:=h;exact⟨r,s1,hr,ih _ (Nat.le_trans hn (jO hr)) h⟩)
  | (obtain⟨r,s1,hr,h⟩:=h;exact⟨r,s1,hr,ih _ (Nat.le_trans hn (rR hr)) h⟩)
theorem qN {α:Type}{A:Around}{t:Sem α}{Q:α→Shared→Prop}{E:Value→Shared→Prop}{s:Shared}(hp:0<s.toks)(h:wpAny M A t Q E s):wpAny M A t (fun a s'=>Q a s'∧0<s'.toks) E s:=
 fun Γ p hΓ=>nP t hp (h Γ p hΓ)
def Bp (M:Model){α:Type}(t:Sem α):Prop:=∀(Γ:PySem.Ctx) (Q:α→Pos→Shared→Prop) (E:Value→Pos→Shared→Prop) (p:Pos) (s:Shared),Sem.wp M Γ t Q E p s→Sem.wp M Γ t (fun a p' s'=>Q a p' s'∧0<s'.toks) E p s
theorem wN {α β:Type}{m:Sem α}{f:α→Sem β}(h:Bp M m):Bp M (m >>= f):=fun Γ Q E p s hw=>by
 rw[Sem.wp_bind'] at hw ⊢;exact Sem.wp_mono M Γ _ (fun a p' s' q=>nP (f a) q.2 q.1) (fun _ _ _ q=>q) _ _ (h Γ _ _ _ _ hw)
theorem CD {α β:Type}{m:Sem α}{f:α→Sem β}(h:∀a,Bp M (f a)):Bp M (m >>= f):=fun Γ Q E p s hw=>by
 rw[Sem.wp_bind'] at hw ⊢;exact Sem.wp_mono M Γ _ (fun a p' s' q=>h a Γ _ _ _ _ q) (fun _ _ _ q=>q) _ _ hw
theorem tD {α:Type}{vs:List Value}{m:Sem α}(h:Bp M m):Bp M (holding vs m):=fun Γ Q E p s hw=>by
 rw[Sem.wp_holding] at hw ⊢;exact h Γ _ _ _ _ hw
theorem yD {α:Type}{k:Tok→Sem α}:Bp M (.fresh k):=fun Γ Q E p s hw=>by
 simp only[Sem.wp] at hw ⊢;exact nP _ (Nat.succ_le_succ (Nat.zero_le _)) hw
theorem CZ {i:Int}{k:Nat}{pos:Pos}{env:Env}:Bp M (eval (.Constant (.int i) k pos) env):=yD
theorem BS {v:Expr}{i:Int}{k:Nat}{p pos:Pos}{env:Env}:Bp M (eval (.Subscript v (.Constant (.int i) k p) pos) env):=by
 rw[arm_eval_Subscript];exact CD fun o=>wN (tD CZ)
theorem yG {x:Str}{e:Expr}{p pos:Pos}{env:Env}(h:Bp M (eval e env))(hs:starEach [e] env=[(false,eval e env)]:=by rfl):Bp M (eval (.Call (.Name x p) [e] [] pos) env):=by
 show Bp M (eval (.Name x p) env >>= fun f=>callWith pos f [] (backTo pos (starEach [e] env)) []);refine CD fun f=>?_
 rw[hs];refine wN (tD ?_);unfold evalArgs;refine wN ?_;show Bp M (eval e env >>= _);exact wN h
end
section
variable {X:Cx}{o:Expr}{go:GE}{apos cpos pos p1 p2 pos':Pos}{y z:Str}
structure JJ (X:Cx)(st:Stmt)(g:GS):Prop where
 h:∀(af:List (Addr×Obj)) (s:Shared) (σ:L2.St) (H:Hp) (D:n5),L2.Inv X af σ H s→0<s.toks→tS X g D σ H→wpAny (model X.prog X.w) X.A (exec st X.env) (SP X af D) X.xe s
structure JH (X:Cx)(st:Stmt):Prop where
 h:Bp (model X.prog X.w) (exec st X.env)
theorem zg {x:Str}{e:Expr}(h:Bp (model X.prog X.w) (eval e X.env))(hs:swapsWith e (some (.Name x pos')) pos.line X.env=pure false:=by rfl):JH X (.Assign [.Name x pos'] e pos):=⟨by
 rw[exec_Assign_Name (env:=X.env) x pos' e pos hs];exact CD fun _=>wN h⟩
def vS (y z:Str)(go:GE):GE:=fun ρ M=>(go ρ M).bind fun d M1=>match d with
 | .str x=>if x.length≤100000 then .ok (.str (Txt.replace x y z)) M1 else .bad
 | _=>.bad
theorem yM {i:Nat}{x:Str}{k1 k2}(hN:X.N.Nodup)(ho:QE X o go)(hi:X.N[i]?=some x:=by rfl)(hx:qH X.env.scope x:=by first|exact Or.inl rfl|exact Or.inr rfl)(hf:X.fn x=true∨X.env.scope.names.lookup x=some .local:=by first|exact .inl rfl|exact .inr rfl)
  (hyz:(y==z)=false:=by rfl) (hz:z.length≤14:=by decide)
  (hbase:attributeBase o "replace" X.env (eval o X.env)=eval o X.env:=by rfl) (hline:(apos.endLine==cpos.line)=true:=by rfl)
  (hs:swapsWith (.Call (.Attribute o "replace" apos) [.Constant (.str y) k1 p1,.Constant (.str z) k2 p2] [] cpos) (some (.Name x pos')) pos.line X.env=pure false:=by rfl) :
  JJ X (.Assign [.Name x pos'] (.Call (.Attribute o "replace" apos) [.Constant (.str y) k1 p1,.Constant (.str z) k2 p2] [] cpos) pos) (au i (vS y z go)):=by
 refine⟨?_⟩;intro af s σ H Dn I hp h;refine wpAny_Assign_Name ?_ hs;refine wpAny_Call_method_late hbase rfl hline rfl ?_;obtain⟨ρ,θ,M,hd,hw,h⟩:=h;have h:bK X θ H Dn (((go ρ M).bind fun d M1=>match d with | .str x=>if x.length≤100000 then aN.ok (.str (Txt.replace x y z)) M1 else .bad|_=>.bad).bind fun d M1=>.ok (.nx (ρ.set i (some d))) M1):=h;have hE:tE X go σ H (fun v H1=>∃x0,v=.str x0∧x0.length≤100000∧Dn.nx (σ.set i (some (.str (Txt.replace x0 y z)))) H1):=by
  refine bG hd hw (bK X θ H Dn) (fun c M' h=>h) (fun h=>h) (g:=go) (f:=fun d M1=>(match d with | .str x=>if x.length≤100000 then aN.ok (.str (Txt.replace x y z)) M1 else .bad|_=>.bad:aN D).bind fun d M1=>.ok (.nx (ρ.set i (some d))) M1) ?_ fun d M1 v θ1 H1 g1 r1 h1=>?_
  ·cases q:go ρ M with
   | ok d M1=>rw[q] at h;exact h
   | err c M1=>rw[q] at h;exact h
   | bad=>rw[q] at h;exact h
  ·cases d with
   | str x0=>
    have h1:bK X θ H Dn ((if x0.length≤100000 then aN.ok (.str (Txt.replace x0 y z)) M1 else .bad:aN D).bind fun d M1=>.ok (.nx (ρ.set i (some d))) M1):=h1;have ev:v=.str x0:=r1;split at h1
    ·rename_i hl;exact⟨x0,ev,hl,h1 _ θ1 H1 g1 ((hd.go g1).set (d:=.str (Txt.replace x0 y z)) rfl i)⟩
    ·exact h1.elim
   | _=>exact h1.elim
 refine bW (qN hp (ho.h af s σ H _ I hE)) fun v s1 hxx=>?_
 obtain⟨⟨x1,H1,I1,r1,x0,rfl,hl,q⟩,hp1⟩:=hxx;obtain⟨t,rfl⟩:=r1;refine⟨"str",_,PySem.F.plainAttrs_str,PySem.F.slot_str_replace,PySem.F.type_str_replace,typeIs_str _ _ _,(fun _ e=>nomatch e),?_⟩;refine Calls.callWith_builtin rfl (Calls.evalArgs_plain ?_);show wpAny _ _ (spliced [(false,eval (.Constant (.str y) k1 p1) X.env),(false,eval (.Constant (.str z) k2 p2) X.env)]) _ _ s1;refine Calls.spliced_cons (Calls.Constant_str (Calls.spliced_cons (Calls.Constant_str (Calls.spliced_nil ?_))));refine SC.replaceW (Nat.ne_of_gt hp1) (Nat.succ_ne_zero _) (Nat.ne_of_lt (Nat.lt_succ_self _)) hyz (by omega) hz fun t' k=>?_
 exact ia (I1.tok k) hN hi hx (v:=.str (Txt.replace x0 y z)) ⟨t',rfl⟩ (fun s2 I2=>⟨_,H1,I2,q⟩) hf
theorem mK {t u:GS}{D:n5}{σ:L2.St}{H:Hp}(h:tS X (aj t u) D σ H):Ck (tS X t) (tS X u) D σ H:=by
 obtain⟨ρ,θ,M,hd,hw,h⟩:=h;refine⟨ρ,θ,M,hd,hw,?_⟩;unfold aj at h;cases q:t ρ M with
 | ok f M1=>
  rw[q] at h;cases f with
  | nx ρ1=>exact fun σ1 θ1 H1 g1 d1=>⟨ρ1,θ1,M1,d1,g1.wr,bK.go g1 h⟩
  | rt d=>exact h
  | bk ρ1=>exact h
  | ct ρ1=>exact h
 | err c M1=>rw[q] at h;exact h
 | bad=>rw[q] at h;exact h
theorem CY {st1 st2:Stmt}{rest:List Stmt}{g1 g2 gr:GS}(h1:QS X st1 g1)(hb:JH X st1)(h2:JJ X st2 g2)(hr:QB X rest gr):QB X (st1::st2::rest) (aj g1 (aj g2 gr)):=by
 have hs2:∀(af:List (Addr×Obj)) (s:Shared) (σ:L2.St) (H:Hp) (D:n5),L2.Inv X af σ H s→0<s.toks→Ck (tS X g2) (tS X gr) D σ H→wpAny (model X.prog X.w) X.A (execs (st2::rest) X.env) (SP X af D) X.xe s:=by
  intro af s σ H D I hp h;refine wpAny_execs_cons (bW (h2.h af s σ H {D with nx:=tS X gr D} I hp h) fun f s1 q=>?_);cases f with
  | next=>
   obtain⟨σ',H',I',q⟩:=q;exact hr.h af s1 σ' H' D I' q
  | ret v=>exact q
  | brk=>exact q
  | cont=>exact q
 refine⟨?_⟩;intro af s σ H D I h;have h':=mK h;have hw:wpAny (model X.prog X.w) X.A (exec st1 X.env) (fun f s1=>SP X af {D with nx:=fun σ H=>tS X (aj g2 gr) D σ H} f s1∧0<s1.toks) X.xe s:=
  fun Γ p hΓ=>hb.h Γ (fun f _ s1=>SP X af {D with nx:=fun σ H=>tS X (aj g2 gr) D σ H} f s1) _ p s (h1.h af s σ H {D with nx:=fun σ H=>tS X (aj g2 gr) D σ H} I h' Γ p hΓ)
 refine wpAny_execs_cons (bW hw fun f s1 q=>?_);obtain⟨q,hp⟩:=q;cases f with
 | next=>
  obtain⟨σ',H',I',q⟩:=q;exact hs2 af s1 σ' H' D I' hp (mK q)
 | ret v=>exact q
 | brk=>exact q
 | cont=>exact q
end
end DL
namespace DL
open PySem L2
def bE:Nat→D→Bool
 | 0,_=>false
 | f+1,d=>match d with
  | .mr _=>false
  | .tup xs=>xs.all (bE f)
  | .lst xs=>xs.all (bE f)
  | .ro xs=>xs.all (bE f)
  | _=>true
theorem dm {f:D→Option D}:∀{xs:List D},(∀x∈xs,f x=some x)→br f xs=some xs
 | [],_=>rfl
 | x::xs,h=>by
  unfold br;rw[h x List.mem_cons_self,dm fun y hy=>h y (List.mem_cons_of_mem _ hy)]
theorem dr {n:Nat}{M:av}:∀(f:Nat) (d:D),bE f d=true→frz n M f d=some d
 | 0,d,h=>by cases h
 | f+1,d,h=>by
  cases d with
  | mr k=>cases h
  | tup xs=>
   have h:xs.all (bE f)=true:=h;show(br (frz n M f) xs).map D.tup=_;rw[dm fun x hx=>dr f x (List.all_eq_true.mp h x hx)];rfl
  | lst xs=>
   have h:xs.all (bE f)=true:=h;show(br (frz n M f) xs).map D.lst=_;rw[dm fun x hx=>dr f x (List.all_eq_true.mp h x hx)];rfl
  | ro xs=>
   have h:xs.all (bE f)=true:=h;show(br (frz n M f) xs).map D.ro=_;rw[dm fun x hx=>dr f x (List.all_eq_true.mp h x hx)];rfl
  | _=>rfl
def bu:MO→Bool
 | .lst xs=>xs.all (bE 30)
 | .obj _ fs=>fs.all fun p=>bE 30 p.2
 | .dK fs=>fs.all fun p=>bE 30 p.2
 | .dT fs=>fs.all fun p=>bE 30 p.2
theorem ka {κ:Type}{f:D→Option D}:∀{fs:List (κ×D)},(∀p∈fs,f p.2=some p.2)→mH f fs=some fs
 | [],_=>rfl
 | (x,d)::fs,h=>by
  unfold mH;rw[h (x,d) List.mem_cons_self,ka fun y hy=>h y (List.mem_cons_of_mem _ hy)]
theorem nr {f:D→Option D}:∀{fs:List (Str×D)},(∀p∈fs,f p.2=some p.2)→p7 f fs=some fs
 | [],_=>rfl
 | (x,d)::fs,h=>by
  unfold p7;rw[h (x,d) List.mem_cons_self,nr fun y hy=>h y (List.mem_cons_of_mem _ hy)]
theorem dH {n:Nat}{M:av}:∀{l:List MO},l.all bu=true→eO n M l=some l
 | [],_=>rfl
 | .lst xs::r,h=>by
  rw[List.all_cons,Bool.and_eq_true] at h;unfold eO;rw[dH h.2];have h1:xs.all (bE 30)=true:=h.1;rw[dm fun x hx=>dr 30 x (List.all_eq_true.mp h1 x hx)]
 | .obj c fs::r,h=>by
  rw[List.all_cons,Bool.and_eq_true] at h;unfold eO;rw[dH h.2];have h1:(fs.all fun p=>bE 30 p.2)=true:=h.1;rw[nr fun p hp=>dr 30 p.2 (List.all_eq_true.mp h1 p hp)]
 | .dK fs::r,h=>by
  rw[List.all_cons,Bool.and_eq_true] at h;unfold eO;rw[dH h.2];have h1:(fs.all fun p=>bE 30 p.2)=true:=h.1;rw[ka fun p hp=>dr 30 p.2 (List.all_eq_true.mp h1 p hp)]
 | .dT fs::r,h=>by
  rw[List.all_cons,Bool.and_eq_true] at h;unfold eO;rw[dH h.2];have h1:(fs.all fun p=>bE 30 p.2)=true:=h.1;rw[ka fun p hp=>dr 30 p.2 (List.all_eq_true.mp h1 p hp)]
theorem dj {d:D}{M E:av}(hd:bE 30 d=true)(hM:M.all bu=true):dJ M.length (.ok d (M++E))=.ok d M:=by
 unfold dJ
 by_cases h:(M++E).length=M.length
 ·have:E=[]:=by
   rw[List.length_append] at h;exact List.length_eq_zero_iff.mp (by omega)
  subst this;simp
 ·simp only[if_neg h];rw[List.take_left,dr 30 d hd,dH hM]
@[simp] theorem EO (f:Nat) (i:Int):bE (f+1) (.int i)=true:=rfl
@[simp] theorem Gk (f:Nat) (i:Bool):bE (f+1) (.bl i)=true:=rfl
@[simp] theorem EI (f:Nat):bE (f+1) .non=true:=rfl
@[simp] theorem EH (f:Nat) (x:Str):bE (f+1) (.str x)=true:=rfl
theorem EQ (f:Nat)(xs:List D):bE (f+1) (.tup xs)=xs.all (bE f):=rfl
theorem il (f:Nat)(xs:List D):bE (f+1) (.lst xs)=xs.all (bE f):=rfl
theorem mL (f:Nat)(l:List Int):(l.map D.int).all (bE (f+1))=true:=by
 rw[List.all_map];exact List.all_eq_true.mpr fun x _=>rfl
theorem lK {t:GT}{b:GS}{n:Nat}{ρ ρ2:bc}{M M1 M2:av}(h1:t ρ M=.ok true M1)(h2:b ρ M1=.ok (.nx ρ2) M2):bI t b (n+1) ρ M=bI t b n ρ2 M2:=by
 rw[bI,h1,ah,if_pos rfl,h2,ah]
theorem eZ {t:GT}{b:GS}{n:Nat}{ρ:bc}{M M1:av}(h1:t ρ M=.ok false M1):bI t b (n+1) ρ M=.ok (.nx ρ) M1:=by
 rw[bI,h1,ah,if_neg Bool.false_ne_true]
theorem sH {M:av}{xs:List D}(hx:xs.all (bE 29)=true)(hM:M.all bu=true):dJ M.length (.ok (.mr M.length) (M++[.lst xs]))=.ok (.lst xs) M:=by
 have f1:=dH (n:=M.length) (M:=M++[.lst xs]) hM;have f2:frz M.length (M++[.lst xs]) 30 (.mr M.length)=some (.lst xs):=by
  have o:br (frz M.length (M++[.lst xs]) 29) xs=some xs:=dm fun x h=>dr 29 x (List.all_eq_true.mp hx x h)
  show(if M.length<M.length then some (D.mr M.length) else match (M++[MO.lst xs])[M.length]? with|some (MO.lst ys)=>(br (frz M.length (M++[MO.lst xs]) 29) ys).map D.lst|_=>none)=_;rw[if_neg (Nat.lt_irrefl _)];simp;rw[o]
 show(if(M++[MO.lst xs]).length=M.length then aN.ok (D.mr M.length) (M++[MO.lst xs]) else match frz M.length (M++[MO.lst xs]) 30 (.mr M.length),eO M.length (M++[MO.lst xs]) ((M++[MO.lst xs]).take M.length) with|some d',some M'=>.ok d' M'|_,_=>.bad)=_;rw[if_neg (by simp),List.take_left,f1,f2]
end DL
namespace DL
open PySem L2
theorem ay {a b:GS}{ρ ρ1:bc}{M M1:av}(h:a ρ M=.ok (.nx ρ1) M1):aj a b ρ M=b ρ1 M1:=by
 unfold aj;rw[h];rfl
theorem gP {a b:GS}{ρ:bc}{d:D}{M M1:av}(h:a ρ M=.ok (.rt d) M1):aj a b ρ M=.ok (.rt d) M1:=by
 unfold aj;rw[h];rfl
theorem fv {a b:GS}{ρ:bc}{c:Str}{M M1:av}(h:a ρ M=.err c M1):aj a b ρ M=.err c M1:=by
 unfold aj;rw[h];rfl
theorem dE {t:GT}{a b:GS}{ρ:bc}{M M1:av}(h:t ρ M=.ok true M1):ce t a b ρ M=a ρ M1:=by
 unfold ce;rw[h,ah,if_pos rfl]
theorem dY {t:GT}{a b:GS}{ρ:bc}{M M1:av}(h:t ρ M=.ok false M1):ce t a b ρ M=b ρ M1:=by
 unfold ce;rw[h,ah,if_neg Bool.false_ne_true]
theorem aD {i:Nat}{g:GE}{ρ:bc}{M M1:av}{d:D}(h:g ρ M=.ok d M1):au i g ρ M=.ok (.nx (ρ.set i (some d))) M1:=by
 unfold au;rw[h,ah]
theorem js {g:GE}{ρ:bc}{M M1:av}{d:D}(h:g ρ M=.ok d M1):cf g ρ M=.ok (.nx ρ) M1:=by
 unfold cf;rw[h,ah]
theorem ii {g:GE}{ρ:bc}{M M1:av}{d:D}(h:g ρ M=.ok d M1):a9 g ρ M=.ok (.rt d) M1:=by
 unfold a9;rw[h,ah]
theorem eL {a b:GT}{ρ:bc}{M:av}{x y:Bool}(ha:a ρ M=.ok x M)(hb:x=true→b ρ M=.ok y M):dQ a b ρ M=.ok (x&&y) M:=by
 unfold dQ;rw[ha,ah];cases x with
 | true=>exact hb rfl
 | false=>rfl
theorem dz {a b:GT}{ρ:bc}{M:av}{x y:Bool}(ha:a ρ M=.ok x M)(hb:x=false→b ρ M=.ok y M):cb a b ρ M=.ok (x||y) M:=by
 unfold cb;rw[ha,ah];cases x with
 | true=>rfl
 | false=>exact hb rfl
theorem jn {a:GT}{ρ:bc}{M:av}{x:Bool}(ha:a ρ M=.ok x M):du a ρ M=.ok (!x) M:=by
 unfold du;rw[ha,ah]
theorem qP {a:GE}{ρ:bc}{M M1:av}{x:Bool}(ha:a ρ M=.ok (.bl x) M1):iG a ρ M=.ok x M1:=by
 unfold iG;rw[ha,ah];rfl
theorem aL {a:GE}{ρ:bc}{M M1:av}{x:Bool}(ha:a ρ M=.ok (.bl x) M1):aw a ρ M=.ok x M1:=by
 unfold aw;rw[ha,ah];rfl
theorem ao {f:F2}{a b:GE}{ρ:bc}{M M1 M2:av}{x y:D}{o:aN D}(ha:a ρ M=.ok x M1)(hb:b ρ M1=.ok y M2)(h:f x y M2=o):g2 f a b ρ M=o:=by
 unfold g2;rw[ha,ah,hb,ah,h]
theorem cu {F:FD}{a:GE}{ρ:bc}{M M1:av}{x:D}{o:aN D}(ha:a ρ M=.ok x M1)(h:F [x] M1=o):az F (aa a ag) ρ M=o:=by
 unfold az aa ag;rw[ha,ah,ah,ah,h]
theorem fz {F:FD}{a:GE}{ρ:bc}{M M1:av}{x:D}{o:aN D}(ha:a ρ M=.ok x M1)(h:F [x] M1=o):ar 1 F (aa a ag) ρ M=o:=by
 unfold ar aa ag;rw[ha,ah,ah,ah,if_pos (show [x].length=1 from rfl),h]
theorem bV {F:FD}{a b:GE}{ρ:bc}{M M1 M2:av}{x y:D}{o:aN D}(ha:a ρ M=.ok x M1)(hb:b ρ M1=.ok y M2)(h:F [x,y] M2=o):ar 2 F (aa a (aa b ag)) ρ M=o:=by
 unfold ar aa ag;rw[ha,ah,hb,ah,ah,ah,ah,if_pos (show [x,y].length=2 from rfl),h]
theorem xC {F:FD}{a b c:GE}{ρ:bc}{M M1 M2 M3:av}{x y z:D}{o:aN D}(ha:a ρ M=.ok x M1)(hb:b ρ M1=.ok y M2)(hc:c ρ M2=.ok z M3)(h:F [x,y,z] M3=o):ar 3 F (aa a (aa b (aa c ag))) ρ M=o:=by
 unfold ar aa ag;rw[ha,ah,hb,ah,hc,ah,ah,ah,ah,ah,if_pos (show [x,y,z].length=3 from rfl),h]
theorem wI {F:FD}{a b c d:GE}{ρ:bc}{M M1 M2 M3 M4:av}{x y z u:D}{o:aN D}(ha:a ρ M=.ok x M1)(hb:b ρ M1=.ok y M2)(hc:c ρ M2=.ok z M3)(hd:d ρ M3=.ok u M4)(h:F [x,y,z,u] M4=o):ar 4 F (aa a (aa b (aa c (aa d ag)))) ρ M=o:=by
 unfold ar aa ag;rw[ha,ah,hb,ah,hc,ah,hd,ah,ah,ah,ah,ah,ah,if_pos (show [x,y,z,u].length=4 from rfl),h]
theorem yE {p:D→Bool}:∀xs:List D,cZ (xs.map fun d=>D.bl (p d))=some (xs.map p)
 | []=>rfl
 | x::xs=>by
  show(cZ (xs.map fun d=>D.bl (p d))).map (p x::·)=_;rw[yE xs];rfl
theorem BO {gi:GI}{ge:GE}{ρ:bc}{M:av}{xs:List D}{p:D→Bool}(hi:gi ρ M=.ok ⟨xs,none⟩ M)(hl:xs.length≤100000)(h:∀x∈xs,ge (some x::ρ) M=.ok (.bl (p x)) M) :
  az mx (aa (aX gi bJ ge aJ) ag) ρ M=.ok (.bl (xs.all p)) M:=by
 have c:=gV (ds0:=xs) (ge:=ge) (ρ:=ρ) (f:=fun d=>D.bl (p d)) (M:=M) xs h;have l1:(xs.map fun d=>D.bl (p d)).length≤sizeLine:=by rw[List.length_map];exact aY (by omega)
 refine cu (x:=.lst (xs.map fun d=>D.bl (p d))) (M1:=M) ?_ ?_
 ·unfold aX;rw[hi,ah];dsimp only;rw[c,ah];unfold aJ;rw[if_pos l1]
 ·show(match bv (.lst (xs.map fun d=>D.bl (p d))) M with|some xs=>(match cZ xs with|some bs=>aN.ok (D.bl (bs.all id)) M|none=>.bad)|none=>.bad)=_;show(match cZ (xs.map fun d=>D.bl (p d)) with|some bs=>aN.ok (D.bl (bs.all id)) M|none=>.bad)=_;rw[yE];dsimp only;rw[List.all_map];rfl
theorem ja (a b:Int)(M:av):aK false (.int a) (.int b) M=.ok (.bl (decide (a=b))) M:=by
 show aN.ok (D.bl ((a==b) != false)) M=_
 by_cases q:a=b <;> simp[q]
theorem qw (a b:Int)(M:av):aK true (.int a) (.int b) M=.ok (.bl (!decide (a=b))) M:=by
 show aN.ok (D.bl ((a==b) != true)) M=_
 by_cases q:a=b <;> simp[q]
theorem iE (M:av)(E:List D):(M++[MO.lst E])[M.length]?=some (.lst E):=by simp
theorem gX (M:av)(E E':List D):(M++[MO.lst E]).set M.length (.lst E')=M++[MO.lst E']:=by simp
theorem gZ {xs:List D}{k:Nat}{d:D}{M:av}(h:xs[k]?=some d):qf (.lst xs) (.int k) M=.ok d M:=by
 have a:=gJ (xs:=xs) (j:=k) h;unfold qf bv;dsimp only;rw[a]
theorem Hx {xs:List D}{k:Nat}{d:D}{M:av}(h:xs[k]?=some d):qf (.tup xs) (.int k) M=.ok d M:=by
 have a:=gJ (xs:=xs) (j:=k) h;unfold qf bv;dsimp only;rw[a]
theorem nD {ρ:bc}{M:av}:iV ag ρ M=.ok (.mr M.length) (M++[.lst []]):=by
 show(if([]:List D).length≤sizeLine then aN.ok (D.mr M.length) (M++[.lst []]) else .bad)=_;rw[if_pos (show([]:List D).length≤sizeLine from Nat.zero_le _)]
theorem j9 {ga:GA}{ρ:bc}{M M1:av}{ds:List D}(h:ga ρ M=.ok ds M1)(hl:ds.length≤100000:=by exact Nat.le_of_ble_eq_true rfl):dk ga ρ M=.ok (.tup ds) M1:=by
 have:ds.length≤sizeLine:=aY (by omega);unfold dk;rw[h,ah];unfold k8;rw[if_pos this]
theorem fb {ga:GA}{ρ:bc}{M M1:av}{ds:List D}(h:ga ρ M=.ok ds M1)(hl:ds.length≤100000:=by exact Nat.le_of_ble_eq_true rfl):cA ga ρ M=.ok (.lst ds) M1:=by
 have:ds.length≤sizeLine:=aY (by omega);unfold cA;rw[h,ah];unfold aJ;rw[if_pos this]
theorem aZ {g:GE}{r:GA}{ρ:bc}{M M1 M2:av}{d:D}{ds:List D}(h:g ρ M=.ok d M1)(hr:r ρ M1=.ok ds M2):aa g r ρ M=.ok (d::ds) M2:=by
 unfold aa;rw[h,ah,hr,ah]
theorem si {go ge:GE}{ρ:bc}{M M1:av}{k:Nat}{E E1:List D}{d:D}(h1:go ρ M=.ok (.mr k) M)(h2:M[k]?=some (.lst E))(h3:ge ρ M=.ok d M1)(h4:M1[k]?=some (.lst E1))(h:E1.length<1000000) :
  iF go ge ρ M=.ok .non (M1.set k (.lst (E1++[d]))):=by
 have l:E1.length<sizeLine:=Nat.lt_of_lt_of_le h (by rw[sizeLine_eq];decide);unfold iF;rw[h1,ah];dsimp only;rw[h2];dsimp only;rw[h3,ah];unfold uh;rw[h4];dsimp only;rw[if_pos l]
theorem eD {ga:GA}{ρ:bc}{M M1:av}{n:Nat}(h:ga ρ M=.ok [.int (n:Int)] M1)(hn:n≤1000000):bM ga ρ M=.ok ⟨aM 0 n,none⟩ M1:=by
 unfold bM;rw[h,ah,yp hn]
theorem iJ {gi:GI}{sg:GG}{b:GS}{ρ:bc}{M M1:av}{t:mj}{o:aN Fl}(h:gi ρ M=.ok t M1)(e:cH t sg b t.ds ρ M1=o):iQ gi sg b ρ M=o:=by
 unfold iQ;rw[h,ah,e]
theorem iI {i j:Int}(h0:-1000000≤i)(h1:i≤1000000)(M:av):dF (.int i) (.int j) M=.ok (.int (i*j)) M:=by
 have a:-(2 ^ 64:Int)<i:=Int.lt_of_lt_of_le (by decide) h0;have b:i<(2 ^ 64:Int):=Int.lt_of_le_of_lt h1 (by decide);unfold dF;dsimp only;rw[if_pos (.inl ⟨a,b⟩)]
theorem sK {d:D}(h:cz 40 d=true)(hs:kq d d=true)(hm:∀M,now d M=d)(M:av):aK true d d M=.ok (.bl false) M:=by
 unfold aK;rw[hm,h,hs];rfl
end DL
namespace DL
open PySem L2
theorem pQ {M:av}{i:Nat}{o:MO}(h:M[i]?=some o):M.set i o=M:=by
 obtain⟨hi,e⟩:=List.getElem?_eq_some_iff.mp h;rw[←e];exact List.set_getElem_self hi
end DL
namespace Hd
open PySem PySem.W PySem.Calls PyProof.Rows
def topRunT (tb:String→Option Builtin)(p:Program)(w:World)(n0:Nat)(ann:Option Value):Nat→SharedT→Thread→Option SharedT
 | 0,_,_=>none
 | n+1,s,t=>match through t with
  | true=>some s
  | false=>match stepOk n0 ann t with
   | false=>none
   | true=>match stepT (denote tb) p w s t with
    | some (s',t')=>topRunT tb p w n0 ann n s' t'
    | none=>none
theorem mV {tb:String→Option Builtin}{p:Program}{w:World}{n0:Nat}{ann:Option Value}:∀{n:Nat} {s s':SharedT} {t:Thread},topRunT tb p w n0 ann n s t=some s'→topRun tb p w n0 ann n s.abs t=some s'.abs
 | 0,_,_,_,h=>by cases h
 | n+1,s,s',t,h=>by
  unfold topRunT at h;unfold topRun;cases he:through t with
  | true=>rw[he] at h;cases h;rfl
  | false=>
   rw[he] at h;cases hk:stepOk n0 ann t with
   | false=>rw[hk] at h;cases h
   | true=>
    rw[hk] at h;cases hs:stepT (denote tb) p w s t with
    | none=>rw[hs] at h;cases h
    | some r=>obtain⟨s2,t2⟩:=r;rw[hs] at h;rw[stepT_spec hs];exact mV h
def grow:List Obj→BT→Nat→BT
 | [],t,_=>t
 | o::r,t,n=>grow r (t.ins n o) (n+1)
def Bm:List Obj→BT→Nat→Bool
 | [],_,_=>true
 | o::r,t,n=>((t.ins n o).get n).isSome&&Bm r (t.ins n o) (n+1)
theorem qF (life:Life):∀(l:List Obj) (t:BT) (n:Nat),Bm l t n=true→absHeap (grow l t n) (n+l.length) life=⟨(absHeap t n life).objs++l.toArray,life⟩
 | [],t,n,_=>by simp[grow,absHeap]
 | o::r,t,n,h=>by
  obtain⟨h1,h2⟩:=Bool.and_eq_true_iff.mp h;have e:=qF life r (t.ins n o) (n+1) h2;have e2:absHeap (t.ins n o) (n+1) life=(absHeap t n life).push o:=absHeap_ins h1;show absHeap (grow r (t.ins n o) (n+1)) (n+(r.length+1)) life=_;rw[show n+(r.length+1)=n+1+r.length by omega,e,e2];simp[Heap.push]
theorem sk {p q:Program}{loose:List Str}{Xt:Shared→Bool}{A:Type}{Yf:Shared→A}{Ya:World→A}{N:Nat}{g0:Bool}{H:Params→Heap}{gs:Array GenState}{d:Drawn}{k:Nat}{m:Nat}{ann:Option Value}{T:Params→BT}{lf:Life}
  (open_:∀w:World,(fencedOpening treeTable p w N).map (fun s=>(s.heap,s.gens,s.drawn,s.toks))=some (H w.params,gs,d,k))
  (size:∀w:World,((H w.params).isNs mainGlobals&&gs.size==0,(H w.params).objs.size,(H w.params).nsMap mainGlobals "__annotations__")=(true,m,ann))
  (tree:∀P,H P=absHeap (T P) m lf)
  (run:∀(w:World) (os:OsState),(topRunT treeTable p w m ann N ⟨T w.params,m,lf,gs,d,k,os⟩ (topStub p)).map (fun s=>
    ((staticsOk (importedModules p.main.body) (H w.params) s.abs.heap&&namesBound p s.abs.heap&&gensDone s.abs&&laidKept (H w.params) s.abs.heap),
    openSeen q loose (importedModules p.main.body) Xt g0 s.abs,Yf s.abs))=some (true,openGood q loose,Ya w)):LeftO p q loose Xt Yf Ya N g0:=fun w=>by
 obtain⟨⟨h,gs',d',k',os⟩,e,e'⟩:=Option.map_eq_some_iff.mp (open_ w);obtain⟨rfl,rfl,rfl,rfl⟩:h=H w.params∧gs'=gs∧d'=d∧k'=k:=by simpa using e'
 obtain⟨z1,z2,z3⟩:_∧_∧_:=by simpa only[Prod.mk.injEq] using size w
 obtain⟨s,r1,r2⟩:=Option.map_eq_some_iff.mp (run w os);obtain⟨l1,l2,l3⟩:_∧_∧_:=by simpa only[Prod.mk.injEq] using r2
 have r:=mV r1;have ea:SharedT.abs ⟨T w.params,m,lf,gs',d',k',os⟩=⟨H w.params,gs',d',k',os⟩:=by rw[tree];rfl
 rw[ea] at r;have t:topFrom treeTable p w N ⟨H w.params,gs',d',k',os⟩=some s.abs:=by
  unfold topFrom;dsimp only;rw[z1,z2,z3,r];show(match staticsOk (importedModules p.main.body) (H w.params) s.abs.heap&&namesBound p s.abs.heap&&gensDone s.abs&&laidKept (H w.params) s.abs.heap with|true=>_|false=>_)=_;rw[l1]
 unfold openEnds;rw[e];show(topFrom treeTable p w N _).map _=_;rw[t];exact congrArg some (Prod.ext l2 l3)
noncomputable def bootT (P:Params):BT:=grow (boot_heap P).objs.toList .nil 0
lay_quick Hd.topRunT W.topStub
theorem u7 (P:Params):boot_heap P=absHeap (bootT P) 11 {}:=by
 have h:=qF {} (boot_heap P).objs.toList .nil 0 (by kernel_rfl);exact h.symm
noncomputable def RT (p:Program) (w:World) (N:Nat) (os:OsState):Option SharedT:=topRunT treeTable p w 11 (some (Value.ref 6)) N ⟨bootT w.params,11,{},Array.mk [],boot_drawn,boot_toks,os⟩ (topStub p)
noncomputable def pA (p:Program) (P:Params) (s:Shared):Bool:=staticsOk (importedModules p.main.body) (boot_heap P) s.heap&&namesBound p s.heap&&gensDone s&&laidKept (boot_heap P) s.heap
def pB (q:Program)(mods:List Str)(Xt:Shared→Bool)(s:Shared):Bool:=(s.heap.keysOk (looseW q []) ((recsOf q).map (·.name)) ((litsOf q).map (·.1)) ((clssOf q (looseW q [])).map (·.name))&&s.heap.accountedOkI mods&&s.heap.isNs mainGlobals&&s.heap.isNs builtinsNs&&tablesOk q s.heap&&Xt s&&(if true then s.gens.size==0 else !leftWithCleanup s.gens))&&tabsOk q s
def pC (q:Program)(s:Shared):=(seen ((recsOf q).map (·.name)) (ownsOf q) [] {s with gens:=#[]},s.heap.bltView,wideSeen q s)
def pD (q:Program)(s:Shared):=(pinSeenD q (drecsOf q) s,plainSeenE q (looseW q []) s,plainSeenD q [] s,clsSeenW q [] s)
lay_quick Hd.pB
lay_quick Hd.pC
lay_quick Hd.pD
theorem ow {α A B:Type}{x:Option α}{f:α→A}{g:α→B}{a:A}{b:B}(h1:x.map f=some a)(h2:x.map g=some b):x.map (fun s=>(f s,g s))=some (a,b):=by
 cases x with
 | none=>cases h1
 | some s=>exact congrArg some (Prod.ext (Option.some.inj h1) (Option.some.inj h2))
theorem rS {p q:Program}{Xt:Shared→Bool}{A:Type}{Yf:Shared→A}{Ya:World→A}{N:Nat}
  (open_:∀w:World,(fencedOpening treeTable p w N).map (fun s=>(s.heap,s.gens,s.drawn,s.toks))=some (boot_heap w.params,Array.mk [],boot_drawn,boot_toks))
  (size:∀w:World,((boot_heap w.params).isNs mainGlobals&&(Array.mk ([]:List GenState)).size==0,(boot_heap w.params).objs.size,(boot_heap w.params).nsMap mainGlobals "__annotations__")=(true,11,some (Value.ref 6)))
  (r1:∀(w:World) (os:OsState),(RT p w N os).map (fun s=>pA p w.params s.abs&&pB q (importedModules p.main.body) Xt s.abs)=some true)
  (r2:∀(w:World) (os:OsState),(RT p w N os).map (fun s=>pC q s.abs)=some (expectedOf q,bltViewBooted,wideGood q))
  (r3:∀(w:World) (os:OsState),(RT p w N os).map (fun s=>pD q s.abs)=some (pinGoodD (drecsOf q),plainGoodE q (looseW q []),plainGoodD q [],clsGoodW q []))
  (r4:∀(w:World) (os:OsState),(RT p w N os).map (fun s=>Yf s.abs)=some (Ya w)):LeftO p q [] Xt Yf Ya N true:=
 sk open_ size u7 fun w os=>by
  show(RT p w N os).map _=_;have h:=ow (ow (r1 w os) (r2 w os)) (ow (r3 w os) (r4 w os));cases e:RT p w N os with
  | none=>rw[e] at h;cases h
  | some s=>
   rw[e] at h;obtain⟨h1,h2⟩:=Prod.mk.inj (Option.some.inj h);obtain⟨h1,h3⟩:=Prod.mk.inj h1;obtain⟨h4,h5⟩:=Prod.mk.inj h2;obtain⟨a,b⟩:=Bool.and_eq_true_iff.mp h1;obtain⟨b,c⟩:=Bool.and_eq_true_iff.mp b;obtain⟨c1,c2⟩:=Prod.mk.inj h3;obtain⟨c2,c3⟩:=Prod.mk.inj c2;obtain⟨d1,d2⟩:=Prod.mk.inj h4;obtain⟨d2,d3⟩:=Prod.mk.inj d2;obtain⟨d3,d4⟩:=Prod.mk.inj d3;exact congrArg some (Prod.ext a (Prod.ext (Prod.ext c1 (Prod.ext c2 (Prod.ext b (Prod.ext c (Prod.ext d1 (Prod.ext d2 (Prod.ext d3 (Prod.ext c3 d4)))))))) h5))
def lk (s:SharedT)(a:Nat):Option Obj:=match Nat.blt a s.n with
 | true=>(match s.tree.get a with
  | some o=>alive o
  | none=>none)
 | false=>none
theorem G2 {s:SharedT}{a:Nat}{o:Obj}(h:lk s a=some o):s.abs.heap.get? a=some o:=by
 unfold lk at h;cases b:Nat.blt a s.n with
 | false=>rw[b] at h;cases h
 | true=>
  rw[b] at h;cases g:s.tree.get a with
  | none=>rw[g] at h;cases h
  | some x=>rw[g] at h;exact(abs_get (Nat.blt_eq.mp b) g).trans h
theorem yi {s:SharedT}{β:Type}{f:β→Obj}:∀{as:List Nat} {l:List β},as.map (lk s)=l.map (fun p=>some (f p))→as.map s.abs.heap.get?=l.map (fun p=>some (f p))
 | [],[],_=>rfl
 | [],_::_,h=>by cases h
 | _::_,[],h=>by cases h
 | a::as,p::l,h=>by
  obtain⟨x,y⟩:=List.cons.inj h;show s.abs.heap.get? a::as.map s.abs.heap.get?=_;rw[G2 x,yi y];rfl
theorem left_k {p q:Program}{Xt:Shared→Bool}{N:Nat}{K:Params→Frag}{as:List Addr}{e:∀P,as=(K P).map (·.1)}
  (open_:∀w:World,(fencedOpening treeTable p w N).map (fun s=>(s.heap,s.gens,s.drawn,s.toks))=some (boot_heap w.params,Array.mk [],boot_drawn,boot_toks))
  (size:∀w:World,((boot_heap w.params).isNs mainGlobals&&(Array.mk ([]:List GenState)).size==0,(boot_heap w.params).objs.size,(boot_heap w.params).nsMap mainGlobals "__annotations__")=(true,11,some (Value.ref 6)))
  (r1:∀(w:World) (os:OsState),(RT p w N os).map (fun s=>pA p w.params s.abs&&pB q (importedModules p.main.body) Xt s.abs)=some true)
  (r2:∀(w:World) (os:OsState),(RT p w N os).map (fun s=>pC q s.abs)=some (expectedOf q,bltViewBooted,wideGood q))
  (r3:∀(w:World) (os:OsState),(RT p w N os).map (fun s=>pD q s.abs)=some (pinGoodD (drecsOf q),plainGoodE q (looseW q []),plainGoodD q [],clsGoodW q []))
  (r4:∀(w:World) (os:OsState),(RT p w N os).map (fun s=>as.map (lk s))=some ((K w.params).map (fun p=>some p.2))) :
  LeftO p q [] Xt (kHook K as e).obs (kHook K as e).val N true:=
 rS open_ size r1 r2 r3 fun w os=>by
  obtain⟨s,h1,h2⟩:=Option.map_eq_some_iff.mp (r4 w os);rw[h1];exact congrArg some (yi h2)
end Hd
namespace K40
open PySem PySem.Spec PyProof.Rows L2 DL List
noncomputable def top (i:Nat):Stmt:=PySem.Challenge.pw_glowrow_k40_whole_packings_spoilt_anywhe.main.body.getD i (.Pass ⟨0,0,0,0⟩)
noncomputable abbrev Bb:Stmt:=top 37
noncomputable abbrev TX:=Tx (("best_tail",top 20,["parts","tails","at"])::("signs_of",top 14,["numbers"])::("picture_text",top 16,["picture"])::("many_alike",top 22,["spots","at"])::("many_as_above",top 23,["spots","wide","at"])::("parts_at",top 21,["spots","wide","at"])::("packed",top 19,["picture"])::("_law_draw",top 30,["tape","many"])::("_law_picture",top 34,["tape","most"])::("_law_turned",top 32,["row","way","at","thing"])::("_law_sign_bent",top 36,["tape","text"])::("_law_packing_read",top 33,["text"])::("_law_word",top 31,["error"])::("read_signs",top 15,["text"])::("read_size",top 25,["text"])::("exactly",top 28,["numbers","many"])::("read_count",top 27,["text"])::("read_part",top 26,["text","at","wide","hues"])::("unpacked",top 24,["text"])::("_law_tried",top 35,["text"])::[])
 ([])
 []
 ("ValueError"::"all"::"int"::"isinstance"::"len"::"list"::"min"::"range"::"reversed"::"str"::[]) ["NoText"]
 (("Clash",[("NoText",false)])::("GlowError",[("NoText",true)])::("NoDeed",[("NoText",false)])::("NoFilm",[("NoText",false)])::("NoFrame",[("NoText",false)])::("NoRow",[("NoText",false)])::("NoScore",[("NoText",false)])::("NoStand",[("NoText",false)])::("NoText",[("NoText",true)])::("NoTick",[("NoText",false)])::("Over",[("NoText",false)])::[]) [("NoText",true)]
 ([]) [("SIGNS","0123456789abcdefghijklmnopqrstuvwxyzABCDEFGHIJKLMNOPQRSTUVWXYZ+-")] [("MOST_COUNT",63)]
set_option hygiene false
local macro_rules | `(tactic| walk_at "o") => `(tactic| first | with_reducible exact GF | with_reducible exact Em | with_reducible exact Fy | with_reducible exact GY | with_reducible exact Du | with_reducible exact GK | with_reducible exact E2 | with_reducible exact ID | with_reducible exact Jq | with_reducible exact IG | with_reducible exact Jc | with_reducible exact Il | with_reducible exact q_isnot | with_reducible exact q_in | with_reducible exact q_notin | with_reducible exact q_mulT | with_reducible exact Hb | with_reducible exact BH | with_reducible exact C6 | with_reducible exact D1 | ((with_reducible show Q2 _ _ (dIn _)); first | exact q_din hr | exact q_dnotin hr) | ((with_reducible show Q2 _ (compareOp .Eq) _); exact Jn hr) | exact HW hr)
local macro_rules | `(tactic| walk_at "c") => `(tactic| first | ((with_reducible refine Hg ?_); rfl) | ((with_reducible refine ET)) | ((with_reducible refine q_lenT)) | ((with_reducible refine Fi)) | ((with_reducible refine q_listT ?_); rfl) | ((with_reducible refine v4 ?_); rfl) | ((with_reducible refine Ap ?_); rfl) | ((with_reducible refine q_listM)) | ((with_reducible refine q_list)) | ((with_reducible refine FK ?_); rfl))
local macro_rules | `(tactic| walk_at "b") => `(tactic| with_reducible first | exact Boot.«ValueError» | exact Boot.«all» | exact Boot.«int» | exact Boot.«isinstance» | exact Boot.«len» | exact Boot.«list» | exact Boot.«min» | exact Boot.«range» | exact Boot.«reversed» | exact Boot.«str»)
local macro_rules | `(tactic| walk_at "E") => `(tactic| first
  | ((with_reducible show QE _ _ (ae _));exact qv _)
  | ((with_reducible show QE _ _ (gC _));first|exact CQ|exact Dt|exact Eu|exact GH|exact Ez (JY T.s 0)|exact zz (Ka T.i 0))
  | ((with_reducible show QE _ _ (g2 dGet _ _));refine qe_dget hr ?_ ?_)
  | ((with_reducible show QE _ _ (g2 bh _ _));refine D3 ?_ ?_)
  | ((with_reducible show QE _ _ (g2 _ _ _));first|refine Fm (by walk_at "o") ?_ ?_|refine B1 (by walk_at "o") ?_ ?_|refine qe_cmpI (by walk_at "o") ?_ ?_)
  | ((with_reducible show QE _ _ (ar _ _ _));refine E0 (by assumption) hr ?_)
  | ((with_reducible show QE _ _ (dk _));refine Dy ?_)
  | ((with_reducible show QE _ _ (kt _ _));refine EW (by first|exact .inl rfl|exact .inr (.inl rfl)|exact .inr (.inr (.inl rfl))|exact .inr (.inr (.inr (.inl rfl)))|exact .inr (.inr (.inr (.inr rfl)))) (by walk_at "b") (by rfl) (T.z _ (by decide +kernel)) (by rfl) (T.z _ (by decide +kernel)) ?_)
  | ((with_reducible show QE _ _ (az jc _));refine Bn (C5 (k:=0) (hr.mono (by decide))) (by rfl) (T.z _ (by decide +kernel)) (by walk_at "b") ?_)
  | ((with_reducible show QE _ _ (cC _ _ _));refine Dg ?_ ?_ ?_)
  | ((with_reducible show QE _ _ (aS gn _ _));refine ux ?_ ?_)
  | ((with_reducible show QE _ _ (kz j7 _ _));refine uW ?_ ?_)
  | ((with_reducible show QE _ _ (jt _ _));refine zf hr ?_ ?_)
  | ((with_reducible show QE _ _ (az _ _));first|refine Fc (by walk_at "c") (T.z _ (by decide +kernel)) (by walk_at "b") ?_|refine GD (by walk_at "c") (by rfl) (T.z _ (by decide +kernel)) (by walk_at "b") ?_)
  | ((with_reducible show QE _ _ (cA _));refine C9 ?_)
  | ((with_reducible show QE _ _ (iV _));refine BN ?_)
  | ((with_reducible show QE _ _ (ml _));refine BD ?_)
  | ((with_reducible show QE _ _ (oH _ _ _ _ _));refine yv (by walk_at "o") (by walk_at "o") ?_ ?_ ?_)
  | ((with_reducible show QE _ _ (aX _ _ _ _));first|refine qe_compR (by assumption) (by kernel_rfl) (by first|exact .inl rfl|exact .inr rfl) ?_ ?_ ?_|refine yg (by kernel_rfl) (by first|exact .inl rfl|exact .inr rfl) ?_ ?_ ?_)
  | ((with_reducible show QE _ _ (bR _ _ _ _ _ _));refine u6 (by assumption) (by kernel_rfl) (by first|exact .inl rfl|exact .inr rfl) ?_ ?_ ?_ ?_ ?_)
  | ((with_reducible show QE _ _ (iF _ _));refine vD ?_ ?_)
  | ((with_reducible show QE _ _ (gO indexG _ _));refine qe_indexG hr ?_ ?_)
  | ((with_reducible show QE _ _ (gO _ _ _));first|refine xq ?_ ?_|refine yf ?_ ?_)
  | ((with_reducible show QE _ _ (aS _ _ _));first|refine zC ?_ ?_|refine uJ ?_ ?_|refine qe_splitM ?_ ?_|refine qe_split ?_ ?_|refine zb ?_ ?_)
  | ((with_reducible show QE _ _ (kz _ _ _));first|refine wR ?_ ?_|refine uP ?_ ?_)
  | ((with_reducible show QE _ _ (fj _ _));first|refine zG (Ba T.r rfl) (T.z _ (by decide +kernel)) ?_|refine xO T.b (T.z _ (by decide +kernel)) (T.z _ (by decide +kernel)) ?_ (by kernel_rfl) (by walk_at "b")))
local macro_rules | `(tactic| walk_at "S") => `(tactic| first
  | ((with_reducible show QS _ _ (a9 _));refine DO ?_)
  | ((with_reducible show QS _ _ (ce _ _ _));refine Fv ?_ ?_ ?_)
  | ((with_reducible show QS _ _ (au _ (aX _ _ _ _)));first|refine qs_setCompR (by assumption) (by kernel_rfl) (by first|exact .inl rfl|exact .inr rfl) nd ?_ ?_ ?_|refine qz (by kernel_rfl) (by first|exact .inl rfl|exact .inr rfl) nd ?_ ?_ ?_|refine qs_setC _ nd ?_)
  | ((with_reducible show QS _ _ (au _ (bR _ _ _ _ _ _)));first|refine qs_setCompTR (by assumption) (by kernel_rfl) (by first|exact .inl rfl|exact .inr rfl) ?_ nd ?_ ?_ ?_ ?_|refine qs_setC _ nd ?_)
  | ((with_reducible show QS _ _ (au _ _));refine DV _ nd ?_)
  | ((with_reducible show QS _ _ (lL _ _));refine BX ?_ ?_)
  | ((with_reducible show QS _ _ (iQ _ _ _));refine CI PassesOwn.leaving ?_ ?_ ?_)
  | ((with_reducible show QS _ _ (cf _));refine zj ?_)
  | ((with_reducible show QS _ _ (fX _ _ _));refine Ds ?_ ?_ ?_)
  | ((with_reducible show QS _ _ (aG));first|exact qs_pass|exact qs_doc)
  | ((with_reducible show QS _ _ (fh _ _ _));refine xG PassesOwn.leaving ?_ ?_)
  | ((with_reducible show QS _ _ (cS _ _));refine ur (T.e _ (by decide +kernel)) ?_)
  | ((with_reducible show QS _ _ (nN _ _ _ _));refine Au (Ba T.r rfl) nd ?_ ?_)
  | ((with_reducible show QS _ _ (p9 _ _ _));refine Ek _ nd rfl ?_)
  | ((with_reducible show QS _ _ (kj _ _));refine AO _ nd ?_))
local macro_rules | `(tactic| walk_at "Q") => `(tactic| first
  | ((with_reducible show QE _ _ _);first|walk_at "E"|refine qe_one ?_|refine qe_and ?_ ?_|refine qe_or ?_ ?_|refine qe_fstr1 ?_)
  | ((with_reducible show QA _ _ _);first|exact Ey|refine IN ?_ ?_)
  | ((with_reducible show QT _ _ _);first
  | ((with_reducible show QT _ _ (aw (oH _ _ _ _ _)));refine vY (by walk_at "o") (by walk_at "o") ?_ ?_ ?_)
  | ((with_reducible show QT _ _ (aw _));first|refine Ct (by walk_at "o") ?_ ?_|refine A2 (by walk_at "o") ?_ ?_)
  | ((with_reducible show QT _ _ (du _));refine Ef ?_)
  | ((with_reducible show QT _ _ (iG _));refine C8 ?_)
  | ((with_reducible show QT _ _ (dQ _ _));refine F0 ?_)
  | ((with_reducible show QT _ _ (cb _ _));refine F0 ?_))
  | ((with_reducible show QB _ _ _);first|((with_reducible show QB _ _ (aj _ (aj (au _ (vS _ _ _)) _)));refine CY ?_ (zg (yG BS)) (yM nd ?_) ?_)|exact C4|refine Dv ?_|refine zX ?_ ?_)
  | ((with_reducible show QS _ _ _);walk_at "S")
  | ((with_reducible show QW _ _ _);first|refine D8 ?_ ?_|refine FV ?_ ?_|refine z7 ?_|refine Ca ?_)
  | ((with_reducible show QI _ _ _ _);first|((with_reducible show QI _ _ _ (bM _));refine Gx (by rfl) (T.z _ (by decide +kernel)) ?_)|((with_reducible show QI _ _ _ (eX _));refine E8 (by rfl) (T.z _ (by decide +kernel)) ?_)|((with_reducible show QI _ _ _ (gEnum _));refine qi_enum (by rfl) (T.z _ (by decide +kernel)) (by walk_at "b") ?_)|((with_reducible show QI _ _ _ (pp _));refine BQ (by rfl) (T.z _ (by decide +kernel)) (by rfl) (T.z _ (by decide +kernel)) ?_)|refine qi_seq ?_|refine A4 ?_)
  | ((with_reducible show QG _ _ _);first|exact qn _ nd|exact JX _ (by kernel_rfl) |((with_reducible show QG _ _ (xW _));refine CJ ?_)|refine BA ?_|refine qg_tupG ?_)
  | ((with_reducible show EM _ _ _);first|exact zO|refine Gf ?_ ?_)
  | ((with_reducible show QGG _ _ _);first|exact qgg_nil|refine qgg_c ?_ ?_)
  | ((with_reducible show QP _ _ _);first|exact A0|refine zA ?_)
  | ((with_reducible show zQ _ _ _ _ _ _);first|exact uN|refine vn ?_)
  | ((with_reducible show QO _ _);first|exact qo_one _ _|exact BI _|refine qo_tupG ?_)
  | ((with_reducible show QOs _ _);first|exact qos_nil|refine qos_c ?_ ?_)
  | ((with_reducible show QF _ _ _);first|exact qf_nil|refine qf_c ?_ ?_)
  | ((with_reducible show QD _ _ _ _ _);first|exact qd_nil|refine qd_c ?_)
  | ((with_reducible show B4 _ _ _ _ _);first|exact AF|refine FY ?_|refine Gv _ ?_)
  | intro _)
section
variable {P:Program}{w:World}{K:W.Frag}{mg:Str→Option Value}{base:Heap}
noncomputable def eM:GE:=(g2 ax (az aO (aa (ae 0) ag)) (az aO (aa (g2 bh (ae 3) (g2 ax (ae 4) (ae 1))) ag)))
noncomputable def eI:GE:=(g2 ax (ae 0) (g2 bh (ae 3) (g2 ax (ae 4) (ae 1))))
noncomputable def eK:GT:=(aw (g2 (aK false) (g2 ax (az aO (aa (ae 0) ag)) (az aO (aa (g2 bh (ae 3) (g2 ax (ae 4) (ae 1))) ag))) (ae 5)))
noncomputable def fE:GS:=(aj (au 3 (az jc (aa (bR (bF (ae 0)) 2 (l5 [0,1]) bJ eM aJ) ag))) (a9 (az jc (aa (bR (bF (ae 0)) 2 (l5 [0,1]) eK eI aJ) ag))))
noncomputable def fw:FD:=cr 1 fE
theorem oE (T:TX P w K mg base):Ok P w K mg base "best_tail" 2 3 fw:=fR (fQ T.f 0 rfl) ["parts","tails","at","fewest"] cW rfl fun f _ A _ s H E nd hr=>by have:=rn 45 17 ["text","many"] ["parts","tails","at","fewest"];have:=rn 46 15 ["text","many"] ["parts","tails","at","fewest"];delta fE eM eI eK;repeat' walk_at "Q"
noncomputable def gU:GE:=(g2 bh (gC (.str "0123456789abcdefghijklmnopqrstuvwxyzABCDEFGHIJKLMNOPQRSTUVWXYZ+-")) (ae 0))
noncomputable def iN:GS:=(a9 (aS cR (gC (.str "")) (aX (bF (ae 0)) bJ gU aJ)))
noncomputable def df:FD:=cr 0 iN
theorem ko (T:TX P w K mg base):Ok P w K mg base "signs_of" 1 1 df:=fR (fQ T.f 1 rfl) ["numbers"] cW rfl fun f _ A _ s H E nd hr=>by delta iN gU;repeat' walk_at "Q"
noncomputable def dZ:GE:=(ar 1 df (aa (ae 0) ag))
noncomputable def eT:GS:=(a9 (aS cR (gC (.str "\n")) (aX (bF (ae 0)) bJ dZ aJ)))
noncomputable def cJ:FD:=cr 0 eT
theorem kB (T:TX P w K mg base):Ok P w K mg base "picture_text" 2 1 cJ:=fR (fQ T.f 2 rfl) ["picture"] cW rfl fun f _ A _ s H E nd hr=>by have:=ko T;delta eT dZ;repeat' walk_at "Q"
noncomputable def eF:GS:=(aj (au 2 (cC (ae 0) (aH (ae 1)) (aH (g2 ax (ae 1) (gC (.int 63)))))) (a9 (g2 fO (az aO (aa (ae 2) ag)) (az aO (aa (aS gn (ae 2) (g2 bh (ae 0) (ae 1))) ag)))))
noncomputable def eJ:FD:=cr 1 eF
theorem mz (T:TX P w K mg base):Ok P w K mg base "many_alike" 1 2 eJ:=fR (fQ T.f 3 rfl) ["spots","at","rest"] cW rfl fun f _ A _ s H E nd hr=>by delta eF;repeat' walk_at "Q"
noncomputable def bT:GS:=(p9 3 true (gC (.int 1)))
noncomputable def bH:GT:=(dQ (aw (g2 je (ae 3) (gC (.int 63)))) (dQ (aw (g2 je (g2 ax (ae 2) (ae 3)) (az aO (aa (ae 0) ag)))) (aw (g2 (aK false) (g2 bh (ae 0) (g2 ax (ae 2) (ae 3))) (g2 bh (ae 0) (g2 fO (g2 ax (ae 2) (ae 3)) (ae 1)))))))
noncomputable def da:GS:=(aj (ce (aw (g2 je (ae 2) (ae 1))) (a9 (gC (.int 0))) aG) (aj (au 3 (gC (.int 0))) (aj (fh 5000 bH bT) (a9 (ae 3)))))
noncomputable def cY:FD:=cr 1 da
theorem jT (T:TX P w K mg base):Ok P w K mg base "many_as_above" 1 3 cY:=fR (fQ T.f 4 rfl) ["spots","wide","at","many"] cW rfl fun f _ A _ s H E nd hr=>by delta da bT bH;repeat' walk_at "Q"
noncomputable def fK:GE:=(dk (aa (g2 ax (g2 ax (gC (.str "!")) (g2 bh (gC (.str "0123456789abcdefghijklmnopqrstuvwxyzABCDEFGHIJKLMNOPQRSTUVWXYZ+-")) (ae 0))) (cC (ae 1) (aH (ae 3)) (aH (g2 ax (ae 3) (ae 0))))) (aa (ae 0) ag)))
noncomputable def fm:GE:=(dk (aa (g2 ax (g2 ax (gC (.str "*")) (g2 bh (gC (.str "0123456789abcdefghijklmnopqrstuvwxyzABCDEFGHIJKLMNOPQRSTUVWXYZ+-")) (ae 0))) (g2 bh (ae 1) (ae 3))) (aa (ae 0) ag)))
noncomputable def fI:GE:=(dk (aa (g2 ax (gC (.str "^")) (g2 bh (gC (.str "0123456789abcdefghijklmnopqrstuvwxyzABCDEFGHIJKLMNOPQRSTUVWXYZ+-")) (ae 0))) (aa (ae 0) ag)))
noncomputable def eV:GS:=(aj (au 3 (aX (eX (aa (gC (.int 1)) (aa (g2 ax (az oV (aa (gC (.int 63)) (aa (g2 fO (az aO (aa (ae 0) ag)) (ae 2)) ag))) (gC (.int 1))) ag))) bJ fK cy)) (aj (kj 3 (aX (eX (aa (gC (.int 1)) (aa (g2 ax (ar 2 eJ (aa (ae 0) (aa (ae 2) ag))) (gC (.int 1))) ag))) bJ fm aJ)) (aj (kj 3 (aX (eX (aa (gC (.int 1)) (aa (g2 ax (ar 3 cY (aa (ae 0) (aa (ae 1) (aa (ae 2) ag)))) (gC (.int 1))) ag))) bJ fI aJ)) (a9 (ae 3)))))
noncomputable def gj:FD:=fun ds M=>dJ M.length (cr 1 eV ds M)
theorem pe (T:TX P w K mg base):Ok P w K mg base "parts_at" 2 3 gj:=jK (F:=cr 1 eV) <| fR (fQ T.f 5 rfl) ["spots","wide","at","told"] cW rfl fun f _ A _ s H E nd hr=>by have:=mz T;have:=jT T;delta eV fK fm fI;repeat' walk_at "Q"
noncomputable def eP:GS:=(fX (ae 3) (ae 4) (ar 3 fw (aa (ar 3 gj (aa (ae 2) (aa (ae 1) (aa (ae 4) ag)))) (aa (ae 3) (aa (ae 4) ag)))))
noncomputable def fW:GS:=(aj (au 1 (az aO (aa (g2 bh (ae 0) (gC (.int 0))) ag))) (aj (au 2 (vS "\n" "" (ar 1 cJ (aa (ae 0) ag)))) (aj (au 3 (g2 wQ (cA (aa (gC (.str "")) ag)) (g2 ax (az aO (aa (ae 2) ag)) (gC (.int 1))))) (aj (iQ (pp (aa (az aO (aa (ae 2) ag)) ag)) (cT 4) eP) (a9 (g2 ax (ar 1 df (aa (cA (aa (ae 1) (aa (az aO (aa (ae 0) ag)) ag))) ag)) (g2 bh (ae 3) (gC (.int 0)))))))))
noncomputable def jg:FD:=fun ds M=>dJ M.length (cr 4 fW ds M)
theorem u3 (T:TX P w K mg base):Ok P w K mg base "packed" 3 1 jg:=jK (F:=cr 4 fW) <| fR (fQ T.f 6 rfl) ["picture","wide","spots","tails","at"] cW rfl fun f _ A _ s H E nd hr=>by have:=oE T;have:=ko T;have:=kB T;have:=pe T;delta fW eP;repeat' walk_at "Q"
noncomputable def dh:GS:=(aj (au 2 (gC (.int 2305843009213693951))) (aj (ce (aw (g2 je (g2 bh (ae 0) (gC (.int 2))) (ae 1))) (aj (au 3 (gC (.int 0))) (aj (ce (aw (g2 DJ (az aO (aa (g2 bh (ae 0) (gC (.int 0))) ag)) (gC (.int 0)))) (au 3 (g2 bh (g2 bh (ae 0) (gC (.int 0))) (g2 dt (g2 bh (ae 0) (gC (.int 1))) (az aO (aa (g2 bh (ae 0) (gC (.int 0))) ag))))) aG) (aj (ce (cb (aw (g2 Cm (g2 bh (ae 0) (gC (.int 1))) (az aO (aa (g2 bh (ae 0) (gC (.int 0))) ag)))) (aw (g2 je (ae 3) (g2 qK (gC (.int 10)) (gC (.int 18)))))) (aj (au 3 (g2 dt (g2 ax (ae 3) (g2 dF (gC (.int 1000003)) (g2 bh (ae 0) (gC (.int 1))))) (ae 2))) (aj (au 3 (g2 dt (g2 ax (g2 ax (g2 dF (ae 3) (ae 3)) (g2 dF (gC (.int 1181783497276652981)) (ae 3))) (gC (.int 2049848353892358983))) (ae 2))) (au 3 (g2 dt (g2 ax (g2 dF (ae 3) (ae 3)) (gC (.int 1442695040888963407))) (ae 2))))) aG) (aj (fX (ae 0) (gC (.int 1)) (g2 ax (g2 bh (ae 0) (gC (.int 1))) (gC (.int 1)))) (fX (ae 0) (gC (.int 2)) (ae 3)))))) aG) (aj (au 4 (g2 dt (g2 bh (ae 0) (gC (.int 2))) (ae 1))) (aj (fX (ae 0) (gC (.int 2)) (g2 lB (g2 bh (ae 0) (gC (.int 2))) (ae 1))) (a9 (ae 4))))))
noncomputable def ai:FD:=cr 3 dh
theorem gz (T:TX P w K mg base):Ok P w K mg base "_law_draw" 1 2 ai:=fR (fQ T.f 7 rfl) ["tape","many","prime","cell","found"] cW rfl fun f _ A _ s H E nd hr=>by delta dh;repeat' walk_at "Q"
noncomputable def cg:GE:=(g2 ax (ae 6) (ar 2 ai (aa (ae 1) (aa (ae 5) ag))))
noncomputable def bw:GS:=(aj (au 8 (ar 2 ai (aa (ae 0) (aa (gC (.int 4)) ag)))) (aj (au 9 (aX (bM (aa (ae 2) ag)) bJ cg aJ)) (aj (ce (dQ (aw (g2 je (ae 8) (gC (.int 2)))) (aw (g2 (aK true) (ae 6) (cA ag)))) (au 9 (az fG (aa (g2 bh (ae 6) (ar 2 ai (aa (ae 0) (aa (az aO (aa (ae 6) ag)) ag)))) ag))) aG) (aj (ce (cb (aw (g2 (aK false) (ae 8) (gC (.int 1)))) (aw (g2 (aK false) (ae 8) (gC (.int 2))))) (aj (au 10 (ar 2 ai (aa (ae 0) (aa (ae 2) ag)))) (aj (au 11 (g2 ax (ae 10) (ar 2 ai (aa (ae 0) (aa (g2 fO (g2 ax (ae 2) (gC (.int 1))) (ae 10)) ag))))) (au 9 (g2 ax (g2 ax (cC (ae 9) bn (aH (ae 10))) (g2 jH (cA (aa (g2 ax (ae 5) (ar 2 ai (aa (ae 0) (aa (ae 4) ag)))) ag)) (g2 fO (ae 11) (ae 10)))) (cC (ae 9) (aH (ae 11)) bn))))) aG) (cf (iF (ae 6) (ae 9)))))))
noncomputable def bS:GS:=(aj (au 2 (g2 ax (gC (.int 1)) (ar 2 ai (aa (ae 0) (aa (ae 1) ag))))) (aj (au 3 (g2 ax (gC (.int 1)) (ar 2 ai (aa (ae 0) (aa (ae 1) ag))))) (aj (au 4 (g2 bh (cA (aa (gC (.int 2)) (aa (gC (.int 3)) (aa (gC (.int 64)) ag)))) (ar 2 ai (aa (ae 0) (aa (gC (.int 3)) ag))))) (aj (au 5 (ar 2 ai (aa (ae 0) (aa (g2 fO (gC (.int 65)) (ae 4)) ag)))) (aj (au 6 (iV ag)) (aj (iQ (bM (aa (ae 3) ag)) (cT 7) bw) (a9 (ae 6))))))))
noncomputable def dB:FD:=fun ds M=>dJ M.length (cr 10 bS ds M)
theorem kF (T:TX P w K mg base):Ok P w K mg base "_law_picture" 2 2 dB:=jK (F:=cr 10 bS) <| fR (fQ T.f 8 rfl) ["tape","most","wide","high","hues","first","rows","k","way","row","begin","end"] cW rfl fun f _ A _ s H E nd hr=>by have:=gz T;delta bS cg bw;repeat' walk_at "Q"
noncomputable def cX:GS:=(aj (au 0 (az eh (aa (ae 0) ag))) (aj (ce (cb (aw (g2 (aK false) (ae 1) (gC (.int 2)))) (aw (g2 (aK false) (az aO (aa (ae 0) ag)) (gC (.int 0))))) (aj (cf (kz se (ae 0) (aa (g2 dt (ae 2) (g2 ax (az aO (aa (ae 0) ag)) (gC (.int 1)))) (aa (ae 3) ag)))) (a9 (ae 0))) aG) (aj (au 2 (g2 dt (ae 2) (az aO (aa (ae 0) ag)))) (aj (ce (aw (g2 (aK false) (ae 1) (gC (.int 0)))) (fX (ae 0) (ae 2) (ae 3)) (ce (aw (g2 (aK false) (ae 1) (gC (.int 1)))) (cf (kz lh (ae 0) (aa (ae 2) ag))) (aj (au 4 (g2 bh (ae 0) (ae 2))) (aj (fX (ae 0) (ae 2) (g2 bh (ae 0) (g2 dt (g2 ax (ae 2) (gC (.int 1))) (az aO (aa (ae 0) ag))))) (fX (ae 0) (g2 dt (g2 ax (ae 2) (gC (.int 1))) (az aO (aa (ae 0) ag))) (ae 4)))))) (a9 (ae 0))))))
noncomputable def cj:FD:=cr 1 cX
theorem lD (T:TX P w K mg base):Ok P w K mg base "_law_turned" 1 4 cj:=fR (fQ T.f 9 rfl) ["row","way","at","thing","other"] cW rfl fun f _ A _ s H E nd hr=>by delta cX;repeat' walk_at "Q"
noncomputable def cO:GS:=(aj (au 2 (gC (.str " !\"#$&'()*+,-./0123456789:;<=>?@ABCDEFGHIJKLMNOPQRSTUVWXYZ[\\]^_`abcdefghijklmnopqrstuvwxyz{|}~"))) (aj (au 3 (g2 bh (ae 2) (ar 2 ai (aa (ae 0) (aa (az aO (aa (ae 2) ag)) ag))))) (aj (au 4 (ar 2 ai (aa (ae 0) (aa (gC (.int 4)) ag)))) (aj (ce (dQ (aw (g2 (aK false) (ae 4) (gC (.int 0)))) (aw (g2 (aK true) (ae 1) (gC (.str ""))))) (au 3 (g2 bh (ae 1) (ar 2 ai (aa (ae 0) (aa (az aO (aa (ae 1) ag)) ag))))) aG) (aj (ce (aw (g2 (aK false) (ae 4) (gC (.int 1)))) (au 3 (g2 bh (gC (.str "!*^0")) (ar 2 ai (aa (ae 0) (aa (gC (.int 4)) ag))))) aG) (aj (au 5 (ar 4 cj (aa (az fG (aa (ae 1) ag)) (aa (ar 2 ai (aa (ae 0) (aa (gC (.int 4)) ag))) (aa (ar 2 ai (aa (ae 0) (aa (g2 ax (az aO (aa (ae 1) ag)) (gC (.int 1))) ag))) (aa (ae 3) ag)))))) (a9 (aS cR (gC (.str "")) (ae 5)))))))))
noncomputable def bi:FD:=cr 4 cO
theorem i8 (T:TX P w K mg base):Ok P w K mg base "_law_sign_bent" 2 2 bi:=fR (fQ T.f 10 rfl) ["tape","text","signs","sign","way","row"] cW rfl fun f _ A _ s H E nd hr=>by have:=gz T;have:=lD T;delta cO;repeat' walk_at "Q"
noncomputable def bN:GE:=(ae 0)
noncomputable def bP:GT:=(aw (g2 iK (ae 0) (ae 2)))
noncomputable def bg:GE:=(aS bo (ae 2) (ae 0))
noncomputable def bf:GS:=(cf (iF (ae 4) (g2 bh (ae 4) (g2 fO (az aO (aa (ae 4) ag)) (ae 2)))))
noncomputable def aT:GS:=(aj (au 6 (g2 bh (ae 0) (ae 5))) (aj (ce (cb (aw (g2 iK (ae 6) (gC (.str "!*^")))) (cb (aw (g2 (aK false) (g2 ax (ae 5) (gC (.int 1))) (az aO (aa (ae 0) ag)))) (cb (aw (g2 iK (g2 bh (ae 0) (g2 ax (ae 5) (gC (.int 1)))) (ae 1))) (aw (g2 (aK false) (g2 bh (ae 0) (g2 ax (ae 5) (gC (.int 1)))) (gC (.str "0"))))))) (a9 (gC .non)) aG) (aj (au 7 (aS bo (ae 1) (g2 bh (ae 0) (g2 ax (ae 5) (gC (.int 1)))))) (aj (au 8 (cC (ae 0) (aH (g2 ax (ae 5) (gC (.int 2)))) (aH (g2 ax (g2 ax (ae 5) (gC (.int 2))) (jt [("!",.inl 7),("*",.inr 1),("^",.inr 0)] (ae 6)))))) (aj (ce (cb (aw (g2 je (az aO (aa (ae 8) ag)) (jt [("!",.inl 7),("*",.inr 1),("^",.inr 0)] (ae 6)))) (aw (g2 (aK true) (aX (bF (ae 8)) bP bN aJ) (cA ag)))) (a9 (gC .non)) aG) (aj (ce (dQ (aw (g2 (aK false) (ae 6) (gC (.str "^")))) (aw (g2 je (az aO (aa (ae 4) ag)) (ae 2)))) (a9 (gC .non)) aG) (aj (au 9 (aX (bF (ae 8)) bJ bg aJ)) (aj (ce (aw (g2 (aK false) (ae 6) (gC (.str "*")))) (au 9 (g2 jH (ae 9) (ae 7))) aG) (aj (iQ (bM (aa (g2 dF (ae 7) (az nF (aa (g2 (aK false) (ae 6) (gC (.str "^"))) ag))) ag)) (cT 10) bf) (aj (au 4 (g2 li (ae 4) (ae 9))) (au 5 (g2 ax (g2 ax (ae 5) (gC (.int 2))) (az aO (aa (ae 8) ag))))))))))))))
noncomputable def bt:GT:=(dQ (aw (g2 je (ae 5) (az aO (aa (ae 0) ag)))) (aw (g2 mB (az aO (aa (ae 4) ag)) (g2 dF (ae 2) (ae 3)))))
noncomputable def bp:GE:=(cC (ae 5) (aH (g2 dF (ae 0) (ae 3))) (aH (g2 ax (g2 dF (ae 0) (ae 3)) (ae 3))))
noncomputable def bB:GS:=(aj (au 1 (gC (.str "0123456789abcdefghijklmnopqrstuvwxyzABCDEFGHIJKLMNOPQRSTUVWXYZ+-"))) (aj (ce (cb (aw (g2 je (az aO (aa (ae 0) ag)) (gC (.int 2)))) (cb (aw (g2 iK (g2 bh (ae 0) (gC (.int 0))) (ae 1))) (aw (g2 iK (g2 bh (ae 0) (gC (.int 1))) (ae 1))))) (a9 (gC .non)) aG) (aj (au 2 (aS bo (ae 1) (g2 bh (ae 0) (gC (.int 0))))) (aj (au 3 (aS bo (ae 1) (g2 bh (ae 0) (gC (.int 1))))) (aj (ce (cb (du (aw (oH mB mB (gC (.int 1)) (ae 2) (gC (.int 40))))) (du (aw (oH mB mB (gC (.int 1)) (ae 3) (gC (.int 40)))))) (a9 (gC .non)) aG) (aj (au 4 (iV ag)) (aj (au 5 (gC (.int 2))) (aj (fh 5000 bt aT) (aj (ce (cb (aw (g2 (aK true) (az aO (aa (ae 4) ag)) (g2 dF (ae 2) (ae 3)))) (aw (g2 je (ae 5) (az aO (aa (ae 0) ag))))) (a9 (gC .non)) aG) (a9 (aX (bM (aa (ae 3) ag)) bJ bp aJ)))))))))))
noncomputable def bA:FD:=fun ds M=>dJ M.length (cr 10 bB ds M)
theorem gY (T:TX P w K mg base):Ok P w K mg base "_law_packing_read" 1 1 bA:=jK (F:=cr 10 bB) <| fR (fQ T.f 11 rfl) ["text","signs","wide","high","spots","at","head","many","told","hues","k"] cW rfl fun f _ A _ s H E nd hr=>by delta bB bN bP bg bf aT bt bp;repeat' walk_at "Q"
noncomputable def dU:GS:=(aj (au 1 (iV (aa (fj (pR [("NoText",false)]) (ae 0)) (aa (fj (pR [("NoText",false)]) (ae 0)) (aa (fj (pR [("NoText",false)]) (ae 0)) ag))))) (aj (au 1 (g2 li (ae 1) (cA (aa (fj (pR [("NoText",false)]) (ae 0)) (aa (fj (pR [("NoText",false)]) (ae 0)) (aa (fj (pR [("NoText",false)]) (ae 0)) ag)))))) (aj (au 1 (g2 li (ae 1) (cA (aa (fj (pR [("NoText",false)]) (ae 0)) (aa (fj (pR [("NoText",true)]) (ae 0)) (aa (fj (pR [("NoText",false)]) (ae 0)) ag)))))) (aj (cf (iF (ae 1) (fj (pR [("NoText",false)]) (ae 0)))) (aj (ce (cb (du (iG (fj (pR [("NoText",true)]) (ae 0)))) (aw (g2 (aK true) (gO hV (ae 1) (gC (.bl true))) (gC (.int 1))))) (a9 (dk (aa (gC (.str "another")) ag))) aG) (aj (au 2 (cA (aa (gC (.str "frame")) (aa (gC (.str "stand")) (aa (gC (.str "tick")) (aa (gC (.str "deed")) (aa (gC (.str "over")) (aa (gC (.str "score")) (aa (gC (.str "clash")) (aa (gC (.str "text")) (aa (gC (.str "film")) (aa (gC (.str "row")) ag)))))))))))) (a9 (dk (aa (g2 bh (ae 2) (gO hU (ae 1) (gC (.bl true)))) ag)))))))))
noncomputable def fA:FD:=fun ds M=>dJ M.length (cr 2 dU ds M)
theorem oB (T:TX P w K mg base):Ok P w K mg base "_law_word" 1 1 fA:=jK (F:=cr 2 dU) <| fR (fQ T.f 12 rfl) ["error","kinds","words"] cW rfl fun f _ A _ s H E nd hr=>by delta dU;repeat' walk_at "Q"
noncomputable def fN:GE:=(aS kZ (gC (.str "0123456789abcdefghijklmnopqrstuvwxyzABCDEFGHIJKLMNOPQRSTUVWXYZ+-")) (ae 0))
noncomputable def gd:GS:=(aj (au 1 (aX (bF (ae 0)) bJ fN aJ)) (aj (ce (aw (g2 yJ (ml (gC (.int 1))) (ae 1))) (cS "NoText" (gC (.str "there is a sign that writes no number"))) aG) (a9 (ae 1))))
noncomputable def ba:FD:=cr 1 gd
theorem fM (T:TX P w K mg base):Ok P w K mg base "read_signs" 1 1 ba:=fR (fQ T.f 13 rfl) ["text","numbers"] cW rfl fun f _ A _ s H E nd hr=>by delta gd fN;repeat' walk_at "Q"
noncomputable def bY:GE:=(oH mB mB (gC (.int 1)) (ae 0) (gC (.int 40)))
noncomputable def fq:GS:=(aj (au 1 (ar 1 ba (aa (ae 0) ag))) (aj (ce (cb (aw (g2 (aK true) (az aO (aa (ae 1) ag)) (gC (.int 2)))) (du (iG (az mx (aa (aX (bF (ae 1)) bJ bY aJ) ag))))) (cS "NoText" (gC (.str "a picture has 1 to 40 rows of 1 to 40 spots"))) aG) (a9 (ae 1))))
noncomputable def dR:FD:=cr 1 fq
theorem oo (T:TX P w K mg base):Ok P w K mg base "read_size" 2 1 dR:=fR (fQ T.f 14 rfl) ["text","numbers"] cW rfl fun f _ A _ s H E nd hr=>by have:=fM T;delta fq bY;repeat' walk_at "Q"
noncomputable def iw:GS:=(aj (ce (aw (g2 (aK true) (az aO (aa (ae 0) ag)) (ae 1))) (cS "NoText" (gC (.str "the text ends amid a part"))) aG) (a9 (ae 0)))
noncomputable def ck:FD:=cr 0 iw
theorem lw (T:TX P w K mg base):Ok P w K mg base "exactly" 1 2 ck:=fR (fQ T.f 15 rfl) ["numbers","many"] cW rfl fun f _ A _ s H E nd hr=>by delta iw;repeat' walk_at "Q"
noncomputable def eN:GS:=(aj (au 1 (g2 bh (ar 2 ck (aa (ar 1 ba (aa (ae 0) ag)) (aa (gC (.int 1)) ag))) (gC (.int 0)))) (aj (ce (aw (g2 (aK false) (ae 1) (gC (.int 0)))) (cS "NoText" (gC (.str "a count is 1 or more"))) aG) (a9 (ae 1))))
noncomputable def eC:FD:=cr 1 eN
theorem mF (T:TX P w K mg base):Ok P w K mg base "read_count" 2 1 eC:=fR (fQ T.f 16 rfl) ["text","number"] cW rfl fun f _ A _ s H E nd hr=>by have:=fM T;have:=lw T;delta eN;repeat' walk_at "Q"
noncomputable def cP:GS:=(cf (iF (ae 3) (g2 bh (ae 3) (ml (ae 2)))))
noncomputable def fF:GS:=(aj (au 4 (g2 bh (ae 0) (ae 1))) (aj (au 5 (ar 1 eC (aa (cC (ae 0) (aH (g2 ax (ae 1) (gC (.int 1)))) (aH (g2 ax (ae 1) (gC (.int 2))))) ag))) (aj (au 6 (g2 ax (ae 1) (gC (.int 2)))) (aj (ce (aw (g2 (aK false) (ae 4) (gC (.str "!")))) (aj (cf (kz j7 (ae 3) (aa (ar 2 ck (aa (ar 1 ba (aa (cC (ae 0) (aH (ae 6)) (aH (g2 ax (ae 6) (ae 5)))) ag)) (aa (ae 5) ag))) ag))) (a9 (g2 ax (ae 6) (ae 5)))) aG) (aj (ce (aw (g2 (aK false) (ae 4) (gC (.str "*")))) (aj (cf (kz j7 (ae 3) (aa (g2 jH (ar 2 ck (aa (ar 1 ba (aa (cC (ae 0) (aH (ae 6)) (aH (g2 ax (ae 6) (gC (.int 1))))) ag)) (aa (gC (.int 1)) ag))) (ae 5)) ag))) (a9 (g2 ax (ae 6) (gC (.int 1))))) aG) (aj (ce (cb (aw (g2 (aK true) (ae 4) (gC (.str "^")))) (aw (g2 je (az aO (aa (ae 3) ag)) (ae 2)))) (cS "NoText" (gC (.str "there is no such part, or nothing above its spots"))) aG) (aj (iQ (bM (aa (ae 5) ag)) (cT 7) cP) (a9 (ae 6)))))))))
noncomputable def fH:FD:=cr 4 fF
theorem om (T:TX P w K mg base):Ok P w K mg base "read_part" 3 4 fH:=fR (fQ T.f 17 rfl) ["text","at","wide","hues","word","many","begin","step"] cW rfl fun f _ A _ s H E nd hr=>by have:=fM T;have:=lw T;have:=mF T;delta fF cP;repeat' walk_at "Q"
noncomputable def cG:GS:=(au 4 (ar 4 fH (aa (ae 0) (aa (ae 4) (aa (ae 1) (aa (ae 3) ag))))))
noncomputable def cK:GT:=(aw (g2 je (ae 4) (az aO (aa (ae 0) ag))))
noncomputable def fo:GE:=(cC (ae 4) (aH (g2 dF (ae 0) (ae 2))) (aH (g2 dF (g2 ax (ae 0) (gC (.int 1))) (ae 2))))
noncomputable def dg:GS:=(aj (ce (du (iG (kt "str" (ae 0)))) (cS "NoText" (gC (.str "that is no text"))) aG) (aj (lL (xW [1,2]) (ar 1 dR (aa (cC (ae 0) bn (aH (gC (.int 2)))) ag))) (aj (au 3 (iV ag)) (aj (au 4 (gC (.int 2))) (aj (fh 5000 cK cG) (aj (ce (aw (g2 (aK true) (az aO (aa (ae 3) ag)) (g2 dF (ae 1) (ae 2)))) (cS "NoText" (gC (.str "the parts lay more or fewer spots than there are"))) aG) (a9 (aX (bM (aa (ae 2) ag)) bJ fo aJ))))))))
noncomputable def dL:FD:=fun ds M=>dJ M.length (cr 4 dg ds M)
theorem pX (T:TX P w K mg base):Ok P w K mg base "unpacked" 4 1 dL:=jK (F:=cr 4 dg) <| fR (fQ T.f 18 rfl) ["text","wide","high","hues","at"] cW rfl fun f _ A _ s H E nd hr=>by have:=oo T;have:=om T;delta dg cG cK fo;repeat' walk_at "Q"
noncomputable def eE:GS:=(aj (au 1 (gC .non)) (aj (au 2 (gC .non)) (aj (nN 3 (List.contains ["NoText"]) (au 2 (ar 1 dL (aa (ae 0) ag))) (au 1 (ae 3))) (aj (ce (aw (g2 (mq false) (ae 1) (gC .non))) (a9 (ae 2)) aG) (a9 (ar 1 fA (aa (ae 1) ag)))))))
noncomputable def bC:FD:=cr 3 eE
theorem mD (T:TX P w K mg base):Ok P w K mg base "_law_tried" 5 1 bC:=fR (fQ T.f 19 rfl) ["text","error","found","e"] cW rfl fun f _ A _ s H E nd hr=>by have:=oB T;have:=pX T;delta eE;repeat' walk_at "Q"
noncomputable def jV:GS:=(ce (aw (g2 (aK true) (ar 1 bC (aa (ae 2) ag)) (dk (aa (gC (.str "text")) ag)))) (a9 (gC (.bl false))) aG)
noncomputable def iL:GE:=(g2 bh (gC (.str "11!1a")) (ar 2 ai (aa (ae 2) (aa (gC (.int 5)) ag))))
noncomputable def ma:GS:=(aj (au 5 (ar 2 bi (aa (ae 1) (aa (ae 3) ag)))) (aj (ce (aw (g2 (aK false) (ar 2 ai (aa (ae 1) (aa (gC (.int 4)) ag))) (gC (.int 0)))) (au 5 (ar 2 bi (aa (ae 1) (aa (ae 5) ag)))) aG) (aj (ce (aw (g2 (aK false) (ar 2 ai (aa (ae 1) (aa (gC (.int 8)) ag))) (gC (.int 0)))) (aj (au 6 (ar 2 ai (aa (ae 1) (aa (g2 ax (az aO (aa (ae 3) ag)) (gC (.int 1))) ag)))) (aj (au 7 (aS cR (gC (.str "")) (aX (bM (aa (gC (.int 5)) ag)) bJ iL aJ))) (au 5 (g2 bh (cA (aa (cC (ae 3) bn (aH (ae 6))) (aa (cC (ae 3) (aH (ae 6)) bn) (aa (g2 ax (ae 3) (cC (ae 3) (aH (gC (.int 2))) bn)) (aa (ae 7) ag))))) (g2 dt (ae 4) (gC (.int 4))))))) aG) (aj (au 8 (ar 1 bA (aa (ae 5) ag))) (aj (ce (aw (g2 (mq false) (ae 8) (gC .non))) (au 8 (dk (aa (gC (.str "text")) ag))) aG) (ce (aw (g2 (aK true) (ar 1 bC (aa (ae 5) ag)) (ae 8))) (a9 (gC (.bl false))) aG))))))
noncomputable def sI:GS:=(aj (au 1 (iV (aa (az fG (aa (ae 0) ag)) (aa (gC (.int 0)) (aa (gC (.int 0)) ag))))) (aj (iQ (bF (cA (aa (gC .non) (aa (gC (.int 7)) (aa (cA ag) (aa (dk (aa (gC (.str "11")) ag)) (aa (gC (.bl true)) (aa (cA (aa (gC (.str "1")) (aa (gC (.str "1")) ag))) ag)))))))) (cT 2) jV) (aj (au 3 (ar 1 jg (aa (ar 2 dB (aa (ae 1) (aa (g2 bh (cA (aa (gC (.int 4)) (aa (gC (.int 12)) ag))) (ar 2 ai (aa (ae 1) (aa (gC (.int 2)) ag)))) ag))) ag))) (aj (iQ (bM (aa (gC (.int 8)) ag)) (cT 4) ma) (a9 (gC (.bl true)))))))
noncomputable def tq:FD:=cr 8 sI
theorem Cu (T:TX P w K mg base){f:Addr}{fd:FuncData}(F:Fn K mg "law" Bb f fd ["script"]):fU P w K mg base (kr P w) 6 f fd ["script"] (sh K 1 tq):=FH F.F (N:=["script","tape","thing","text","turn","bent","at","short","due"]) cW rfl fun _ A _ s H E hr=>by
 have nd:(["script","tape","thing","text","turn","bent","at","short","due"]:List Str).Nodup:=by decide +kernel
 have:=u3 T;have:=gz T;have:=kF T;have:=i8 T;have:=gY T;have:=mD T;delta sI jV iL ma;repeat' walk_at "Q"
end
end K40
section
open PySem PySem.W PyProof.Rows
noncomputable abbrev K40.VV:Program:=(view PySem.Challenge.pw_glowrow_k40_whole_packings_spoilt_anywhe [1,2,3,4,5,6,7,8,9,10,11,13,14,15,16,18,19,20,21,22,23,24,25,26,27,28,30,31,32,33,34,35,36,37])
set_option maxHeartbeats 0 in
theorem K40.h1:∀(w:World) (os:OsState),(Hd.RT (OpenLaw.row PySem.Challenge.rw_glowrow_k40_whole_packings_spoilt_anywhe).prog w 6096 os).map (fun s=>Hd.pA (OpenLaw.row PySem.Challenge.rw_glowrow_k40_whole_packings_spoilt_anywhe).prog w.params s.abs&&Hd.pB K40.VV (importedModules (OpenLaw.row PySem.Challenge.rw_glowrow_k40_whole_packings_spoilt_anywhe).prog.main.body) (fun s=>xlAt K40.VV [] s&&recOk (RowW.records (OpenRow.toRowW (OpenLaw.row PySem.Challenge.rw_glowrow_k40_whole_packings_spoilt_anywhe))) s) s.abs)=some true:=by
 intro w os;unfold Hd.RT;rw[W.Fast.te15732481512506401174,W.Fast.te2530740449226627131,W.Fast.te13930993214811372802];kernel_rfl
set_option maxHeartbeats 0 in
theorem K40.h2:∀(w:World) (os:OsState),(Hd.RT (OpenLaw.row PySem.Challenge.rw_glowrow_k40_whole_packings_spoilt_anywhe).prog w 6096 os).map (fun s=>Hd.pC K40.VV s.abs)=some (expectedOf K40.VV,bltViewBooted,wideGood K40.VV):=by
 intro w os;unfold Hd.RT;rw[W.Fast.te15732481512506401174,W.Fast.te2530740449226627131,W.Fast.te7338995916957470747];kernel_rfl
set_option maxHeartbeats 0 in
theorem K40.h3:∀(w:World) (os:OsState),(Hd.RT (OpenLaw.row PySem.Challenge.rw_glowrow_k40_whole_packings_spoilt_anywhe).prog w 6096 os).map (fun s=>Hd.pD K40.VV s.abs)=some (pinGoodD (drecsOf K40.VV),plainGoodE K40.VV (looseW K40.VV []),plainGoodD K40.VV [],clsGoodW K40.VV []):=by
 intro w os;unfold Hd.RT;rw[W.Fast.te15732481512506401174,W.Fast.te2530740449226627131,W.Fast.te4913325751328045840];kernel_rfl
local macro_rules | `(tactic| o_head $H) => `(tactic| (
 refine holds_open (q:=K40.VV) (loose:=[]) (Xt:=(fun s=>xlAt K40.VV [] s&&recOk (RowW.records (OpenRow.toRowW (OpenLaw.row PySem.Challenge.rw_glowrow_k40_whole_packings_spoilt_anywhe))) s)) (XP:=XL K40.VV []) (Yf:=Hook.obs $H) (Ya:=Hook.val $H) (YP:=Hook.says $H) (N:=6096) ?hl (Hook.of $H) (Hook.keeps $H) (fun s e=>xl_of s (Bool.and_eq_true_iff.mp e).1) XL.keeps (by rfl) (by rfl) (by rfl) (fun s e=>recFacts_of (Bool.and_eq_true_iff.mp e).2) (by rfl) (by first|assumption|decide +kernel) (by decide +kernel) ⟨rfl,rfl,rfl,rfl,rfl,by decide +kernel⟩ ?hw ?hc;
 (case hl=>
  refine Hd.left_k (boot_open (by kernel_rfl) rfl (fun s=>by kernel_rfl)) (fun w=>by kernel_rfl) K40.h1 K40.h2 K40.h3 ?_;intro w os;unfold Hd.RT;rw[W.Fast.te15732481512506401174,W.Fast.te2530740449226627131];kernel_rfl)))
set_option hygiene false
local macro_rules | `(tactic| walk_at "us") => `(tactic| first | rfl | (exfalso; simp at hl; done) | (cases us with | nil => (first | rfl | cases hl) | cons _ us => walk_at "us"))
local macro_rules | `(tactic| walk_at "kc") => `(tactic| refine' DL.kc_mk KX G ?y0 ?y1 ?y2 ?y3 ?y4 ?y5 ?y6; (case y0 => k_is); (case y1 => k_is); (case y2 => k_is); (case y3 => k_is); (case y4 => k_is); (case y5 => k_is); (case y6 => k_is))
local macro_rules | `(tactic| walk_at "ec") => `(tactic| refine' DL.Fa KX G ?w0 ?w1 ?w2 ?w3 ?w4 ?w5 ?w6 ?w7 ?w8 ?w9 ?w10 ?w11; (case w0 => k_is); (case w1 => k_is); (case w2 => k_is); (case w3 => k_is); (case w4 => k_is); (case w5 => k_is); (case w6 => k_is); (case w7 => k_is); (case w8 => k_is); (case w9 => k_exc); (case w10 => k_is); (case w11 => k_is))
local macro_rules | `(tactic| walk_at "ff") => `(tactic| (refine' DL.FI KX G ?x0 ?x1 ?x2 ?x3 ?x4; (case x0 => k_is); (case x1 => k_is); (case x2 => k_is); (case x3 => k_is); (case x4 => (intro _ _ _ _ _ _ us hl; walk_at "us"))))
local macro_rules | `(tactic| walk_at "mf") => `(tactic| (refine' DL.mf_mk ?x0 ?x1 ?x2 ?x3 ?x4 ?x5 ?x6; (case x0 => walk_at "kc"); (case x1 => k_is); (case x2 => k_is); (case x3 => k_is); (case x4 => k_is); (case x5 => k_is); (case x6 => (intro _ _ _ _ _ _ us hl; walk_at "us"))))
local macro_rules | `(tactic| walk_at "im") => `(tactic| (refine' DL.FQ ?v0 ?v1; (case v0 => walk_at "ec"); (case v1 => k_is)))
set_option maxRecDepth 100000 in
set_option maxHeartbeats 0 in
theorem K40.pre (ht:∀ns:List Int,ns.length≤63→∃M',K40.tq [.ro (ns.map DL.D.int)] []=.ok (.bl true) M'):PySem.Challenge.rw_glowrow_k40_whole_packings_spoilt_anywhe.Holds:=by
 w_on;o_law;k_head;(case hw=>w_witness2)
 k_fill
 refine DL.BU (l:=PySem.Challenge.rw_glowrow_k40_whole_packings_spoilt_anywhe) (n:=63) (k:=6) (x:="script") (F:=K40.tq) rfl (by decide) rfl ⟨rfl,by decide,by decide⟩ (fun w h Y=>W.kIn_of Y) ?F ?t1 ?t2 ?t3 ?t4 ht
 case F=>
  intro w mg fa h KX G hmg;refine DL.DB (st:=K40.Bb) hmg ?L (fun base f fd L=>K40.Cu ?TT L) (fun _ _ _ _ _ _ _=>rfl)
  (case TT=>
   refine DL.Tx.mk ?q0 ?q1 ?q2 ?q3 ?q4 ?q5 ?q6 ?q7 ?q8 ?q9
   (case q0=>((repeat (refine' DL.Ls.cons ?x ?_;(case x=>(walk_at "ff"))));exact DL.Ls.nil))
   (case q1=>((repeat (refine' DL.Ls.cons ?x ?_;(case x=>(walk_at "mf"))));exact DL.Ls.nil))
   (case q2=>((repeat (refine' DL.Ls.cons ?x ?_;(case x=>(walk_at "lf"))));exact DL.Ls.nil))
   (case q3=>((repeat (refine' DL.Ls.cons ?x ?_;(case x=>(refine' DL.Je KX G ?x0;(case x0=>k_is)))));exact DL.Ls.nil))
   (case q4=>((repeat (refine' DL.Ls.cons ?x ?_;(case x=>(refine' DL.Gq ?x0;(case x0=>walk_at "ec")))));exact DL.Ls.nil))
   (case q5=>((repeat (refine' DL.Ls.cons ?x ?_;(case x=>(refine' DL.EY ?u0 ?u1;(case u0=>walk_at "ec");(case u1=>((repeat (refine' DL.Ls.cons ?u2 ?_;(case u2=>walk_at "im")));exact DL.Ls.nil))))));exact DL.Ls.nil))
   (case q6=>((repeat (refine' DL.Ls.cons ?x ?_;(case x=>(walk_at "im"))));exact DL.Ls.nil))
   (case q7=>((repeat (refine' DL.Ls.cons ?x ?_;(case x=>(refine' DL.GC ?x0 ?x1;(case x0=>walk_at "kc");(case x1=>k_is)))));exact DL.Ls.nil))
   (case q8=>((repeat (refine' DL.Ls.cons ?x ?_;(case x=>(refine' DL.FW (u:=PySem.Value.str _) KX G ?x0;(case x0=>k_is)))));exact DL.Ls.nil))
   (case q9=>((repeat (refine' DL.Ls.cons ?x ?_;(case x=>(refine' DL.FW (u:=PySem.Value.int _) KX G ?x0;(case x0=>k_is)))));exact DL.Ls.nil)))
  (case L=>walk_at "ff")
 case t1=>(intro w;k_is)
 case t2=>(intro w;k_is)
 case t3=>(intro w;k_is)
 case t4=>(intro w;k_is)
end
namespace K40
open PySem PySem.Spec PyProof.Rows L2 DL List
local macro_rules | `(tactic| simp_arith [$args,*] $[$loc]?) => `(tactic| first | (dsimp only [aN.bind, aj, au, ce, a9, fX, cf, aG, lL, ae, gC, DL.g2, ar, az, aa, ag, aw, vj, iG, Aq, cb, dQ, du, dk, cA, iV, k8, aJ, cy, ml, oH, kt, HD, rB, aQ, cr, jX, qA, ax, fO, dF, lB, dt, qK, je, mB, DJ, Cm, qf, bv, aO, oV, nF, mh, mx, ni, bM, eX, cT, l5, ig, aH, bn, j6, kD, cL, mq, ER, bJ, cS, fj, pR, gO, hV, hU, dW, uh, iF, li, lj, nN, u9, Ax, jA, p9, xJ, sv, rl, rX, aS, kZ, bo, cR, bh, yJ, bF, sj, fG, eh, kz, oT] $[$loc]?; simp [aj, au, ce, a9, fX, cf, aG, lL, ae, gC, DL.g2, ar, az, aa, ag, aw, vj, iG, Aq, cb, dQ, du, dk, cA, iV, k8, aJ, cy, ml, oH, kt, HD, rB, aQ, cr, jX, qA, ax, fO, dF, lB, dt, qK, je, mB, DJ, Cm, qf, bv, aO, oV, nF, mh, mx, ni, bM, eX, cT, l5, ig, aH, bn, j6, kD, cL, mq, ER, bJ, cS, fj, pR, gO, hV, hU, dW, uh, iF, li, lj, nN, u9, Ax, jA, p9, xJ, sv, rl, rX, aS, kZ, bo, cR, bh, yJ, bF, sj, fG, eh, kz, oT, $args,*] $[$loc]?) | simp [aj, au, ce, a9, fX, cf, aG, lL, ae, gC, DL.g2, ar, az, aa, ag, aw, vj, iG, Aq, cb, dQ, du, dk, cA, iV, k8, aJ, cy, ml, oH, kt, HD, rB, aQ, cr, jX, qA, ax, fO, dF, lB, dt, qK, je, mB, DJ, Cm, qf, bv, aO, oV, nF, mh, mx, ni, bM, eX, cT, l5, ig, aH, bn, j6, kD, cL, mq, ER, bJ, cS, fj, pR, gO, hV, hU, dW, uh, iF, li, lj, nN, u9, Ax, jA, p9, xJ, sv, rl, rX, aS, kZ, bo, cR, bh, yJ, bF, sj, fG, eh, kz, oT, $args,*] $[$loc]?)
noncomputable def tp (l:List Int)(i c:Int):MO:=.lst [.lst (l.map D.int),.int i,.int c]
noncomputable def bQ (l:List Int)(rest:av)(M:av):Prop:=∃i c,0≤i∧M=tp l i c::rest
noncomputable def pP (v i:Int):Int:=
 ((((v+1000003*i) % 2305843009213693951*((v+1000003*i) % 2305843009213693951)+1181783497276652981*((v+1000003*i) % 2305843009213693951)+2049848353892358983) % 2305843009213693951) *
  (((v+1000003*i) % 2305843009213693951*((v+1000003*i) % 2305843009213693951)+1181783497276652981*((v+1000003*i) % 2305843009213693951)+2049848353892358983) % 2305843009213693951)+1442695040888963407) % 2305843009213693951
theorem v3 {l:List Int}{k:Int}(h0:0≤k)(h1:k<l.length):∃v,k9 (l.map D.int) k=some (.int v):=by
 obtain⟨n,rfl⟩:=Int.eq_ofNat_of_zero_le h0;have hn:n<l.length:=by omega
 exact⟨l[n],gJ (by simp[hn])⟩
set_option maxRecDepth 100000 in
theorem bj {l:List Int}{rest M:av}{many:Int}(hm:0<many)(hlog:many.natAbs.log2<9000)(h:bQ l rest M) :
  ∃f M',0≤f∧f<many∧bQ l rest M'∧ai [.mr 0,.int many] M=.ok (.int f) M':=by
 obtain⟨i,c,hi,rfl⟩:=h;have hp:(0:Int)<2305843009213693951:=by decide
 have fin:∀c' i',0≤i'→∃f M',0≤f∧f<many∧bQ l rest M'∧(aN.ok (D.int (c' % many)) (tp l i' (c' / many)::rest):aN D)=.ok (.int f) M':=fun c' i' hi'=>
  ⟨c' % many,_,Int.emod_nonneg _ (by omega),Int.emod_lt_of_pos _ hm,⟨i',c' / many,hi',rfl⟩,rfl⟩
 have i0:oJ 3 0=some 0:=by decide
 have i1:oJ 3 1=some 1:=by decide
 have i2:oJ 3 2=some 2:=by decide
 have a0:∀x y z:D,k9 [x,y,z] 0=some x:=fun _ _ _=>rfl
 have a1:∀x y z:D,k9 [x,y,z] 1=some y:=fun _ _ _=>rfl
 have a2:∀x y z:D,k9 [x,y,z] 2=some z:=fun _ _ _=>rfl
 have b1:∀x:Int,-18446744073709551616<x % 2305843009213693951∧x % 2305843009213693951<18446744073709551616:=fun x=>by
  have h0:=Int.emod_nonneg x (show(2305843009213693951:Int)≠0 by decide);have h1:=Int.emod_lt_of_pos x hp;omega
 by_cases h1:c<many
 ·by_cases hl:l=[]
  ·subst hl;have e:ai [.mr 0,.int many] (tp [] i c::rest)=.ok (.int (pP 0 i % many)) (tp [] (i+1) (pP 0 i / many)::rest):=by
    unfold ai dh;simp_arith [pP,tp,a0,a1,a2,i0,i1,i2,h1,hm,hlog,hi,b1]
   rw[e];exact fin _ _ (by omega)
  ·have hl0:0<l.length:=length_pos_iff.mpr hl;obtain⟨v,hv⟩:=v3 (l:=l) (k:=i % l.length) (Int.emod_nonneg _ (by omega)) (Int.emod_lt_of_pos _ (by omega))
   by_cases h2:(l.length:Int)≤i∨v<1000000000000000000
   ·have e:ai [.mr 0,.int many] (tp l i c::rest)=.ok (.int (pP v i % many)) (tp l (i+1) (pP v i / many)::rest):=by
     unfold ai dh;rcases h2 with h2|h2
     ·simp_arith [pP,tp,a0,a1,a2,i0,i1,i2,h1,h2,hm,hlog,hi,b1,hl0,hv]
     ·by_cases h3:(l.length:Int)≤i
      ·simp_arith [pP,tp,a0,a1,a2,i0,i1,i2,h1,h2,h3,hm,hlog,hi,b1,hl0,hv]
      ·simp_arith [pP,tp,a0,a1,a2,i0,i1,i2,h1,h2,h3,hm,hlog,hi,b1,hl0,hv]
    rw[e];exact fin _ _ (by omega)
   ·have h3:¬(l.length:Int)≤i:=fun z=>h2 (.inl z)
    have h4:¬v<1000000000000000000:=fun z=>h2 (.inr z)
    have e:ai [.mr 0,.int many] (tp l i c::rest)=.ok (.int (v % many)) (tp l (i+1) (v / many)::rest):=by
     unfold ai dh;simp_arith [tp,a0,a1,a2,i0,i1,i2,h1,h3,h4,hm,hlog,hi,b1,hl0,hv]
    rw[e];exact fin _ _ (by omega)
 ·have e:ai [.mr 0,.int many] (tp l i c::rest)=.ok (.int (c % many)) (tp l i (c / many)::rest):=by
   unfold ai dh;simp_arith [tp,a0,a1,a2,i0,i1,i2,h1,hm,hlog]
  rw[e];exact fin _ _ hi
noncomputable def dq:Str:="0123456789abcdefghijklmnopqrstuvwxyzABCDEFGHIJKLMNOPQRSTUVWXYZ+-"
theorem sJ:dq.cps.toList.length=64:=by decide +kernel
noncomputable def ky (k:Int):Str:=⟨#[dq.cps.toList.getD k.toNat 0]⟩
theorem CG {k:Int}(h0:0≤k)(h1:k<64):k9 dq.cps.toList k=some (dq.cps.toList.getD k.toNat 0):=by
 obtain⟨n,rfl⟩:=Int.eq_ofNat_of_zero_le h0;have hn:n<dq.cps.toList.length:=by rw[sJ];omega
 refine gJ ?_;rw[Int.toNat_natCast,List.getD,getElem?_eq_getElem hn];rfl
theorem ut:dq.length≤sizeLine:=by
 have:dq.length=64:=by decide +kernel
 rw[this];exact aY (by decide)
theorem fV {α:Type}(f:α→Str):∀xs:List α,gM (xs.map fun x=>D.str (f x))=some (xs.map f)
 | []=>rfl
 | x::xs=>by
  show(gM (xs.map fun x=>D.str (f x))).map (f x::·)=_;rw[fV f xs];rfl
theorem jy {sep:Str}{ys:List Str}{n:Nat}(hy:∀y∈ys,y.length≤n)(h:ys.length*n+ys.length*sep.length≤16777216):JoinOk sep ys=true:=by
 unfold JoinOk;rw[StrLaws.joinFits hy h];rfl
noncomputable def aV (ks:List Int):Str:=Txt.join "" (ks.map ky)
theorem ju (k:Int):(ky k).length=1:=rfl
theorem sF {k:Int}{M:av}(h0:0≤k)(h1:k<64):bh (.str dq) (.int k) M=.ok (.str (ky k)) M:=by
 have e:=CG h0 h1;unfold bh;dsimp only;rw[if_pos ut,e];rfl
theorem rG {ks:List Int}(hk:∀k∈ks,0≤k∧k<64)(hl:ks.length≤1000):JoinOk "" (ks.map ky)=true:=by
 refine jy (n:=1) (fun y hy=>?_) ?_
 ·obtain⟨k,_,rfl⟩:=mem_map.mp hy;exact Nat.le_of_eq (ju k)
 ·have:("":Str).length=0:=by decide +kernel
  rw[this,length_map];omega
theorem nb {ks:List Int}{M:av}(hk:∀k∈ks,0≤k∧k<64)(hl:ks.length≤1000):df [.lst (ks.map D.int)] M=.ok (.str (aV ks)) M:=by
 have c:=gV (ds0:=ks.map D.int) (ge:=gU) (ρ:=[some (.lst (ks.map D.int))]) (f:=fun d=>match d with | .int k=>.str (ky k)|d=>d) (M:=M) (ks.map D.int) fun d hd=>by
  obtain⟨k,hk',rfl⟩:=mem_map.mp hd;have e:=sF (M:=M) (hk k hk').1 (hk k hk').2;unfold dq at e;show g2 bh _ _ _ _=_;unfold DL.g2 gC ae;exact e
 rw[map_map] at c;have ec:(List.map ((fun d=>match d with | .int k=>D.str (ky k)|d=>d) ∘ D.int) ks)=ks.map fun k=>D.str (ky k):=map_congr_left fun _ _=>rfl
 rw[ec] at c;have l1:ks.length≤sizeLine:=aY (by omega);have s1:=fV ky ks;have j1:=rG hk hl;unfold df iN aV;simp[aX,c,l1,s1,j1,a9,aS,cR,gC,bF,sj,ni,ae,cr,jX,aQ,aJ,dW,ah]
noncomputable def am (c:Nat):Int:=Txt.find dq ⟨#[c]⟩
noncomputable def bz (x:Str):List Int:=x.cps.toList.map am
theorem A1 (ks:List Int):((ks.map D.int).any fun y=>kq y (.int (-1)))=ks.any (·==-1):=by
 rw[any_map];rfl
theorem nk:∀ks:List Int,(ks.map D.int).all cL=true
 | []=>rfl
 | k::ks=>by rw[map_cons,all_cons,nk ks];rfl
theorem yz {x:Str}{M:av}(hx:x.cps.size≤100000) :
  ba [.str x] M=if(bz x).any (·==-1) then .err "NoText" M else .ok (.lst ((bz x).map D.int)) M:=by
 have c:=gV (ds0:=cw x) (ge:=fN) (ρ:=[some (.str x),none]) (f:=fun d=>match d with | .str ⟨cs⟩=>.int (Txt.find dq ⟨cs⟩)|d=>d) (M:=M) (cw x) fun d hd=>by
  obtain⟨n,_,rfl⟩:=mem_map.mp hd;rfl
 have ec:(cw x).map (fun d=>match d with | .str ⟨cs⟩=>.int (Txt.find dq ⟨cs⟩)|d=>d)=(bz x).map D.int:=by
  unfold cw bz;rw[map_map,map_map];exact map_congr_left fun _ _=>rfl
 rw[ec] at c;have l0:(bz x).length=x.cps.size:=by simp[bz]
 have l1:(bz x).length≤sizeLine:=by rw[l0];exact aY (by omega)
 have f1:=nk (bz x);have a1:=A1 (bz x);have i1:yJ (.int (-1)) (.lst ((bz x).map D.int)) M=.ok (.bl ((bz x).any (·==-1))) M:=by
  unfold yJ;dsimp only;unfold kD;show(if cL (.int (-1))&&((bz x).map D.int).all cL then aN.ok (D.bl ((((bz x).map D.int).any fun y=>kq y (.int (-1))) != false)) M else .bad)=_;rw[f1,a1];simp[cL]
 generalize (bz x).any (·==-1)=b at i1 ⊢;unfold ba gd;cases b <;> simp[aX,c,l1,i1,aj,au,ce,a9,aG,cS,aw,vj,DL.g2,ml,gC,bF,sj,ae,cr,jX,aQ,aJ,ah]
theorem qB:∀ks:List Int,((ks.map ky).map (·.length)).sum=ks.length
 | []=>rfl
 | k::ks=>by
  rw[map_cons,map_cons,sum_cons,qB ks,ju,length_cons];omega
theorem pv (ks:List Int):(aV ks).length≤ks.length:=by
 have h:=StrLaws.join_length_le "" (ks.map ky);have z:("":Str).length=0:=by decide +kernel
 rw[z,Nat.mul_zero,Nat.add_zero,qB] at h;unfold aV Txt.join;rw[StrLaws.glued_eq_join];exact h
noncomputable def fJ (rs:List (List Int)):Str:=Txt.join "\n" (rs.map aV)
noncomputable def aA (rs:List (List Int)):List D:=rs.map fun r=>D.lst (r.map D.int)
theorem qO {rs:List (List Int)}{M:av}(hr:∀r∈rs,r.length≤40∧∀k∈r,0≤k∧k<64)(hl:rs.length≤40):cJ [.lst (aA rs)] M=.ok (.str (fJ rs)) M:=by
 have c:=gV (ds0:=aA rs) (ge:=dZ) (ρ:=[some (.lst (aA rs))]) (f:=fun d=>match d with | .lst xs=>.str (aV (xs.map fun d=>match d with | .int k=>k|_=>0))|d=>d) (M:=M) (aA rs) fun d hd=>by
  obtain⟨r,hr',rfl⟩:=mem_map.mp hd;have e:=nb (M:=M) (hr r hr').2 (by have:=(hr r hr').1;omega);have er:(r.map D.int).map (fun d=>match d with | .int k=>k|_=>(0:Int))=r:=by rw[map_map];exact map_id' _ |>.symm▸rfl
  show df [.lst (r.map D.int)] M=.ok (.str (aV ((r.map D.int).map fun d=>match d with | .int k=>k|_=>0))) M;rw[er,e]
 have em:(aA rs).map (fun d=>match d with | .lst xs=>D.str (aV (xs.map fun d=>match d with | .int k=>k|_=>0))|d=>d)=rs.map fun r=>D.str (aV r):=by
  unfold aA;rw[map_map];refine map_congr_left fun r _=>?_
  show D.str (aV ((r.map D.int).map fun d=>match d with | .int k=>k|_=>0))=_;rw[map_map];congr 2;exact map_id'' (fun _=>rfl) r
 rw[em] at c;have l0:(aA rs).length=rs.length:=length_map ..;have s1:=fV aV rs;have j1:JoinOk "\n" (rs.map aV)=true:=by
  refine jy (n:=40) (fun y hy=>?_) ?_
  ·obtain⟨r,hr',rfl⟩:=mem_map.mp hy;exact Nat.le_trans (pv r) (hr r hr').1
  ·have:("\n":Str).length=1:=by decide +kernel
   rw[this,length_map];omega
 have lb:(rs.map fun r=>D.str (aV r)).length≤sizeLine:=by rw[length_map];exact aY (by omega)
 generalize rs.map (fun r=>D.str (aV r))=bd at *;generalize aA rs=rd at *;unfold cJ eT fJ;simp[aX,c,lb,s1,j1,a9,aS,cR,gC,bF,sj,ni,ae,cr,jX,aQ,aJ,dW,ah]
theorem jk {x y:Str}(h:Builtin.Str.occurrences x y 0 x.length 1=[]):Txt.find x y=-1:=by simp[Txt.find,h]
theorem im {x y:Str}{i:Nat}{r:List Nat}(h:Builtin.Str.occurrences x y 0 x.length 1=i::r):Txt.find x y=(i:Int):=by simp[Txt.find,h]
theorem A3 (c:Nat)(M:av):yJ (.str ⟨#[c]⟩) (.str dq) M=.ok (.bl (am c != -1)) M:=by
 unfold yJ rZ am;dsimp only;cases h:Builtin.Str.occurrences dq ⟨#[c]⟩ 0 dq.length 1 with
 | nil=>rw[jk h];rfl
 | cons i r=>
  rw[im h];have:((i:Int) != -1)=true:=by simp
  rw[this];rfl
theorem gE {c:Nat}(hc:am c≠-1)(M:av):bo dq (.str ⟨#[c]⟩) M=.ok (.int (am c)) M:=by
 unfold bo;dsimp only;cases h:Builtin.Str.occurrences dq ⟨#[c]⟩ 0 dq.length 1 with
 | nil=>exact absurd (jk h) hc
 | cons i r=>
  have e:am c=(i:Int):=im h;rw[e]
noncomputable def eG (x:Str):Prop:=∀c∈x.cps.toList,c<0x110000
theorem g6 {x:Str}(h:eG x):PyData.strOk x=true:=by
 unfold PyData.strOk;rw[←Array.all_toList,all_eq_true];intro c hc;exact decide_eq_true (h c hc)
theorem iq {a b:Str}(h:a.cps.toList=b.cps.toList):a=b:=Str.ext' (Array.toList_inj.mp h)
theorem oK (sep:Str)(ps:List Str):Txt.join sep ps=Str.join sep ps:=StrLaws.glued_eq_join sep ps
theorem i9:∀ps:List Str,(Txt.join "" ps).cps.toList=(ps.map fun p=>p.cps.toList).flatten:=by
 intro ps;rw[oK]
 induction ps with
 | nil=>rfl
 | cons p r ih=>
  cases r with
  | nil=>simp[Str.join]
  | cons q r=>
   show(p++""++Str.join "" (q::r)).cps.toList=_;simp only[Str.cps_append,Array.toList_append];rw[ih];simp only[map_cons,flatten_cons];have:(("":Str).cps.toList:List Nat)=[]:=by decide +kernel
   rw[this,append_nil]
theorem aR (x:Str):x.cps.toList.length=x.cps.size:=Array.length_toList
theorem pb {ys:List Str}(h:∀y∈ys,eG y):eG (Txt.join "" ys):=by
 intro c hc;rw[i9] at hc;obtain⟨l,hl,hc⟩:=mem_flatten.mp hc;obtain⟨y,hy,rfl⟩:=mem_map.mp hl;exact h y hy c hc
theorem eU {x:Str}{n c:Nat}(h:x.cps.toList[n]?=some c)(hx:x.cps.size≤90000)(M:av):bh (.str x) (.int n) M=.ok (.str ⟨#[c]⟩) M:=by
 have e:=gJ (xs:=x.cps.toList) (j:=n) h;have hl:x.length≤sizeLine:=aY (show x.cps.size≤1000000 by omega);show(if x.length≤sizeLine then(match k9 x.cps.toList (n:Int) with|some c=>aN.ok (D.str ⟨#[c]⟩) M|none=>.bad) else .bad)=_;rw[if_pos hl,e]
theorem kO {x:Str}{f:Int}(h0:0≤f)(h1:f<x.cps.size)(hx:x.cps.size≤90000)(ho:eG x):∃c,c<0x110000∧∀M,bh (.str x) (.int f) M=.ok (.str ⟨#[c]⟩) M:=by
 obtain⟨n,rfl⟩:=Int.eq_ofNat_of_zero_le h0;have hn:n<x.cps.toList.length:=by rw[aR];omega
 exact⟨x.cps.toList[n],ho _ (getElem_mem hn),fun M=>eU (getElem?_eq_getElem hn) hx M⟩
theorem ft {c:Nat}(h:c<0x110000):eG ⟨#[c]⟩:=fun d hd=>by
 have hd:d∈[c]:=hd;rw[mem_singleton] at hd;rw[hd];exact h
theorem b7 {x:Str}(hx:x.cps.size≤90000)(M:av):aO [.str x] M=.ok (.int x.cps.size) M:=by
 have hl:x.length≤sizeLine:=aY (show x.cps.size≤1000000 by omega);show(if x.length≤sizeLine then aN.ok (D.int x.length) M else .bad)=_;rw[if_pos hl];rfl
theorem o6 {ys:List Str}(h:∀y∈ys,y.cps.size=1):(Txt.join "" ys).cps.size=ys.length:=by
 rw[←aR,i9]
 induction ys with
 | nil=>rfl
 | cons y ys ih=>
  rw[map_cons,flatten_cons,length_append,ih fun z hz=>h z (mem_cons_of_mem _ hz),aR,h y mem_cons_self,length_cons];omega
theorem uC (x:Str):cw x=(x.cps.toList.map fun c=>(⟨#[c]⟩:Str)).map D.str:=by
 unfold cw;rw[map_map];rfl
theorem JD {a b:Str}(ha:eG a)(hb:eG b)(M:av):aK true (.str a) (.str b) M=.ok (.bl (!decide (a=b))) M:=by
 have h1:=g6 ha;have h2:=g6 hb;show(if(PyData.strOk a&&PyData.strOk b)=true then aN.ok (D.bl ((a==b) != true)) M else .bad)=_;rw[h1,h2]
 by_cases q:a=b <;> simp[q]
theorem J0 {a b:Str}(ha:eG a)(hb:eG b)(M:av):aK false (.str a) (.str b) M=.ok (.bl (decide (a=b))) M:=by
 have h1:=g6 ha;have h2:=g6 hb;show(if(PyData.strOk a&&PyData.strOk b)=true then aN.ok (D.bl ((a==b) != false)) M else .bad)=_;rw[h1,h2]
 by_cases q:a=b <;> simp[q]
theorem lG {x:Str}(h:(x.cps.toList.all fun c=>decide (c<0x110000))=true):eG x:=fun c hc=>of_decide_eq_true (all_eq_true.mp h c hc)
theorem kH {n k:Nat}(h:k<n):oJ n (k:Int)=some k:=by
 unfold oJ;rw[if_pos (by omega)];simp[h]
theorem j8 {xs:List Str}{n:Nat}(h:n<xs.length):(xs.map D.str)[n]?=some (.str xs[n]):=by
 rw[getElem?_map,getElem?_eq_getElem h];rfl
theorem m9:∀(xs:List Str) (n:Nat),(xs.map D.str).eraseIdx n=(xs.eraseIdx n).map D.str
 | [],_=>by simp
 | x::xs,0=>by simp
 | x::xs,n+1=>by simp[m9 xs n]
theorem kS {xs:List Str}{n:Nat}{t y:Str}(h:y∈xs.set n t):y∈xs∨y=t:=by
 rcases mem_or_eq_of_mem_set h with h|h
 ·exact .inl h
 ·exact .inr h
noncomputable def Ao:GS:=(ce (aw (g2 (aK false) (ae 1) (gC (.int 0)))) (fX (ae 0) (ae 2) (ae 3)) (ce (aw (g2 (aK false) (ae 1) (gC (.int 1)))) (cf (kz lh (ae 0) (aa (ae 2) ag))) (aj (au 4 (g2 bh (ae 0) (ae 2))) (aj (fX (ae 0) (ae 2) (g2 bh (ae 0) (g2 dt (g2 ax (ae 2) (gC (.int 1))) (az aO (aa (ae 0) ag))))) (fX (ae 0) (g2 dt (g2 ax (ae 2) (gC (.int 1))) (az aO (aa (ae 0) ag))) (ae 4))))))
noncomputable def FR:GT:=(cb (aw (g2 (aK false) (ae 1) (gC (.int 2)))) (aw (g2 (aK false) (az aO (aa (ae 0) ag)) (gC (.int 0)))))
noncomputable def Ig:GS:=(aj (cf (kz se (ae 0) (aa (g2 dt (ae 2) (g2 ax (az aO (aa (ae 0) ag)) (gC (.int 1)))) (aa (ae 3) ag)))) (a9 (ae 0)))
theorem mO (ρ:bc)(M:av):cX ρ M=aj (au 0 (az eh (aa (ae 0) ag))) (aj (ce FR Ig aG) (aj (au 2 (g2 dt (ae 2) (az aO (aa (ae 0) ag)))) (aj Ao (a9 (ae 0))))) ρ M:=rfl
theorem kY (a b:Int)(M:av):aK false (.int a) (.int b) M=.ok (.bl (decide (a=b))) M:=by
 unfold aK
 by_cases q:a=b <;> simp[now,cz,kq,q]
theorem iE (M:av)(E:List D):(M++[MO.lst E])[M.length]?=some (.lst E):=by simp
theorem gX (M:av)(E E':List D):(M++[MO.lst E]).set M.length (.lst E')=M++[MO.lst E']:=by simp
theorem Bs (M:av)(E:List D):oT (M++[MO.lst E]) M.length=some E:=by simp[oT]
theorem pG (M:av)(E:List D):bv (.mr M.length) (M++[MO.lst E])=some E:=by simp[bv]
theorem og (M:av)(E:List D):aO [.mr M.length] (M++[MO.lst E])=.ok (.int E.length) (M++[MO.lst E]):=by
 show(match bv (.mr M.length) (M++[MO.lst E]) with|some xs=>aN.ok (D.int xs.length) (M++[MO.lst E])|none=>.bad)=_;rw[pG]
theorem Bx (M:av){E:List D}{k:Nat}{d:D}(h:E[k]?=some d):bh (.mr M.length) (.int k) (M++[MO.lst E])=.ok d (M++[MO.lst E]):=by
 have a:=gJ (xs:=E) (j:=k) h;show qf (.mr M.length) (.int k) (M++[MO.lst E])=_;unfold qf;rw[pG];dsimp only;rw[a]
theorem F9 {i:Int}(h:i<1000000):i<2 ^ 62:=Int.lt_trans h (by decide)
theorem Df {xs:List D}{i:Int}{d:D}(h0:0≤i)(h1:i<1000000)(h:xs[i.toNat]?=some d):lh xs [.int i]=some (d,xs.eraseIdx i.toNat):=by
 have b2:=F9 h1;unfold lh;split
 ·rename_i j e;cases e;rw[if_pos ⟨h0,b2⟩,h];rfl
 ·rename_i e;exact absurd rfl (e i)
theorem rT {F:List D→List D→Option (D×List D)}{go:GE}{ga:GA}{ρ:bc}{M:av}{k:Nat}{xs ds:List D}{r:D×List D}(h1:go ρ M=.ok (.mr k) M)(h2:oT M k=some xs)(h3:ga ρ M=.ok ds M)(h4:F xs ds=some r):kz F go ga ρ M=.ok r.1 (M.set k (.lst r.2)):=by
 unfold kz;rw[h1,ah];dsimp only;rw[h2];dsimp only;rw[h3,ah,h2];dsimp only;rw[h4]
theorem uy {xs:List Str}{d0:D}{M:av}{way at_:Int}{t:Str}(h0:eh [d0] M=.ok (.mr M.length) (M++[.lst (xs.map D.str)]))(hx:xs.length≤90000)(hA:way=2∨xs=[]) :
  cj [d0,.int way,.int at_,.str t] M=.ok (.mr M.length) (M++[.lst ((xs.take (at_ % ((xs.length:Int)+1)).toNat++t::xs.drop (at_ % ((xs.length:Int)+1)).toNat).map D.str)]):=by
 have lX:(xs.map D.str).length=xs.length:=length_map ..;have hm0:0≤at_ % ((xs.length:Int)+1):=Int.emod_nonneg _ (by omega);have hm1:at_ % ((xs.length:Int)+1)<xs.length+1:=Int.emod_lt_of_pos _ (by omega);have ins:se (xs.map D.str) [.int (at_ % ((xs.length:Int)+1)),.str t]=some (.non,(xs.take (at_ % ((xs.length:Int)+1)).toNat++t::xs.drop (at_ % ((xs.length:Int)+1)).toNat).map D.str):=by
  have b1:(xs.map D.str).length<sizeLine:=by rw[lX,sizeLine_eq];exact Nat.lt_of_le_of_lt hx (by decide)
  have b2:=F9 (i:=at_ % ((xs.length:Int)+1)) (by omega);show(if 0≤at_ % ((xs.length:Int)+1)∧at_ % ((xs.length:Int)+1)<2 ^ 62∧(xs.map D.str).length<sizeLine then _ else _)=_;rw[if_pos ⟨hm0,b2,b1⟩,map_append,map_cons,map_take,map_drop]
 have po:(0:Int)<(xs.length:Int)+1:=by omega
 have md:∀M,dt (.int at_) (.int ((xs.length:Int)+1)) M=.ok (.int (at_ % ((xs.length:Int)+1))) M:=fun M=>by unfold dt;dsimp only;rw[if_pos po]
 generalize at_ % ((xs.length:Int)+1)=i at *;generalize hY:(xs.take i.toNat++t::xs.drop i.toNat).map D.str=yd at *;have l1:=og M (xs.map D.str);rw[lX] at l1;have cond:FR [some (.mr M.length),some (.int way),some (.int at_),some (.str t),none] (M++[MO.lst (xs.map D.str)])=.ok true (M++[MO.lst (xs.map D.str)]):=by
  unfold FR;rcases hA with h|h
  ·simp[cb,aw,DL.g2,ae,gC,kY,h,vj,ah]
  ·by_cases h2:way=2
   ·simp[cb,aw,DL.g2,ae,gC,kY,h2,vj,ah]
   ·have z:xs.length=0:=by rw[h];rfl
    rw[z] at l1;generalize xs.map D.str=xd at *;simp[cb,aw,DL.g2,ae,gC,kY,h2,vj,az,aa,ag,l1,ah]
 have ls:=Bs M (xs.map D.str);have ss:=gX M (xs.map D.str) yd;generalize xs.map D.str=xd at *;have body:Ig [some (.mr M.length),some (.int way),some (.int at_),some (.str t),none] (M++[MO.lst xd])=.ok (.rt (.mr M.length)) (M++[MO.lst yd]):=by
  unfold Ig;simp[aj,cf,kz,ae,ls,aa,ag,DL.g2,az,l1,ax,gC,md,ins,ss,a9,ah]
 show aQ (cX [some d0,some (.int way),some (.int at_),some (.str t),none] M)=_;rw[mO];simp[aj,au,az,aa,ag,ae,h0,ce,cond,body,aQ,ah]
theorem iS {xs ys:List Str}{d0:D}{M:av}{way at_:Int}{t:Str}{n:Nat}{z:Option D}(h0:eh [d0] M=.ok (.mr M.length) (M++[.lst (xs.map D.str)]))(h2:¬way=2)(hne:xs≠[])(hn:at_ % (xs.length:Int)=n)
  (e:Ao [some (.mr M.length),some (.int way),some (.int n),some (.str t),none] (M++[MO.lst (xs.map D.str)])=.ok (.nx [some (.mr M.length),some (.int way),some (.int n),some (.str t),z]) (M++[MO.lst (ys.map D.str)])) :
  cj [d0,.int way,.int at_,.str t] M=.ok (.mr M.length) (M++[.lst (ys.map D.str)]):=by
 have hp:0<xs.length:=length_pos_iff.mpr hne;have po:(0:Int)<(xs.length:Int):=by omega
 have md:∀M,dt (.int at_) (.int (xs.length:Int)) M=.ok (.int n) M:=fun M=>by unfold dt;dsimp only;rw[if_pos po,hn]
 have l1:=og M (xs.map D.str);rw[length_map] at l1;have cond:FR [some (.mr M.length),some (.int way),some (.int at_),some (.str t),none] (M++[MO.lst (xs.map D.str)])=.ok false (M++[MO.lst (xs.map D.str)]):=by
  unfold FR;have z:¬(xs.length:Int)=0:=by omega
  generalize xs.map D.str=xd at *;generalize hL:(xs.length:Int)=L at *;simp[cb,aw,DL.g2,ae,gC,kY,h2,vj,az,aa,ag,l1,z,ah]
 generalize xs.map D.str=xd at *;generalize ys.map D.str=yd at *;show aQ (cX [some d0,some (.int way),some (.int at_),some (.str t),none] M)=_;rw[mO];generalize Ao=body at *;simp[aj,au,az,aa,ag,ae,h0,ce,cond,aG,DL.g2,l1,md,e,a9,aQ,ah]
theorem Dw {xs:List Str}{M:av}{t:Str}{n:Nat}(hn:n<xs.length) :
  Ao [some (.mr M.length),some (.int 0),some (.int n),some (.str t),none] (M++[MO.lst (xs.map D.str)])=.ok (.nx [some (.mr M.length),some (.int 0),some (.int n),some (.str t),none]) (M++[MO.lst ((xs.set n t).map D.str)]):=by
 have ix:oJ (xs.map D.str).length (n:Int)=some n:=by rw[length_map];exact kH hn
 have e2:(xs.map D.str).set n (.str t)=(xs.set n t).map D.str:=map_set.symm;have gt:=iE M (xs.map D.str);have ss:=gX M (xs.map D.str) ((xs.set n t).map D.str);generalize hY:(xs.set n t).map D.str=yd at *;generalize hX:xs.map D.str=xd at *;unfold Ao;simp[ce,aw,DL.g2,ae,gC,kY,vj,fX,qA,gt,ix,e2,ss,ah]
theorem D9 {xs:List Str}{M:av}{t:Str}{n:Nat}(hn:n<xs.length)(hx:xs.length≤90000) :
  Ao [some (.mr M.length),some (.int 1),some (.int n),some (.str t),none] (M++[MO.lst (xs.map D.str)])=.ok (.nx [some (.mr M.length),some (.int 1),some (.int n),some (.str t),none]) (M++[MO.lst ((xs.eraseIdx n).map D.str)]):=by
 have pf:lh (xs.map D.str) [.int n]=some (.str xs[n],(xs.eraseIdx n).map D.str):=by
  rw[Df (i:=(n:Int)) (d:=.str xs[n]) (by omega) (by omega) (by rw[Int.toNat_natCast];exact j8 hn),Int.toNat_natCast,m9]
 have ls:=Bs M (xs.map D.str);have ss:=gX M (xs.map D.str) ((xs.eraseIdx n).map D.str);generalize hY:(xs.eraseIdx n).map D.str=yd at *;generalize hX:xs.map D.str=xd at *;have g:=rT (F:=lh) (go:=ae 0) (ga:=aa (ae 2) ag) (ρ:=[some (.mr M.length),some (.int 1),some (.int n),some (.str t),none]) (M:=M++[MO.lst xd]) (ds:=[.int n]) rfl ls rfl pf;unfold Ao;generalize kz lh (ae 0) (aa (ae 2) ag)=gm at *;simp[ce,aw,DL.g2,ae,gC,kY,vj,cf,g,ss,ah]
theorem AL {xs:List Str}{M:av}{t:Str}{n m:Nat}{way:Int}(w0:¬way=0)(w1:¬way=1)(hn:n<xs.length)(hm:m<xs.length)(hk:((n:Int)+1) % (xs.length:Int)=m) :
  Ao [some (.mr M.length),some (.int way),some (.int n),some (.str t),none] (M++[MO.lst (xs.map D.str)])=.ok (.nx [some (.mr M.length),some (.int way),some (.int n),some (.str t),some (.str xs[n])]) (M++[MO.lst (((xs.set n xs[m]).set m xs[n]).map D.str)]):=by
 have po:(0:Int)<(xs.length:Int):=by omega
 have md2:∀M,dt (.int ((n:Int)+1)) (.int (xs.length:Int)) M=.ok (.int m) M:=fun M=>by unfold dt;dsimp only;rw[if_pos po,hk]
 have xn:=Bx M (j8 hn);have xm:=Bx M (j8 hm);have i1:oJ (xs.map D.str).length (n:Int)=some n:=by rw[length_map];exact kH hn
 have e2:(xs.map D.str).set n (.str xs[m])=(xs.set n xs[m]).map D.str:=map_set.symm;have i2:oJ ((xs.set n xs[m]).map D.str).length (m:Int)=some m:=by rw[length_map,length_set];exact kH hm
 have e3:((xs.set n xs[m]).map D.str).set m (.str xs[n])=((xs.set n xs[m]).set m xs[n]).map D.str:=map_set.symm;have l2:=og M (xs.map D.str);rw[length_map] at l2;have l3:=og M ((xs.set n xs[m]).map D.str);rw[length_map,length_set] at l3;have gt:=iE M;have ss:=gX M;generalize hA':xs[n]=a at *;generalize hB':xs[m]=b at *;generalize hY:((xs.set n b).set m a).map D.str=yd at *;generalize hZ:(xs.set n b).map D.str=zd at *;generalize hX:xs.map D.str=xd at *;generalize hL:(xs.length:Int)=L at *;unfold Ao;simp[ce,aw,DL.g2,ae,gC,kY,w0,w1,vj,aj,au,xn,xm,ax,az,aa,ag,l2,l3,md2,fX,qA,gt,i1,e2,i2,e3,ah]
theorem vf {xs:List Str}{d0:D}{M:av}{way at_:Int}{t:Str}(h0:eh [d0] M=.ok (.mr M.length) (M++[.lst (xs.map D.str)]))(hx:xs.length≤90000) :
  ∃ys:List Str,(∀y∈ys,y∈xs∨y=t)∧ys.length≤xs.length+1∧cj [d0,.int way,.int at_,.str t] M=.ok (.mr M.length) (M++[.lst (ys.map D.str)]):=by
 by_cases hA:way=2∨xs=[]
 ·refine⟨_,fun y hy=>?_,?_,uy h0 hx hA⟩
  ·rcases mem_append.mp hy with h|h
   ·exact .inl (mem_of_mem_take h)
   ·rcases mem_cons.mp h with h|h
    ·exact .inr h
    ·exact .inl (mem_of_mem_drop h)
  ·simp;omega
 ·have h2:¬way=2:=fun z=>hA (.inl z)
  have hne:xs≠[]:=fun z=>hA (.inr z)
  have hp:0<xs.length:=length_pos_iff.mpr hne;have hm0:0≤at_ % (xs.length:Int):=Int.emod_nonneg _ (by omega);have hm1:at_ % (xs.length:Int)<xs.length:=Int.emod_lt_of_pos _ (by omega);obtain⟨n,hn⟩:=Int.eq_ofNat_of_zero_le hm0;have hn1:n<xs.length:=by omega
  have hk0:0≤((n:Int)+1) % (xs.length:Int):=Int.emod_nonneg _ (by omega);have hk1:((n:Int)+1) % (xs.length:Int)<xs.length:=Int.emod_lt_of_pos _ (by omega);obtain⟨m,hm⟩:=Int.eq_ofNat_of_zero_le hk0;have hm2:m<xs.length:=by omega
  by_cases w0:way=0
  ·subst w0;exact⟨_,fun y hy=>kS hy,by simp,iS h0 h2 hne hn (Dw hn1)⟩
  ·by_cases w1:way=1
   ·subst w1;exact⟨_,fun y hy=>.inl (mem_of_mem_eraseIdx hy),by rw[length_eraseIdx];split <;> omega,iS h0 h2 hne hn (D9 hn1 hx)⟩
   ·refine⟨_,fun y hy=>?_,?_,iS h0 h2 hne hn (AL w0 w1 hn1 hm2 hm)⟩
    ·rcases kS hy with h|h
     ·rcases kS h with h|h
      ·exact .inl h
      ·exact .inl (h▸getElem_mem hm2)
     ·exact .inl (h▸getElem_mem hn1)
    ·simp
noncomputable def ug:Str:=" !\"#$&'()*+,-./0123456789:;<=>?@ABCDEFGHIJKLMNOPQRSTUVWXYZ[\\]^_`abcdefghijklmnopqrstuvwxyz{|}~"
theorem kJ:ug.cps.size=94:=by decide +kernel
theorem Cv:eG ug:=lG (by decide +kernel)
theorem aW {x:Int}(h0:0<x)(h1:x≤1000000):x.natAbs.log2<9000:=by
 have h2:x.natAbs<2 ^ 20:=by omega
 have h3:x.natAbs≠0:=by omega
 have:=(Nat.log2_lt h3).mpr h2;omega
theorem oW {l:List Int}{rest M:av}(h:bQ l rest M):M.length=rest.length+1:=by obtain⟨i,c,_,rfl⟩:=h;rfl
theorem qp {l:List Int}{rest M:av}(h:bQ l rest M)(E:av):bQ l (rest++E) (M++E):=by obtain⟨i,c,hi,rfl⟩:=h;exact⟨i,c,hi,rfl⟩
theorem wH:eG "":=lG (by decide +kernel)
theorem G3 {ys:List Str}{M:av}{k:Nat}(hm:M[k]?=some (.lst (ys.map D.str)))(h1:∀y∈ys,y.cps.size=1)(hl:ys.length≤90000):cR "" (.mr k) M=.ok (.str (Txt.join "" ys)) M:=by
 have so:gM (ys.map D.str)=some ys:=by
  have:=fV (fun p:Str=>p) ys;rwa [map_id' ys] at this
 have jo:JoinOk "" ys=true:=jy (n:=1) (fun y hy=>Nat.le_of_eq (h1 y hy)) (by
  have:("":Str).length=0:=by decide +kernel
  rw[this];omega)
 have e:dW (.mr k) M=some (ys.map D.str):=by simp[dW,hm]
 unfold cR;rw[e];dsimp only;rw[so];dsimp only;rw[if_pos jo]
noncomputable def Jj:GT:=(dQ (aw (g2 (aK false) (ae 4) (gC (.int 0)))) (aw (g2 (aK true) (ae 1) (gC (.str "")))))
noncomputable def JP:GE:=(g2 bh (ae 1) (ar 2 ai (aa (ae 0) (aa (az aO (aa (ae 1) ag)) ag))))
noncomputable def Jy:GE:=(g2 bh (gC (.str "!*^0")) (ar 2 ai (aa (ae 0) (aa (gC (.int 4)) ag))))
noncomputable def JB:GE:=(ar 4 cj (aa (az fG (aa (ae 1) ag)) (aa (ar 2 ai (aa (ae 0) (aa (gC (.int 4)) ag))) (aa (ar 2 ai (aa (ae 0) (aa (g2 ax (az aO (aa (ae 1) ag)) (gC (.int 1))) ag))) (aa (ae 3) ag)))))
theorem Fh (ρ:bc)(M:av):cO ρ M=aj (au 2 (gC (.str ug))) (aj (au 3 (g2 bh (ae 2) (ar 2 ai (aa (ae 0) (aa (az aO (aa (ae 2) ag)) ag))))) (aj (au 4 (ar 2 ai (aa (ae 0) (aa (gC (.int 4)) ag)))) (aj (ce Jj (au 3 JP) aG) (aj (ce (aw (g2 (aK false) (ae 4) (gC (.int 1)))) (au 3 Jy) aG) (aj (au 5 JB) (a9 (aS cR (gC (.str "")) (ae 5)))))))) ρ M:=rfl
noncomputable abbrev Bf (x s:Str)(w:Int):bc:=[some (.mr 0),some (.str x),some (.str ug),some (.str s),some (.int w),none]
theorem B8 {l:List Int}{rest M:av}{x s:Str}{w:Int}(hM:bQ l rest M)(ho:eG x)(hx:x.cps.size≤5000)(hs:∃c,c<0x110000∧s=⟨#[c]⟩) :
  ∃s' M',(∃c,c<0x110000∧s'=⟨#[c]⟩)∧bQ l rest M'∧ce Jj (au 3 JP) aG (Bf x s w) M=.ok (.nx (Bf x s' w)) M':=by
 have hc:Jj (Bf x s w) M=.ok (decide (w=0)&&!decide (x="")) M:=by
  refine eL (aL (ao (x:=.int w) (M1:=M) rfl (y:=.int 0) (M2:=M) rfl (ja w 0 M))) fun _=>aL (ao (x:=.str x) (M1:=M) rfl (y:=.str "") (M2:=M) rfl (JD ho wH M))
 by_cases h:w=0∧x≠""
 ·have hx0:0<x.cps.size:=by
   refine Nat.pos_of_ne_zero fun z=>h.2 ?_
   refine iq ?_;have:x.cps.toList=[]:=length_eq_zero_iff.mp (by rw[aR];exact z);rw[this];decide +kernel
  obtain⟨f,M1,a,b,t,e⟩:=bj (many:=(x.cps.size:Int)) (by omega) (aW (by omega) (by omega)) hM;obtain⟨c,hc1,e2⟩:=kO a b (by omega) ho;refine⟨⟨#[c]⟩,M1,⟨c,hc1,rfl⟩,t,?_⟩;rw[dE (hc.trans (by rw[decide_eq_true h.1,decide_eq_false h.2];rfl))];refine aD (i:=3) ?_;exact ao (x:=.str x) (M1:=M) rfl (bV (x:=.mr 0) (M1:=M) rfl (cu (x:=.str x) (M1:=M) rfl (b7 (by omega) M)) e) (e2 M1)
 ·refine⟨s,M,hs,hM,?_⟩;rw[dY (hc.trans (by
   by_cases q:w=0
   ·have:x="":=Classical.byContradiction fun z=>h ⟨q,z⟩
    rw[decide_eq_true q,decide_eq_true this];rfl
   ·rw[decide_eq_false q];rfl))]
  rfl
theorem zq {l:List Int}{rest M:av}{x s:Str}{w:Int}(hM:bQ l rest M)(hs:∃c,c<0x110000∧s=⟨#[c]⟩) :
  ∃s' M',(∃c,c<0x110000∧s'=⟨#[c]⟩)∧bQ l rest M'∧ce (aw (g2 (aK false) (ae 4) (gC (.int 1)))) (au 3 Jy) aG (Bf x s w) M=.ok (.nx (Bf x s' w)) M':=by
 have hc:(aw (g2 (aK false) (ae 4) (gC (.int 1)))) (Bf x s w) M=.ok (decide (w=1)) M:=aL (ao (x:=.int w) (M1:=M) rfl (y:=.int 1) (M2:=M) rfl (ja w 1 M))
 by_cases h:w=1
 ·obtain⟨f,M1,a,b,t,e⟩:=bj (many:=4) (by decide) (aW (by decide) (by decide)) hM;have z4:("!*^0":Str).cps.size=4:=by decide +kernel
  obtain⟨c,hc1,e2⟩:=kO (x:="!*^0") a (by rw[z4];exact b) (by decide +kernel) (lG (by decide +kernel));refine⟨⟨#[c]⟩,M1,⟨c,hc1,rfl⟩,t,?_⟩;rw[dE (hc.trans (by rw[decide_eq_true h]))];exact aD (i:=3) (ao (x:=.str "!*^0") (M1:=M) rfl (bV (x:=.mr 0) (M1:=M) rfl (y:=.int 4) (M2:=M) rfl e) (e2 M1))
 ·refine⟨s,M,hs,hM,?_⟩;rw[dY (hc.trans (by rw[decide_eq_false h]))];rfl
theorem wD {x:Str}(hx:x.cps.size≤90000)(M:av):fG [.str x] M=.ok (.lst (cw x)) M:=by
 have hl:x.cps.size≤sizeLine:=aY (show x.cps.size≤1000000 by omega);unfold fG;simp[hl]
theorem oZ {l:List Int}{rest M:av}{x:Str}(hM:bQ l rest M)(ho:eG x)(hx:x.cps.size≤5000) :
  ∃y ys M',eG y∧y.cps.size≤x.cps.size+1∧bQ l (rest++[.lst (List.map D.str ys)]) M'∧bi [.mr 0,.str x] M=.ok (.str y) M':=by
 obtain⟨f1,M1,a1,b1,t1,e1⟩:=bj (many:=94) (by decide) (aW (by decide) (by decide)) hM;obtain⟨f2,M2,a2,b2,t2,e2⟩:=bj (many:=4) (by decide) (aW (by decide) (by decide)) t1;obtain⟨c1,hc1,k1⟩:=kO (x:=ug) a1 (by rw[kJ];exact b1) (by rw[kJ];decide) Cv;obtain⟨s1,M3,hs1,t3,w1⟩:=B8 (w:=f2) t2 ho hx (s:=⟨#[c1]⟩) ⟨c1,hc1,rfl⟩;obtain⟨s2,M4,⟨c2,hc2,rfl⟩,t4,w2⟩:=zq (x:=x) (w:=f2) t3 hs1;obtain⟨f5,M5,a5,b5,t5,e5⟩:=bj (many:=4) (by decide) (aW (by decide) (by decide)) t4;obtain⟨f6,M6,a6,b6,t6,e6⟩:=bj (many:=(x.cps.size:Int)+1) (by omega) (aW (by omega) (by omega)) t5;have ll:=wD (x:=x) (by omega) M4;have lm:eh [.lst (cw x)] M6=.ok (.mr M6.length) (M6++[.lst ((x.cps.toList.map fun c=>(⟨#[c]⟩:Str)).map D.str)]):=by
  rw[←uC];rfl
 obtain⟨ys,hy1,hy2,e7⟩:=vf (way:=f5) (at_:=f6) (t:=⟨#[c2]⟩) lm (by rw[length_map,aR];omega);rw[length_map,aR] at hy2;have one:∀y∈ys,(∃c,c<0x110000∧y=(⟨#[c]⟩:Str)):=fun y hy=>by
  rcases hy1 y hy with h|h
  ·obtain⟨c,hc,rfl⟩:=mem_map.mp h;exact⟨c,ho c hc,rfl⟩
  ·exact⟨c2,hc2,h⟩
 have sz:∀y∈ys,y.cps.size=1:=fun y hy=>by obtain⟨c,_,rfl⟩:=one y hy;rfl
 refine⟨Txt.join "" ys,ys,M6++[.lst (ys.map D.str)],pb fun y hy=>?_,?_,qp t6 _,?_⟩
 ·obtain⟨c,hc,rfl⟩:=one y hy;exact ft hc
 ·rw[o6 sz];exact hy2
 ·show aQ (cO [some (.mr 0),some (.str x),none,none,none,none] M)=_;rw[Fh,ay (aD (d:=.str ug) (M1:=M) rfl)];show aQ (aj _ _ [some (.mr 0),some (.str x),some (.str ug),none,none,none] M)=_;have q1:g2 bh (ae 2) (ar 2 ai (aa (ae 0) (aa (az aO (aa (ae 2) ag)) ag))) [some (.mr 0),some (.str x),some (.str ug),none,none,none] M=.ok (.str ⟨#[c1]⟩) M1:=
   ao (x:=.str ug) (M1:=M) rfl (bV (x:=.mr 0) (M1:=M) rfl (cu (x:=.str ug) (M1:=M) rfl ((b7 (by rw[kJ];decide) M).trans (by rw[kJ];rfl))) e1) (k1 M1)
  rw[ay (aD q1)];show aQ (aj _ _ [some (.mr 0),some (.str x),some (.str ug),some (.str ⟨#[c1]⟩),none,none] M1)=_;rw[ay (aD (bV (x:=.mr 0) (M1:=M1) rfl (y:=.int 4) (M2:=M1) rfl e2))];show aQ (aj _ _ (Bf x ⟨#[c1]⟩ f2) M2)=_;rw[ay w1,ay w2];have q2:JB (Bf x ⟨#[c2]⟩ f2) M4=.ok (.mr M6.length) (M6++[.lst (ys.map D.str)]):=by
   refine wI (x:=.lst (cw x)) (M1:=M4) (cu (x:=.str x) (M1:=M4) rfl ll) (y:=.int f5) (M2:=M5) (bV (x:=.mr 0) (M1:=M4) rfl (y:=.int 4) (M2:=M4) rfl e5) (z:=.int f6) (M3:=M6) ?_ (u:=.str ⟨#[c2]⟩) (M4:=M6) rfl e7;exact bV (x:=.mr 0) (M1:=M5) rfl (ao (cu (x:=.str x) (M1:=M5) rfl (b7 (by omega) M5)) (y:=.int 1) (M2:=M5) rfl rfl) e6
  rw[ay (aD q2)];have q3:aS cR (gC (.str "")) (ae 5) [some (.mr 0),some (.str x),some (.str ug),some (.str ⟨#[c2]⟩),some (.int f2),some (.mr M6.length)] (M6++[.lst (ys.map D.str)])=.ok (.str (Txt.join "" ys)) (M6++[.lst (ys.map D.str)]):=by
   unfold aS gC ae;exact G3 (by simp) sz (by omega)
  show aQ (a9 _ [some (.mr 0),some (.str x),some (.str ug),some (.str ⟨#[c2]⟩),some (.int f2),some (.mr M6.length)] _)=_;rw[ii q3];rfl
theorem dS {gi:GI}{gc:GT}{ge:GE}{ρ:bc}{ds es:List D}{M M1 M2:av}(hi:gi ρ M=.ok ⟨ds,none⟩ M1)(he:cF ⟨ds,none⟩ gc ge ds ρ M1=.ok es M2)(hl:es.length≤1000000):aX gi gc ge aJ ρ M=.ok (.lst es) M2:=by
 unfold aX;rw[hi,ah];dsimp only;rw[he,ah];unfold aJ;rw[if_pos (aY hl)]
noncomputable def AM (k:Int):Prop:=0≤k∧k<64
noncomputable def qU (w:Nat)(r:List Int):Prop:=r.length=w∧∀k∈r,AM k
theorem nJ {P:Int→Prop}:∀{es:List D},(∀e∈es,∃k,e=.int k∧P k)→∃r:List Int,es=r.map D.int∧∀k∈r,P k
 | [],_=>⟨[],rfl,fun _ h=>by cases h⟩
 | e::es,h=>by
  obtain⟨k,rfl,hk⟩:=h e mem_cons_self;obtain⟨r,rfl,hr⟩:=nJ fun e' h'=>h e' (mem_cons_of_mem _ h')
  refine⟨k::r,rfl,fun x hx=>?_⟩;rcases mem_cons.mp hx with rfl|hx
  ·exact hk
  ·exact hr x hx
noncomputable abbrev pE (most wide high hues first:Int)(k:Nat)(a b c d e:Option D):bc:=[some (.mr 0),some (.int most),some (.int wide),some (.int high),some (.int hues),some (.int first),some (.mr k),a,b,c,d,e]
section
variable {l:List Int}{rest M:av}{most high hues first:Int}{w k:Nat}{a b c d e:Option D}
theorem vF {ρ:bc}(h1:ρ[0]?=some (some (.mr 0)))(h2:ρ[4]?=some (some (.int hues)))(h3:ρ[5]?=some (some (.int first)))(f0:0≤first)(u0:1≤hues)(fu:first+hues≤64)(hM:bQ l rest M) :
  ∃v M',AM v∧bQ l rest M'∧g2 ax (ae 5) (ar 2 ai (aa (ae 0) (aa (ae 4) ag))) ρ M=.ok (.int v) M':=by
 obtain⟨f,M1,a1,b1,t1,e1⟩:=bj (many:=hues) (by omega) (aW (by omega) (by omega)) hM;refine⟨first+f,M1,⟨by omega,by omega⟩,t1,?_⟩;refine ao (x:=.int first) (M1:=M) ?_ (bV (x:=.mr 0) (M1:=M) ?_ (y:=.int hues) (M2:=M) ?_ e1) rfl
 ·unfold ae;rw[h3]
 ·unfold ae;rw[h1]
 ·unfold ae;rw[h2]
theorem t7 (f0:0≤first)(u0:1≤hues)(fu:first+hues≤64)(hw:w≤1000)(hM:bQ l rest M) :
  ∃r M',qU w r∧bQ l rest M'∧aX (bM (aa (ae 2) ag)) bJ cg aJ (pE most w high hues first k a b c d e) M=.ok (.lst (r.map D.int)) M':=by
 obtain⟨es,M1,t1,l1,q1,e1⟩:=kW (ds0:=aM 0 w) (ge:=cg) (ρ:=pE most w high hues first k a b c d e) (P:=bQ l rest) (Q:=fun e=>∃k,e=.int k∧AM k) (aM 0 w) (fun d' _ M hM=>by
  obtain⟨f,M1,a1,b1,t1,e1⟩:=bj (many:=hues) (by omega) (aW (by omega) (by omega)) hM;exact⟨.int (first+f),M1,t1,⟨first+f,rfl,by omega,by omega⟩,ao (x:=.int first) (M1:=M) rfl (bV (x:=.mr 0) (M1:=M) rfl (y:=.int hues) (M2:=M) rfl e1) rfl⟩) M hM
 obtain⟨r,rfl,hr⟩:=nJ q1;have lr:r.length=w:=by
  rw[length_map] at l1;rw[l1];simp[aM]
 refine⟨r,M1,⟨lr,hr⟩,t1,dS (eD (n:=w) (aZ (d:=.int w) (M1:=M) rfl rfl) (by omega)) e1 (by rw[length_map,lr];omega)⟩
noncomputable def jv (w:Nat)(rs:List (List Int)):Prop:=∀r∈rs,qU w r
theorem pO:∀(n:Nat) (r:List Int),a8 n (r.map D.int)=true
 | _,[]=>by rw[map_nil];unfold a8;rfl
 | n,k::r=>by
  rw[map_cons];unfold a8;rw[pO n r];unfold cz;rfl
theorem lR:∀(n:Nat) (rs:List (List Int)),a8 (n+1) (aA rs)=true
 | _,[]=>by unfold aA;rw[map_nil];unfold a8;rfl
 | n,r::rs=>by
  have ih:=lR n rs;have c:=pO n r;show a8 (n+1) (D.lst (r.map D.int)::aA rs)=true;unfold a8;rw[ih];show(a8 n (r.map D.int)&&true)=true;rw[c];rfl
theorem Et {rs:List (List Int)}(hm:M[k]?=some (.lst (aA rs))):aK true (.mr k) (.lst []) M=.ok (.bl (!rs.isEmpty)) M:=by
 have e:now (.mr k) M=.lst (aA rs):=by simp[now,hm]
 unfold aK;rw[e];show(if(a8 39 (aA rs)&&a8 39 [])=true then aN.ok (D.bl (kq (.lst (aA rs)) (.lst []) != true)) M else .bad)=_;rw[lR 38 rs];cases rs with
 | nil=>rfl
 | cons r rs=>rfl
theorem lS {xs:List D}(hm:M[k]?=some (.lst xs)):bv (.mr k) M=some xs:=by simp[bv,hm]
theorem iP {xs:List D}(hm:M[k]?=some (.lst xs)):aO [.mr k] M=.ok (.int xs.length) M:=by
 show(match bv (.mr k) M with|some xs=>aN.ok (D.int xs.length) M|none=>.bad)=_;rw[lS hm]
theorem rL {xs:List D}{n:Nat}{x:D}(hm:M[k]?=some (.lst xs))(h:xs[n]?=some x):bh (.mr k) (.int n) M=.ok x M:=by
 have a:=gJ (xs:=xs) (j:=n) h;show qf (.mr k) (.int n) M=_;unfold qf;rw[lS hm];dsimp only;rw[a]
theorem ji {xs:List D}(h:bQ l (rest++[.lst xs]) M):M[rest.length+1]?=some (.lst xs):=by
 obtain⟨i,c,_,rfl⟩:=h;simp
theorem wn {xs ys:List D}(h:bQ l (rest++[.lst xs]) M):bQ l (rest++[.lst ys]) (M.set (rest.length+1) (.lst ys)):=by
 obtain⟨i,c,hi,rfl⟩:=h;refine⟨i,c,hi,?_⟩;rw[set_cons_succ,set_append_right _ _ (Nat.le_refl _),Nat.sub_self];rfl
noncomputable def HZ:GT:=(dQ (aw (g2 je (ae 8) (gC (.int 2)))) (aw (g2 (aK true) (ae 6) (cA ag))))
noncomputable def JO:GE:=(az fG (aa (g2 bh (ae 6) (ar 2 ai (aa (ae 0) (aa (az aO (aa (ae 6) ag)) ag)))) ag))
theorem vM {rs:List (List Int)}{r:List Int}{way:Int}(hrs:jv w rs)(hl:rs.length≤1000)(hr:qU w r)(hM:bQ l (rest++[.lst (aA rs)]) M) :
  ∃r' M',qU w r'∧bQ l (rest++[.lst (aA rs)]) M'∧ce HZ (au 9 JO) aG (pE most w high hues first (rest.length+1) a (some (.int way)) (some (.lst (r.map D.int))) d e) M=.ok (.nx (pE most w high hues first (rest.length+1) a (some (.int way)) (some (.lst (r'.map D.int))) d e)) M':=by
 have hc:HZ (pE most w high hues first (rest.length+1) a (some (.int way)) (some (.lst (r.map D.int))) d e) M=.ok (decide (way<2)&&!rs.isEmpty) M:=
  eL (aL (ao (x:=.int way) (M1:=M) rfl (y:=.int 2) (M2:=M) rfl rfl)) fun _=>aL (ao (x:=.mr (rest.length+1)) (M1:=M) rfl (y:=.lst []) (M2:=M) (fb rfl) (Et (ji hM)))
 by_cases h:way<2∧rs≠[]
 ·have h0:0<rs.length:=length_pos_iff.mpr h.2;obtain⟨f,M1,a1,b1,t1,e1⟩:=bj (many:=(rs.length:Int)) (by omega) (aW (by omega) (by omega)) hM;obtain⟨n,rfl⟩:=Int.eq_ofNat_of_zero_le a1;have hn:n<rs.length:=by omega
  refine⟨rs[n],M1,hrs _ (getElem_mem hn),t1,?_⟩;have he:rs.isEmpty=false:=by cases rs with|nil=>exact absurd rfl h.2|cons _ _=>rfl
  rw[dE (hc.trans (by rw[decide_eq_true h.1,he];rfl))];have l1:=iP (ji hM);rw[show(aA rs).length=rs.length from length_map ..] at l1;have i1:=rL (n:=n) (x:=.lst (rs[n].map D.int)) (ji t1) (by unfold aA;rw[getElem?_map,getElem?_eq_getElem hn];rfl);exact aD (i:=9) (cu (ao (x:=.mr (rest.length+1)) (M1:=M) rfl (bV (x:=.mr 0) (M1:=M) rfl (cu (x:=.mr (rest.length+1)) (M1:=M) rfl l1) e1) i1) rfl)
 ·refine⟨r,M,hr,hM,?_⟩;rw[dY (hc.trans (by
   by_cases q:way<2
   ·have:rs=[]:=Classical.byContradiction fun z=>h ⟨q,z⟩
    rw[this,decide_eq_true q];rfl
   ·rw[decide_eq_false q];rfl))]
  rfl
noncomputable def Ik:GT:=(cb (aw (g2 (aK false) (ae 8) (gC (.int 1)))) (aw (g2 (aK false) (ae 8) (gC (.int 2)))))
noncomputable def Ic:GE:=(ar 2 ai (aa (ae 0) (aa (ae 2) ag)))
noncomputable def Ho:GE:=(g2 ax (ae 10) (ar 2 ai (aa (ae 0) (aa (g2 fO (g2 ax (ae 2) (gC (.int 1))) (ae 10)) ag))))
noncomputable def Fo:GE:=(g2 ax (g2 ax (cC (ae 9) bn (aH (ae 10))) (g2 jH (cA (aa (g2 ax (ae 5) (ar 2 ai (aa (ae 0) (aa (ae 4) ag)))) ag)) (g2 fO (ae 11) (ae 10)))) (cC (ae 9) (aH (ae 11)) bn))
theorem vL {xs:List D}{n:Nat}(h:n≤xs.length)(M:av):gQ (.lst xs) none (some (n:Int)) M=.ok (.lst (xs.take n)) M:=by
 show aN.ok (D.lst (iy xs none (some (n:Int)))) M=_;unfold iy;rw[HT.sIx_none,HT.sIx_nat,drop_zero,Nat.sub_zero,Nat.min_eq_left h]
theorem xV {xs:List D}{n:Nat}(h:n≤xs.length)(M:av):gQ (.lst xs) (some (n:Int)) none M=.ok (.lst (xs.drop n)) M:=by
 show aN.ok (D.lst (iy xs (some (n:Int)) none)) M=_;unfold iy;rw[HT.sIx_none,HT.sIx_nat,Nat.min_eq_left h,take_of_length_le (by rw[length_drop];exact Nat.le_refl _)]
theorem dC {g:GE}{gl gh:GO}{ρ:bc}{M M1 M2 M3:av}{x:D}{lo hi:Option Int}{o:aN D}(h1:g ρ M=.ok x M1)(h2:gl ρ M1=.ok lo M2)(h3:gh ρ M2=.ok hi M3)(h:gQ x lo hi M3=o):cC g gl gh ρ M=o:=by
 unfold cC;rw[h1,ah,h2,ah,h3,ah,h]
theorem oC (v:Int)(n:Nat):(List.replicate n [D.int v]).flatten=(List.replicate n v).map D.int:=by
 induction n with
 | zero=>rfl
 | succ n ih=>rw[replicate_succ,flatten_cons,ih];rfl
theorem AH {r:List Int}{way:Int}(f0:0≤first)(u0:1≤hues)(fu:first+hues≤64)(hw0:0<w)(hw:w≤1000)(hr:qU w r)(hM:bQ l rest M) :
  ∃r' M' d' e',qU w r'∧bQ l rest M'∧ce Ik (aj (au 10 Ic) (aj (au 11 Ho) (au 9 Fo))) aG (pE most w high hues first k a (some (.int way)) (some (.lst (r.map D.int))) d e) M=.ok (.nx (pE most w high hues first k a (some (.int way)) (some (.lst (r'.map D.int))) d' e')) M':=by
 have hc:Ik (pE most w high hues first k a (some (.int way)) (some (.lst (r.map D.int))) d e) M=.ok (decide (way=1)||decide (way=2)) M:=
  dz (aL (ao (x:=.int way) (M1:=M) rfl (y:=.int 1) (M2:=M) rfl (ja _ _ M))) fun _=>aL (ao (x:=.int way) (M1:=M) rfl (y:=.int 2) (M2:=M) rfl (ja _ _ M))
 by_cases h:(decide (way=1)||decide (way=2))=true
 ·obtain⟨f1,M1,a1,b1,t1,e1⟩:=bj (many:=(w:Int)) (by omega) (aW (by omega) (by omega)) hM;obtain⟨f2,M2,a2,b2,t2,e2⟩:=bj (many:=(w:Int)+1-f1) (by omega) (aW (by omega) (by omega)) t1;obtain⟨v,M3,hv,t3,e3⟩:=vF (ρ:=pE most w high hues first k a (some (.int way)) (some (.lst (r.map D.int))) (some (.int f1)) (some (.int (f1+f2)))) rfl rfl rfl f0 u0 fu t2;obtain⟨n,rfl⟩:=Int.eq_ofNat_of_zero_le a1;obtain⟨m,rfl⟩:=Int.eq_ofNat_of_zero_le a2;have hl:=hr.1;refine⟨r.take n++List.replicate m v++r.drop (n+m),M3,some (.int n),some (.int ((n:Int)+m)),⟨?_,fun x hx=>?_⟩,t3,?_⟩
  ·rw[length_append,length_append,length_take,length_replicate,length_drop];omega
  ·rw[mem_append,mem_append] at hx;rcases hx with(hx|hx)|hx
   ·exact hr.2 x (mem_of_mem_take hx)
   ·rw[(mem_replicate.mp hx).2];exact hv
   ·exact hr.2 x (mem_of_mem_drop hx)
  ·rw[dE (hc.trans (by rw[h]))];have q1:Ic (pE most w high hues first k a (some (.int way)) (some (.lst (r.map D.int))) d e) M=.ok (.int n) M1:=bV (x:=.mr 0) (M1:=M) rfl (y:=.int w) (M2:=M) rfl e1;rw[ay (aD q1)];show aj (au 11 Ho) (au 9 Fo) (pE most w high hues first k a (some (.int way)) (some (.lst (r.map D.int))) (some (.int n)) e) M1=_;have q2:Ho (pE most w high hues first k a (some (.int way)) (some (.lst (r.map D.int))) (some (.int n)) e) M1=.ok (.int ((n:Int)+m)) M2:=
    ao (x:=.int n) (M1:=M1) rfl (bV (x:=.mr 0) (M1:=M1) rfl (ao (ao (x:=.int w) (M1:=M1) rfl (y:=.int 1) (M2:=M1) rfl rfl) (y:=.int n) (M2:=M1) rfl rfl) e2) rfl
   rw[ay (aD q2)];show au 9 Fo (pE most w high hues first k a (some (.int way)) (some (.lst (r.map D.int))) (some (.int n)) (some (.int ((n:Int)+m)))) M2=_;have lr:(r.map D.int).length=w:=by rw[length_map,hl]
   have c1:=vL (xs:=r.map D.int) (n:=n) (by rw[lr];omega) M2;have c2:=xV (xs:=r.map D.int) (n:=n+m) (by rw[lr];omega) M3;have mu:jH (.lst [.int v]) (.int m) M3=.ok (.lst ((List.replicate m v).map D.int)) M3:=by
    show(if 0≤(m:Int)∧(m:Int)≤100000∧[D.int v].length*(m:Int).toNat≤100000 then aN.ok (D.lst (List.replicate (m:Int).toNat [D.int v]).flatten) M3 else .bad)=_;rw[if_pos ⟨by omega,by omega,by rw[length_singleton,Int.toNat_natCast];omega⟩,Int.toNat_natCast,oC]
   have ad:∀(x y:List D) (N:av),x.length+y.length≤1000000→ax (.lst x) (.lst y) N=.ok (.lst (x++y)) N:=fun x y N h=>by
    show(if x.length+y.length≤sizeLine then aN.ok (D.lst (x++y)) N else .bad)=_;rw[if_pos (aY h)]
   have g1:cC (ae 9) bn (aH (ae 10)) (pE most w high hues first k a (some (.int way)) (some (.lst (r.map D.int))) (some (.int n)) (some (.int ((n:Int)+m)))) M2=.ok (.lst ((r.map D.int).take n)) M2:=dC (x:=.lst (r.map D.int)) (M1:=M2) rfl (lo:=none) (M2:=M2) rfl (hi:=some (n:Int)) (M3:=M2) rfl c1;have g3:cC (ae 9) (aH (ae 11)) bn (pE most w high hues first k a (some (.int way)) (some (.lst (r.map D.int))) (some (.int n)) (some (.int ((n:Int)+m)))) M3=.ok (.lst ((r.map D.int).drop (n+m))) M3:=dC (x:=.lst (r.map D.int)) (M1:=M3) rfl (lo:=some ((n:Int)+m)) (M2:=M3) rfl (hi:=none) (M3:=M3) rfl c2;have g2':g2 jH (cA (aa (g2 ax (ae 5) (ar 2 ai (aa (ae 0) (aa (ae 4) ag)))) ag)) (g2 fO (ae 11) (ae 10)) (pE most w high hues first k a (some (.int way)) (some (.lst (r.map D.int))) (some (.int n)) (some (.int ((n:Int)+m)))) M2=.ok (.lst ((List.replicate m v).map D.int)) M3:=by
    refine ao (fb (aZ e3 rfl)) (ao (x:=.int ((n:Int)+m)) (M1:=M3) rfl (y:=.int n) (M2:=M3) rfl (o:=.ok (.int m) M3) ?_) mu;show aN.ok (D.int ((n:Int)+m-n)) M3=_;rw[show(n:Int)+m-n=m by omega]
   have s1:=ad ((r.map D.int).take n) ((List.replicate m v).map D.int) M3 (by simp only[length_take,length_map,length_replicate];omega);have s2:=ad ((r.map D.int).take n++(List.replicate m v).map D.int) ((r.map D.int).drop (n+m)) M3 (by simp only[length_append,length_take,length_map,length_replicate,length_drop];omega);have q3:Fo (pE most w high hues first k a (some (.int way)) (some (.lst (r.map D.int))) (some (.int n)) (some (.int ((n:Int)+m)))) M2=.ok (.lst ((r.take n++List.replicate m v++r.drop (n+m)).map D.int)) M3:=by
    refine ao (ao g1 g2' s1) g3 (s2.trans ?_);rw[map_append,map_append,map_take,map_drop]
   exact aD (i:=9) q3
 ·refine⟨r,M,d,e,hr,hM,?_⟩;rw[dY (hc.trans (by rw[Bool.eq_false_iff.mpr h]))];rfl
end
section
variable {l:List Int}{rest M:av}{most high hues first:Int}{w:Nat}
theorem Fj (ρ:bc)(M:av):bw ρ M=aj (au 8 (ar 2 ai (aa (ae 0) (aa (gC (.int 4)) ag)))) (aj (au 9 (aX (bM (aa (ae 2) ag)) bJ cg aJ)) (aj (ce HZ (au 9 JO) aG) (aj (ce Ik (aj (au 10 Ic) (aj (au 11 Ho) (au 9 Fo))) aG) (cf (iF (ae 6) (ae 9)))))) ρ M:=rfl
theorem v7 {rs:List (List Int)}{a b c d e:Option D}(f0:0≤first)(u0:1≤hues)(fu:first+hues≤64)(hw0:0<w)(hw:w≤1000)(hrs:jv w rs)(hl:rs.length≤1000)(hM:bQ l (rest++[.lst (aA rs)]) M) :
  ∃r M' b' c' d' e',qU w r∧bQ l (rest++[.lst (aA (rs++[r]))]) M'∧bw (pE most w high hues first (rest.length+1) a b c d e) M=.ok (.nx (pE most w high hues first (rest.length+1) a b' c' d' e')) M':=by
 obtain⟨f1,M1,a1,b1,t1,e1⟩:=bj (many:=4) (by decide) (aW (by decide) (by decide)) hM;obtain⟨r1,M2,hr1,t2,e2⟩:=t7 (most:=most) (high:=high) (k:=rest.length+1) (a:=a) (b:=some (.int f1)) (c:=c) (d:=d) (e:=e) f0 u0 fu hw t1;obtain⟨r2,M3,hr2,t3,e3⟩:=vM (most:=most) (high:=high) (hues:=hues) (first:=first) (a:=a) (d:=d) (e:=e) (way:=f1) hrs hl hr1 t2;obtain⟨r3,M4,d',e',hr3,t4,e4⟩:=AH (most:=most) (high:=high) (k:=rest.length+1) (a:=a) (d:=d) (e:=e) (way:=f1) f0 u0 fu hw0 hw hr2 t3;refine⟨r3,M4.set (rest.length+1) (.lst (aA rs++[.lst (r3.map D.int)])),some (.int f1),some (.lst (r3.map D.int)),d',e',hr3,?_,?_⟩
 ·have:=wn (ys:=aA (rs++[r3])) t4;have e:aA (rs++[r3])=aA rs++[.lst (r3.map D.int)]:=by unfold aA;rw[map_append];rfl
  rw[e] at this ⊢;exact this
 ·rw[Fj,ay (aD (i:=8) (d:=.int f1) (bV (x:=.mr 0) (M1:=M) rfl (y:=.int 4) (M2:=M) rfl e1))];show aj _ _ (pE most w high hues first (rest.length+1) a (some (.int f1)) c d e) M1=_;rw[ay (aD (i:=9) e2)];show aj _ _ (pE most w high hues first (rest.length+1) a (some (.int f1)) (some (.lst (r1.map D.int))) d e) M2=_;rw[ay e3,ay e4];have hl2:(aA rs).length<1000000:=by rw[show(aA rs).length=rs.length from length_map ..];omega
  exact js (si (k:=rest.length+1) rfl (ji t4) rfl (ji t4) hl2)
theorem nh {ds0:List D}(f0:0≤first)(u0:1≤hues)(fu:first+hues≤64)(hw0:0<w)(hw:w≤1000):∀(ds:List D) (rs:List (List Int)) (a b c d e:Option D) (M:av),jv w rs→rs.length+ds.length≤1000→bQ l (rest++[.lst (aA rs)]) M→
  ∃rs' M' a' b' c' d' e',jv w rs'∧rs'.length=rs.length+ds.length∧bQ l (rest++[.lst (aA rs')]) M'∧cH ⟨ds0,none⟩ (cT 7) bw ds (pE most w high hues first (rest.length+1) a b c d e) M=.ok (.nx (pE most w high hues first (rest.length+1) a' b' c' d' e')) M'
 | [],rs,a,b,c,d,e,M,h1,h2,h3=>⟨rs,M,a,b,c,d,e,h1,rfl,h3,rfl⟩
 | x::ds,rs,a,b,c,d,e,M,h1,h2,h3=>by
  rw[length_cons] at h2;obtain⟨r,M1,b1,c1,d1,e1,hr,t1,q1⟩:=v7 (most:=most) (high:=high) (a:=some x) (b:=b) (c:=c) (d:=d) (e:=e) f0 u0 fu hw0 hw h1 (by omega) h3;obtain⟨rs',M2,a2,b2,c2,d2,e2,hr2,l2,t2,q2⟩:=nh (ds0:=ds0) f0 u0 fu hw0 hw ds (rs++[r]) (some x) b1 c1 d1 e1 M1 (fun y hy=>by
   rcases mem_append.mp hy with h|h
   ·exact h1 y h
   ·rw[mem_singleton.mp h];exact hr) (by rw[length_append,length_singleton];omega) t1
  refine⟨rs',M2,a2,b2,c2,d2,e2,hr2,by rw[l2,length_append,length_singleton,length_cons];omega,t2,?_⟩;rw[cH,if_pos gx];show(bw (pE most w high hues first (rest.length+1) (some x) b c d e) M).bind _=_;rw[q1,ah];exact q2
theorem jY:∀rs:List (List Int),(aA rs).all (bE 29)=true:=fun rs=>by
 unfold aA;rw[all_map];exact all_eq_true.mpr fun r _=>by
  show bE 29 (.lst (r.map D.int))=true;rw[il];exact mL 27 r
theorem kK {l:List Int}{i c:Int}{rest:av}(hr:rest.all bu=true):(tp l i c::rest).all bu=true:=by
 have h:bu (tp l i c)=true:=by
  show(D.lst (l.map D.int)::[D.int i,D.int c]).all (bE 30)=true;have:=mL 28 l;simp[il,this,bE]
 rw[all_cons,h,hr];rfl
theorem Aa {f:Int}(h0:0≤f)(h1:f<3):∃u,1≤u∧u≤64∧∀M,bh (.lst [.int 2,.int 3,.int 64]) (.int f) M=.ok (.int u) M:=by
 have:f=0∨f=1∨f=2:=by omega
 rcases this with rfl|rfl|rfl
 ·exact⟨2,by decide,by decide,fun _=>rfl⟩
 ·exact⟨3,by decide,by decide,fun _=>rfl⟩
 ·exact⟨64,by decide,by decide,fun _=>rfl⟩
theorem yL {most:Int}(h0:1≤most)(h1:most≤40)(hp:rest.all bu=true)(hM:bQ l rest M) :
  ∃(rs:List (List Int)) (w:Nat) (M':av),1≤w∧(w:Int)≤most∧1≤rs.length∧(rs.length:Int)≤most∧jv w rs∧bQ l rest M'∧dB [.mr 0,.int most] M=.ok (.lst (aA rs)) M':=by
 obtain⟨f1,M1,a1,b1,t1,e1⟩:=bj (many:=most) (by omega) (aW (by omega) (by omega)) hM;obtain⟨f2,M2,a2,b2,t2,e2⟩:=bj (many:=most) (by omega) (aW (by omega) (by omega)) t1;obtain⟨f3,M3,a3,b3,t3,e3⟩:=bj (many:=3) (by decide) (aW (by decide) (by decide)) t2;obtain⟨u,u1,u2,k3⟩:=Aa a3 b3;obtain⟨f4,M4,a4,b4,t4,e4⟩:=bj (many:=65-u) (by omega) (aW (by omega) (by omega)) t3;obtain⟨n1,rfl⟩:=Int.eq_ofNat_of_zero_le a1;obtain⟨n2,rfl⟩:=Int.eq_ofNat_of_zero_le a2;have t5:bQ l (rest++[.lst (aA [])]) (M4++[.lst []]):=qp t4 _;obtain⟨rs,M6,a6,b6,c6,d6,e6,hrs,lrs,t6,q6⟩:=nh (most:=most) (high:=((n2+1:Nat):Int)) (ds0:=aM 0 (n2+1)) (first:=f4) (hues:=u) (w:=n1+1) a4 u1 (by omega) (by omega) (by omega) (aM 0 (n2+1)) [] none none none none none (M4++[.lst []]) (fun _ h=>by cases h) (by simp[aM];omega) t5;have lr:rs.length=n2+1:=by rw[lrs];simp[aM]
 obtain⟨i6,c6',h6,rfl⟩:=t6;refine⟨rs,n1+1,tp l i6 c6'::rest,by omega,by omega,by omega,by omega,hrs,⟨i6,c6',h6,rfl⟩,?_⟩;have lM:M.length=(tp l i6 c6'::rest).length:=by rw[oW hM];rfl
 have l4:M4.length=rest.length+1:=oW t4;show dJ M.length (aQ (bS [some (.mr 0),some (.int most),none,none,none,none,none,none,none,none,none,none] M))=_;have q:bS [some (.mr 0),some (.int most),none,none,none,none,none,none,none,none,none,none] M=.ok (.rt (.mr (rest.length+1))) (tp l i6 c6'::(rest++[.lst (aA rs)])):=by
  unfold bS;have n1e:(1:Int)+n1=((n1+1:Nat):Int):=by omega
  have n2e:(1:Int)+n2=((n2+1:Nat):Int):=by omega
  rw[ay (aD (d:=.int ((n1+1:Nat):Int)) (ao (x:=.int 1) (M1:=M) rfl (bV (x:=.mr 0) (M1:=M) rfl (y:=.int most) (M2:=M) rfl e1) (by show aN.ok (D.int (1+(n1:Int))) M1=_;rw[n1e])))];show aj _ _ [some (.mr 0),some (.int most),some (.int ((n1+1:Nat):Int)),none,none,none,none,none,none,none,none,none] M1=_;rw[ay (aD (d:=.int ((n2+1:Nat):Int)) (ao (x:=.int 1) (M1:=M1) rfl (bV (x:=.mr 0) (M1:=M1) rfl (y:=.int most) (M2:=M1) rfl e2) (by show aN.ok (D.int (1+(n2:Int))) M2=_;rw[n2e])))];show aj _ _ [some (.mr 0),some (.int most),some (.int ((n1+1:Nat):Int)),some (.int ((n2+1:Nat):Int)),none,none,none,none,none,none,none,none] M2=_;rw[ay (aD (d:=.int u) (ao (x:=.lst [.int 2,.int 3,.int 64]) (M1:=M2) (fb rfl) (bV (x:=.mr 0) (M1:=M2) rfl (y:=.int 3) (M2:=M2) rfl e3) (k3 M3)))];show aj _ _ [some (.mr 0),some (.int most),some (.int ((n1+1:Nat):Int)),some (.int ((n2+1:Nat):Int)),some (.int u),none,none,none,none,none,none,none] M3=_;rw[ay (aD (d:=.int f4) (bV (x:=.mr 0) (M1:=M3) rfl (ao (x:=.int 65) (M1:=M3) rfl (y:=.int u) (M2:=M3) rfl rfl) e4))];show aj _ _ [some (.mr 0),some (.int most),some (.int ((n1+1:Nat):Int)),some (.int ((n2+1:Nat):Int)),some (.int u),some (.int f4),none,none,none,none,none,none] M4=_;have qm:∀ρ,iV ag ρ M4=.ok (.mr (rest.length+1)) (M4++[.lst []]):=fun ρ=>by rw[←l4];exact nD
  rw[ay (aD (qm _))];have hE:([some (D.mr 0),some (D.int most),some (D.int ((n1+1:Nat):Int)),some (D.int ((n2+1:Nat):Int)),some (D.int u),some (D.int f4),none,none,none,none,none,none]:bc).set 6 (some (D.mr (rest.length+1)))=pE most ((n1+1:Nat):Int) ((n2+1:Nat):Int) u f4 (rest.length+1) none none none none none:=rfl;rw[hE];have hF:=iJ (b:=bw) (sg:=cT 7) (eD (n:=n2+1) (aZ (d:=.int ((n2+1:Nat):Int)) (g:=ae 3) (r:=ag) (ρ:=pE most ((n1+1:Nat):Int) ((n2+1:Nat):Int) u f4 (rest.length+1) none none none none none) (M1:=M4++[MO.lst []]) rfl rfl) (by omega)) q6;rw[ay hF];exact ii (d:=.mr (rest.length+1)) rfl
 rw[q,lM];exact sH (M:=tp l i6 c6'::rest) (jY rs) (kK hp)
end
theorem jx {x:Str}{i j:Nat}(hij:i≤j):(bU x (some (i:Int)) (some (j:Int))).cps.toList=(x.cps.toList.drop i).take (j-i):=by
 unfold bU;rw[HT.sIx_nat,HT.sIx_nat];show((x.cps.toList.drop (min i x.length)).take (min j x.length-min i x.length)).toArray.toList=_;rw[toList_toArray];have hl:x.cps.toList.length=x.length:=aR x
 by_cases h:i≤x.length
 ·rw[Nat.min_eq_left h]
  by_cases h2:j≤x.length
  ·rw[Nat.min_eq_left h2]
  ·rw[Nat.min_eq_right (by omega),take_of_length_le (by rw[length_drop,hl];exact Nat.le_refl _),take_of_length_le (by rw[length_drop,hl];omega)]
 ·rw[Nat.min_eq_right (show x.length≤i by omega),drop_of_length_le (i:=x.length) (by rw[hl];exact Nat.le_refl _),drop_of_length_le (i:=i) (by rw[hl];omega)];simp
theorem nK {x:Str}{i j:Nat}(hij:i≤j):bU x (some (i:Int)) (some (j:Int))=⟨((x.cps.toList.drop i).take (j-i)).toArray⟩:=iq (by rw[jx hij])
theorem fP {x:Str}{lo hi:Option Int}:(bU x lo hi).cps.size≤x.cps.size:=by
 unfold bU;simp only[size_toArray,length_take,length_drop,aR];omega
theorem jC {x:Str}{lo hi:Option Int}(h:eG x):eG (bU x lo hi):=fun c hc=>by
 unfold bU at hc;rw[toList_toArray] at hc;exact h c (mem_of_mem_drop (mem_of_mem_take hc))
theorem dN {x:Str}{lo hi:Option Int}(hx:x.cps.size≤90000)(M:av):gQ (.str x) lo hi M=.ok (.str (bU x lo hi)) M:=by
 have hl:x.length≤sizeLine:=aY (show x.cps.size≤1000000 by omega);show(if x.length≤sizeLine then aN.ok (D.str (bU x lo hi)) M else .bad)=_;rw[if_pos hl]
theorem qS (z:Str)(c:Nat):(Txt.lstripChars z ⟨#[c]⟩).cps.size+(z.cps.toList.takeWhile (·==c)).length=z.cps.size:=by
 have e:(fun d=>(#[c]:Array Nat).contains d)=(·==c):=by
  funext d
  by_cases q:d=c
  ·subst q;simp
  ·have q2:¬c=d:=fun z=>q z.symm
   simp[q,q2]
 have hl:(z.cps.toList.takeWhile (·==c)).length≤z.cps.size:=by rw[←aR];exact(takeWhile_sublist _).length_le
 unfold Txt.lstripChars Txt.stripBy;show(if stripSame (fun d=>(#[c]:Array Nat).contains d) true false z then z else stripped (fun d=>(#[c]:Array Nat).contains d) true false z).cps.size+_=_;rw[e];split
 ·rename_i h;simp only[stripSame,Bool.and_eq_true,beq_iff_eq] at h;have h1:(z.cps.toList.takeWhile (·==c)).length=0:=h.1;rw[h1];rfl
 ·show(Builtin.Str.strSub z (z.cps.toList.takeWhile (·==c)).length z.length).cps.size+_=_;rw[←aR,StrLaws.strSub_toList,length_take,length_drop,aR];show min (z.cps.size-_) (z.cps.size-_)+_=_;omega
noncomputable def gq (cs:List Nat)(at_:Nat):Nat:=(((cs.drop at_).take 63).takeWhile (·==cs.getD at_ 0)).length
theorem k7 (cs:List Nat)(at_:Nat):gq cs at_≤min 63 (cs.length-at_):=by
 unfold gq;have:=(takeWhile_sublist (l:=(cs.drop at_).take 63) (·==cs.getD at_ 0)).length_le;rw[length_take,length_drop] at this;exact this
theorem xh {x:Str}{at_:Nat}{M:av}(hx:x.cps.size≤5000)(ha:at_<x.cps.size):eJ [.str x,.int at_] M=.ok (.int (gq x.cps.toList at_)) M:=by
 have hl:at_<x.cps.toList.length:=by rw[aR];exact ha
 have eg:x.cps.toList[at_]?=some (x.cps.toList.getD at_ 0):=by rw[List.getD,getElem?_eq_getElem hl];rfl
 have c1:=nK (x:=x) (i:=at_) (j:=at_+63) (by omega);rw[show at_+63-at_=63 by omega] at c1;have zl:=fP (x:=x) (lo:=some (at_:Int)) (hi:=some ((at_+63:Nat):Int));rw[c1] at zl;generalize hz:(⟨((x.cps.toList.drop at_).take 63).toArray⟩:Str)=z at *;have zc:z.cps.toList=(x.cps.toList.drop at_).take 63:=by rw[←hz]
 have s1:gQ (.str x) (some (at_:Int)) (some ((at_:Int)+63)) M=.ok (.str z) M:=by
  rw[dN (by omega),show((at_:Int)+63)=((at_+63:Nat):Int) by omega,c1]
 have ls:=qS z (x.cps.toList.getD at_ 0);have an:gq x.cps.toList at_=(z.cps.toList.takeWhile (·==x.cps.toList.getD at_ 0)).length:=by unfold gq;rw[zc]
 rw[←an] at ls;have hz2:z.length≤sizeLine:=aY (show z.cps.size≤1000000 by omega);have lf:gn z (.str ⟨#[x.cps.toList.getD at_ 0]⟩) M=.ok (.str (Txt.lstripChars z ⟨#[x.cps.toList.getD at_ 0]⟩)) M:=by
  show(if z.length≤sizeLine then aN.ok (D.str _) M else .bad)=_;rw[if_pos hz2]
 show aQ (eF [some (.str x),some (.int at_),none] M)=_;unfold eF;rw[ay (aD (dC (x:=.str x) (M1:=M) rfl (lo:=some (at_:Int)) (M2:=M) rfl (hi:=some ((at_:Int)+63)) (M3:=M) rfl s1))];show aQ (a9 _ [some (.str x),some (.int at_),some (.str z)] M)=_;have q:(g2 fO (az aO (aa (ae 2) ag)) (az aO (aa (aS gn (ae 2) (g2 bh (ae 0) (ae 1))) ag))) [some (.str x),some (.int at_),some (.str z)] M=.ok (.int (gq x.cps.toList at_)) M:=by
  refine ao (cu (x:=.str z) (M1:=M) rfl (b7 (by omega) M)) (cu (x:=.str (Txt.lstripChars z ⟨#[x.cps.toList.getD at_ 0]⟩)) (M1:=M) ?_ (b7 (by omega) M)) ?_
  ·unfold aS;show((aN.ok (D.str z) M).bind fun o M1=>match o with | .str x'=>(g2 bh (ae 0) (ae 1) [some (.str x),some (.int at_),some (.str z)] M1).bind fun d M2=>gn x' d M2|_=>.bad)=_;rw[ah];dsimp only;rw[ao (x:=.str x) (M1:=M) rfl (y:=.int at_) (M2:=M) rfl (eU eg (by omega) M),ah,lf]
  ·show aN.ok (D.int ((z.cps.size:Int)-((Txt.lstripChars z ⟨#[x.cps.toList.getD at_ 0]⟩).cps.size:Int))) M=_;rw[show(z.cps.size:Int)-((Txt.lstripChars z ⟨#[x.cps.toList.getD at_ 0]⟩).cps.size:Int)=(gq x.cps.toList at_:Int) by omega]
 rw[ii q];rfl
noncomputable def rQ (cs:List Nat)(w at_:Nat):Nat→Nat→Nat
 | 0,k=>k
 | f+1,k=>if cs.getD (at_+k) 0=cs.getD (at_+k-w) 0 then rQ cs w at_ f (k+1) else k
noncomputable def gF (w:Nat)(cs:List Nat)(at_:Nat):Nat:=if at_<w then 0 else rQ cs w at_ (min 63 (cs.length-at_)) 0
theorem sQ (cs:List Nat)(w at_:Nat):∀f k,rQ cs w at_ f k≤k+f
 | 0,k=>Nat.le_refl _
 | f+1,k=>by
  unfold rQ;split
  ·have:=sQ cs w at_ f (k+1);omega
  ·omega
theorem lW (w:Nat)(cs:List Nat)(at_:Nat):gF w cs at_≤min 63 (cs.length-at_):=by
 unfold gF;split
 ·exact Nat.zero_le _
 ·have:=sQ cs w at_ (min 63 (cs.length-at_)) 0;omega
theorem gD {x:Str}{n:Nat}(h:n<x.cps.size):x.cps.toList[n]?=some (x.cps.toList.getD n 0):=by
 have hl:n<x.cps.toList.length:=by rw[aR];exact h
 rw[List.getD,getElem?_eq_getElem hl];rfl
theorem nq {x:Str}(h:eG x){n:Nat}(hn:n<x.cps.size):x.cps.toList.getD n 0<0x110000:=by
 have hl:n<x.cps.toList.length:=by rw[aR];exact hn
 have:x.cps.toList.getD n 0=x.cps.toList[n]:=by rw[List.getD,getElem?_eq_getElem hl];rfl
 rw[this];exact h _ (getElem_mem hl)
theorem tJ {a b:Nat}:((⟨#[a]⟩:Str)=⟨#[b]⟩)↔a=b:=by
 constructor
 ·intro h;have:=congrArg (fun s:Str=>s.cps.toList) h;simpa using this
 ·intro h;rw[h]
theorem nO {a b:Nat}(ha:a<0x110000)(hb:b<0x110000)(M:av):aK false (.str ⟨#[a]⟩) (.str ⟨#[b]⟩) M=.ok (.bl (decide (a=b))) M:=by
 rw[J0 (ft ha) (ft hb)];congr 2;exact decide_eq_decide.mpr tJ
section
variable {x:Str}{w at_:Nat}{M:av}
noncomputable abbrev aE (x:Str)(w at_ k:Nat):bc:=[some (.str x),some (.int w),some (.int at_),some (.int k)]
theorem tR {k:Nat}(ho:eG x)(hx:x.cps.size≤5000)(hw:w≤at_)(hk:k≤63):bH (aE x w at_ k) M=.ok (decide (k<63∧at_+k<x.cps.size∧x.cps.toList.getD (at_+k) 0=x.cps.toList.getD (at_+k-w) 0)) M:=by
 have t1:(aw (g2 je (ae 3) (gC (.int 63)))) (aE x w at_ k) M=.ok (decide ((k:Int)<63)) M:=aL (ao (x:=.int k) (M1:=M) rfl (y:=.int 63) (M2:=M) rfl rfl);have t2:(aw (g2 je (g2 ax (ae 2) (ae 3)) (az aO (aa (ae 0) ag)))) (aE x w at_ k) M=.ok (decide (((at_:Int)+k)<(x.cps.size:Int))) M:=
  aL (ao (ao (x:=.int at_) (M1:=M) rfl (y:=.int k) (M2:=M) rfl rfl) (cu (x:=.str x) (M1:=M) rfl (b7 (by omega) M)) rfl)
 by_cases h1:k<63
 ·by_cases h2:at_+k<x.cps.size
  ·have i1:=eU (gD h2) (show x.cps.size≤90000 by omega) M;have i2:=eU (gD (show at_+k-w<x.cps.size by omega)) (show x.cps.size≤90000 by omega) M;have t3:(aw (g2 (aK false) (g2 bh (ae 0) (g2 ax (ae 2) (ae 3))) (g2 bh (ae 0) (g2 fO (g2 ax (ae 2) (ae 3)) (ae 1))))) (aE x w at_ k) M=.ok (decide (x.cps.toList.getD (at_+k) 0=x.cps.toList.getD (at_+k-w) 0)) M:=by
    refine aL (ao (ao (x:=.str x) (M1:=M) rfl (ao (x:=.int at_) (M1:=M) rfl (y:=.int k) (M2:=M) rfl (o:=.ok (.int ((at_+k:Nat):Int)) M) rfl) i1) (ao (x:=.str x) (M1:=M) rfl (ao (ao (x:=.int at_) (M1:=M) rfl (y:=.int k) (M2:=M) rfl rfl) (y:=.int w) (M2:=M) rfl (o:=.ok (.int ((at_+k-w:Nat):Int)) M) ?_) i2) (nO (nq ho h2) (nq ho (by omega)) M));show aN.ok (D.int ((at_:Int)+k-w)) M=_;rw[show((at_:Int)+k-w)=((at_+k-w:Nat):Int) by omega]
   refine(eL t1 fun _=>eL t2 fun _=>t3).trans ?_;congr 1;rw[decide_eq_true (show(k:Int)<63 by omega),decide_eq_true (show((at_:Int)+k)<(x.cps.size:Int) by omega),Bool.true_and,Bool.true_and];exact decide_eq_decide.mpr ⟨fun z=>⟨h1,h2,z⟩,fun z=>z.2.2⟩
  ·refine(eL t1 fun _=>eL (y:=false) t2 fun z=>?_).trans ?_
   ·exact absurd (of_decide_eq_true z) (by omega)
   ·congr 1;rw[decide_eq_false (show¬((at_:Int)+k)<(x.cps.size:Int) by omega),Bool.false_and,Bool.and_false];exact(decide_eq_false fun z=>h2 z.2.1).symm
 ·refine(eL (y:=false) t1 fun z=>absurd (of_decide_eq_true z) (by omega)).trans ?_;congr 1;rw[Bool.and_false];exact(decide_eq_false fun z=>h1 z.1).symm
theorem tW (ho:eG x)(hx:x.cps.size≤5000)(hw:w≤at_)(ha:at_<x.cps.size):∀(f k n:Nat),k+f=min 63 (x.cps.size-at_)→f<n→bI bH bT n (aE x w at_ k) M=.ok (.nx (aE x w at_ (rQ x.cps.toList w at_ f k))) M
 | 0,k,n+1,h,_=>by
  rw[eZ (M1:=M) ((tR ho hx hw (by omega)).trans (by rw[decide_eq_false];omega))];rfl
 | f+1,k,n+1,h,hn=>by
  have t:=tR (M:=M) (k:=k) ho hx hw (by omega);unfold rQ
  by_cases q:x.cps.toList.getD (at_+k) 0=x.cps.toList.getD (at_+k-w) 0
  ·rw[if_pos q,lK (ρ2:=aE x w at_ (k+1)) (M1:=M) (M2:=M) (t.trans (by rw[decide_eq_true];exact⟨by omega,by omega,q⟩)) rfl];exact tW ho hx hw ha f (k+1) n (by omega) (by omega)
  ·rw[if_neg q,eZ (M1:=M) (t.trans (by rw[decide_eq_false];exact fun z=>q z.2.2))]
theorem wo (ho:eG x)(hx:x.cps.size≤5000)(ha:at_<x.cps.size):cY [.str x,.int w,.int at_] M=.ok (.int (gF w x.cps.toList at_)) M:=by
 show aQ (da [some (.str x),some (.int w),some (.int at_),none] M)=_;unfold da;have t1:(aw (g2 je (ae 2) (ae 1))) [some (.str x),some (.int w),some (.int at_),none] M=.ok (decide ((at_:Int)<w)) M:=aL (ao (x:=.int at_) (M1:=M) rfl (y:=.int w) (M2:=M) rfl rfl)
 by_cases h:at_<w
 ·have e:gF w x.cps.toList at_=0:=by unfold gF;rw[if_pos h]
  rw[gP (d:=.int 0) (M1:=M) ((dE (t1.trans (by rw[decide_eq_true];omega))).trans rfl),e];rfl
 ·rw[ay (ρ1:=[some (.str x),some (.int w),some (.int at_),none]) (M1:=M) ((dY (t1.trans (by rw[decide_eq_false];omega))).trans rfl)];rw[ay (aD (d:=.int 0) (M1:=M) rfl)];have lp:=tW (M:=M) ho hx (show w≤at_ by omega) ha (min 63 (x.cps.size-at_)) 0 5000 (by omega) (by omega);have e:gF w x.cps.toList at_=rQ x.cps.toList w at_ (min 63 (x.cps.size-at_)) 0:=by unfold gF;rw[if_neg h,aR]
  rw[←e] at lp;show aQ (aj (fh 5000 bH bT) (a9 (ae 3)) (aE x w at_ 0) M)=_;rw[ay (a:=fh 5000 bH bT) lp];rfl
end
theorem sM {g:GE}{ρ:bc}{M:av}{E zs:List D}{i:Nat}(hi:ρ[i]?=some (some (.mr M.length)))(hg:g ρ (M++[.lst E])=.ok (.lst zs) (M++[.lst E]))(hl:E.length+zs.length≤1000000) :
  kj i g ρ (M++[.lst E])=.ok (.nx (ρ.set i (some (.mr M.length)))) (M++[.lst (E++zs)]):=by
 have v:ae i ρ (M++[.lst E])=.ok (.mr M.length) (M++[.lst E]):=by
  unfold ae;rw[hi]
 have a:rY (.mr M.length) (.lst zs) (M++[.lst E])=.ok (.mr M.length) (M++[.lst (E++zs)]):=by
  unfold rY;dsimp only;rw[iE];dsimp only;have e:jA (.lst zs) (M++[MO.lst E])=some zs:=rfl;rw[e];dsimp only;rw[if_pos (aY hl),gX]
 unfold kj;rw[v,ah,hg,ah,a,ah]
theorem gK {α:Type}{ds0:List D}{ge:GE}{ρ:bc}{M:av}{g h:α→D}:∀l:List α,(∀a∈l,ge (some (g a)::ρ) M=.ok (h a) M)→cF ⟨ds0,none⟩ bJ ge (l.map g) ρ M=.ok (l.map h) M
 | [],_=>rfl
 | a::l,k=>by
  have ih:=gK (ds0:=ds0) (ge:=ge) (ρ:=ρ) (M:=M) (g:=g) (h:=h) l fun x hx=>k x (mem_cons_of_mem _ hx)
  show cF ⟨ds0,none⟩ bJ ge (g a::l.map g) ρ M=_;unfold cF;rw[show mj.ok ⟨ds0,none⟩ M=true from rfl,if_pos rfl,show bJ (some (g a)::ρ) M=.ok true M from rfl];dsimp only;rw[k a mem_cons_self];dsimp only;rw[ih];rfl
theorem pr {α:Type}{ds0:List D}{n:Nat}{sg:GG}{ge:GE}{ρ:bc}{M:av}{g h:α→D}:∀l:List α,(∀a∈l,∃ρ1,sg (g a) (List.replicate n none++ρ)=some ρ1∧ge ρ1 M=.ok (h a) M)→aU ⟨ds0,none⟩ n sg bJ ge (l.map g) ρ M=.ok (l.map h) M
 | [],_=>rfl
 | a::l,k=>by
  obtain⟨ρ1,e1,e2⟩:=k a mem_cons_self;have ih:=pr (ds0:=ds0) (n:=n) (sg:=sg) (ge:=ge) (ρ:=ρ) (M:=M) (g:=g) (h:=h) l fun x hx=>k x (mem_cons_of_mem _ hx)
  show aU ⟨ds0,none⟩ n sg bJ ge (g a::l.map g) ρ M=_;unfold aU;rw[show mj.ok ⟨ds0,none⟩ M=true from rfl,if_pos rfl,e1];dsimp only;rw[show bJ ρ1 M=.ok true M from rfl];dsimp only;rw[e2];dsimp only;rw[ih];rfl
noncomputable def Hy (x:Str)(at_:Nat):Str:=⟨#[x.cps.toList.getD at_ 0]⟩
noncomputable def Hc (x:Str)(at_ m:Nat):Str:=("!":Str)++ky m++bU x (some (at_:Int)) (some ((at_:Int)+m))
noncomputable def GR (x:Str)(at_ m:Nat):Str:=("*":Str)++ky m++Hy x at_
noncomputable def E3 (m:Nat):Str:=("^":Str)++ky m
noncomputable def de (x:Str)(w at_:Nat):List (Str×Nat):=((List.range (min 63 (x.cps.size-at_))).map fun i=>(Hc x at_ (i+1),i+1))++((List.range (gq x.cps.toList at_)).map fun i=>(GR x at_ (i+1),i+1))++((List.range (gF w x.cps.toList at_)).map fun i=>(E3 (i+1),i+1))
noncomputable def gN (p:Str×Nat):D:=.tup [.str p.1,.int p.2]
theorem gk {a b:Str}(ha:a.length≤90000)(hb:b.length≤90000)(M:av):ax (.str a) (.str b) M=.ok (.str (a++b)) M:=by
 show(if a.length+b.length≤sizeLine then aN.ok (D.str (a++b)) M else .bad)=_;rw[if_pos (aY (by omega))]
theorem dO (a b:Str):(a++b).cps.size=a.cps.size+b.cps.size:=by
 show(a++b).length=_;rw[strLen_append];rfl
section
variable {x:Str}{w at_:Nat}{M:av}{d:Option D}
noncomputable abbrev qE (x:Str)(w at_:Nat)(d:Option D):bc:=[some (.str x),some (.int w),some (.int at_),d]
theorem vP {m:Nat}(h:m<64)(ρ:bc)(hm:ρ[0]?=some (some (.int m))):g2 bh (gC (.str "0123456789abcdefghijklmnopqrstuvwxyzABCDEFGHIJKLMNOPQRSTUVWXYZ+-")) (ae 0) ρ M=.ok (.str (ky m)) M:=by
 have e:=sF (M:=M) (k:=(m:Int)) (by omega) (by omega);refine ao (x:=.str dq) (M1:=M) rfl (y:=.int m) (M2:=M) ?_ e;unfold ae;rw[hm]
theorem Kd {m:Nat}(hx:x.cps.size≤5000)(h:m<64):fK (some (.int m)::qE x w at_ d) M=.ok (gN (Hc x at_ m,m)) M:=by
 have z:=fP (x:=x) (lo:=some (at_:Int)) (hi:=some ((at_:Int)+m));have c1:=gk (a:="!") (b:=ky m) (by decide +kernel) (by rw[ju];decide) M;have c2:=gk (a:="!"++ky m) (b:=bU x (some (at_:Int)) (some ((at_:Int)+m))) (show(("!":Str)++ky m).cps.size≤90000 by rw[dO];exact Nat.le_trans (show 1+1≤2 by decide) (by decide)) (show(bU x (some (at_:Int)) (some ((at_:Int)+m))).cps.size≤90000 by omega) M;refine j9 (aZ (ao (ao (x:=.str "!") (M1:=M) rfl (vP h _ rfl) c1) (dC (x:=.str x) (M1:=M) rfl (lo:=some (at_:Int)) (M2:=M) rfl (hi:=some ((at_:Int)+m)) (M3:=M) rfl (dN (by omega) M)) c2) (aZ (d:=.int m) (M1:=M) rfl rfl))
theorem J1 {m:Nat}(hx:x.cps.size≤5000)(ha:at_<x.cps.size)(h:m<64):fm (some (.int m)::qE x w at_ d) M=.ok (gN (GR x at_ m,m)) M:=by
 have c1:=gk (a:="*") (b:=ky m) (by decide +kernel) (by rw[ju];decide) M;have c2:=gk (a:="*"++ky m) (b:=Hy x at_) (show(("*":Str)++ky m).cps.size≤90000 by rw[dO];exact Nat.le_trans (show 1+1≤2 by decide) (by decide)) (show(Hy x at_).cps.size≤90000 from(by decide:1≤90000)) M;exact j9 (aZ (ao (ao (x:=.str "*") (M1:=M) rfl (vP h _ rfl) c1) (ao (x:=.str x) (M1:=M) rfl (y:=.int at_) (M2:=M) rfl (eU (gD ha) (by omega) M)) c2) (aZ (d:=.int m) (M1:=M) rfl rfl))
theorem Kb {m:Nat}(h:m<64):fI (some (.int m)::qE x w at_ d) M=.ok (gN (E3 m,m)) M:=by
 have c1:=gk (a:="^") (b:=ky m) (by decide +kernel) (by rw[ju];decide) M;exact j9 (aZ (ao (x:=.str "^") (M1:=M) rfl (vP h _ rfl) c1) (aZ (d:=.int m) (M1:=M) rfl rfl))
theorem IP {F:FD}{a b:GE}{ρ:bc}{M M1 M2:av}{x y:D}{o:aN D}(ha:a ρ M=.ok x M1)(hb:b ρ M1=.ok y M2)(h:F [x,y] M2=o):az F (aa a (aa b ag)) ρ M=o:=by
 unfold az aa ag;rw[ha,ah,hb,ah,ah,ah,ah,h]
theorem nX {ga:GA}{ρ:bc}{M M1:av}{n:Nat}(h:ga ρ M=.ok [.int 1,.int ((n:Int)+1)] M1)(hn:n≤1000):eX ga ρ M=.ok ⟨aM 1 n,none⟩ M1:=by
 unfold eX;rw[h,ah,z0 ⟨by omega,by omega,by omega,by omega⟩];rw[show((n:Int)+1-1).toNat=n by omega]
theorem jU (n:Nat):aM 1 n=(List.range n).map fun i=>D.int ((i+1:Nat):Int):=by
 unfold aM;refine map_congr_left fun i _=>?_
 rw[show(1:Int)+(i:Int)=((i+1:Nat):Int) by omega]
theorem wk {gi:GI}{gc:GT}{ge:GE}{ρ:bc}{ds es:List D}{M M1 M2:av}(hi:gi ρ M=.ok ⟨ds,none⟩ M1)(he:cF ⟨ds,none⟩ gc ge ds ρ M1=.ok es M2)(hl:es.length≤1000000):aX gi gc ge cy ρ M=.ok (.mr M2.length) (M2++[.lst es]):=by
 unfold aX;rw[hi,ah];dsimp only;rw[he,ah];unfold cy;rw[if_pos (aY hl)]
theorem re (l:List (Str×Nat)):(l.map gN).all (bE 29)=true:=by
 rw[all_map];exact all_eq_true.mpr fun p _=>rfl
theorem yu (ho:eG x)(hx:x.cps.size≤5000)(ha:at_<x.cps.size)(hM:M.all bu=true):gj [.str x,.int w,.int at_] M=.ok (.lst ((de x w at_).map gN)) M:=by
 have k1:min 63 (x.cps.size-at_)≤63:=Nat.min_le_left _ _;have k2:=k7 x.cps.toList at_;have k3:=lW w x.cps.toList at_;rw[aR] at k2 k3;have ak:=fun N=>xh (M:=N) hx ha
 have ab:=fun N=>wo (w:=w) (M:=N) ho hx ha
 unfold de;generalize hk:min 63 (x.cps.size-at_)=n1 at *;generalize gq x.cps.toList at_=n2 at *;generalize gF w x.cps.toList at_=n3 at *;have c1:aX (eX (aa (gC (.int 1)) (aa (g2 ax (az oV (aa (gC (.int 63)) (aa (g2 fO (az aO (aa (ae 0) ag)) (ae 2)) ag))) (gC (.int 1))) ag))) bJ fK cy (qE x w at_ none) M=.ok (.mr M.length) (M++[.lst (((List.range n1).map fun i=>(Hc x at_ (i+1),i+1)).map gN)]):=by
  refine wk (nX (n:=n1) (aZ (d:=.int 1) (M1:=M) rfl (aZ (ao (x:=.int n1) (M1:=M) ?_ (y:=.int 1) (M2:=M) rfl rfl) rfl)) (by omega)) ?_ (by simp;omega)
  ·refine IP (x:=.int 63) (M1:=M) rfl (ao (cu (x:=.str x) (M1:=M) rfl (b7 (by omega) M)) (y:=.int at_) (M2:=M) rfl rfl) ?_;show aN.ok (D.int (if(x.cps.size:Int)-at_<63 then(x.cps.size:Int)-at_ else 63)) M=_;rw[show(if(x.cps.size:Int)-at_<63 then(x.cps.size:Int)-at_ else 63)=(n1:Int) by split <;> omega]
  ·rw[jU,map_map];exact gK _ fun i hi=>Kd hx (by have:=mem_range.mp hi;omega)
 have c2:∀(E:List D),aX (eX (aa (gC (.int 1)) (aa (g2 ax (ar 2 eJ (aa (ae 0) (aa (ae 2) ag))) (gC (.int 1))) ag))) bJ fm aJ (qE x w at_ (some (.mr M.length))) (M++[.lst E])=.ok (.lst (((List.range n2).map fun i=>(GR x at_ (i+1),i+1)).map gN)) (M++[.lst E]):=fun E=>by
  refine dS (nX (n:=n2) (aZ (d:=.int 1) (M1:=M++[.lst E]) rfl (aZ (ao (bV (x:=.str x) (M1:=M++[.lst E]) rfl (y:=.int at_) (M2:=M++[.lst E]) rfl (ak _)) (y:=.int 1) (M2:=M++[.lst E]) rfl rfl) rfl)) (by omega)) ?_ (by simp;omega);rw[jU,map_map];exact gK _ fun i hi=>J1 hx ha (by have:=mem_range.mp hi;omega)
 have c3:∀(E:List D),aX (eX (aa (gC (.int 1)) (aa (g2 ax (ar 3 cY (aa (ae 0) (aa (ae 1) (aa (ae 2) ag)))) (gC (.int 1))) ag))) bJ fI aJ (qE x w at_ (some (.mr M.length))) (M++[.lst E])=.ok (.lst (((List.range n3).map fun i=>(E3 (i+1),i+1)).map gN)) (M++[.lst E]):=fun E=>by
  refine dS (nX (n:=n3) (aZ (d:=.int 1) (M1:=M++[.lst E]) rfl (aZ (ao (xC (x:=.str x) (M1:=M++[.lst E]) rfl (y:=.int w) (M2:=M++[.lst E]) rfl (z:=.int at_) (M3:=M++[.lst E]) rfl (ab _)) (y:=.int 1) (M2:=M++[.lst E]) rfl rfl) rfl)) (by omega)) ?_ (by simp;omega);rw[jU,map_map];exact gK _ fun i hi=>Kb (by have:=mem_range.mp hi;omega)
 show dJ M.length (aQ (eV (qE x w at_ none) M))=_;unfold eV;rw[ay (aD c1)];show dJ M.length (aQ (aj _ _ (qE x w at_ (some (.mr M.length))) _))=_;rw[ay (sM (i:=3) rfl (c2 _) (by simp;omega))];show dJ M.length (aQ (aj _ _ (qE x w at_ (some (.mr M.length))) _))=_;rw[ay (sM (i:=3) rfl (c3 _) (by simp;omega))];rw[←map_append,←map_append];exact sH (re _) hM
end
theorem qj {α:Type}{f g:α→D}{b:α→Bool}{n:Nat}{sg:GG}{gc:GT}{ge:GE}{ρ:bc}{M:av}{ds0:List D}:∀l:List α,(∀a∈l,∃ρ1,sg (f a) (List.replicate n none++ρ)=some ρ1∧gc ρ1 M=.ok (b a) M∧(b a=true→ge ρ1 M=.ok (g a) M))→aU ⟨ds0,none⟩ n sg gc ge (l.map f) ρ M=.ok ((l.filter b).map g) M
 | [],_=>rfl
 | a::l,h=>by
  obtain⟨ρ1,h0,h1,h2⟩:=h a mem_cons_self;have ih:=qj (ds0:=ds0) l fun b hb=>h b (mem_cons_of_mem _ hb)
  rw[map_cons,aU,if_pos gx,h0];dsimp only;rw[h1];cases q:b a with
  | true=>
   rw[filter_cons_of_pos q,map_cons];show(match ge ρ1 M with | .ok e M2=>(aU ⟨ds0,none⟩ n sg gc ge (l.map f) ρ M2).bind fun es M3=>.ok (e::es) M3|_=>.bad)=_;rw[h2 q];dsimp only;rw[ih,ah]
  | false=>
   rw[filter_cons_of_neg (by rw[q];exact Bool.false_ne_true)];exact ih
theorem pK {gi:GI}{n:Nat}{sg:GG}{gc:GT}{ge:GE}{ρ:bc}{ds es:List D}{M M1 M2:av}(hi:gi ρ M=.ok ⟨ds,none⟩ M1)(he:aU ⟨ds,none⟩ n sg gc ge ds ρ M1=.ok es M2)(hl:es.length≤1000000):bR gi n sg gc ge aJ ρ M=.ok (.lst es) M2:=by
 unfold bR;rw[hi,ah];dsimp only;rw[he,ah];unfold aJ;rw[if_pos (aY hl)]
theorem kR:∀(l:List Int) (b:Int),∃v,cM (l.map D.int) (.int b)=some (.int v)∧(v=b∨v∈l)∧v≤b∧∀x∈l,v≤x
 | [],b=>⟨b,rfl,.inl rfl,Int.le_refl _,fun _ h=>by cases h⟩
 | a::l,b=>by
  show∃v,(match E6 (.int a) (.int b) with|some true=>cM (l.map D.int) (.int a)|some false=>cM (l.map D.int) (.int b)|none=>none)=some (.int v)∧_;show∃v,(match some (decide (a<b)) with|some true=>cM (l.map D.int) (.int a)|some false=>cM (l.map D.int) (.int b)|none=>none)=some (.int v)∧_
  by_cases h:a<b
  ·obtain⟨v,e,m,h1,h2⟩:=kR l a;rw[decide_eq_true h];refine⟨v,e,.inr ?_,by omega,fun x hx=>?_⟩
   ·rcases m with rfl|m
    ·exact mem_cons_self
    ·exact mem_cons_of_mem _ m
   ·rcases mem_cons.mp hx with rfl|hx
    ·exact h1
    ·exact h2 x hx
  ·obtain⟨v,e,m,h1,h2⟩:=kR l b;rw[decide_eq_false h];refine⟨v,e,?_,h1,fun x hx=>?_⟩
   ·rcases m with m|m
    ·exact .inl m
    ·exact .inr (mem_cons_of_mem _ m)
   ·rcases mem_cons.mp hx with rfl|hx
    ·omega
    ·exact h2 x hx
theorem lz:∀(l:List Str) (b:Str),∃v,cM (l.map D.str) (.str b)=some (.str v)∧(v=b∨v∈l)∧v.cps.toList≤b.cps.toList∧∀x∈l,v.cps.toList≤x.cps.toList
 | [],b=>⟨b,rfl,.inl rfl,List.le_refl _,fun _ h=>by cases h⟩
 | a::l,b=>by
  show∃v,(match some (decide (a.cps.toList<b.cps.toList)) with|some true=>cM (l.map D.str) (.str a)|some false=>cM (l.map D.str) (.str b)|none=>none)=some (.str v)∧_
  by_cases h:a.cps.toList<b.cps.toList
  ·obtain⟨v,e,m,h1,h2⟩:=lz l a;rw[decide_eq_true h];refine⟨v,e,.inr ?_,List.le_trans h1 (List.le_of_lt h),fun x hx=>?_⟩
   ·rcases m with rfl|m
    ·exact mem_cons_self
    ·exact mem_cons_of_mem _ m
   ·rcases mem_cons.mp hx with rfl|hx
    ·exact h1
    ·exact h2 x hx
  ·obtain⟨v,e,m,h1,h2⟩:=lz l b;rw[decide_eq_false h];refine⟨v,e,?_,h1,fun x hx=>?_⟩
   ·rcases m with m|m
    ·exact .inl m
    ·exact .inr (mem_cons_of_mem _ m)
   ·rcases mem_cons.mp hx with rfl|hx
    ·exact List.le_trans h1 (List.not_lt.mp h)
    ·exact h2 x hx
noncomputable def eB (T:List Str)(at_:Nat)(p:Str×Nat):Str:=p.1++T.getD (at_+p.2) ""
noncomputable def DI (a b:Str):Prop:=a.cps.size≤b.cps.size∧(a.cps.size=b.cps.size→a.cps.toList≤b.cps.toList)
section
variable {P:List (Str×Nat)}{T:List Str}{k at_:Nat}{M:av}
noncomputable abbrev uE (P:List (Str×Nat))(k at_:Nat)(d:Option D):bc:=[some (.lst (P.map gN)),some (.mr k),some (.int at_),d]
theorem nT (hm:M[k]?=some (.lst (T.map D.str))){n:Nat}(h:n<T.length):bh (.mr k) (.int n) M=.ok (.str (T.getD n "")) M:=by
 refine rL hm ?_;rw[getElem?_map,getElem?_eq_getElem h,List.getD,getElem?_eq_getElem h];rfl
theorem s0 (p:Str×Nat):(eB T at_ p).cps.size=p.1.cps.size+(T.getD (at_+p.2) "").cps.size:=dO _ _
theorem xa {p:Str×Nat}{d:Option D}(hm:M[k]?=some (.lst (T.map D.str)))(h:at_+p.2<T.length)(h1:p.1.cps.size≤40000)(h2:(T.getD (at_+p.2) "").cps.size≤40000) :
  eM (some (.str p.1)::some (.int p.2)::uE P k at_ d) M=.ok (.int (eB T at_ p).cps.size) M:=by
 refine ao (cu (x:=.str p.1) (M1:=M) rfl (b7 (by omega) M)) (cu (ao (x:=.mr k) (M1:=M) rfl (ao (x:=.int at_) (M1:=M) rfl (y:=.int p.2) (M2:=M) rfl (o:=.ok (.int ((at_+p.2:Nat):Int)) M) rfl) (nT hm h)) (b7 (by omega) M)) ?_;rw[s0];rfl
theorem CS {p:Str×Nat}{d:Option D}(hm:M[k]?=some (.lst (T.map D.str)))(h:at_+p.2<T.length)(h1:p.1.cps.size≤40000)(h2:(T.getD (at_+p.2) "").cps.size≤40000) :
  eI (some (.str p.1)::some (.int p.2)::uE P k at_ d) M=.ok (.str (eB T at_ p)) M:=
 ao (x:=.str p.1) (M1:=M) rfl (ao (x:=.mr k) (M1:=M) rfl (ao (x:=.int at_) (M1:=M) rfl (y:=.int p.2) (M2:=M) rfl (o:=.ok (.int ((at_+p.2:Nat):Int)) M) rfl) (nT hm h)) (gk (Nat.le_trans h1 (by decide)) (Nat.le_trans h2 (by decide)) M)
theorem AC (hm:M[k]?=some (.lst (T.map D.str)))(hP:P≠[])(hPl:P.length≤1000)(h:∀p∈P,at_+p.2<T.length∧p.1.cps.size≤40000∧(T.getD (at_+p.2) "").cps.size≤40000) :
  ∃p∈P,(∀q∈P,DI (eB T at_ p) (eB T at_ q))∧fw [.lst (P.map gN),.mr k,.int at_] M=.ok (.str (eB T at_ p)) M:=by
 have ic:∀d,bF (ae 0) (uE P k at_ d) M=.ok ⟨P.map gN,none⟩ M:=fun d=>rfl
 have c1:bR (bF (ae 0)) 2 (l5 [0,1]) bJ eM aJ (uE P k at_ none) M=.ok (.lst (P.map fun p=>D.int (eB T at_ p).cps.size)) M:=
  pK (ic _) (pr _ fun p hp=>⟨some (.str p.1)::some (.int p.2)::uE P k at_ none,rfl,xa hm (h p hp).1 (h p hp).2.1 (h p hp).2.2⟩) (by simp;omega)
 obtain⟨few,mf,hf⟩:∃few:Int,jc [.lst (P.map fun p=>D.int (eB T at_ p).cps.size)] M=.ok (.int few) M∧(∃p∈P,few=((eB T at_ p).cps.size:Int))∧∀p∈P,few≤((eB T at_ p).cps.size:Int):=by
  cases P with
  | nil=>exact absurd rfl hP
  | cons p0 P=>
   obtain⟨v,e,m,h1,h2⟩:=kR (P.map fun p=>((eB T at_ p).cps.size:Int)) ((eB T at_ p0).cps.size:Int);rw[map_map] at e;refine⟨v,?_,?_,fun p hp=>?_⟩
   ·show(match cM (P.map fun p=>D.int (eB T at_ p).cps.size) (D.int (eB T at_ p0).cps.size) with|some d=>aN.ok d M|none=>.bad)=_;rw[show(P.map fun p=>D.int (eB T at_ p).cps.size)=P.map (D.int ∘ fun p=>((eB T at_ p).cps.size:Int)) from rfl,e]
   ·rcases m with m|m
    ·exact⟨p0,mem_cons_self,m⟩
    ·obtain⟨p,hp,e⟩:=mem_map.mp m;exact⟨p,mem_cons_of_mem _ hp,e.symm⟩
   ·rcases mem_cons.mp hp with rfl|hp
    ·exact h1
    ·exact h2 _ (mem_map.mpr ⟨p,hp,rfl⟩)
 obtain⟨⟨p1,hp1,ep1⟩,hmin⟩:=hf;have tst:∀p∈P,eK (some (.str p.1)::some (.int p.2)::uE P k at_ (some (.int few))) M=.ok (decide (((eB T at_ p).cps.size:Int)=few)) M:=fun p hp=>
  aL (ao (xa hm (h p hp).1 (h p hp).2.1 (h p hp).2.2) (y:=.int few) (M2:=M) rfl (ja _ _ M))
 have c2:bR (bF (ae 0)) 2 (l5 [0,1]) eK eI aJ (uE P k at_ (some (.int few))) M=.ok (.lst ((P.filter fun p=>decide (((eB T at_ p).cps.size:Int)=few)).map fun p=>D.str (eB T at_ p))) M:=
  pK (ic _) (qj P fun p hp=>⟨some (.str p.1)::some (.int p.2)::uE P k at_ (some (.int few)),rfl,tst p hp,fun _=>CS hm (h p hp).1 (h p hp).2.1 (h p hp).2.2⟩) (by rw[length_map];have:=length_filter_le (fun p=>decide (((eB T at_ p).cps.size:Int)=few)) P;omega)
 have memF:∀p,p∈P.filter (fun p=>decide (((eB T at_ p).cps.size:Int)=few))↔p∈P∧((eB T at_ p).cps.size:Int)=few:=fun p=>by rw[mem_filter,decide_eq_true_eq]
 generalize hF:P.filter (fun p=>decide (((eB T at_ p).cps.size:Int)=few))=Fl at *;have hne:Fl≠[]:=fun z=>by
  have:=(memF p1).mpr ⟨hp1,ep1.symm⟩;rw[z] at this;cases this
 obtain⟨p2,hp2,e2,m2⟩:∃p∈Fl,jc [.lst (Fl.map fun p=>D.str (eB T at_ p))] M=.ok (.str (eB T at_ p)) M∧∀q∈Fl,(eB T at_ p).cps.toList≤(eB T at_ q).cps.toList:=by
  cases Fl with
  | nil=>exact absurd rfl hne
  | cons p0 Fl=>
   obtain⟨v,e,m,h1,h2⟩:=lz (Fl.map fun p=>eB T at_ p) (eB T at_ p0);rw[map_map] at e;have ee:jc [.lst ((p0::Fl).map fun p=>D.str (eB T at_ p))] M=.ok (.str v) M:=by
    show(match cM (Fl.map fun p=>D.str (eB T at_ p)) (D.str (eB T at_ p0)) with|some d=>aN.ok d M|none=>.bad)=_;rw[show(Fl.map fun p=>D.str (eB T at_ p))=Fl.map (D.str ∘ fun p=>eB T at_ p) from rfl,e]
   have all:∀q∈p0::Fl,v.cps.toList≤(eB T at_ q).cps.toList:=fun q hq=>by
    rcases mem_cons.mp hq with rfl|hq
    ·exact h1
    ·exact h2 _ (mem_map.mpr ⟨q,hq,rfl⟩)
   rcases m with m|m
   ·subst m;exact⟨p0,mem_cons_self,ee,all⟩
   ·obtain⟨p,hp,e⟩:=mem_map.mp m;subst e;exact⟨p,mem_cons_of_mem _ hp,ee,all⟩
 obtain⟨hpP,epf⟩:=(memF p2).mp hp2;refine⟨p2,hpP,fun q hq=>⟨?_,fun e=>m2 q ((memF q).mpr ⟨hq,by omega⟩)⟩,?_⟩
 ·have:=hmin q hq;omega
 ·show aQ (fE (uE P k at_ none) M)=_;unfold fE;rw[ay (aD (cu c1 mf))];show aQ (a9 _ (uE P k at_ (some (.int few))) M)=_;rw[ii (cu c2 e2)];rfl
end
theorem o4 {c:Nat}:∀{a b A B:List Nat},c∉a→c∉b→a++c::A=b++c::B→a=b∧A=B
 | [],[],A,B,_,_,h=>⟨rfl,(List.cons.inj h).2⟩
 | [],y::b,A,B,_,hb,h=>absurd (by rw[(List.cons.inj h).1];exact mem_cons_self ..) hb
 | x::a,[],A,B,ha,_,h=>absurd (by rw[←(List.cons.inj h).1];exact mem_cons_self ..) ha
 | x::a,y::b,A,B,ha,hb,h=>by
  obtain⟨h1,h2⟩:=List.cons.inj h;obtain⟨h3,h4⟩:=o4 (fun z=>ha (mem_cons_of_mem _ z)) (fun z=>hb (mem_cons_of_mem _ z)) h2;exact⟨by rw[h1,h3],h4⟩
theorem i5 (c:Nat)(p q:Str)(r:List Str):(Str.join ⟨#[c]⟩ (p::q::r)).cps.toList=p.cps.toList++c::(Str.join ⟨#[c]⟩ (q::r)).cps.toList:=by
 show(p++⟨#[c]⟩++Str.join ⟨#[c]⟩ (q::r)).cps.toList=_;simp only[Str.cps_append,Array.toList_append];simp
theorem oX {c:Nat}:∀{ps qs:List Str},ps≠[]→qs≠[]→(∀p∈ps,c∉p.cps.toList)→(∀p∈qs,c∉p.cps.toList)→(Str.join ⟨#[c]⟩ ps).cps.toList=(Str.join ⟨#[c]⟩ qs).cps.toList→ps=qs
 | [],_,h,_,_,_,_=>absurd rfl h
 | _,[],_,h,_,_,_=>absurd rfl h
 | [p],[q],_,_,_,_,h=>by rw[iq (a:=p) (b:=q) h]
 | [p],q::q2::r,_,_,hp,_,h=>by
  rw[i5] at h;have:c∈p.cps.toList:=by
   show c∈(Str.join ⟨#[c]⟩ [p]).cps.toList;rw[h];simp
  exact absurd this (hp p (mem_cons_self ..))
 | p::p2::r,[q],_,_,_,hq,h=>by
  rw[i5] at h;have:c∈q.cps.toList:=by
   show c∈(Str.join ⟨#[c]⟩ [q]).cps.toList;rw[←h];simp
  exact absurd this (hq q (mem_cons_self ..))
 | p::p2::r,q::q2::r2,_,_,hp,hq,h=>by
  rw[i5,i5] at h;obtain⟨h1,h2⟩:=o4 (hp p (mem_cons_self ..)) (hq q (mem_cons_self ..)) h;rw[iq h1,oX (by simp) (by simp) (fun x hx=>hp x (mem_cons_of_mem _ hx)) (fun x hx=>hq x (mem_cons_of_mem _ hx)) h2]
theorem vU (x y:Str):Txt.split x y≠[]:=fun h=>by
 have:=split_pos x y;rw[h] at this;simp at this
theorem qV {c:Nat}{ps:List Str}(hne:ps≠[])(hf:∀p∈ps,c∉p.cps.toList):Txt.split (Str.join ⟨#[c]⟩ ps) ⟨#[c]⟩=ps:=
 oX (vU _ _) hne (StrLaws.split_free _ c) hf (by rw[StrLaws.join_split])
theorem A6:(dq.cps.toList.all fun c=>decide (c<128)&&decide (c≠10))=true:=by decide +kernel
theorem yO {k:Nat}(h:k<64):dq.cps.toList.getD k 0∈dq.cps.toList:=by
 have hl:k<dq.cps.toList.length:=by rw[sJ];exact h
 rw[List.getD,getElem?_eq_getElem hl];exact getElem_mem hl
theorem jQ {k:Nat}(h:k<64):dq.cps.toList.getD k 0<128∧dq.cps.toList.getD k 0≠10:=by
 have:=all_eq_true.mp A6 _ (yO h);rw[Bool.and_eq_true,decide_eq_true_eq,decide_eq_true_eq] at this;exact this
noncomputable def JV (k:Int):Nat:=dq.cps.toList.getD k.toNat 0
theorem jB (ks:List Int):(aV ks).cps.toList=ks.map JV:=by
 unfold aV;rw[i9,map_map]
 induction ks with
 | nil=>rfl
 | cons k ks ih=>rw[map_cons,flatten_cons,ih];rfl
theorem xc {ks:List Int}(h:∀k∈ks,AM k):eG (aV ks):=fun c hc=>by
 rw[jB] at hc;obtain⟨k,hk,rfl⟩:=mem_map.mp hc;have:=(jQ (k:=k.toNat) (by have:=h k hk;unfold AM at this;omega)).1;exact Nat.lt_trans this (by decide)
theorem DC {ks:List Int}(h:∀k∈ks,AM k):10∉(aV ks).cps.toList:=fun hc=>by
 rw[jB] at hc;obtain⟨k,hk,e⟩:=mem_map.mp hc;exact(jQ (k:=k.toNat) (by have:=h k hk;unfold AM at this;omega)).2 e
theorem E4:("\n":Str)=⟨#[10]⟩:=by decide +kernel
theorem Aw (x:Str):decide (Builtin.Str.strKind x<Builtin.Str.strKind ("\n":Str))=false:=by
 have e:Builtin.Str.strKind ("\n":Str)=1:=by decide +kernel
 rw[e];refine decide_eq_false ?_;unfold Builtin.Str.strKind;split
 ·decide
 ·split <;> decide
theorem uq (x:Str):Txt.replace x "\n" ""=Str.join "" (Txt.split x "\n"):=by
 unfold Txt.replace Txt.split;have k:=Aw x;have l1:("\n":Str).length=1:=by decide +kernel
 have l0:("":Str).length=0:=by decide +kernel
 rw[k,Bool.or_false]
 by_cases h0:x.length<1
 ·have hx:x=⟨#[]⟩:=iq (length_eq_zero_iff.mp (by rw[aR];show x.length=0;omega));subst hx;decide +kernel
 ·have e1:decide (x.length<("\n":Str).length)=false:=decide_eq_false (by rw[l1];exact h0);have e2:(("\n":Str).length==0&&("":Str).length==0)=false:=by rw[l1];rfl
  rw[e1,e2,Bool.or_false];cases q:(Builtin.Str.occurrences x "\n" 0 x.length (x.length+1)).isEmpty with
  | true=>rfl
  | false=>simp only[Bool.false_eq_true,if_false];exact oK "" _
theorem ww {ps:List Str}(h0:ps≠[])(h:∀p∈ps,10∉p.cps.toList):Txt.replace (Txt.join "\n" ps) "\n" ""=Txt.join "" ps:=by
 rw[uq,oK,oK,E4,qV h0 h]
noncomputable def en (rs:List (List Int)):Str:=aV rs.flatten
theorem vZ {rs:List (List Int)}(h0:rs≠[])(h:∀r∈rs,∀k∈r,AM k):Txt.replace (fJ rs) "\n" ""=en rs:=by
 unfold fJ;rw[ww (fun z=>h0 (map_eq_nil_iff.mp z)) fun p hp=>by obtain⟨r,hr,rfl⟩:=mem_map.mp hp;exact DC (h r hr)];refine iq ?_;unfold en;rw[i9,jB,map_map,map_flatten];congr 1;exact map_congr_left fun r _=>jB r
theorem Dr {go gi g:GE}{ρ:bc}{M:av}{k i:Nat}{xs:List D}{x:D}(hg:g ρ M=.ok x M)(ho:go ρ M=.ok (.mr k) M)(hi:gi ρ M=.ok (.int i) M)(hk:M[k]?=some (.lst xs))(hl:i<xs.length):fX go gi g ρ M=.ok (.nx ρ) (M.set k (.lst (xs.set i x))):=by
 unfold fX;rw[hg,ah,ho,ah,hi,ah];unfold qA;dsimp only;rw[hk];dsimp only;rw[kH hl];rfl
noncomputable def DH (x:Str)(w:Nat)(T:List Str)(i:Nat):Prop:=∃p∈de x w i,T.getD i ""=eB T i p∧∀q∈de x w i,DI (eB T i p) (eB T i q)
structure hG (x:Str)(w:Nat)(T:List Str)(j:Nat):Prop where
 len:T.length=x.cps.size+1
 last:T.getD x.cps.size ""=""
 best:∀i,j≤i→i<x.cps.size→DH x w T i
 size:∀i,j≤i→i≤x.cps.size→(T.getD i "").cps.size≤3*(x.cps.size-i)
 ok:∀i,j≤i→i≤x.cps.size→eG (T.getD i "")
theorem nA {x:Str}{w at_:Nat}{p:Str×Nat}(ho:eG x)(ha:at_<x.cps.size)(hp:p∈de x w at_):1≤p.2∧p.2≤63∧at_+p.2≤x.cps.size∧p.1.cps.size≤2+p.2∧eG p.1:=by
 have k2:=k7 x.cps.toList at_;have k3:=lW w x.cps.toList at_;rw[aR] at k2 k3;have okm:∀(c:Str) (m:Nat),eG c→m<64→eG (c++ky m):=fun c m hc hm d hd=>by
  rw[Str.cps_append,Array.toList_append,mem_append] at hd;rcases hd with hd|hd
  ·exact hc d hd
  ·have hd:d∈[dq.cps.toList.getD (m:Int).toNat 0]:=hd;rw[mem_singleton.mp hd,Int.toNat_natCast];exact Nat.lt_trans (jQ hm).1 (by decide)
 have oka:∀a b:Str,eG a→eG b→eG (a++b):=fun a b h1 h2 d hd=>by
  rw[Str.cps_append,Array.toList_append,mem_append] at hd;rcases hd with hd|hd
  ·exact h1 d hd
  ·exact h2 d hd
 unfold de at hp;rw[mem_append,mem_append,mem_map,mem_map,mem_map] at hp;rcases hp with(⟨i,hi,rfl⟩|⟨i,hi,rfl⟩)|⟨i,hi,rfl⟩
 ·have hi:=mem_range.mp hi;refine⟨by show 1≤i+1;omega,by show i+1≤63;omega,by show at_+(i+1)≤_;omega,?_,?_⟩
  ·show(Hc x at_ (i+1)).cps.size≤2+(i+1);unfold Hc;rw[dO,dO];have:=nK (x:=x) (i:=at_) (j:=at_+(i+1)) (by omega);rw[show((at_:Int)+((i+1:Nat):Int))=((at_+(i+1):Nat):Int) by omega,this];have e1:("!":Str).cps.size=1:=by decide +kernel
   have e2:(ky ((i+1:Nat):Int)).cps.size=1:=rfl;rw[e1,e2,size_toArray,length_take];omega
  ·exact oka _ _ (okm _ _ (lG (by decide +kernel)) (by omega)) (jC ho)
 ·have hi:=mem_range.mp hi;refine⟨by show 1≤i+1;omega,by show i+1≤63;omega,by show at_+(i+1)≤_;omega,?_,?_⟩
  ·show(GR x at_ (i+1)).cps.size≤2+(i+1);unfold GR;rw[dO,dO];have e1:("*":Str).cps.size=1:=by decide +kernel
   have e2:(ky ((i+1:Nat):Int)).cps.size=1:=rfl;have e3:(Hy x at_).cps.size=1:=rfl;rw[e1,e2,e3];omega
  ·exact oka _ _ (okm _ _ (lG (by decide +kernel)) (by omega)) (ft (nq ho ha))
 ·have hi:=mem_range.mp hi;refine⟨by show 1≤i+1;omega,by show i+1≤63;omega,by show at_+(i+1)≤_;omega,?_,?_⟩
  ·show(E3 (i+1)).cps.size≤2+(i+1);unfold E3;rw[dO];have e1:("^":Str).cps.size=1:=by decide +kernel
   have e2:(ky ((i+1:Nat):Int)).cps.size=1:=rfl;rw[e1,e2];omega
  ·exact okm _ _ (lG (by decide +kernel)) (by omega)
theorem xQ {x:Str}{w at_:Nat}(ha:at_<x.cps.size):de x w at_≠[]:=fun z=>by
 unfold de at z;rw[append_assoc,append_eq_nil_iff,map_eq_nil_iff] at z;have:=congrArg List.length z.1;rw[length_range] at this;simp at this;omega
theorem vg {x:Str}{w at_:Nat}:(de x w at_).length≤189:=by
 have k2:=k7 x.cps.toList at_;have k3:=lW w x.cps.toList at_;unfold de;simp only[length_append,length_map,length_range];omega
theorem pj {T:List Str}{j i:Nat}{y:Str}:(T.set j y).getD i ""=if i=j∧j<T.length then y else T.getD i "":=by
 rw[List.getD,List.getD,getElem?_set]
 by_cases h:j=i
 ·subst h
  by_cases h2:j<T.length
  ·simp[h2]
  ·simp[h2]
 ·have h':¬i=j:=fun z=>h z.symm
  simp[h,h']
theorem v8 {x:Str}{w j:Nat}{T:List Str}{p:Str×Nat}(ho:eG x)(hj:j<x.cps.size)(h:hG x w T (j+1))(hp:p∈de x w j)(hb:∀q∈de x w j,DI (eB T j p) (eB T j q)):hG x w (T.set j (eB T j p)) j:=by
 have hl:=h.len;have gt:∀i,j<i→(T.set j (eB T j p)).getD i ""=T.getD i "":=fun i hi=>by rw[pj,if_neg (by omega)]
 have ge:(T.set j (eB T j p)).getD j ""=eB T j p:=by rw[pj,if_pos ⟨rfl,by omega⟩]
 have tt:∀i (q:Str×Nat),j≤i→i<x.cps.size→q∈de x w i→eB (T.set j (eB T j p)) i q=eB T i q:=fun i q h1 h2 hq=>by
  have:=(nA ho h2 hq).1;show q.1++(T.set j (eB T j p)).getD (i+q.2) ""=q.1++T.getD (i+q.2) "";rw[gt _ (by omega)]
 obtain⟨p1,p2,p3,p4,p5⟩:=nA ho hj hp;refine⟨by rw[length_set,hl],by rw[gt _ hj];exact h.last,fun i h1 h2=>?_,fun i h1 h2=>?_,fun i h1 h2=>?_⟩
 ·by_cases hij:i=j
  ·subst hij;exact⟨p,hp,by rw[ge,tt _ _ (Nat.le_refl _) h2 hp],fun q hq=>by rw[tt _ _ (Nat.le_refl _) h2 hp,tt _ _ (Nat.le_refl _) h2 hq];exact hb q hq⟩
  ·obtain⟨r,hr,e,hs⟩:=h.best i (by omega) h2;exact⟨r,hr,by rw[gt _ (by omega),tt _ _ h1 h2 hr];exact e,fun q hq=>by rw[tt _ _ h1 h2 hr,tt _ _ h1 h2 hq];exact hs q hq⟩
 ·by_cases hij:i=j
  ·subst hij;have:=h.size (i+p.2) (by omega) p3;rw[ge,s0];omega
  ·rw[gt _ (by omega)];exact h.size i (by omega) h2
 ·by_cases hij:i=j
  ·subst hij;rw[ge];intro d hd;unfold eB at hd;rw[Str.cps_append,Array.toList_append,mem_append] at hd;rcases hd with hd|hd
   ·exact p5 d hd
   ·exact h.ok (i+p.2) (by omega) p3 d hd
  ·rw[gt _ (by omega)];exact h.ok i (by omega) h2
noncomputable def lT:Nat→List D
 | 0=>[]
 | j+1=>.int (j:Nat)::lT j
theorem tx:∀n:Nat,lg ((n:Int)-1) (-1) n=lT n
 | 0=>rfl
 | n+1=>by
  show(List.range (n+1)).map (fun(i:Nat)=>D.int ((((n+1:Nat):Int)-1)+(i:Int)*(-1)))=.int (n:Nat)::lT n;rw[←tx n,range_succ_eq_map,map_cons,map_map];have e0:(((n+1:Nat):Int)-1)+((0:Nat):Int)*(-1)=(n:Int):=by omega
  rw[e0];congr 1;refine map_congr_left fun i _=>?_
  show D.int ((((n+1:Nat):Int)-1)+((i+1:Nat):Int)*(-1))=D.int (((n:Int)-1)+(i:Int)*(-1));congr 1;omega
section
variable {x:Str}{w:Nat}{M:av}{a0:Option D}
noncomputable abbrev vE (a0:Option D)(w:Nat)(x:Str)(k:Nat)(d:Option D):bc:=[a0,some (.int w),some (.str x),some (.mr k),d]
theorem mT (T:List Str):bu (.lst (T.map D.str))=true:=by
 show(T.map D.str).all (bE 30)=true;rw[all_map];exact all_eq_true.mpr fun _ _=>rfl
theorem AI {T:List Str}{j:Nat}(ho:eG x)(hx:x.cps.size≤5000)(hj:j<x.cps.size)(hM:M.all bu=true)(h:hG x w T (j+1)) :
  ∃T',hG x w T' j∧eP (vE a0 w x M.length (some (.int j))) (M++[MO.lst (T.map D.str)])=.ok (.nx (vE a0 w x M.length (some (.int j)))) (M++[MO.lst (T'.map D.str)]):=by
 have hN:(M++[MO.lst (T.map D.str)]).all bu=true:=by rw[all_append,hM,all_cons,mT];rfl
 have hm:=iE M (T.map D.str);have hs:∀T':List Str,(M++[MO.lst (T.map D.str)]).set M.length (.lst (T'.map D.str))=M++[MO.lst (T'.map D.str)]:=fun T'=>gX M _ _
 generalize M++[MO.lst (T.map D.str)]=N at *;have pk:=yu (w:=w) ho hx hj hN;obtain⟨p,hp,hb,e⟩:=AC (P:=de x w j) (at_:=j) hm (xQ hj) (Nat.le_trans vg (by decide)) fun p hp=>by
  obtain⟨p1,p2,p3,p4,_⟩:=nA ho hj hp;have:=h.size (j+p.2) (by omega) p3;have:=h.len;exact⟨by omega,by omega,by omega⟩
 refine⟨_,v8 ho hj h hp hb,?_⟩;generalize (de x w j).map gN=PD at *;have g:ar 3 fw (aa (ar 3 gj (aa (ae 2) (aa (ae 1) (aa (ae 4) ag)))) (aa (ae 3) (aa (ae 4) ag))) (vE a0 w x M.length (some (.int j))) N=.ok (.str (eB T j p)) N:=
  xC (xC (x:=.str x) (M1:=N) rfl (y:=.int w) (M2:=N) rfl (z:=.int j) (M3:=N) rfl pk) (y:=.mr M.length) (M2:=N) rfl (z:=.int j) (M3:=N) rfl e
 have s:=Dr (go:=ae 3) (gi:=ae 4) (i:=j) g rfl rfl hm (by rw[length_map,h.len];omega);rw[←map_set,hs] at s;exact s
theorem sW {ds0:List D}(ho:eG x)(hx:x.cps.size≤5000)(hM:M.all bu=true):∀(j:Nat) (T:List Str) (d:Option D),j≤x.cps.size→hG x w T j→
  ∃T' d',hG x w T' 0∧cH ⟨ds0,none⟩ (cT 4) eP (lT j) (vE a0 w x M.length d) (M++[MO.lst (T.map D.str)])=.ok (.nx (vE a0 w x M.length d')) (M++[MO.lst (T'.map D.str)])
 | 0,T,d,_,h=>⟨T,d,h,rfl⟩
 | j+1,T,d,hj,h=>by
  obtain⟨T1,h1,e1⟩:=AI (a0:=a0) ho hx (show j<x.cps.size by omega) hM h;obtain⟨T2,d2,h2,e2⟩:=sW (ds0:=ds0) ho hx hM j T1 (some (.int j)) (by omega) h1;refine⟨T2,d2,h2,?_⟩;show cH ⟨ds0,none⟩ (cT 4) eP (.int (j:Nat)::lT j) _ _=_;rw[cH,if_pos gx];show(eP (vE a0 w x M.length (some (.int j))) _).bind _=_;rw[e1,ah];exact e2
end
theorem kT {w:Nat}:∀{rs:List (List Int)},jv w rs→rs.flatten.length=w*rs.length
 | [],_=>by simp
 | r::rs,h=>by
  rw[flatten_cons,length_append,kT (rs:=rs) fun y hy=>h y (mem_cons_of_mem _ hy),(h r mem_cons_self).1,length_cons,Nat.mul_succ];omega
theorem xi {w:Nat}{rs:List (List Int)}(h:jv w rs):∀k∈rs.flatten,AM k:=fun k hk=>by
 obtain⟨r,hr,hk⟩:=mem_flatten.mp hk;exact(h r hr).2 k hk
theorem gW (ks:List Int):(aV ks).cps.size=ks.length:=by rw[←aR,jB,length_map]
theorem yw {rs:List (List Int)}{w:Nat}(h:jv w rs)(hw:w≤40)(hl:rs.length≤40):(fJ rs).length≤100000:=by
 unfold fJ;rw[oK];have h1:=StrLaws.join_length_le "\n" (rs.map aV);have h2:((rs.map aV).map (·.length)).sum≤(rs.map aV).length*40:=StrLaws.sumLen_le _ fun y hy=>by
  obtain⟨r,hr,rfl⟩:=mem_map.mp hy;show(aV r).cps.size≤40;rw[gW,(h r hr).1];exact hw
 have l1:("\n":Str).length=1:=by decide +kernel
 rw[l1,length_map] at h1;rw[length_map] at h2;omega
theorem Aj (n:Nat):(List.replicate n [D.str ""]).flatten=(List.replicate n ("":Str)).map D.str:=by
 induction n with
 | zero=>rfl
 | succ n ih=>rw[replicate_succ,flatten_cons,ih];rfl
theorem uA (x:Str)(w:Nat):hG x w (List.replicate (x.cps.size+1) "") x.cps.size:=by
 have g:∀i,(List.replicate (x.cps.size+1) ("":Str)).getD i ""="":=fun i=>by
  rw[List.getD,getElem?_replicate];split <;> rfl
 have z:("":Str).cps.size=0:=by decide +kernel
 refine⟨length_replicate,g _,fun i h1 h2=>absurd h1 (by omega),fun i h1 h2=>?_,fun i h1 h2=>?_⟩
 ·rw[g,z];exact Nat.zero_le _
 ·rw[g];exact wH
theorem uZ {rs:List (List Int)}{w:Nat}{M:av}(hrs:jv w rs)(h0:rs≠[])(hw:w≤40)(hl:rs.length≤40)(hM:M.all bu=true) :
  ∃T,hG (en rs) w T 0∧jg [.lst (aA rs)] M=.ok (.str (aV [(w:Int),(rs.length:Int)]++T.getD 0 "")) M:=by
 have hx0:(en rs).cps.size=w*rs.length:=by unfold en;rw[gW,kT hrs]
 have hx:(en rs).cps.size≤1600:=by rw[hx0];exact Nat.mul_le_mul hw hl
 have ho:eG (en rs):=xc (xi hrs);obtain⟨T,d',hT,lp⟩:=sW (w:=w) (M:=M) (a0:=some (.lst (aA rs))) (ds0:=lT (en rs).cps.size) ho (by omega) hM (en rs).cps.size _ none (Nat.le_refl _) (uA (en rs) w);refine⟨T,hT,?_⟩;have ts:=hT.size 0 (Nat.le_refl _) (Nat.zero_le _);have tl:=hT.len;have lr:(aA rs).length=rs.length:=length_map ..;have q1:az aO (aa (g2 bh (ae 0) (gC (.int 0))) ag) [some (.lst (aA rs)),none,none,none,none] M=.ok (.int w) M:=by
  cases rs with
  | nil=>exact absurd rfl h0
  | cons r rs=>
   refine cu (ao (x:=.lst (aA (r::rs))) (M1:=M) rfl (y:=.int 0) (M2:=M) rfl (o:=.ok (.lst (r.map D.int)) M) (gZ (xs:=aA (r::rs)) (k:=0) rfl)) ?_;show aN.ok (D.int ((r.map D.int).length:Int)) M=_;rw[length_map,(hrs r mem_cons_self).1]
 have q2:∀(a b c:Option D),vS "\n" "" (ar 1 cJ (aa (ae 0) ag)) [some (.lst (aA rs)),some (.int w),a,b,c] M=.ok (.str (en rs)) M:=fun a b c=>by
  unfold vS;rw[fz (x:=.lst (aA rs)) (M1:=M) rfl (qO (fun r hr=>⟨by rw[(hrs r hr).1];exact hw,(hrs r hr).2⟩) hl),ah];show(if(fJ rs).length≤100000 then aN.ok (D.str (Txt.replace (fJ rs) "\n" "")) M else .bad)=_;rw[if_pos (yw hrs hw hl),vZ h0 fun r hr=>(hrs r hr).2]
 have q5:∀(N:av) (k:Nat) (d:Option D),ar 1 df (aa (cA (aa (ae 1) (aa (az aO (aa (ae 0) ag)) ag))) ag) (vE (some (.lst (aA rs))) w (en rs) k d) N=.ok (.str (aV [(w:Int),(rs.length:Int)])) N:=fun N k d=>by
  refine fz (fb (aZ (d:=.int w) (M1:=N) rfl (aZ (d:=.int rs.length) (M1:=N) (cu (x:=.lst (aA rs)) (M1:=N) rfl ?_) rfl))) (nb (ks:=[(w:Int),(rs.length:Int)]) (fun k hk=>?_) (show 2≤1000 by decide))
  ·show aN.ok (D.int ((aA rs).length:Int)) N=_;rw[lr]
  ·rcases mem_cons.mp hk with rfl|hk
   ·exact⟨by omega,by omega⟩
   ·rw[mem_singleton.mp hk];exact⟨by omega,by omega⟩
 have t0:∀N:av,N[M.length]?=some (.lst (T.map D.str))→bh (.mr M.length) (.int 0) N=.ok (.str (T.getD 0 "")) N:=fun N hN=>nT (n:=0) hN (by omega)
 generalize en rs=x at *;generalize hn:x.cps.size=n at *;have q3:g2 wQ (cA (aa (gC (.str "")) ag)) (g2 ax (az aO (aa (ae 2) ag)) (gC (.int 1))) [some (.lst (aA rs)),some (.int w),some (.str x),none,none] M=.ok (.mr M.length) (M++[MO.lst ((List.replicate (n+1) ("":Str)).map D.str)]):=by
  refine ao (fb (ds:=[.str ""]) rfl) (ao (cu (x:=.str x) (M1:=M) rfl (b7 (by omega) M)) (y:=.int 1) (M2:=M) rfl rfl) ?_;show(if 0≤((x.cps.size:Int)+1)∧((x.cps.size:Int)+1)≤100000∧[D.str ""].length*((x.cps.size:Int)+1).toNat≤100000 then aN.ok (D.mr M.length) (M++[MO.lst (List.replicate ((x.cps.size:Int)+1).toNat [D.str ""]).flatten]) else .bad)=_;rw[hn,show((n:Int)+1).toNat=n+1 by omega,if_pos ⟨by omega,by omega,by rw[length_singleton];omega⟩,Aj]
 have q4:∀N:av,pp (aa (az aO (aa (ae 2) ag)) ag) (vE (some (.lst (aA rs))) w x M.length none) N=.ok ⟨lT n,none⟩ N:=fun N=>by
  unfold pp;rw[aZ (cu (x:=.str x) (M1:=N) rfl (b7 (by omega) N)) (ds:=[]) (M2:=N) rfl,ah];show(if 0≤(x.cps.size:Int)∧(x.cps.size:Int)≤100000 then aN.ok (⟨lg ((x.cps.size:Int)-1) (-1) (x.cps.size:Int).toNat,none⟩:mj) N else .bad)=_;rw[hn,if_pos ⟨by omega,by omega⟩,Int.toNat_natCast,tx]
 have q:fW [some (.lst (aA rs)),none,none,none,none] M=.ok (.rt (.str (aV [(w:Int),(rs.length:Int)]++T.getD 0 ""))) (M++[MO.lst (T.map D.str)]):=by
  unfold fW;rw[ay (aD q1)];show aj _ _ [some (.lst (aA rs)),some (.int w),none,none,none] M=_;rw[ay (aD (q2 _ _ _))];show aj _ _ [some (.lst (aA rs)),some (.int w),some (.str x),none,none] M=_;rw[ay (aD q3)];show aj _ _ (vE (some (.lst (aA rs))) w x M.length none) _=_;rw[ay (iJ (q4 _) lp)];have hm:=iE M (T.map D.str);generalize M++[MO.lst (T.map D.str)]=N at *;refine ii (ao (q5 N M.length d') (ao (x:=.mr M.length) (M1:=N) rfl (y:=.int 0) (M2:=N) rfl (t0 N hm)) (gk ?_ ?_ N))
  ·show(aV [(w:Int),(rs.length:Int)]).cps.size≤90000;rw[gW];exact(show 2≤90000 by decide)
  ·show(T.getD 0 "").cps.size≤90000;omega
 show dJ M.length (aQ (fW [some (.lst (aA rs)),none,none,none,none] M))=_;rw[q];exact dj (d:=.str _) (E:=[MO.lst (T.map D.str)]) rfl hM
theorem l7 (c:Nat):am c=-1∨0≤am c∧am c<64:=by
 unfold am;rcases StrLaws.occ_head dq ⟨#[c]⟩ 1 (Nat.le_refl _) with⟨h,_⟩|⟨i,r,h,ha,_⟩
 ·exact .inl (jk h)
 ·right;rw[im h];have h1:=ha.1;have l1:(⟨#[c]⟩:Str).length=1:=rfl;have l2:dq.length=64:=by decide +kernel
  rw[l1,l2] at h1;omega
noncomputable def gG (t:List Nat):Bool:=t.all fun c=>am c != -1
theorem z9 (x:Str):((bz x).any (·==-1))=!gG x.cps.toList:=by
 unfold bz gG;rw[any_map]
 induction x.cps.toList with
 | nil=>rfl
 | cons c t ih=>
  rw[any_cons,all_cons,Bool.not_and,ih];show((am c==-1)||_)=((!(am c != -1))||_);rw[show(am c != -1)=!(am c==-1) from rfl,Bool.not_not]
noncomputable def fB (t:List Nat):D:=.lst ((t.map am).map D.int)
theorem Bj {x:Str}{M:av}(hx:x.cps.size≤100000):ba [.str x] M=if gG x.cps.toList then .ok (fB x.cps.toList) M else .err "NoText" M:=by
 rw[yz hx,z9];cases gG x.cps.toList with
 | true=>rfl
 | false=>rfl
theorem xp {xs:List D}{m:Nat}{M:av}:ck [.lst xs,.int m] M=if xs.length=m then .ok (.lst xs) M else .err "NoText" M:=by
 have t:(aw (g2 (aK true) (az aO (aa (ae 0) ag)) (ae 1))) [some (.lst xs),some (.int m)] M=.ok (!decide ((xs.length:Int)=m)) M:=aL (ao (cu (x:=.lst xs) (M1:=M) rfl rfl) (y:=.int m) (M2:=M) rfl (qw _ _ M));show aQ (iw [some (.lst xs),some (.int m)] M)=_;unfold iw
 by_cases h:xs.length=m
 ·rw[ay (ρ1:=[some (.lst xs),some (.int m)]) (M1:=M) ((dY (t.trans (by rw[decide_eq_true (show(xs.length:Int)=m by omega)];rfl))).trans rfl),if_pos h];rfl
 ·rw[fv (c:="NoText") (M1:=M) ((dE (t.trans (by rw[decide_eq_false (show¬(xs.length:Int)=m by omega)];rfl))).trans rfl),if_neg h];rfl
theorem yP {n:Nat}{F:FD}{a:GE}{r:GA}{ρ:bc}{M M1:av}{c:Str}(h:a ρ M=.err c M1):ar n F (aa a r) ρ M=.err c M1:=by
 unfold ar;have e:aa a r ρ M=.err c M1:=by
  unfold aa;rw[h];rfl
 rw[e];rfl
theorem yb {x:Str}{m:Nat}{M:av}{ρ:bc}{g gm:GE}(hx:x.cps.size≤100000)(h1:g ρ M=.ok (.str x) M)(h2:gm ρ M=.ok (.int m) M) :
  ar 2 ck (aa (ar 1 ba (aa g ag)) (aa gm ag)) ρ M=if gG x.cps.toList∧x.cps.size=m then .ok (fB x.cps.toList) M else .err "NoText" M:=by
 have r:=Bj (M:=M) hx;cases q:gG x.cps.toList with
 | true=>
  rw[q,if_pos rfl] at r;refine(bV (fz h1 r) h2 (o:=if x.cps.size=m then .ok (fB x.cps.toList) M else .err "NoText" M) ?_).trans ?_
  ·unfold fB;rw[xp,length_map,length_map,aR]
  ·simp
 | false=>
  rw[q,if_neg Bool.false_ne_true] at r;have c:=fz h1 r;rw[if_neg (fun z=>by cases z.1)];exact yP c
noncomputable def jI (t:List Nat):Option Nat:=if gG t∧t.length=1∧am (t.getD 0 0)≠0 then some (am (t.getD 0 0)).toNat else none
theorem rg {t:List Nat}{m:Nat}(h:jI t=some m):1≤m∧m<64∧gG t=true∧t.length=1∧am (t.getD 0 0)=m:=by
 unfold jI at h;split at h
 ·rename_i hc;cases h
  match t,hc with
  | [c],hc=>
   have:=l7 c;have h2:(am c != -1)=true:=by have:=hc.1;unfold gG at this;simpa using this
   have h3:am c≠-1:=by simpa using h2
   have h4:am c≠0:=hc.2.2;refine⟨?_,?_,hc.1,rfl,?_⟩
   ·show 1≤(am c).toNat;omega
   ·show(am c).toNat<64;omega
   ·show am c=((am c).toNat:Int);omega
 ·cases h
theorem qi {z:Str}{M:av}(hz:z.cps.size≤100000):eC [.str z] M=match jI z.cps.toList with|some m=>.ok (.int (m:Nat)) M|none=>.err "NoText" M:=by
 have r:=yb (M:=M) (m:=1) (ρ:=[some (.str z),none]) (g:=ae 0) (gm:=gC (.int 1)) hz rfl rfl;show aQ (eN [some (.str z),none] M)=_;unfold eN jI
 by_cases h:gG z.cps.toList=true∧z.cps.size=1
 ·rw[if_pos h] at r;have h2:z.cps.toList.length=1:=by rw[aR];exact h.2
  generalize z.cps.toList=t at *
  match t,h2 with
  | [c],_=>
   have ix:bh (fB [c]) (.int 0) M=.ok (.int (am c)) M:=gZ (xs:=[.int (am c)]) (k:=0) rfl;rw[ay (aD (ao r (y:=.int 0) (M2:=M) rfl ix))];show aQ (aj _ _ [some (.str z),some (.int (am c))] M)=_;have tt:(aw (g2 (aK false) (ae 1) (gC (.int 0)))) [some (.str z),some (.int (am c))] M=.ok (decide (am c=0)) M:=aL (ao (x:=.int (am c)) (M1:=M) rfl (y:=.int 0) (M2:=M) rfl (ja _ _ M))
   by_cases hc:am c=0
   ·rw[fv (c:="NoText") (M1:=M) ((dE (tt.trans (by rw[decide_eq_true hc]))).trans rfl),if_neg (fun z=>z.2.2 hc)];rfl
   ·have f:=l7 c;have h3:am c≠-1:=by have:=h.1;unfold gG at this;simpa using this
    rw[ay (ρ1:=[some (.str z),some (.int (am c))]) (M1:=M) ((dY (tt.trans (by rw[decide_eq_false hc]))).trans rfl),if_pos ⟨h.1,rfl,hc⟩];show aN.ok (D.int (am c)) M=.ok (.int (((am c).toNat:Nat):Int)) M;rw[show(((am c).toNat:Nat):Int)=am c by omega]
 ·rw[if_neg h] at r;have e:g2 bh (ar 2 ck (aa (ar 1 ba (aa (ae 0) ag)) (aa (gC (.int 1)) ag))) (gC (.int 0)) [some (.str z),none] M=.err "NoText" M:=by
   unfold DL.g2;rw[r];rfl
  have e2:au 1 (g2 bh (ar 2 ck (aa (ar 1 ba (aa (ae 0) ag)) (aa (gC (.int 1)) ag))) (gC (.int 0))) [some (.str z),none] M=.err "NoText" M:=by
   unfold au;rw[e];rfl
  rw[fv e2,if_neg (fun q=>h ⟨q.1,by rw[←aR];exact q.2.1⟩)];rfl
noncomputable def yU (w:Nat):Nat→List Int→List Int
 | 0,hs=>hs
 | m+1,hs=>yU w m (hs++[hs.getD (hs.length-w) 0])
noncomputable def eo (x:Str)(w at_:Nat)(hs:List Int):Option (Nat×List Int):=
 match jI ((x.cps.toList.drop (at_+1)).take 1) with
 | none=>none
 | some m=>
  if x.cps.toList.getD at_ 0=33 then(if gG ((x.cps.toList.drop (at_+2)).take m)∧((x.cps.toList.drop (at_+2)).take m).length=m then some (at_+2+m,hs++((x.cps.toList.drop (at_+2)).take m).map am) else none)
  else if x.cps.toList.getD at_ 0=42 then(if gG ((x.cps.toList.drop (at_+2)).take 1)∧((x.cps.toList.drop (at_+2)).take 1).length=1 then some (at_+3,hs++List.replicate m (am (((x.cps.toList.drop (at_+2)).take 1).getD 0 0))) else none)
  else if x.cps.toList.getD at_ 0=94∧w≤hs.length then some (at_+2,yU w m hs) else none
theorem oi (w:Nat):∀(m:Nat) (hs:List Int),(yU w m hs).length=hs.length+m
 | 0,hs=>rfl
 | m+1,hs=>by
  show(yU w m (hs++[hs.getD (hs.length-w) 0])).length=_;rw[oi w m,length_append,length_singleton];omega
theorem xY {F:List D→List D→Option (D×List D)}{go:GE}{ga:GA}{ρ:bc}{M M1:av}{k:Nat}{xs:List D}{c:Str}(h1:go ρ M=.ok (.mr k) M)(h2:oT M k=some xs)(h3:ga ρ M=.err c M1):kz F go ga ρ M=.err c M1:=by
 unfold kz;rw[h1,ah];dsimp only;rw[h2];dsimp only;rw[h3];rfl
theorem tK {g:GE}{r:GA}{ρ:bc}{M M1:av}{c:Str}(h:g ρ M=.err c M1):aa g r ρ M=.err c M1:=by
 unfold aa;rw[h];rfl
theorem tF {g:GE}{ρ:bc}{M M1:av}{c:Str}(h:g ρ M=.err c M1):cf g ρ M=.err c M1:=by
 unfold cf;rw[h];rfl
theorem rj {i:Nat}{g:GE}{ρ:bc}{M M1:av}{c:Str}(h:g ρ M=.err c M1):au i g ρ M=.err c M1:=by
 unfold au;rw[h];rfl
theorem Dc {f:F2}{a b:GE}{ρ:bc}{M M1:av}{c:Str}(h:a ρ M=.err c M1):g2 f a b ρ M=.err c M1:=by
 unfold DL.g2;rw[h];rfl
theorem xS {xs ys:List D}(h:xs.length+ys.length≤1000000):j7 xs [.lst ys]=some (.non,xs++ys):=by
 show(if xs.length+ys.length≤sizeLine then some (D.non,xs++ys) else none)=_;rw[if_pos (aY h)]
theorem tj {M:av}{k:Nat}{xs:List D}(h:M[k]?=some (.lst xs)):oT M k=some xs:=by simp[oT,h]
theorem BP {xs:List D}{w:Nat}{d:D}{M:av}{k:Nat}(hm:M[k]?=some (.lst xs))(h1:1≤w)(h2:w≤xs.length)(h:xs[xs.length-w]?=some d):bh (.mr k) (.int (-(w:Int))) M=.ok d M:=by
 have a:k9 xs (-(w:Int))=some d:=by
  unfold k9 oJ;rw[if_neg (by omega),if_pos (by omega)];show xs[(-(w:Int)+(xs.length:Int)).toNat]?=some d;rw[show(-(w:Int)+(xs.length:Int)).toNat=xs.length-w by omega];exact h
 show qf (.mr k) (.int (-(w:Int))) M=_;unfold qf;rw[lS hm];dsimp only;rw[a]
section
variable {x:Str}{w at_ k:Nat}{M:av}{hs:List Int}
noncomputable abbrev rE (x:Str)(w at_ k:Nat)(a b c d:Option D):bc:=[some (.str x),some (.int at_),some (.int w),some (.mr k),a,b,c,d]
theorem xH {ds0:List D}{a b c:Option D}(h1:1≤w):∀(ds:List D) (hs:List Int) (d:Option D) (M:av),w≤hs.length→hs.length+ds.length≤900000→M[k]?=some (.lst (hs.map D.int))→
  ∃d',cH ⟨ds0,none⟩ (cT 7) cP ds (rE x w at_ k a b c d) M=.ok (.nx (rE x w at_ k a b c d')) (M.set k (.lst ((yU w ds.length hs).map D.int)))
 | [],hs,d,M,h2,h3,hm=>⟨d,by
   have:M.set k (.lst (hs.map D.int))=M:=by
    apply ext_getElem?;intro i;rw[getElem?_set];split
    ·rename_i e;subst e;split
     ·exact hm.symm
     ·rename_i hl;rw[getElem?_eq_none (by omega)]
    ·rfl
   show aN.ok _ M=_;show aN.ok _ M=.ok _ (M.set k (.lst (hs.map D.int)));rw[this]⟩
 | e::ds,hs,d,M,h2,h3,hm=>by
  rw[length_cons] at h3;have hn:hs.length-w<hs.length:=by omega
  have v:bh (.mr k) (.int (-(w:Int))) M=.ok (.int (hs.getD (hs.length-w) 0)) M:=BP hm h1 (by rw[length_map];exact h2) (by rw[length_map,getElem?_map,getElem?_eq_getElem hn,List.getD,getElem?_eq_getElem hn];rfl);have ap:iF (ae 3) (g2 bh (ae 3) (ml (ae 2))) (rE x w at_ k a b c (some e)) M=.ok .non (M.set k (.lst (hs.map D.int++[.int (hs.getD (hs.length-w) 0)]))):=
   si (k:=k) rfl hm (ao (x:=.mr k) (M1:=M) rfl (y:=.int (-(w:Int))) (M2:=M) rfl v) hm (by rw[length_map];omega)
  have kl:k<M.length:=(List.getElem?_eq_some_iff.mp hm).1;obtain⟨d',q⟩:=xH (ds0:=ds0) (a:=a) (b:=b) (c:=c) h1 ds (hs++[hs.getD (hs.length-w) 0]) (some e) (M.set k (.lst ((hs++[hs.getD (hs.length-w) 0]).map D.int))) (by rw[length_append];omega) (by rw[length_append,length_singleton];omega) (by rw[getElem?_set,if_pos rfl,if_pos kl]);refine⟨d',?_⟩;rw[cH,if_pos gx];show(cP (rE x w at_ k a b c (some e)) M).bind _=_;have bb:cP (rE x w at_ k a b c (some e)) M=.ok (.nx (rE x w at_ k a b c (some e))) (M.set k (.lst ((hs++[hs.getD (hs.length-w) 0]).map D.int))):=by
   rw[map_append];exact js ap
  rw[bb,ah];rw[set_set] at q;exact q
end
section
variable {x:Str}{w at_ k:Nat}{M:av}{hs:List Int}
theorem JW:("!":Str)=⟨#[33]⟩:=by decide +kernel
theorem JE:("*":Str)=⟨#[42]⟩:=by decide +kernel
theorem HS:("^":Str)=⟨#[94]⟩:=by decide +kernel
theorem xZ {c n:Nat}{v:Str}{ρ:bc}(hv:v=⟨#[n]⟩)(hn:n<0x110000)(hc:c<0x110000)(h:ρ[4]?=some (some (.str ⟨#[c]⟩))):(aw (g2 (aK false) (ae 4) (gC (.str v)))) ρ M=.ok (decide (c=n)) M:=by
 subst hv;exact aL (ao (x:=.str ⟨#[c]⟩) (M1:=M) (by unfold ae;rw[h]) (y:=.str ⟨#[n]⟩) (M2:=M) rfl (nO hc hn M))
theorem BC {c n:Nat}{v:Str}{ρ:bc}(hv:v=⟨#[n]⟩)(hn:n<0x110000)(hc:c<0x110000)(h:ρ[4]?=some (some (.str ⟨#[c]⟩))):(aw (g2 (aK true) (ae 4) (gC (.str v)))) ρ M=.ok (!decide (c=n)) M:=by
 subst hv;refine aL (ao (x:=.str ⟨#[c]⟩) (M1:=M) (by unfold ae;rw[h]) (y:=.str ⟨#[n]⟩) (M2:=M) rfl ?_);rw[JD (ft hc) (ft hn)];congr 2;congr 1;exact decide_eq_decide.mpr tJ
noncomputable def EF:GS:=(aj (cf (kz j7 (ae 3) (aa (ar 2 ck (aa (ar 1 ba (aa (cC (ae 0) (aH (ae 6)) (aH (g2 ax (ae 6) (ae 5)))) ag)) (aa (ae 5) ag))) ag))) (a9 (g2 ax (ae 6) (ae 5))))
noncomputable def EJ:GS:=(aj (cf (kz j7 (ae 3) (aa (g2 jH (ar 2 ck (aa (ar 1 ba (aa (cC (ae 0) (aH (ae 6)) (aH (g2 ax (ae 6) (gC (.int 1))))) ag)) (aa (gC (.int 1)) ag))) (ae 5)) ag))) (a9 (g2 ax (ae 6) (gC (.int 1)))))
noncomputable def JN:GT:=(cb (aw (g2 (aK true) (ae 4) (gC (.str "^")))) (aw (g2 je (az aO (aa (ae 3) ag)) (ae 2))))
noncomputable def IC:GS:=(aj (ce JN (cS "NoText" (gC (.str "there is no such part, or nothing above its spots"))) aG) (aj (iQ (bM (aa (ae 5) ag)) (cT 7) cP) (a9 (ae 6))))
theorem Ha (ρ:bc)(M:av):fF ρ M=aj (au 4 (g2 bh (ae 0) (ae 1))) (aj (au 5 (ar 1 eC (aa (cC (ae 0) (aH (g2 ax (ae 1) (gC (.int 1)))) (aH (g2 ax (ae 1) (gC (.int 2))))) ag))) (aj (au 6 (g2 ax (ae 1) (gC (.int 2)))) (aj (ce (aw (g2 (aK false) (ae 4) (gC (.str "!")))) EF aG) (aj (ce (aw (g2 (aK false) (ae 4) (gC (.str "*")))) EJ aG) IC)))) ρ M:=rfl
noncomputable abbrev rF (x:Str)(w at_ k c m:Nat):bc:=rE x w at_ k (some (.str ⟨#[c]⟩)) (some (.int m)) (some (.int ((at_+2:Nat):Int))) none
noncomputable def AT (M:av)(k:Nat):Option (Nat×List Int)→aN D
 | some (a,hs)=>.ok (.int (a:Nat)) (M.set k (.lst (hs.map D.int)))
 | none=>.err "NoText" M
theorem Ja {c m:Nat}(hx:x.cps.size≤5000)(hm:m<64)(hh:hs.length≤500000)(hM:M[k]?=some (.lst (hs.map D.int))) :
  aQ (EF (rF x w at_ k c m) M)=AT M k (if gG ((x.cps.toList.drop (at_+2)).take m)∧((x.cps.toList.drop (at_+2)).take m).length=m then some (at_+2+m,hs++((x.cps.toList.drop (at_+2)).take m).map am) else none):=by
 have cs:=nK (x:=x) (i:=at_+2) (j:=at_+2+m) (by omega);have cc:=jx (x:=x) (i:=at_+2) (j:=at_+2+m) (by omega);rw[show at_+2+m-(at_+2)=m by omega] at cc;have sl:cC (ae 0) (aH (ae 6)) (aH (g2 ax (ae 6) (ae 5))) (rF x w at_ k c m) M=.ok (.str (bU x (some ((at_+2:Nat):Int)) (some ((at_+2+m:Nat):Int)))) M:=
  dC (x:=.str x) (M1:=M) rfl (lo:=some ((at_+2:Nat):Int)) (M2:=M) rfl (hi:=some ((at_+2+m:Nat):Int)) (M3:=M) rfl (dN (by omega) M)
 have z:=fP (x:=x) (lo:=some ((at_+2:Nat):Int)) (hi:=some ((at_+2+m:Nat):Int));have r:=yb (m:=m) (gm:=ae 5) (by omega) sl rfl;have ll:=aR (bU x (some ((at_+2:Nat):Int)) (some ((at_+2+m:Nat):Int)));rw[←ll,cc] at r;generalize ht:(x.cps.toList.drop (at_+2)).take m=t at *;unfold EF
 by_cases q:gG t=true∧t.length=m
 ·rw[if_pos q] at r ⊢;have g:=rT (F:=j7) (go:=ae 3) (ρ:=rF x w at_ k c m) (ds:=[fB t]) rfl (tj hM) (aZ (r:=ag) r rfl) (xS (ys:=(t.map am).map D.int) (by rw[length_map,length_map,length_map,q.2];omega));rw[ay (js g)];show aQ (a9 _ (rF x w at_ k c m) _)=_;show aN.ok (D.int ((at_+2+m:Nat):Int)) (M.set k (.lst (hs.map D.int++(t.map am).map D.int)))=_;rw[←map_append];rfl
 ·rw[if_neg q] at r ⊢;rw[fv (tF (xY (F:=j7) (go:=ae 3) rfl (tj hM) (tK r)))];rfl
theorem HK {c m:Nat}(hx:x.cps.size≤5000)(hm:m<64)(hh:hs.length≤500000)(hM:M[k]?=some (.lst (hs.map D.int))) :
  aQ (EJ (rF x w at_ k c m) M)=AT M k (if gG ((x.cps.toList.drop (at_+2)).take 1)∧((x.cps.toList.drop (at_+2)).take 1).length=1 then some (at_+3,hs++List.replicate m (am (((x.cps.toList.drop (at_+2)).take 1).getD 0 0))) else none):=by
 have cc:=jx (x:=x) (i:=at_+2) (j:=at_+3) (by omega);rw[show at_+3-(at_+2)=1 by omega] at cc;have sl:cC (ae 0) (aH (ae 6)) (aH (g2 ax (ae 6) (gC (.int 1)))) (rF x w at_ k c m) M=.ok (.str (bU x (some ((at_+2:Nat):Int)) (some ((at_+3:Nat):Int)))) M:=
  dC (x:=.str x) (M1:=M) rfl (lo:=some ((at_+2:Nat):Int)) (M2:=M) rfl (hi:=some ((at_+3:Nat):Int)) (M3:=M) rfl (dN (by omega) M)
 have z:=fP (x:=x) (lo:=some ((at_+2:Nat):Int)) (hi:=some ((at_+3:Nat):Int));have r:=yb (m:=1) (gm:=gC (.int 1)) (by omega) sl rfl;have ll:=aR (bU x (some ((at_+2:Nat):Int)) (some ((at_+3:Nat):Int)));rw[←ll,cc] at r;generalize ht:(x.cps.toList.drop (at_+2)).take 1=t at *;unfold EJ
 by_cases q:gG t=true∧t.length=1
 ·rw[if_pos q] at r ⊢
  match t,q.2 with
  | [v],_=>
   have mu:jH (fB [v]) (.int m) M=.ok (.lst ((List.replicate m (am v)).map D.int)) M:=by
    show(if 0≤(m:Int)∧(m:Int)≤100000∧[D.int (am v)].length*(m:Int).toNat≤100000 then aN.ok (D.lst (List.replicate (m:Int).toNat [D.int (am v)]).flatten) M else .bad)=_;rw[if_pos ⟨by omega,by omega,by rw[length_singleton,Int.toNat_natCast];omega⟩,Int.toNat_natCast,oC]
   have g:=rT (F:=j7) (go:=ae 3) (ρ:=rF x w at_ k c m) (ds:=[.lst ((List.replicate m (am v)).map D.int)]) rfl (tj hM) (aZ (r:=ag) (ao r (b:=ae 5) (y:=.int m) (M2:=M) rfl mu) rfl) (xS (ys:=(List.replicate m (am v)).map D.int) (by rw[length_map,length_map,length_replicate];omega));rw[ay (js g)];show aN.ok (D.int ((at_+3:Nat):Int)) (M.set k (.lst (hs.map D.int++(List.replicate m (am v)).map D.int)))=_;rw[←map_append];rfl
 ·rw[if_neg q] at r ⊢;rw[fv (tF (xY (F:=j7) (go:=ae 3) rfl (tj hM) (tK (Dc r))))];rfl
theorem IZ {c m:Nat}(h1:1≤w)(hc:c<0x110000)(hm:m<64)(hh:hs.length≤500000)(hM:M[k]?=some (.lst (hs.map D.int))) :
  aQ (IC (rF x w at_ k c m) M)=AT M k (if c=94∧w≤hs.length then some (at_+2,yU w m hs) else none):=by
 have t:JN (rF x w at_ k c m) M=.ok (!decide (c=94)||decide ((hs.length:Int)<w)) M:=by
  refine dz (BC HS (by decide) hc rfl) fun _=>aL (ao (cu (x:=.mr k) (M1:=M) rfl (iP hM)) (y:=.int w) (M2:=M) rfl ?_)
  rw[length_map];rfl
 unfold IC
 by_cases q:c=94∧w≤hs.length
 ·rw[if_pos q,ay (ρ1:=rF x w at_ k c m) (M1:=M) ((dY (t.trans (by rw[decide_eq_true q.1,decide_eq_false (show¬(hs.length:Int)<w by omega)];rfl))).trans rfl)];obtain⟨d',f⟩:=xH (x:=x) (at_:=at_) (k:=k) (ds0:=aM 0 m) (a:=some (.str ⟨#[c]⟩)) (b:=some (.int m)) (c:=some (.int ((at_+2:Nat):Int))) h1 (aM 0 m) hs none M q.2 (by simp[aM];omega) hM;have lm:(aM 0 m).length=m:=by simp[aM]
  rw[lm] at f;rw[ay (iJ (eD (n:=m) (aZ (d:=.int m) (M1:=M) rfl rfl) (by omega)) f)];rfl
 ·rw[if_neg q,fv (c:="NoText") (M1:=M) ((dE (t.trans (by
   by_cases q2:c=94
   ·rw[decide_eq_true q2,decide_eq_true (show(hs.length:Int)<w by have:¬w≤hs.length:=fun z=>q ⟨q2,z⟩;omega)];rfl
   ·rw[decide_eq_false q2];rfl))).trans rfl)]
  rfl
noncomputable def zE (o:aN Fl):Prop:=∀ρ M,o≠.ok (.nx ρ) M
theorem sP {a b:GS}{ρ:bc}{M:av}(h:zE (a ρ M)):aQ (aj a b ρ M)=aQ (a ρ M):=by
 unfold aj;cases q:a ρ M with
 | err c M1=>rfl
 | bad=>rfl
 | ok f M1=>
  cases f with
  | nx ρ1=>exact absurd q (h ρ1 M1)
  | rt d=>rfl
  | bk ρ1=>rfl
  | ct ρ1=>rfl
theorem ph {a:GS}{g:GE}{ρ:bc}{M:av}:zE (aj a (a9 g) ρ M):=fun ρ' M' h=>by
 unfold aj at h;cases q:a ρ M with
 | err c M1=>rw[q] at h;cases h
 | bad=>rw[q] at h;cases h
 | ok f M1=>
  rw[q] at h;cases f with
  | nx ρ1=>
   have h:a9 g ρ1 M1=.ok (.nx ρ') M':=h;unfold a9 at h;cases q2:g ρ1 M1 with
   | ok d M2=>rw[q2] at h;cases h
   | err c M2=>rw[q2] at h;cases h
   | bad=>rw[q2] at h;cases h
  | rt d=>cases h
  | bk ρ1=>cases h
  | ct ρ1=>cases h
theorem zB {ρ:bc}{M:av}:zE (EF ρ M):=ph
theorem Ae {ρ:bc}{M:av}:zE (EJ ρ M):=ph
theorem AA (ho:eG x)(hx:x.cps.size≤5000)(ha:at_<x.cps.size)(h1:1≤w)(hh:hs.length≤500000)(hM:M[k]?=some (.lst (hs.map D.int))) :
  fH [.str x,.int at_,.int w,.mr k] M=AT M k (eo x w at_ hs):=by
 have hc:=nq ho ha;have cc:=jx (x:=x) (i:=at_+1) (j:=at_+2) (by omega);rw[show at_+2-(at_+1)=1 by omega] at cc;have z:=fP (x:=x) (lo:=some ((at_+1:Nat):Int)) (hi:=some ((at_+2:Nat):Int));have ct:=qi (M:=M) (z:=bU x (some ((at_+1:Nat):Int)) (some ((at_+2:Nat):Int))) (by omega);rw[cc] at ct;have sl:∀a b c d,cC (ae 0) (aH (g2 ax (ae 1) (gC (.int 1)))) (aH (g2 ax (ae 1) (gC (.int 2)))) (rE x w at_ k a b c d) M=.ok (.str (bU x (some ((at_+1:Nat):Int)) (some ((at_+2:Nat):Int)))) M:=fun a b c d=>
  dC (x:=.str x) (M1:=M) rfl (lo:=some ((at_+1:Nat):Int)) (M2:=M) rfl (hi:=some ((at_+2:Nat):Int)) (M3:=M) rfl (dN (by omega) M)
 show aQ (fF (rE x w at_ k none none none none) M)=_;have i0:=eU (gD ha) (show x.cps.size≤90000 by omega) M;unfold eo;rw[Ha,ay (aD (ao (x:=.str x) (M1:=M) rfl (y:=.int at_) (M2:=M) rfl i0))];show aQ (aj _ _ (rE x w at_ k (some (.str ⟨#[x.cps.toList.getD at_ 0]⟩)) none none none) M)=_;generalize x.cps.toList.getD at_ 0=c at *;cases q:jI ((x.cps.toList.drop (at_+1)).take 1) with
 | none=>
  rw[q] at ct;rw[fv (rj (fz (sl _ _ _ _) ct))];rfl
 | some m=>
  rw[q] at ct;have hm:=(rg q).2.1;rw[ay (aD (fz (sl _ _ _ _) ct))];show aQ (aj _ _ (rE x w at_ k (some (.str ⟨#[c]⟩)) (some (.int m)) none none) M)=_;rw[ay (aD (d:=.int ((at_+2:Nat):Int)) (M1:=M) rfl)];show aQ (aj _ _ (rF x w at_ k c m) M)=_;have t1:=xZ (M:=M) (c:=c) (ρ:=rF x w at_ k c m) JW (by decide) hc rfl;have t2:=xZ (M:=M) (c:=c) (ρ:=rF x w at_ k c m) JE (by decide) hc rfl;dsimp only
  by_cases q1:c=33
  ·rw[if_pos q1];have e:=Ja (x:=x) (w:=w) (at_:=at_) (c:=c) hx hm hh hM;have s:ce (aw (g2 (aK false) (ae 4) (gC (.str "!")))) EF aG (rF x w at_ k c m) M=EF (rF x w at_ k c m) M:=dE (t1.trans (by rw[decide_eq_true q1]));rw[←e,←s];exact sP (by rw[s];exact zB)
  ·rw[if_neg q1,ay (ρ1:=rF x w at_ k c m) (M1:=M) ((dY (t1.trans (by rw[decide_eq_false q1]))).trans rfl)]
   by_cases q2:c=42
   ·rw[if_pos q2];have e:=HK (x:=x) (w:=w) (at_:=at_) (c:=c) hx hm hh hM;have s:ce (aw (g2 (aK false) (ae 4) (gC (.str "*")))) EJ aG (rF x w at_ k c m) M=EJ (rF x w at_ k c m) M:=dE (t2.trans (by rw[decide_eq_true q2]));rw[←e,←s];exact sP (by rw[s];exact Ae)
   ·rw[if_neg q2,ay (ρ1:=rF x w at_ k c m) (M1:=M) ((dY (t2.trans (by rw[decide_eq_false q2]))).trans rfl)];exact IZ h1 hc hm hh hM
end
noncomputable def ij (x:Str)(w:Nat):Nat→Nat→List Int→Option (List Int)
 | 0,_,_=>none
 | f+1,a,hs=>if a<x.cps.size then(match eo x w a hs with|some (b,hs')=>ij x w f b hs'|none=>none) else some hs
theorem oG {x:Str}{w a b:Nat}{hs hs':List Int}(h:eo x w a hs=some (b,hs')):a+2≤b∧hs'.length≤hs.length+63∧hs.length≤hs'.length:=by
 unfold eo at h;split at h
 ·cases h
 ·rename_i m q;have hm:=(rg q).2.1;split at h
  ·split at h
   ·rename_i hc;cases h;refine⟨by omega,?_,?_⟩ <;> rw[length_append,length_map,hc.2] <;> omega
   ·cases h
  ·split at h
   ·split at h
    ·cases h;refine⟨by omega,?_,?_⟩ <;> rw[length_append,length_replicate] <;> omega
    ·cases h
   ·split at h
    ·cases h;refine⟨by omega,?_,?_⟩ <;> rw[oi] <;> omega
    ·cases h
theorem jb {c:Str}{M E:av}(hM:M.all bu=true):dJ M.length (.err c (M++E))=.err c M:=by
 unfold dJ
 by_cases h:(M++E).length=M.length
 ·have:E=[]:=by
   rw[length_append] at h;exact length_eq_zero_iff.mp (by omega)
  subst this;simp
 ·simp only[if_neg h];rw[take_left,dH hM]
section
variable {x:Str}{w:Nat}{M:av}
noncomputable abbrev nE (x:Str)(w h k a:Nat):bc:=[some (.str x),some (.int w),some (.int h),some (.mr k),some (.int a)]
theorem we {t:GT}{b:GS}{n:Nat}{ρ:bc}{M M1 M2:av}{c:Str}(h1:t ρ M=.ok true M1)(h2:b ρ M1=.err c M2):bI t b (n+1) ρ M=.err c M2:=by
 rw[bI,h1,ah,if_pos rfl,h2];rfl
theorem tM {h:Nat}(ho:eG x)(hx:x.cps.size≤5000)(h1:1≤w):∀(f a:Nat) (hs:List Int) (n:Nat),x.cps.size<a+f→1≤f→hs.length≤63*a→f<n→
  (∃hs' a',ij x w f a hs=some hs'∧bI cK cG n (nE x w h M.length a) (M++[MO.lst (hs.map D.int)])=.ok (.nx (nE x w h M.length a')) (M++[MO.lst (hs'.map D.int)]))∨
  (∃E,ij x w f a hs=none∧bI cK cG n (nE x w h M.length a) (M++[MO.lst (hs.map D.int)])=.err "NoText" (M++E))
 | f,a,hs,0,hf,hf1,hl,hn=>absurd hn (Nat.not_lt_zero _)
 | f,a,hs,n+1,hf,hf1,hl,hn=>by
  have t:∀N,cK (nE x w h M.length a) N=.ok (decide ((a:Int)<x.cps.size)) N:=fun N=>aL (ao (x:=.int a) (M1:=N) rfl (cu (x:=.str x) (M1:=N) rfl (b7 (by omega) N)) rfl)
  have hm:=iE M (hs.map D.int)
  by_cases ha:a<x.cps.size
  ·cases f with
   | zero=>omega
   | succ f=>
    have p:=AA (M:=M++[MO.lst (hs.map D.int)]) (k:=M.length) (w:=w) ho hx ha h1 (by omega) hm;have hr:ij x w (f+1) a hs=match eo x w a hs with|some (b,hs')=>ij x w f b hs'|none=>none:=by rw[ij,if_pos ha]
    have tt:=(t (M++[MO.lst (hs.map D.int)])).trans (by rw[decide_eq_true (show(a:Int)<x.cps.size by omega)]);cases q:eo x w a hs with
    | none=>
     rw[q] at p hr;refine .inr ⟨[MO.lst (hs.map D.int)],hr,?_⟩;refine we tt ?_;exact rj (wI (x:=.str x) (M1:=M++[MO.lst (hs.map D.int)]) rfl (y:=.int a) (M2:=M++[MO.lst (hs.map D.int)]) rfl (z:=.int w) (M3:=M++[MO.lst (hs.map D.int)]) rfl (u:=.mr M.length) (M4:=M++[MO.lst (hs.map D.int)]) rfl p)
    | some r=>
     obtain⟨b,hs'⟩:=r;rw[q] at p hr;obtain⟨s1,s2,_⟩:=oG q;have p:fH [.str x,.int a,.int w,.mr M.length] (M++[MO.lst (hs.map D.int)])=.ok (.int (b:Nat)) ((M++[MO.lst (hs.map D.int)]).set M.length (.lst (hs'.map D.int))):=p;rw[gX] at p;have bb:cG (nE x w h M.length a) (M++[MO.lst (hs.map D.int)])=.ok (.nx (nE x w h M.length b)) (M++[MO.lst (hs'.map D.int)]):=aD (i:=4) (wI (x:=.str x) (M1:=M++[MO.lst (hs.map D.int)]) rfl (y:=.int a) (M2:=M++[MO.lst (hs.map D.int)]) rfl (z:=.int w) (M3:=M++[MO.lst (hs.map D.int)]) rfl (u:=.mr M.length) (M4:=M++[MO.lst (hs.map D.int)]) rfl p);rw[lK tt bb,hr];exact tM ho hx h1 f b hs' n (by omega) (by omega) (by omega) (by omega)
  ·refine .inl ⟨hs,a,?_,eZ ((t _).trans (by rw[decide_eq_false (show¬(a:Int)<x.cps.size by omega)]))⟩;cases f with
   | zero=>omega
   | succ f=>rw[ij,if_neg ha]
end
noncomputable def ms (w h:Nat)(hs:List Int):List (List Int):=(List.range h).map fun i=>(hs.drop (i*w)).take w
noncomputable def kn (x:Str):Option (List (List Int)):=
 if gG (x.cps.toList.take 2)∧(x.cps.toList.take 2).length=2∧(1≤am (x.cps.toList.getD 0 0)∧am (x.cps.toList.getD 0 0)≤40)∧(1≤am (x.cps.toList.getD 1 0)∧am (x.cps.toList.getD 1 0)≤40) then
  match ij x (am (x.cps.toList.getD 0 0)).toNat (x.cps.size+1) 2 [] with
  | some hs=>if hs.length=(am (x.cps.toList.getD 0 0)).toNat*(am (x.cps.toList.getD 1 0)).toNat then some (ms (am (x.cps.toList.getD 0 0)).toNat (am (x.cps.toList.getD 1 0)).toNat hs) else none
  | none=>none
 else none
theorem zF (x:Str):(bU x none (some 2)).cps.toList=x.cps.toList.take 2:=by
 unfold bU;rw[HT.sIx_none,show(2:Int)=((2:Nat):Int) from rfl,HT.sIx_nat,drop_zero,Nat.sub_zero,toList_toArray]
 by_cases h:2≤x.length
 ·rw[Nat.min_eq_left h]
 ·have hl:x.cps.toList.length=x.length:=aR x;rw[Nat.min_eq_right (by omega),take_of_length_le (by omega),take_of_length_le (by omega)]
theorem Fq {k:Int}{ρ:bc}{M:av}:bY (some (.int k)::ρ) M=.ok (.bl (decide (1≤k)&&decide (k≤40))) M:=by
 unfold bY oH
 by_cases h:1≤k <;> simp[gC,ae,mB,ah,h]
theorem Ak {x:Str}{M:av}(hx:x.cps.size≤5000) :
  dR [.str (bU x none (some 2))] M=if gG (x.cps.toList.take 2)∧(x.cps.toList.take 2).length=2∧(1≤am (x.cps.toList.getD 0 0)∧am (x.cps.toList.getD 0 0)≤40)∧(1≤am (x.cps.toList.getD 1 0)∧am (x.cps.toList.getD 1 0)≤40) then .ok (.lst [.int (am (x.cps.toList.getD 0 0)),.int (am (x.cps.toList.getD 1 0))]) M else .err "NoText" M:=by
 have z:=fP (x:=x) (lo:=none) (hi:=some 2);have r:=Bj (M:=M) (x:=bU x none (some 2)) (by omega);have c2:=zF x;rw[c2] at r;generalize bU x none (some 2)=y at *;show aQ (fq [some (.str y),none] M)=_;unfold fq;cases q:gG (x.cps.toList.take 2) with
 | false=>
  rw[q,if_neg Bool.false_ne_true] at r;rw[fv (rj (fz (x:=.str y) (M1:=M) rfl r)),if_neg (fun q=>by cases q.1)];rfl
 | true=>
  rw[q,if_pos rfl] at r;rw[ay (aD (fz (x:=.str y) (M1:=M) rfl r))];show aQ (aj _ _ [some (.str y),some (fB (x.cps.toList.take 2))] M)=_
  by_cases hl:(x.cps.toList.take 2).length=2
  ·have hl2:2≤x.cps.toList.length:=by rw[length_take] at hl;omega
   have et:x.cps.toList.take 2=[x.cps.toList.getD 0 0,x.cps.toList.getD 1 0]:=by
    match x.cps.toList,hl2 with
    | a::b::r,_=>rfl
   rw[et];generalize x.cps.toList.getD 0 0=a at *;generalize x.cps.toList.getD 1 0=b at *;have al:=BO (gi:=bF (ae 1)) (ge:=bY) (ρ:=[some (.str y),some (fB [a,b])]) (M:=M) (xs:=[.int (am a),.int (am b)]) (p:=fun d=>match d with | .int k=>decide (1≤k)&&decide (k≤40)|_=>false) rfl (show 2≤100000 by decide) (fun d hd=>by
    rcases mem_cons.mp hd with rfl|hd
    ·exact Fq
    ·rw[mem_singleton.mp hd];exact Fq)
   have tt:(cb (aw (g2 (aK true) (az aO (aa (ae 1) ag)) (gC (.int 2)))) (du (iG (az mx (aa (aX (bF (ae 1)) bJ bY aJ) ag))))) [some (.str y),some (fB [a,b])] M=.ok (!decide ((1≤am a∧am a≤40)∧(1≤am b∧am b≤40))) M:=by
    refine(dz (x:=false) (aL (ao (cu (x:=fB [a,b]) (M1:=M) rfl rfl) (y:=.int 2) (M2:=M) rfl (qw _ _ M))) fun _=>jn (qP al)).trans ?_;congr 1;rw[Bool.false_or];congr 1
    by_cases p1:1≤am a <;> by_cases p2:am a≤40 <;> by_cases p3:1≤am b <;> by_cases p4:am b≤40 <;> simp[p1,p2,p3,p4]
   by_cases hc:(1≤am a∧am a≤40)∧(1≤am b∧am b≤40)
   ·rw[ay (ρ1:=[some (.str y),some (fB [a,b])]) (M1:=M) ((dY (tt.trans (by rw[decide_eq_true hc];rfl))).trans rfl),if_pos ⟨rfl,rfl,hc.1,hc.2⟩];rfl
   ·rw[fv (c:="NoText") (M1:=M) ((dE (tt.trans (by rw[decide_eq_false hc];rfl))).trans rfl),if_neg (fun q=>hc ⟨q.2.2.1,q.2.2.2⟩)];rfl
  ·have tt:(cb (aw (g2 (aK true) (az aO (aa (ae 1) ag)) (gC (.int 2)))) (du (iG (az mx (aa (aX (bF (ae 1)) bJ bY aJ) ag))))) [some (.str y),some (fB (x.cps.toList.take 2))] M=.ok true M:=by
    refine(dz (y:=true) (aL (ao (cu (x:=fB (x.cps.toList.take 2)) (M1:=M) rfl (o:=.ok (.int (x.cps.toList.take 2).length) M) ?_) (y:=.int 2) (M2:=M) rfl (qw _ _ M))) fun z=>?_).trans ?_
    ·show aN.ok (D.int (((x.cps.toList.take 2).map am).map D.int).length) M=_;rw[length_map,length_map]
    ·exact absurd (show((x.cps.toList.take 2).length:Int)=2 from of_decide_eq_true (by simpa using z)) (by omega)
    ·rw[decide_eq_false (show¬((x.cps.toList.take 2).length:Int)=2 by omega)];rfl
   rw[fv (c:="NoText") (M1:=M) ((dE tt).trans rfl),if_neg (fun q=>hl q.2.1)];rfl
section
variable {x:Str}{M:av}
theorem wj {hs:List Int}{i j:Nat}(hij:i≤j):iy (hs.map D.int) (some (i:Int)) (some (j:Int))=((hs.drop i).take (j-i)).map D.int:=by
 unfold iy;rw[HT.sIx_nat,HT.sIx_nat,length_map,map_take,map_drop];have hl:(hs.map D.int).length=hs.length:=length_map ..
 by_cases h:i≤hs.length
 ·rw[Nat.min_eq_left h]
  by_cases h2:j≤hs.length
  ·rw[Nat.min_eq_left h2]
  ·rw[Nat.min_eq_right (by omega),take_of_length_le (by rw[length_drop,hl];exact Nat.le_refl _),take_of_length_le (by rw[length_drop,hl];omega)]
 ·rw[Nat.min_eq_right (show hs.length≤i by omega),drop_of_length_le (i:=hs.length) (by rw[hl];exact Nat.le_refl _),drop_of_length_le (i:=i) (by rw[hl];omega)];simp
theorem yc {hs:List Int}{k:Nat}{i j:Nat}(hij:i≤j)(hm:M[k]?=some (.lst (hs.map D.int))):gQ (.mr k) (some (i:Int)) (some (j:Int)) M=.ok (.lst (((hs.drop i).take (j-i)).map D.int)) M:=by
 show(match M[k]? with|some (.lst xs)=>aN.ok (D.lst (iy xs (some (i:Int)) (some (j:Int)))) M|_=>.bad)=_;rw[hm];dsimp only;rw[wj hij]
theorem DD {hs:List Int}{w h k a i:Nat}(hw:w≤40)(hi:i<40)(hm:M[k]?=some (.lst (hs.map D.int))):fo (some (.int i)::nE x w h k a) M=.ok (.lst (((hs.drop (i*w)).take w).map D.int)) M:=by
 have m1:=iI (i:=(i:Int)) (j:=(w:Int)) (by omega) (by omega) M;have m2:=iI (i:=(i:Int)+1) (j:=(w:Int)) (by omega) (by omega) M;have e1:(i:Int)*w=((i*w:Nat):Int):=by rw[Int.natCast_mul]
 have e2:((i:Int)+1)*w=(((i+1)*w:Nat):Int):=by rw[Int.natCast_mul];rfl
 rw[e1] at m1;rw[e2] at m2;have le:i*w≤(i+1)*w:=Nat.mul_le_mul_right _ (by omega);have s:=yc (M:=M) le hm;rw[show(i+1)*w-i*w=w by rw[Nat.succ_mul];omega] at s;have p1:aH (g2 dF (ae 0) (ae 2)) (some (.int i)::nE x w h k a) M=.ok (some ((i*w:Nat):Int)) M:=by
  unfold aH;rw[ao (x:=.int i) (M1:=M) rfl (y:=.int w) (M2:=M) rfl m1];rfl
 have p2:aH (g2 dF (g2 ax (ae 0) (gC (.int 1))) (ae 2)) (some (.int i)::nE x w h k a) M=.ok (some (((i+1)*w:Nat):Int)) M:=by
  unfold aH;rw[ao (ao (x:=.int i) (M1:=M) rfl (y:=.int 1) (M2:=M) rfl rfl) (y:=.int w) (M2:=M) rfl m2];rfl
 exact dC (x:=.mr k) (M1:=M) rfl p1 p2 s
theorem CV (ho:eG x)(hx:x.cps.size≤4000)(hM:M.all bu=true):dL [.str x] M=match kn x with|some rs=>.ok (.lst (aA rs)) M|none=>.err "NoText" M:=by
 have sz:=Ak (x:=x) (M:=M) (by omega);have sl:cC (ae 0) bn (aH (gC (.int 2))) [some (.str x),none,none,none,none] M=.ok (.str (bU x none (some 2))) M:=dC (x:=.str x) (M1:=M) rfl (lo:=none) (M2:=M) rfl (hi:=some 2) (M3:=M) rfl (dN (by omega) M);show dJ M.length (aQ (dg [some (.str x),none,none,none,none] M))=_;unfold kn dg;have t0:(du (iG (kt "str" (ae 0)))) [some (.str x),none,none,none,none] M=.ok false M:=jn (x:=true) (qP rfl);rw[ay (ρ1:=[some (.str x),none,none,none,none]) (M1:=M) ((dY t0).trans rfl)]
 by_cases hc:gG (x.cps.toList.take 2)∧(x.cps.toList.take 2).length=2∧(1≤am (x.cps.toList.getD 0 0)∧am (x.cps.toList.getD 0 0)≤40)∧(1≤am (x.cps.toList.getD 1 0)∧am (x.cps.toList.getD 1 0)≤40)
 ·rw[if_pos hc] at sz ⊢;obtain⟨_,_,hw,hh⟩:=hc;generalize am (x.cps.toList.getD 0 0)=wi at *;generalize am (x.cps.toList.getD 1 0)=hi at *;obtain⟨w,rfl⟩:=Int.eq_ofNat_of_zero_le (show 0≤wi by omega);obtain⟨h,rfl⟩:=Int.eq_ofNat_of_zero_le (show 0≤hi by omega);rw[Int.toNat_natCast,Int.toNat_natCast];have as:lL (xW [1,2]) (ar 1 dR (aa (cC (ae 0) bn (aH (gC (.int 2)))) ag)) [some (.str x),none,none,none,none] M=.ok (.nx [some (.str x),some (.int w),some (.int h),none,none]) M:=by
   unfold lL;rw[fz sl sz];rfl
  rw[ay as,ay (aD nD)];show dJ M.length (aQ (aj _ _ [some (.str x),some (.int w),some (.int h),some (.mr M.length),none] (M++[MO.lst []])))=_;rw[ay (aD (d:=.int 2) (M1:=M++[MO.lst []]) rfl)];show dJ M.length (aQ (aj _ _ (nE x w h M.length 2) (M++[MO.lst (([]:List Int).map D.int)])))=_;rcases tM (x:=x) (w:=w) (M:=M) (h:=h) ho (by omega) (by omega) (x.cps.size+1) 2 [] 5000 (by omega) (by omega) (Nat.zero_le _) (by omega) with⟨hs,a',er,ew⟩|⟨E,er,ew⟩
  ·rw[er,ay (a:=fh 5000 cK cG) ew];dsimp only;have hm:=iE M (hs.map D.int);have mw:=iI (i:=(w:Int)) (j:=(h:Int)) (by omega) (by omega) (M++[MO.lst (hs.map D.int)]);have tt:(aw (g2 (aK true) (az aO (aa (ae 3) ag)) (g2 dF (ae 1) (ae 2)))) (nE x w h M.length a') (M++[MO.lst (hs.map D.int)])=.ok (!decide ((hs.length:Int)=(w:Int)*h)) (M++[MO.lst (hs.map D.int)]):=by
    refine aL (ao (cu (x:=.mr M.length) (M1:=M++[MO.lst (hs.map D.int)]) rfl (iP hm)) (ao (x:=.int w) (M1:=M++[MO.lst (hs.map D.int)]) rfl (y:=.int h) (M2:=M++[MO.lst (hs.map D.int)]) rfl mw) ?_);rw[qw,length_map]
   by_cases hl:hs.length=w*h
   ·rw[if_pos hl,ay (ρ1:=nE x w h M.length a') (M1:=M++[MO.lst (hs.map D.int)]) ((dY (tt.trans (by rw[decide_eq_true (show(hs.length:Int)=(w:Int)*h by rw[hl,Int.natCast_mul])];rfl))).trans rfl)];have cm:aX (bM (aa (ae 2) ag)) bJ fo aJ (nE x w h M.length a') (M++[MO.lst (hs.map D.int)])=.ok (.lst (aA (ms w h hs))) (M++[MO.lst (hs.map D.int)]):=by
     refine dS (eD (n:=h) (aZ (d:=.int h) (M1:=M++[MO.lst (hs.map D.int)]) rfl rfl) (by omega)) ?_ (by unfold aA ms;simp;omega);have er:aM 0 h=(List.range h).map fun(i:Nat)=>D.int (i:Int):=by
      unfold aM;refine map_congr_left fun i _=>?_
      rw[show(0:Int)+(i:Int)=(i:Int) by omega]
     unfold aA ms;rw[er,map_map];exact gK _ fun i hi=>DD (by omega) (by have:=mem_range.mp hi;omega) hm
    rw[ii cm];exact dj (d:=.lst (aA (ms w h hs))) (E:=[MO.lst (hs.map D.int)]) (by rw[il];exact jY _) hM
   ·have hl2:¬(hs.length:Int)=(w:Int)*h:=fun z=>hl (by rw[←Int.natCast_mul] at z;omega)
    rw[if_neg hl,fv (c:="NoText") (M1:=M++[MO.lst (hs.map D.int)]) ((dE (tt.trans (by rw[decide_eq_false hl2];rfl))).trans rfl)];exact jb hM
  ·rw[er,fv (a:=fh 5000 cK cG) ew];exact jb hM
 ·rw[if_neg hc] at sz ⊢;have as:lL (xW [1,2]) (ar 1 dR (aa (cC (ae 0) bn (aH (gC (.int 2)))) ag)) [some (.str x),none,none,none,none] M=.err "NoText" M:=by
   unfold lL;rw[fz sl sz];rfl
  rw[fv as];have:=jb (c:="NoText") (M:=M) (E:=[]) hM;rw[append_nil] at this;exact this
end
theorem uT {M:av}(hM:M.all bu=true):fA [.exc "NoText"] M=.ok (.tup [.str "text"]) M:=by
 have l3:(3:Nat)≤sizeLine:=aY (by decide);have l6:(6:Nat)≤sizeLine:=aY (by decide);have l9:(9:Nat)<sizeLine:=by rw[sizeLine_eq];decide
 have l9':(9:Nat)≤sizeLine:=aY (by decide);have l10:(10:Nat)≤sizeLine:=aY (by decide);have l1:(1:Nat)≤sizeLine:=aY (by decide);have e:∃E,cr 2 dU [.exc "NoText"] M=.ok (.tup [.str "text"]) (M++E):=by
  unfold dU;have at7:∀a b c d e f g h i j:D,k9 [a,b,c,d,e,f,g,h,i,j] 7=some h:=fun _ _ _ _ _ _ _ _ _ _=>rfl
  simp_arith [l3,l6,l9,l9',l10,l1,List.lookup,aK,findIdx?_cons,at7]
 obtain⟨E,e⟩:=e;unfold fA;rw[e];exact dj rfl hM
theorem pF {d:D}{M:av}(hM:M.all bu=true)(h:dL [d] M=.err "NoText" M):bC [d] M=.ok (.tup [.str "text"]) M:=by
 have w:=uT hM;unfold bC eE;simp_arith [h,w]
theorem yq {d:D}{xs:List D}{M:av}(h:dL [d] M=.ok (.lst xs) M):bC [d] M=.ok (.lst xs) M:=by
 unfold bC eE;simp_arith [h]
noncomputable def mv (x:Str):D:=match kn x with
 | some rs=>.lst (aA rs)
 | none=>.tup [.str "text"]
theorem ui {x:Str}{M:av}(ho:eG x)(hx:x.cps.size≤4000)(hM:M.all bu=true):bC [.str x] M=.ok (mv x) M:=by
 have u:=CV ho hx hM;unfold mv;cases q:kn x with
 | none=>rw[q] at u;exact pF hM u
 | some rs=>rw[q] at u;exact yq u
theorem zr {d:D}{M:av}(hM:M.all bu=true)(h:kt "str" (ae 0) [some d,none,none,none,none] M=.ok (.bl false) M):dL [d] M=.err "NoText" M:=by
 show dJ M.length (aQ (dg [some d,none,none,none,none] M))=_;unfold dg;have t0:(du (iG (kt "str" (ae 0)))) [some d,none,none,none,none] M=.ok true M:=jn (x:=false) (qP h);rw[fv (c:="NoText") (M1:=M) ((dE t0).trans rfl)];have:=jb (c:="NoText") (M:=M) (E:=[]) hM;rw[append_nil] at this;exact this
theorem vw (c:Nat)(M:av):iK (.str ⟨#[c]⟩) (.str "!*^") M=.ok (.bl (!decide (c=33∨c=42∨c=94))) M:=by
 show aN.ok (D.bl (!rZ "!*^" ⟨#[c]⟩)) M=_;unfold rZ;rw[StrLaws.found_one];have e:("!*^":Str).cps.toList=[33,42,94]:=by decide +kernel
 rw[e];congr 3;exact decide_eq_decide.mpr (by simp)
theorem kM (c:Nat)(M:av):iK (.str ⟨#[c]⟩) (.str dq) M=.ok (.bl (am c==-1)) M:=by
 have h:=A3 c M;have h:aN.ok (D.bl (rZ dq ⟨#[c]⟩)) M=.ok (.bl (am c != -1)) M:=h;show aN.ok (D.bl (!rZ dq ⟨#[c]⟩)) M=_;injection h with h1 h2
 injection h1 with h1
 rw[h1];rw[show(am c != -1)=!(am c==-1) from rfl,Bool.not_not]
noncomputable def nH (c m:Nat):Nat:=if c=33 then m else if c=42 then 1 else 0
theorem wK {ρ:bc}{c m:Nat}{M:av}(hc:c=33∨c=42∨c=94)(h6:ρ[6]?=some (some (.str ⟨#[c]⟩)))(h7:ρ[7]?=some (some (.int m))):jt [("!",.inl 7),("*",.inr 1),("^",.inr 0)] (ae 6) ρ M=.ok (.int (nH c m)) M:=by
 have t:ku ρ [("!",.inl 7),("*",.inr 1),("^",.inr 0)]=some [(("!":Str),(m:Int)),(("*":Str),1),(("^":Str),0)]:=by
  simp[ku,mY,h7]
 unfold jt;rw[t];unfold rX ae;rw[h6];rcases hc with rfl|rfl|rfl <;> rfl
theorem t8 (c:Nat):am c=0↔c=48:=by
 constructor
 ·intro h;unfold am at h;rcases StrLaws.occ_head dq ⟨#[c]⟩ 1 (Nat.le_refl _) with⟨q,_⟩|⟨i,r,q,ha,_⟩
  ·rw[jk q] at h;cases h
  ·rw[im q] at h;have hi:i=0:=by omega
   subst hi;have:=(StrLaws.subAt_one dq c 0).mp ha;have e:dq.cps.toList[0]?=some 48:=by decide +kernel
   rw[e] at this;cases this;rfl
 ·intro h;subst h;decide +kernel
theorem sx {x:Str}{a:Nat}(ha:a+1<x.cps.size):jI ((x.cps.toList.drop (a+1)).take 1)=if am (x.cps.toList.getD (a+1) 0)=-1∨am (x.cps.toList.getD (a+1) 0)=0 then none else some (am (x.cps.toList.getD (a+1) 0)).toNat:=by
 have hl:a+1<x.cps.toList.length:=by rw[aR];exact ha
 have e:(x.cps.toList.drop (a+1)).take 1=[x.cps.toList.getD (a+1) 0]:=by
  rw[drop_eq_getElem_cons hl,take_succ_cons,take_zero,List.getD,getElem?_eq_getElem hl];rfl
 rw[e];generalize x.cps.toList.getD (a+1) 0=k;unfold jI gG
 by_cases h1:am k=-1
 ·simp[h1]
 ·by_cases h2:am k=0
  ·simp[h2]
  ·simp[h1,h2]
theorem zT {x:Str}{a:Nat}(ha:¬a+1<x.cps.size):jI ((x.cps.toList.drop (a+1)).take 1)=none:=by
 have hl:x.cps.toList.length≤a+1:=by rw[aR];omega
 rw[drop_of_length_le hl];rfl
section
variable {x:Str}{M:av}{w h k a:Nat}
noncomputable abbrev lE (x:Str)(w h k a:Nat)(d6 d7 d8 d9 d10:Option D):bc:=[some (.str x),some (.str dq),some (.int w),some (.int h),some (.mr k),some (.int a),d6,d7,d8,d9,d10]
noncomputable def Jz:GT:=(cb (aw (g2 iK (ae 6) (gC (.str "!*^")))) (cb (aw (g2 (aK false) (g2 ax (ae 5) (gC (.int 1))) (az aO (aa (ae 0) ag)))) (cb (aw (g2 iK (g2 bh (ae 0) (g2 ax (ae 5) (gC (.int 1)))) (ae 1))) (aw (g2 (aK false) (g2 bh (ae 0) (g2 ax (ae 5) (gC (.int 1)))) (gC (.str "0")))))))
theorem JT:("0":Str)=⟨#[48]⟩:=by decide +kernel
theorem IH {c:Nat}{d7 d8 d9 d10:Option D}(ho:eG x)(hx:x.cps.size≤5000)(ha:a<x.cps.size) :
  Jz (lE x w h k a (some (.str ⟨#[c]⟩)) d7 d8 d9 d10) M=.ok (!decide (c=33∨c=42∨c=94)||(jI ((x.cps.toList.drop (a+1)).take 1)).isNone) M:=by
 refine dz (aL (ao (x:=.str ⟨#[c]⟩) (M1:=M) rfl (y:=.str "!*^") (M2:=M) rfl (vw c M))) fun _=>?_
 have t2:(aw (g2 (aK false) (g2 ax (ae 5) (gC (.int 1))) (az aO (aa (ae 0) ag)))) (lE x w h k a (some (.str ⟨#[c]⟩)) d7 d8 d9 d10) M=.ok (decide ((a:Int)+1=x.cps.size)) M:=
  aL (ao (ao (x:=.int a) (M1:=M) rfl (y:=.int 1) (M2:=M) rfl rfl) (cu (x:=.str x) (M1:=M) rfl (b7 (by omega) M)) (ja _ _ M))
 by_cases h1:a+1<x.cps.size
 ·have ix:g2 bh (ae 0) (g2 ax (ae 5) (gC (.int 1))) (lE x w h k a (some (.str ⟨#[c]⟩)) d7 d8 d9 d10) M=.ok (.str ⟨#[x.cps.toList.getD (a+1) 0]⟩) M:=
   ao (x:=.str x) (M1:=M) rfl (ao (x:=.int a) (M1:=M) rfl (y:=.int 1) (M2:=M) rfl (o:=.ok (.int ((a+1:Nat):Int)) M) rfl) (eU (gD h1) (by omega) M)
  have hk:=nq ho h1;rw[sx h1];generalize x.cps.toList.getD (a+1) 0=q at *;have e0:aK false (.str ⟨#[q]⟩) (.str "0") M=.ok (.bl (decide (q=48))) M:=by rw[JT];exact nO hk (by decide) M
  refine(dz t2 fun _=>dz (aL (ao ix (y:=.str dq) (M2:=M) rfl (kM q M))) fun _=>aL (ao ix (y:=.str "0") (M2:=M) rfl e0)).trans ?_;congr 1;rw[decide_eq_false (show¬(a:Int)+1=x.cps.size by omega),Bool.false_or];have z:=t8 q
  by_cases p1:am q=-1
  ·simp[p1]
  ·by_cases p2:am q=0
   ·have p3:q=48:=z.mp p2;rw[if_pos (.inr p2),decide_eq_true p3,Bool.or_true];rfl
   ·have p3:¬q=48:=fun y=>p2 (z.mpr y)
    simp[p1,p2,p3]
 ·rw[zT h1];refine(dz (y:=true) t2 fun y=>?_).trans ?_
  ·exact absurd (of_decide_eq_false y) (by intro q;exact q (by omega))
  ·rw[decide_eq_true (show(a:Int)+1=x.cps.size by omega)];rfl
end
theorem sV {α:Type}{f g:α→D}{b:α→Bool}{gc:GT}{ge:GE}{ρ:bc}{M:av}{ds0:List D}:∀l:List α,(∀a∈l,gc (some (f a)::ρ) M=.ok (b a) M∧(b a=true→ge (some (f a)::ρ) M=.ok (g a) M))→cF ⟨ds0,none⟩ gc ge (l.map f) ρ M=.ok ((l.filter b).map g) M
 | [],_=>rfl
 | a::l,h=>by
  obtain⟨h1,h2⟩:=h a mem_cons_self;have ih:=sV (ds0:=ds0) l fun b hb=>h b (mem_cons_of_mem _ hb)
  rw[map_cons,cF,if_pos gx,h1];cases q:b a with
  | true=>
   rw[filter_cons_of_pos q,map_cons];show(match ge (some (f a)::ρ) M with | .ok e M2=>(cF ⟨ds0,none⟩ gc ge (l.map f) ρ M2).bind fun es M3=>.ok (e::es) M3|_=>.bad)=_;rw[h2 q];dsimp only;rw[ih,ah]
  | false=>
   rw[filter_cons_of_neg (by rw[q];exact Bool.false_ne_true)];exact ih
section
variable {x:Str}{M:av}{w h k a:Nat}
noncomputable def gT (x:Str)(a n:Nat):Str:=bU x (some ((a+2:Nat):Int)) (some ((a+2+n:Nat):Int))
theorem oP (x:Str)(a n:Nat):(gT x a n).cps.toList=(x.cps.toList.drop (a+2)).take n:=by
 unfold gT;rw[jx (by omega),show a+2+n-(a+2)=n by omega]
theorem mP:∀{t:List Nat},(∀c∈t,c<0x110000)→a8 39 (t.map fun c=>D.str ⟨#[c]⟩)=true
 | [],_=>by rw[map_nil];unfold a8;rfl
 | c::t,h=>by
  rw[map_cons];unfold a8;rw[mP fun d hd=>h d (mem_cons_of_mem _ hd)];have:PyData.strOk ⟨#[c]⟩=true:=g6 (ft (h c mem_cons_self));show(PyData.strOk ⟨#[c]⟩&&true)=true;rw[this];rfl
theorem vT {t:List Nat}(h:∀c∈t,c<0x110000):aK true (.lst (t.map fun c=>D.str ⟨#[c]⟩)) (.lst []) M=.ok (.bl (!t.isEmpty)) M:=by
 unfold aK;show(if(a8 39 (t.map fun c=>D.str ⟨#[c]⟩)&&a8 39 [])=true then aN.ok (D.bl (kq (.lst (t.map fun c=>D.str ⟨#[c]⟩)) (.lst []) != true)) M else .bad)=_;rw[mP h];cases t with
 | nil=>rfl
 | cons c t=>rfl
theorem AX (t:List Nat):(t.filter fun c=>am c==-1).isEmpty=gG t:=by
 unfold gG
 induction t with
 | nil=>rfl
 | cons c t ih=>
  rw[all_cons]
  by_cases q:am c=-1
  ·rw[filter_cons_of_pos (by simp[q])];simp[q]
  ·rw[filter_cons_of_neg (by simp[q]),ih];simp[q]
end
section
variable {x:Str}{M:av}{w h k a:Nat}
noncomputable def JI:GT:=(cb (aw (g2 je (az aO (aa (ae 8) ag)) (jt [("!",.inl 7),("*",.inr 1),("^",.inr 0)] (ae 6)))) (aw (g2 (aK true) (aX (bF (ae 8)) bP bN aJ) (cA ag))))
theorem tN {z:Str}{ρ:bc}{i:Nat}(hz:z.cps.size≤90000)(hi:ρ[i]?=some (some (.str z))):bF (ae i) ρ M=.ok ⟨z.cps.toList.map fun c=>D.str ⟨#[c]⟩,none⟩ M:=by
 have hl:z.cps.size≤sizeLine:=aY (by omega);unfold bF ae;rw[hi];rfl
theorem Jv {c m:Nat}{d9 d10:Option D}(ho:eG x)(hx:x.cps.size≤5000)(hc:c=33∨c=42∨c=94) :
  JI (lE x w h k a (some (.str ⟨#[c]⟩)) (some (.int m)) (some (.str (gT x a (nH c m)))) d9 d10) M=.ok (decide (((x.cps.toList.drop (a+2)).take (nH c m)).length<nH c m)||!gG ((x.cps.toList.drop (a+2)).take (nH c m))) M:=by
 have tb:=wK (M:=M) (m:=m) (ρ:=lE x w h k a (some (.str ⟨#[c]⟩)) (some (.int m)) (some (.str (gT x a (nH c m)))) d9 d10) hc rfl rfl;have tc:=oP x a (nH c m);have ts:(gT x a (nH c m)).cps.size≤x.cps.size:=fP;have tk:eG (gT x a (nH c m)):=jC ho;have tl:=aR (gT x a (nH c m));rw[←tc];generalize gT x a (nH c m)=z at *;generalize nH c m=n at *;have cm:aX (bF (ae 8)) bP bN aJ (lE x w h k a (some (.str ⟨#[c]⟩)) (some (.int m)) (some (.str z)) d9 d10) M=.ok (.lst ((z.cps.toList.filter fun c=>am c==-1).map fun c=>D.str ⟨#[c]⟩)) M:=
  dS (tN (by omega) rfl) (sV _ fun q hq=>⟨aL (ao (x:=.str ⟨#[q]⟩) (M1:=M) rfl (y:=.str dq) (M2:=M) rfl (kM q M)),fun _=>rfl⟩) (by rw[length_map];have:=length_filter_le (fun c=>am c==-1) z.cps.toList;omega)
 refine(dz (aL (ao (cu (x:=.str z) (M1:=M) rfl (b7 (by omega) M)) tb rfl)) fun _=>aL (ao cm (fb rfl) (vT fun q hq=>tk q (mem_filter.mp hq).1))).trans ?_;rw[AX];congr 2;exact decide_eq_decide.mpr (by omega)
end
section
variable {x:Str}{M:av}{w h k a:Nat}{hs:List Int}
theorem tu {ds0:List D}{d6 d7 d8 d9:Option D}:∀(ds:List D) (hs:List Int) (d:Option D) (M:av),1≤w→w≤hs.length→hs.length+ds.length≤900000→M[k]?=some (.lst (hs.map D.int))→
  ∃d',cH ⟨ds0,none⟩ (cT 10) bf ds (lE x w h k a d6 d7 d8 d9 d) M=.ok (.nx (lE x w h k a d6 d7 d8 d9 d')) (M.set k (.lst ((yU w ds.length hs).map D.int)))
 | [],hs,d,M,h1,h2,h3,hm=>⟨d,by
   show aN.ok _ M=.ok _ (M.set k (.lst (hs.map D.int)));rw[pQ hm]⟩
 | e::ds,hs,d,M,h1,h2,h3,hm=>by
  rw[length_cons] at h3;have hn:hs.length-w<hs.length:=by omega
  have v:bh (.mr k) (.int ((hs.length-w:Nat):Int)) M=.ok (.int (hs.getD (hs.length-w) 0)) M:=rL hm (by rw[getElem?_map,getElem?_eq_getElem hn,List.getD,getElem?_eq_getElem hn];rfl);have sb:fO (.int ((hs.map D.int).length:Int)) (.int w) M=.ok (.int ((hs.length-w:Nat):Int)) M:=by
   show aN.ok (D.int (((hs.map D.int).length:Int)-(w:Int))) M=_;rw[length_map,show(hs.length:Int)-(w:Int)=((hs.length-w:Nat):Int) by omega]
  have ap:iF (ae 4) (g2 bh (ae 4) (g2 fO (az aO (aa (ae 4) ag)) (ae 2))) (lE x w h k a d6 d7 d8 d9 (some e)) M=.ok .non (M.set k (.lst (hs.map D.int++[.int (hs.getD (hs.length-w) 0)]))):=
   si (k:=k) rfl hm (ao (x:=.mr k) (M1:=M) rfl (ao (cu (x:=.mr k) (M1:=M) rfl (iP hm)) (y:=.int w) (M2:=M) rfl sb) v) hm (by rw[length_map];omega)
  have kl:k<M.length:=(List.getElem?_eq_some_iff.mp hm).1;obtain⟨d',q⟩:=tu (ds0:=ds0) (d6:=d6) (d7:=d7) (d8:=d8) (d9:=d9) ds (hs++[hs.getD (hs.length-w) 0]) (some e) (M.set k (.lst ((hs++[hs.getD (hs.length-w) 0]).map D.int))) h1 (by rw[length_append];omega) (by rw[length_append,length_singleton];omega) (by rw[getElem?_set,if_pos rfl,if_pos kl]);refine⟨d',?_⟩;rw[cH,if_pos gx];show(bf (lE x w h k a d6 d7 d8 d9 (some e)) M).bind _=_;have bb:bf (lE x w h k a d6 d7 d8 d9 (some e)) M=.ok (.nx (lE x w h k a d6 d7 d8 d9 (some e))) (M.set k (.lst ((hs++[hs.getD (hs.length-w) 0]).map D.int))):=by
   rw[map_append];exact js ap
  rw[bb,ah];rw[set_set] at q;exact q
noncomputable def JA:GT:=(dQ (aw (g2 (aK false) (ae 6) (gC (.str "^")))) (aw (g2 je (az aO (aa (ae 4) ag)) (ae 2))))
noncomputable def Iu:GS:=(ce (aw (g2 (aK false) (ae 6) (gC (.str "*")))) (au 9 (g2 jH (ae 9) (ae 7))) aG)
noncomputable def Ie:GS:=(iQ (bM (aa (g2 dF (ae 7) (az nF (aa (g2 (aK false) (ae 6) (gC (.str "^"))) ag))) ag)) (cT 10) bf)
noncomputable def IM:GS:=(aj (au 9 (aX (bF (ae 8)) bJ bg aJ)) (aj Iu (aj Ie (aj (au 4 (g2 li (ae 4) (ae 9))) (au 5 (g2 ax (g2 ax (ae 5) (gC (.int 2))) (az aO (aa (ae 8) ag))))))))
theorem F6 (ρ:bc)(M:av):aT ρ M=aj (au 6 (g2 bh (ae 0) (ae 5))) (aj (ce Jz (a9 (gC .non)) aG) (aj (au 7 (aS bo (ae 1) (g2 bh (ae 0) (g2 ax (ae 5) (gC (.int 1)))))) (aj (au 8 (cC (ae 0) (aH (g2 ax (ae 5) (gC (.int 2)))) (aH (g2 ax (g2 ax (ae 5) (gC (.int 2))) (jt [("!",.inl 7),("*",.inr 1),("^",.inr 0)] (ae 6)))))) (aj (ce JI (a9 (gC .non)) aG) (aj (ce JA (a9 (gC .non)) aG) IM))))) ρ M:=rfl
noncomputable def ie (c m:Nat)(t:List Nat):List Int:=if c=42 then List.replicate m (am (t.getD 0 0)) else t.map am
noncomputable def qI (w c m:Nat)(hs:List Int):List Int:=if c=94 then yU w m hs else hs
theorem xA {c n:Nat}{v:Str}{ρ:bc}(hv:v=⟨#[n]⟩)(hn:n<0x110000)(hc:c<0x110000)(h:ρ[6]?=some (some (.str ⟨#[c]⟩))):g2 (aK false) (ae 6) (gC (.str v)) ρ M=.ok (.bl (decide (c=n))) M:=by
 subst hv;exact ao (x:=.str ⟨#[c]⟩) (M1:=M) (by unfold ae;rw[h]) (y:=.str ⟨#[n]⟩) (M2:=M) rfl (nO hc hn M)
theorem Ih {c m:Nat}{t:List Nat}{d8 d10:Option D}(hc:c<0x110000)(hm:m<64)(ht:c=42→t.length=1) :
  Iu (lE x w h k a (some (.str ⟨#[c]⟩)) (some (.int m)) d8 (some (.lst ((t.map am).map D.int))) d10) M=.ok (.nx (lE x w h k a (some (.str ⟨#[c]⟩)) (some (.int m)) d8 (some (.lst ((ie c m t).map D.int))) d10)) M:=by
 have tt:=aL (xA (M:=M) (ρ:=lE x w h k a (some (.str ⟨#[c]⟩)) (some (.int m)) d8 (some (.lst ((t.map am).map D.int))) d10) JE (by decide) hc rfl);unfold Iu ie
 by_cases q:c=42
 ·rw[dE (tt.trans (by rw[decide_eq_true q])),if_pos q]
  match t,ht q with
  | [v],_=>
   have mu:jH (.lst (([v].map am).map D.int)) (.int m) M=.ok (.lst ((List.replicate m (am v)).map D.int)) M:=by
    show(if 0≤(m:Int)∧(m:Int)≤100000∧[D.int (am v)].length*(m:Int).toNat≤100000 then aN.ok (D.lst (List.replicate (m:Int).toNat [D.int (am v)]).flatten) M else .bad)=_;rw[if_pos ⟨by omega,by omega,by rw[length_singleton,Int.toNat_natCast];omega⟩,Int.toNat_natCast,oC]
   exact aD (i:=9) (ao (x:=.lst (([v].map am).map D.int)) (M1:=M) rfl (y:=.int m) (M2:=M) rfl mu)
 ·rw[dY (tt.trans (by rw[decide_eq_false q])),if_neg q];rfl
theorem Jf {c m:Nat}{d8 d9 d10:Option D}(hc:c<0x110000)(hm:m<64)(h1:1≤w)(hu:c=94→w≤hs.length)(hh:hs.length≤500000)(hM:M[k]?=some (.lst (hs.map D.int))) :
  ∃d',Ie (lE x w h k a (some (.str ⟨#[c]⟩)) (some (.int m)) d8 d9 d10) M=.ok (.nx (lE x w h k a (some (.str ⟨#[c]⟩)) (some (.int m)) d8 d9 d')) (M.set k (.lst ((qI w c m hs).map D.int))):=by
 have tt:=xA (M:=M) (ρ:=lE x w h k a (some (.str ⟨#[c]⟩)) (some (.int m)) d8 d9 d10) HS (by decide) hc rfl;have mu:=iI (i:=(m:Int)) (j:=if decide (c=94)=true then 1 else 0) (by omega) (by omega) M;have ga:aa (g2 dF (ae 7) (az nF (aa (g2 (aK false) (ae 6) (gC (.str "^"))) ag))) ag (lE x w h k a (some (.str ⟨#[c]⟩)) (some (.int m)) d8 d9 d10) M=.ok [.int ((m:Int)*if decide (c=94)=true then 1 else 0)] M:=
  aZ (ao (x:=.int m) (M1:=M) rfl (cu tt rfl) mu) rfl
 unfold Ie qI
 by_cases q:c=94
 ·rw[decide_eq_true q,if_pos rfl,Int.mul_one] at ga;obtain⟨d',f⟩:=tu (x:=x) (a:=a) (h:=h) (k:=k) (ds0:=aM 0 m) (d6:=some (.str ⟨#[c]⟩)) (d7:=some (.int m)) (d8:=d8) (d9:=d9) (aM 0 m) hs d10 M h1 (hu q) (by simp[aM];omega) hM;have lm:(aM 0 m).length=m:=by simp[aM]
  rw[lm] at f;rw[if_pos q];exact⟨d',iJ (eD (n:=m) ga (by omega)) f⟩
 ·rw[decide_eq_false q,if_neg Bool.false_ne_true,Int.mul_zero] at ga;rw[if_neg q,pQ hM];exact⟨d10,iJ (eD (n:=0) ga (by omega)) rfl⟩
theorem Er {c m:Nat}:(qI w c m hs).length≤hs.length+m:=by
 unfold qI;split
 ·rw[oi];exact Nat.le_refl _
 ·omega
theorem Gu {v:Nat}{ρ:bc}(hi:ρ[1]?=some (some (.str dq)))(hv:am v≠-1):bg (some (.str ⟨#[v]⟩)::ρ) M=.ok (.int (am v)) M:=by
 unfold bg aS ae;rw[show(some (D.str ⟨#[v]⟩)::ρ)[2]?=ρ[1]? from rfl,hi];exact gE hv M
theorem IE {c m:Nat}{z:Str}{d9 d10:Option D}(hc:c<0x110000)(hm:m<64)(h1:1≤w)(hz:gG z.cps.toList=true)(hl:z.cps.toList.length≤64)(ht:c=42→z.cps.toList.length=1)(hu:c=94→w≤hs.length)(hh:hs.length≤500000)(hM:M[k]?=some (.lst (hs.map D.int))) :
  ∃d9' d',IM (lE x w h k a (some (.str ⟨#[c]⟩)) (some (.int m)) (some (.str z)) d9 d10) M=.ok (.nx (lE x w h M.length (a+2+z.cps.toList.length) (some (.str ⟨#[c]⟩)) (some (.int m)) (some (.str z)) d9' d')) (M.set k (.lst ((qI w c m hs).map D.int))++[.lst ((qI w c m hs++ie c m z.cps.toList).map D.int)]):=by
 have zl:=aR z;have cm:aX (bF (ae 8)) bJ bg aJ (lE x w h k a (some (.str ⟨#[c]⟩)) (some (.int m)) (some (.str z)) d9 d10) M=.ok (.lst ((z.cps.toList.map am).map D.int)) M:=by
  refine dS (tN (by omega) rfl) ?_ (by rw[length_map,length_map];omega);rw[map_map];refine gK _ fun v hv=>Gu rfl ?_
  have:=all_eq_true.mp hz v hv;simpa using this
 obtain⟨d',f⟩:=Jf (x:=x) (a:=a) (h:=h) (m:=m) (d8:=some (.str z)) (d9:=some (.lst ((ie c m z.cps.toList).map D.int))) (d10:=d10) hc hm h1 hu hh hM;refine⟨some (.lst ((ie c m z.cps.toList).map D.int)),d',?_⟩;have ul:=Er (w:=w) (hs:=hs) (c:=c) (m:=m);have hl2:(ie c m z.cps.toList).length≤64:=by
  unfold ie;split
  ·rw[length_replicate];omega
  ·rw[length_map];exact hl
 unfold IM;rw[ay (aD cm)];show aj _ _ (lE x w h k a (some (.str ⟨#[c]⟩)) (some (.int m)) (some (.str z)) (some (.lst ((z.cps.toList.map am).map D.int))) d10) M=_;rw[ay (Ih hc hm ht),ay f];have kl:k<M.length:=(List.getElem?_eq_some_iff.mp hM).1;have lN:(M.set k (.lst ((qI w c m hs).map D.int))).length=M.length:=length_set;have hN:(M.set k (.lst ((qI w c m hs).map D.int)))[k]?=some (.lst ((qI w c m hs).map D.int)):=by rw[getElem?_set,if_pos rfl,if_pos kl]
 generalize M.set k (.lst ((qI w c m hs).map D.int))=N at *;have ad:li (.mr k) (.lst ((ie c m z.cps.toList).map D.int)) N=.ok (.mr M.length) (N++[.lst ((qI w c m hs++ie c m z.cps.toList).map D.int)]):=by
  show(match (match N[k]? with|some (.lst xs)=>some xs|_=>none),some ((ie c m z.cps.toList).map D.int) with|some a,some b=>if a.length+b.length≤sizeLine then aN.ok (D.mr N.length) (N++[MO.lst (a++b)]) else .bad|_,_=>.bad)=_;rw[hN];dsimp only;rw[if_pos (aY (by rw[length_map,length_map];omega)),←map_append,lN]
 rw[ay (aD (ao (x:=.mr k) (M1:=N) rfl (y:=.lst ((ie c m z.cps.toList).map D.int)) (M2:=N) rfl ad))];generalize N++[MO.lst ((qI w c m hs++ie c m z.cps.toList).map D.int)]=N2;have ad2:g2 ax (g2 ax (ae 5) (gC (.int 2))) (az aO (aa (ae 8) ag)) (lE x w h M.length a (some (.str ⟨#[c]⟩)) (some (.int m)) (some (.str z)) (some (.lst ((ie c m z.cps.toList).map D.int))) d') N2=.ok (.int ((a+2+z.cps.toList.length:Nat):Int)) N2:=by
  refine ao (ao (x:=.int a) (M1:=N2) rfl (y:=.int 2) (M2:=N2) rfl rfl) (cu (x:=.str z) (M1:=N2) rfl (b7 (by omega) N2)) ?_;rw[zl];rfl
 exact aD (i:=5) ad2
end
section
variable {x:Str}{M:av}{w h k a:Nat}{hs:List Int}
theorem u5 {c m:Nat}(e:x.cps.toList.getD a 0=c)(hc:¬(c=33∨c=42∨c=94)):eo x w a hs=none:=by
 unfold eo;rw[e];cases jI ((x.cps.toList.drop (a+1)).take 1) with
 | none=>rfl
 | some m=>
  dsimp only;rw[if_neg fun z=>hc (.inl z),if_neg fun z=>hc (.inr (.inl z)),if_neg fun z=>hc (.inr (.inr z.1))]
theorem xx {c m:Nat}(e:x.cps.toList.getD a 0=c)(hc:c=33∨c=42∨c=94)(q:jI ((x.cps.toList.drop (a+1)).take 1)=some m) :
  eo x w a hs=if(((x.cps.toList.drop (a+2)).take (nH c m)).length<nH c m∨gG ((x.cps.toList.drop (a+2)).take (nH c m))=false) then none else if c=94∧hs.length<w then none else some (a+2+((x.cps.toList.drop (a+2)).take (nH c m)).length,qI w c m hs++ie c m ((x.cps.toList.drop (a+2)).take (nH c m))):=by
 unfold eo;rw[e,q];dsimp only;have tl:∀n,((x.cps.toList.drop (a+2)).take n).length≤n:=fun n=>length_take_le ..
 rcases hc with rfl|rfl|rfl
 ·have n1:nH 33 m=m:=rfl;have u1:qI w 33 m hs=hs:=rfl;have u2:∀t,ie 33 m t=t.map am:=fun t=>rfl
  rw[n1,u1,u2,if_pos rfl];have:=tl m;generalize (x.cps.toList.drop (a+2)).take m=t at *
  by_cases h1:gG t=true∧t.length=m
  ·rw[if_pos h1,if_neg (fun z=>z.elim (fun y=>by omega) fun y=>by rw[h1.1] at y;cases y),if_neg (fun z=>by cases z.1),h1.2]
  ·rw[if_neg h1,if_pos];cases q:gG t with
   | false=>exact .inr rfl
   | true=>
    have:t.length≠m:=fun z=>h1 ⟨q,z⟩
    exact .inl (by omega)
 ·have n1:nH 42 m=1:=rfl;have u1:qI w 42 m hs=hs:=rfl;have u2:∀t,ie 42 m t=List.replicate m (am (t.getD 0 0)):=fun t=>rfl
  rw[n1,u1,u2,if_neg (by decide),if_pos rfl];have:=tl 1;generalize (x.cps.toList.drop (a+2)).take 1=t at *
  by_cases h1:gG t=true∧t.length=1
  ·rw[if_pos h1,if_neg (fun z=>z.elim (fun y=>by omega) fun y=>by rw[h1.1] at y;cases y),if_neg (fun z=>by cases z.1),h1.2]
  ·rw[if_neg h1,if_pos];cases q:gG t with
   | false=>exact .inr rfl
   | true=>
    have:t.length≠1:=fun z=>h1 ⟨q,z⟩
    exact .inl (by omega)
 ·have n1:nH 94 m=0:=rfl;have u1:qI w 94 m hs=yU w m hs:=rfl;have e0:¬(([]:List Nat).length<0∨gG []=false):=fun z=>z.elim (fun y=>by cases y) fun y=>by cases y
  rw[n1,take_zero,if_neg (show¬94=33 by decide),if_neg (show¬94=42 by decide),u1,show ie 94 m []=[] from rfl,append_nil,if_neg e0]
  by_cases h1:w≤hs.length
  ·rw[if_pos ⟨rfl,h1⟩,if_neg (fun z=>by omega)];rfl
  ·rw[if_neg (fun z=>h1 z.2),if_pos ⟨rfl,by omega⟩]
theorem F4 {d6 d7 d8 d9 d10:Option D}(ho:eG x)(hx:x.cps.size≤4000)(ha:a<x.cps.size)(h1:1≤w)(hh:hs.length≤500000)(hM:M[k]?=some (.lst (hs.map D.int))) :
  (eo x w a hs=none∧aT (lE x w h k a d6 d7 d8 d9 d10) M=.ok (.rt .non) M)∨
  (∃b hs' l2 e6 e7 e8 e9 e10,eo x w a hs=some (b,hs')∧aT (lE x w h k a d6 d7 d8 d9 d10) M=.ok (.nx (lE x w h M.length b e6 e7 e8 e9 e10)) (M.set k (.lst l2)++[.lst (hs'.map D.int)])):=by
 have i0:=eU (gD ha) (show x.cps.size≤90000 by omega) M;have hc0:=nq ho ha;generalize hc:x.cps.toList.getD a 0=c at i0 hc0;have t1:=IH (M:=M) (w:=w) (h:=h) (k:=k) (a:=a) (c:=c) (d7:=d7) (d8:=d8) (d9:=d9) (d10:=d10) ho (by omega) ha;have s1:∀b:GS,aj (au 6 (g2 bh (ae 0) (ae 5))) b (lE x w h k a d6 d7 d8 d9 d10) M=b (lE x w h k a (some (.str ⟨#[c]⟩)) d7 d8 d9 d10) M:=fun b=>ay (aD (ao (x:=.str x) (M1:=M) rfl (y:=.int a) (M2:=M) rfl i0))
 generalize hO:aT (lE x w h k a d6 d7 d8 d9 d10) M=o;rw[F6,s1] at hO
 by_cases q1:c=33∨c=42∨c=94
 ·rw[decide_eq_true q1] at t1;cases q2:jI ((x.cps.toList.drop (a+1)).take 1) with
  | none=>
   rw[q2] at t1;refine .inl ⟨?_,hO.symm.trans (gP ((dE t1).trans rfl))⟩;unfold eo;rw[q2]
  | some m=>
   rw[q2] at t1;obtain⟨_,m2,_,m4,_⟩:=rg q2;have ha1:a+1<x.cps.size:=by
    rw[length_take,length_drop,aR] at m4;omega
   have cn:=sx ha1;rw[q2] at cn;rw[ay (ρ1:=lE x w h k a (some (.str ⟨#[c]⟩)) d7 d8 d9 d10) (M1:=M) ((dY t1).trans rfl)] at hO;have i1:=eU (gD ha1) (show x.cps.size≤90000 by omega) M;generalize x.cps.toList.getD (a+1) 0=v at cn i1;have hv:¬(am v=-1∨am v=0):=fun z=>by rw[if_pos z] at cn;cases cn
   rw[if_neg hv] at cn;have vm:am v=m:=by
    have:=l7 v;injection cn with cn
    omega
   have s2:aS bo (ae 1) (g2 bh (ae 0) (g2 ax (ae 5) (gC (.int 1)))) (lE x w h k a (some (.str ⟨#[c]⟩)) d7 d8 d9 d10) M=.ok (.int m) M:=by
    have e:=ao (f:=bh) (a:=ae 0) (ρ:=lE x w h k a (some (.str ⟨#[c]⟩)) d7 d8 d9 d10) (x:=.str x) (M1:=M) rfl (ao (f:=ax) (a:=ae 5) (b:=gC (.int 1)) (x:=.int a) (M1:=M) rfl (y:=.int 1) (M2:=M) rfl (o:=.ok (.int ((a+1:Nat):Int)) M) rfl) i1;show(g2 bh (ae 0) (g2 ax (ae 5) (gC (.int 1))) (lE x w h k a (some (.str ⟨#[c]⟩)) d7 d8 d9 d10) M).bind (fun d M2=>bo dq d M2)=_;rw[e,ah,←vm];exact gE (fun z=>hv (.inl z)) M
   rw[ay (aD s2)] at hO
   replace hO:aj _ _ (lE x w h k a (some (.str ⟨#[c]⟩)) (some (.int m)) d8 d9 d10) M=o:=hO
   have tb:=wK (M:=M) (m:=m) (ρ:=lE x w h k a (some (.str ⟨#[c]⟩)) (some (.int m)) d8 d9 d10) q1 rfl rfl;have s3:cC (ae 0) (aH (g2 ax (ae 5) (gC (.int 2)))) (aH (g2 ax (g2 ax (ae 5) (gC (.int 2))) (jt [("!",.inl 7),("*",.inr 1),("^",.inr 0)] (ae 6)))) (lE x w h k a (some (.str ⟨#[c]⟩)) (some (.int m)) d8 d9 d10) M=.ok (.str (gT x a (nH c m))) M:=by
    refine dC (x:=.str x) (M1:=M) rfl (lo:=some ((a+2:Nat):Int)) (M2:=M) rfl (hi:=some ((a+2+nH c m:Nat):Int)) (M3:=M) ?_ (dN (by omega) M);unfold aH;rw[ao (f:=ax) (ao (x:=.int a) (M1:=M) rfl (y:=.int 2) (M2:=M) rfl rfl) tb rfl];rfl
   rw[ay (aD s3)] at hO
   replace hO:aj _ _ (lE x w h k a (some (.str ⟨#[c]⟩)) (some (.int m)) (some (.str (gT x a (nH c m)))) d9 d10) M=o:=hO
   have t2:=Jv (M:=M) (w:=w) (h:=h) (k:=k) (a:=a) (m:=m) (d9:=d9) (d10:=d10) ho (by omega) q1;have sl:=xx (w:=w) (hs:=hs) hc q1 q2;have tc:=oP x a (nH c m);have nl:nH c m≤64:=by
    unfold nH;split
    ·omega
    ·split <;> omega
   have tl:((x.cps.toList.drop (a+2)).take (nH c m)).length≤nH c m:=length_take_le ..;have n42:c=42→nH c m=1:=fun z=>by subst z;rfl
   rw[←tc] at sl t2 tl;generalize gT x a (nH c m)=z at *;generalize nH c m=n at *
   by_cases q3:z.cps.toList.length<n∨gG z.cps.toList=false
   ·rw[if_pos q3] at sl;refine .inl ⟨sl,hO.symm.trans (gP ((dE (t2.trans ?_)).trans rfl))⟩;rcases q3 with q|q
    ·rw[decide_eq_true q];rfl
    ·rw[q,Bool.not_false,Bool.or_true]
   ·rw[if_neg q3] at sl;have zo:gG z.cps.toList=true:=by
     cases q:gG z.cps.toList with
     | true=>rfl
     | false=>exact absurd (.inr q) q3
    rw[ay (ρ1:=lE x w h k a (some (.str ⟨#[c]⟩)) (some (.int m)) (some (.str z)) d9 d10) (M1:=M) ((dY (t2.trans (by rw[decide_eq_false (fun y=>q3 (.inl y)),zo];rfl))).trans rfl)] at hO;have t3:JA (lE x w h k a (some (.str ⟨#[c]⟩)) (some (.int m)) (some (.str z)) d9 d10) M=.ok (decide (c=94)&&decide ((hs.length:Int)<w)) M:=by
     refine eL (aL (xA HS (by decide) hc0 rfl)) fun _=>aL (ao (cu (x:=.mr k) (M1:=M) rfl (iP hM)) (y:=.int w) (M2:=M) rfl ?_)
     rw[length_map];rfl
    by_cases q4:c=94∧hs.length<w
    ·rw[if_pos q4] at sl;refine .inl ⟨sl,hO.symm.trans (gP ((dE (t3.trans ?_)).trans rfl))⟩;rw[decide_eq_true q4.1,decide_eq_true (show(hs.length:Int)<w by have:=q4.2;omega)];rfl
    ·rw[if_neg q4] at sl;rw[ay (ρ1:=lE x w h k a (some (.str ⟨#[c]⟩)) (some (.int m)) (some (.str z)) d9 d10) (M1:=M) ((dY (t3.trans (by
      by_cases q5:c=94
      ·have q6:¬hs.length<w:=fun y=>q4 ⟨q5,y⟩
       rw[decide_eq_false (show¬(hs.length:Int)<w by omega),Bool.and_false]
      ·rw[decide_eq_false q5];rfl))).trans rfl)] at hO
     have g1:c=42→z.cps.toList.length=1:=fun y=>by
      have:¬z.cps.toList.length<n:=fun u=>q3 (.inl u)
      have:=n42 y;omega
     have g2:c=94→w≤hs.length:=fun y=>by
      have:¬hs.length<w:=fun u=>q4 ⟨y,u⟩
      omega
     obtain⟨e9,e10,e⟩:=IE (M:=M) (x:=x) (h:=h) (k:=k) (a:=a) (hs:=hs) (w:=w) (c:=c) (m:=m) (z:=z) (d9:=d9) (d10:=d10) hc0 m2 h1 zo (by omega) g1 g2 hh hM;exact .inr ⟨_,_,_,_,_,_,_,_,sl,hO.symm.trans e⟩
 ·rw[decide_eq_false q1] at t1;exact .inl ⟨u5 (m:=0) hc q1,hO.symm.trans (gP ((dE t1).trans rfl))⟩
end
theorem o7 {x:Str}{w:Nat}:∀{f a:Nat} {hs r:List Int},ij x w f a hs=some r→hs.length≤r.length
 | 0,a,hs,r,h=>by cases h
 | f+1,a,hs,r,h=>by
  rw[ij] at h;split at h
  ·cases q:eo x w a hs with
   | none=>rw[q] at h;cases h
   | some p=>
    obtain⟨b,hs'⟩:=p;rw[q] at h;exact Nat.le_trans (oG q).2.2 (o7 (show ij x w f b hs'=some r from h))
  ·cases h;exact Nat.le_refl _
theorem xP {t:GT}{b:GS}{n:Nat}{ρ:bc}{M M1 M2:av}{d:D}(h1:t ρ M=.ok true M1)(h2:b ρ M1=.ok (.rt d) M2):bI t b (n+1) ρ M=.ok (.rt d) M2:=by
 rw[bI,h1,ah,if_pos rfl,h2];rfl
section
variable {x:Str}{w h:Nat}{M:av}
inductive LR (x:Str) (w h:Nat) (M:av) (run:Option (List Int)) (o:aN Fl):Prop
 | no (E:av) (r:run=none) (e:o=.ok (.rt .non) (M++E)):LR x w h M run o
 | go (E:av) (hs:List Int) (k a:Nat) (d6 d7 d8 d9 d10:Option D) (hm:(M++E)[k]?=some (.lst (hs.map D.int))) (r:(x.cps.size≤a∧run=some hs)∨(a<x.cps.size∧∀r,run=some r→w*h<r.length)) (e:o=.ok (.nx (lE x w h k a d6 d7 d8 d9 d10)) (M++E)):LR x w h M run o
theorem vW (ho:eG x)(hx:x.cps.size≤4000)(h1:1≤w)(hw:w≤40):∀(f a k:Nat) (hs:List Int) (E:av) (d6 d7 d8 d9 d10:Option D) (n:Nat),x.cps.size<a+f→1≤f→hs.length≤63*a→f<n→M.length≤k→(M++E)[k]?=some (.lst (hs.map D.int))→
  LR x w h M (ij x w f a hs) (bI bt aT n (lE x w h k a d6 d7 d8 d9 d10) (M++E))
 | f,a,k,hs,E,d6,d7,d8,d9,d10,0,hf,hf1,hl,hn,hk,hm=>absurd hn (Nat.not_lt_zero _)
 | f,a,k,hs,E,d6,d7,d8,d9,d10,n+1,hf,hf1,hl,hn,hk,hm=>by
  have mw:=iI (i:=(w:Int)) (j:=(h:Int)) (by omega) (by omega) (M++E);have t:bt (lE x w h k a d6 d7 d8 d9 d10) (M++E)=.ok (decide ((a:Int)<x.cps.size)&&decide ((hs.length:Int)≤(w:Int)*h)) (M++E):=by
   refine eL (aL (ao (x:=.int a) (M1:=M++E) rfl (cu (x:=.str x) (M1:=M++E) rfl (b7 (by omega) (M++E))) rfl)) fun _=>aL (ao (cu (x:=.mr k) (M1:=M++E) rfl (iP hm)) (ao (x:=.int w) (M1:=M++E) rfl (y:=.int h) (M2:=M++E) rfl mw) ?_)
   rw[length_map];rfl
  cases f with
  | zero=>omega
  | succ f=>
   by_cases ha:a<x.cps.size
   ·have hr:ij x w (f+1) a hs=match eo x w a hs with|some (b,hs')=>ij x w f b hs'|none=>none:=by(rw[ij,if_pos ha]) <;> rfl
    by_cases hb:hs.length≤w*h
    ·have tt:=t.trans (by rw[decide_eq_true (show(a:Int)<x.cps.size by omega),decide_eq_true (show(hs.length:Int)≤(w:Int)*h by rw[←Int.natCast_mul];omega),Bool.and_self]);rcases F4 (h:=h) (d6:=d6) (d7:=d7) (d8:=d8) (d9:=d9) (d10:=d10) ho hx ha h1 (by omega) hm with⟨q,e⟩|⟨b,hs',l2,e6,e7,e8,e9,e10,q,e⟩
     ·rw[q] at hr;exact .no E hr (xP tt e)
     ·rw[q] at hr;obtain⟨s1,s2,_⟩:=oG q;rw[set_append_right _ _ hk,append_assoc] at e;rw[lK tt e,hr];have kl:k<(M++E).length:=(List.getElem?_eq_some_iff.mp hm).1;refine vW ho hx h1 hw f b (M++E).length hs' _ e6 e7 e8 e9 e10 n (by omega) (by omega) (by omega) (by omega) (by rw[length_append];omega) ?_;have ll:(M++E.set (k-M.length) (.lst l2)).length=(M++E).length:=by rw[length_append,length_append,length_set]
      rw[←append_assoc,←ll];exact iE _ _
    ·refine .go E hs k a d6 d7 d8 d9 d10 hm (.inr ⟨ha,fun r hr2=>?_⟩) (eZ (t.trans (by rw[decide_eq_false (show¬(hs.length:Int)≤(w:Int)*h by rw[←Int.natCast_mul];omega),Bool.and_false])));have:=o7 hr2;omega
   ·exact .go E hs k a d6 d7 d8 d9 d10 hm (.inl ⟨by omega,by rw[ij,if_neg ha]⟩) (eZ (t.trans (by rw[decide_eq_false (show¬(a:Int)<x.cps.size by omega)];rfl)))
end
section
variable {x:Str}{M:av}
noncomputable def xU (x:Str):D:=match kn x with
 | some rs=>.lst (aA rs)
 | none=>.non
theorem B9 {hs:List Int}{w h k a i:Nat}{d6 d7 d8 d9 d10:Option D}(hw:w≤40)(hi:i<40)(hm:M[k]?=some (.lst (hs.map D.int))):bp (some (.int i)::lE x w h k a d6 d7 d8 d9 d10) M=.ok (.lst (((hs.drop (i*w)).take w).map D.int)) M:=by
 have m1:=iI (i:=(i:Int)) (j:=(w:Int)) (by omega) (by omega) M;have e1:(i:Int)*w=((i*w:Nat):Int):=by rw[Int.natCast_mul]
 rw[e1] at m1;have s:=yc (M:=M) (i:=i*w) (j:=i*w+w) (by omega) hm;rw[show i*w+w-i*w=w by omega] at s;have p1:aH (g2 dF (ae 0) (ae 3)) (some (.int i)::lE x w h k a d6 d7 d8 d9 d10) M=.ok (some ((i*w:Nat):Int)) M:=by
  unfold aH;rw[ao (x:=.int i) (M1:=M) rfl (y:=.int w) (M2:=M) rfl m1];rfl
 have p2:aH (g2 ax (g2 dF (ae 0) (ae 3)) (ae 3)) (some (.int i)::lE x w h k a d6 d7 d8 d9 d10) M=.ok (some ((i*w+w:Nat):Int)) M:=by
  unfold aH;rw[ao (f:=ax) (ao (x:=.int i) (M1:=M) rfl (y:=.int w) (M2:=M) rfl m1) (y:=.int w) (M2:=M) rfl rfl];rfl
 exact dC (x:=.mr k) (M1:=M) rfl p1 p2 s
noncomputable def JC:GT:=(cb (aw (g2 (aK true) (az aO (aa (ae 4) ag)) (g2 dF (ae 2) (ae 3)))) (aw (g2 je (ae 5) (az aO (aa (ae 0) ag)))))
noncomputable def HF:GS:=(aj (ce JC (a9 (gC .non)) aG) (a9 (aX (bM (aa (ae 3) ag)) bJ bp aJ)))
noncomputable def yk (w h:Nat):Option (List Int)→D
 | some hs=>if hs.length=w*h then .lst (aA (ms w h hs)) else .non
 | none=>.non
theorem Dk {run:Option (List Int)}{s:GS}{ρ0:bc}{N0:av}{w h:Nat}(hx:x.cps.size≤4000)(h1:1≤w)(hw:w≤40)(hh:h≤40)(L:LR x w h M run (s ρ0 N0))(hM:M.all bu=true) :
  dJ M.length (aQ (aj s HF ρ0 N0))=.ok (yk w h run) M:=by
 cases L with
 | no E r e=>
  subst r;rw[gP e];exact dj (d:=.non) rfl hM
 | go E hs k a d6 d7 d8 d9 d10 hm r e=>
  rw[ay e];show dJ M.length (aQ (HF (lE x w h k a d6 d7 d8 d9 d10) (M++E)))=_;have mw:=iI (i:=(w:Int)) (j:=(h:Int)) (by omega) (by omega) (M++E);have t:JC (lE x w h k a d6 d7 d8 d9 d10) (M++E)=.ok ((!decide ((hs.length:Int)=(w:Int)*h))||decide ((a:Int)<x.cps.size)) (M++E):=by
   refine dz (aL (ao (cu (x:=.mr k) (M1:=M++E) rfl (iP hm)) (ao (x:=.int w) (M1:=M++E) rfl (y:=.int h) (M2:=M++E) rfl mw) ?_)) fun _=>aL (ao (x:=.int a) (M1:=M++E) rfl (cu (x:=.str x) (M1:=M++E) rfl (b7 (by omega) (M++E))) rfl)
   rw[qw,length_map]
  unfold HF;rcases r with⟨ra,rr⟩|⟨ra,rr⟩
  ·subst rr;unfold yk;dsimp only
   by_cases hl:hs.length=w*h
   ·rw[if_pos hl,ay (ρ1:=lE x w h k a d6 d7 d8 d9 d10) (M1:=M++E) ((dY (t.trans (by rw[decide_eq_true (show(hs.length:Int)=(w:Int)*h by rw[hl,Int.natCast_mul]),decide_eq_false (show¬(a:Int)<x.cps.size by omega)];rfl))).trans rfl)];have cm:aX (bM (aa (ae 3) ag)) bJ bp aJ (lE x w h k a d6 d7 d8 d9 d10) (M++E)=.ok (.lst (aA (ms w h hs))) (M++E):=by
     refine dS (eD (n:=h) (aZ (d:=.int h) (M1:=M++E) rfl rfl) (by omega)) ?_ (by unfold aA ms;simp;omega);have er:aM 0 h=(List.range h).map fun(i:Nat)=>D.int (i:Int):=by
      unfold aM;refine map_congr_left fun i _=>?_
      rw[show(0:Int)+(i:Int)=(i:Int) by omega]
     unfold aA ms;rw[er,map_map];exact gK _ fun i hi=>B9 hw (by have:=mem_range.mp hi;omega) hm
    rw[ii cm];exact dj (d:=.lst (aA (ms w h hs))) (by rw[il];exact jY _) hM
   ·have hl2:¬(hs.length:Int)=(w:Int)*h:=fun z=>hl (by rw[←Int.natCast_mul] at z;omega)
    rw[if_neg hl,gP (d:=.non) (M1:=M++E) ((dE (t.trans (by rw[decide_eq_false hl2];rfl))).trans rfl)];exact dj (d:=.non) rfl hM
  ·rw[gP (d:=.non) (M1:=M++E) ((dE (t.trans (by rw[decide_eq_true (show(a:Int)<x.cps.size by omega),Bool.or_true]))).trans rfl)];have:yk w h run=.non:=by
    cases run with
    | none=>rfl
    | some hs=>
     have:=rr hs rfl;unfold yk;dsimp only;rw[if_neg (by omega)]
   rw[this];exact dj (d:=.non) rfl hM
noncomputable def Jl:GT:=(cb (aw (g2 je (az aO (aa (ae 0) ag)) (gC (.int 2)))) (cb (aw (g2 iK (g2 bh (ae 0) (gC (.int 0))) (ae 1))) (aw (g2 iK (g2 bh (ae 0) (gC (.int 1))) (ae 1)))))
noncomputable def JK:GT:=(cb (du (aw (oH mB mB (gC (.int 1)) (ae 2) (gC (.int 40))))) (du (aw (oH mB mB (gC (.int 1)) (ae 3) (gC (.int 40))))))
theorem GB (ρ:bc)(M:av):bB ρ M=aj (au 1 (gC (.str dq))) (aj (ce Jl (a9 (gC .non)) aG) (aj (au 2 (aS bo (ae 1) (g2 bh (ae 0) (gC (.int 0))))) (aj (au 3 (aS bo (ae 1) (g2 bh (ae 0) (gC (.int 1))))) (aj (ce JK (a9 (gC .non)) aG) (aj (au 4 (iV ag)) (aj (au 5 (gC (.int 2))) (aj (fh 5000 bt aT) HF))))))) ρ M:=rfl
theorem JR {i:Nat}{v:Int}{ρ:bc}(h:ρ[i]?=some (some (.int v))):aw (oH mB mB (gC (.int 1)) (ae i) (gC (.int 40))) ρ M=.ok (decide (1≤v∧v≤40)) M:=by
 have e:ae i ρ M=.ok (.int v) M:=by unfold ae;rw[h]
 refine aL ?_;unfold oH
 by_cases h1:1≤v <;> by_cases h2:v≤40 <;> simp[gC,e,mB,ah,h1,h2]
theorem vO (ho:eG x)(hx:x.cps.size≤4000)(hM:M.all bu=true):bA [.str x] M=.ok (xU x) M:=by
 show dJ M.length (aQ (bB [some (.str x),none,none,none,none,none,none,none,none,none,none] M))=_;have ret0:dJ M.length (aQ (aN.ok (Fl.rt D.non) M))=.ok .non M:=by
  have:=dj (d:=.non) (M:=M) (E:=[]) rfl hM;rw[append_nil] at this;exact this
 have s1:∀b:GS,aj (au 1 (gC (.str dq))) b [some (.str x),none,none,none,none,none,none,none,none,none,none] M=b [some (.str x),some (.str dq),none,none,none,none,none,none,none,none,none] M:=fun b=>ay (aD rfl)
 rw[GB,s1];have t1:(aw (g2 je (az aO (aa (ae 0) ag)) (gC (.int 2)))) [some (.str x),some (.str dq),none,none,none,none,none,none,none,none,none] M=.ok (decide ((x.cps.size:Int)<2)) M:=aL (ao (cu (x:=.str x) (M1:=M) rfl (b7 (by omega) M)) (y:=.int 2) (M2:=M) rfl rfl);unfold xU kn
 by_cases h2:x.cps.size<2
 ·rw[if_neg (fun z=>by have:=z.2.1;rw[length_take,aR] at this;omega)];have g:Jl [some (.str x),some (.str dq),none,none,none,none,none,none,none,none,none] M=.ok true M:=(dz (y:=true) t1 fun z=>absurd (of_decide_eq_false z) (fun y=>y (by omega))).trans (by rw[decide_eq_true (show(x.cps.size:Int)<2 by omega)];rfl);rw[gP (d:=.non) (M1:=M) ((dE g).trans rfl)];exact ret0
 ·have i0:=eU (gD (show 0<x.cps.size by omega)) (show x.cps.size≤90000 by omega) M;have i1:=eU (gD (show 1<x.cps.size by omega)) (show x.cps.size≤90000 by omega) M;have hl2:2≤x.cps.toList.length:=by rw[aR];omega
  have et:x.cps.toList.take 2=[x.cps.toList.getD 0 0,x.cps.toList.getD 1 0]:=by
   match x.cps.toList,hl2 with
   | a::b::r,_=>rfl
  rw[et];generalize x.cps.toList.getD 0 0=c0 at *;generalize x.cps.toList.getD 1 0=c1 at *;have g:Jl [some (.str x),some (.str dq),none,none,none,none,none,none,none,none,none] M=.ok ((am c0==-1)||(am c1==-1)) M:=by
   refine(dz t1 fun _=>dz (aL (ao (f:=iK) (ao (f:=bh) (x:=.str x) (M1:=M) rfl (y:=.int (0:Nat)) (M2:=M) rfl i0) (y:=.str dq) (M2:=M) rfl (kM c0 M))) fun _=>aL (ao (f:=iK) (ao (f:=bh) (x:=.str x) (M1:=M) rfl (y:=.int (1:Nat)) (M2:=M) rfl i1) (y:=.str dq) (M2:=M) rfl (kM c1 M))).trans ?_;rw[decide_eq_false (show¬(x.cps.size:Int)<2 by omega),Bool.false_or]
  by_cases p0:am c0=-1
  ·rw[if_neg (fun z=>by have:=z.1;unfold gG at this;simp[p0] at this),gP (d:=.non) (M1:=M) ((dE (g.trans (by rw[p0];rfl))).trans rfl)];exact ret0
  ·by_cases p1:am c1=-1
   ·rw[if_neg (fun z=>by have:=z.1;unfold gG at this;simp[p1] at this),gP (d:=.non) (M1:=M) ((dE (g.trans (by rw[p1];simp))).trans rfl)];exact ret0
   ·rw[ay (ρ1:=[some (.str x),some (.str dq),none,none,none,none,none,none,none,none,none]) (M1:=M) ((dY (g.trans (by simp[p0,p1]))).trans rfl)];have s2:∀b:GS,aj (au 2 (aS bo (ae 1) (g2 bh (ae 0) (gC (.int 0))))) b [some (.str x),some (.str dq),none,none,none,none,none,none,none,none,none] M=b [some (.str x),some (.str dq),some (.int (am c0)),none,none,none,none,none,none,none,none] M:=fun b=>by
     refine ay (aD (d:=.int (am c0)) (M1:=M) ?_);show(g2 bh (ae 0) (gC (.int 0)) [some (.str x),some (.str dq),none,none,none,none,none,none,none,none,none] M).bind (fun d M2=>bo dq d M2)=_;rw[ao (f:=bh) (x:=.str x) (M1:=M) rfl (y:=.int (0:Nat)) (M2:=M) rfl i0,ah];exact gE p0 M
    have s3:∀b:GS,aj (au 3 (aS bo (ae 1) (g2 bh (ae 0) (gC (.int 1))))) b [some (.str x),some (.str dq),some (.int (am c0)),none,none,none,none,none,none,none,none] M=b [some (.str x),some (.str dq),some (.int (am c0)),some (.int (am c1)),none,none,none,none,none,none,none] M:=fun b=>by
     refine ay (aD (d:=.int (am c1)) (M1:=M) ?_);show(g2 bh (ae 0) (gC (.int 1)) [some (.str x),some (.str dq),some (.int (am c0)),none,none,none,none,none,none,none,none] M).bind (fun d M2=>bo dq d M2)=_;rw[ao (f:=bh) (x:=.str x) (M1:=M) rfl (y:=.int (1:Nat)) (M2:=M) rfl i1,ah];exact gE p1 M
    rw[s2,s3];have ok2:gG [c0,c1]=true:=by unfold gG;simp[p0,p1]
    have t4:JK [some (.str x),some (.str dq),some (.int (am c0)),some (.int (am c1)),none,none,none,none,none,none,none] M=.ok ((!decide (1≤am c0∧am c0≤40))||(!decide (1≤am c1∧am c1≤40))) M:=dz (jn (JR rfl)) fun _=>jn (JR rfl)
    by_cases hc:(1≤am c0∧am c0≤40)∧(1≤am c1∧am c1≤40)
    ·rw[if_pos ⟨ok2,rfl,hc.1,hc.2⟩];obtain⟨hw,hh⟩:=hc;generalize am c0=wi at *;generalize am c1=hi at *;obtain⟨w,rfl⟩:=Int.eq_ofNat_of_zero_le (show 0≤wi by omega);obtain⟨h,rfl⟩:=Int.eq_ofNat_of_zero_le (show 0≤hi by omega);rw[Int.toNat_natCast,Int.toNat_natCast,ay (ρ1:=[some (.str x),some (.str dq),some (.int w),some (.int h),none,none,none,none,none,none,none]) (M1:=M) ((dY (t4.trans (by rw[decide_eq_true hw,decide_eq_true hh];rfl))).trans rfl),ay (aD nD)];have s5:∀b:GS,aj (au 5 (gC (.int 2))) b ([some (.str x),some (.str dq),some (.int w),some (.int h),none,none,none,none,none,none,none].set 4 (some (.mr M.length))) (M++[MO.lst []])=b (lE x w h M.length 2 none none none none none) (M++[MO.lst []]):=fun b=>ay (aD rfl)
     rw[s5];have L:=vW (x:=x) (w:=w) (h:=h) (M:=M) ho hx (by omega) (by omega) (x.cps.size+1) 2 M.length [] [MO.lst []] none none none none none 5000 (by omega) (by omega) (Nat.zero_le _) (by omega) (Nat.le_refl _) (iE M []);refine(Dk (x:=x) hx (by omega) (by omega) (by omega) L hM).trans ?_;cases ij x w (x.cps.size+1) 2 [] with
     | none=>rfl
     | some hs=>
      unfold yk;dsimp only
      by_cases hl:hs.length=w*h
      ·rw[if_pos hl,if_pos hl]
      ·rw[if_neg hl,if_neg hl]
    ·rw[if_neg (fun z=>hc ⟨z.2.2.1,z.2.2.2⟩),gP (d:=.non) (M1:=M) ((dE (t4.trans ?_)).trans rfl)]
     ·exact ret0
     ·by_cases h5:1≤am c0∧am c0≤40
      ·rw[decide_eq_false (show¬(1≤am c1∧am c1≤40) from fun z=>hc ⟨h5,z⟩),Bool.not_false,Bool.or_true]
      ·rw[decide_eq_false h5];rfl
end
section
variable {l:List Int}{rest M:av}{sc:Option D}
noncomputable def yK (n:Nat)(x:Str):Prop:=eG x∧x.cps.size≤n
noncomputable abbrev wE (sc d2:Option D)(x:Str)(d4 d5 d6 d7 d8:Option D):bc:=[sc,some (.mr 0),d2,some (.str x),d4,d5,d6,d7,d8]
theorem qC:∀r:List Int,fL (r.map D.int) (r.map D.int)=true
 | []=>rfl
 | k::r=>by
  show((k==k)&&fL (r.map D.int) (r.map D.int))=true;rw[qC r,beq_self_eq_true];rfl
theorem pS:∀rs:List (List Int),fL (aA rs) (aA rs)=true
 | []=>rfl
 | r::rs=>by
  show(fL (r.map D.int) (r.map D.int)&&fL (aA rs) (aA rs))=true;rw[qC r,pS rs];rfl
theorem sZ (M:av):aK true (.tup [.str "text"]) (.tup [.str "text"]) M=.ok (.bl false) M:=sK (by decide +kernel) (by decide +kernel) (fun _=>rfl) M
theorem BZ (x:Str)(M:av):aK true (mv x) (mv x) M=.ok (.bl false) M:=by
 unfold mv;cases kn x with
 | none=>exact sZ M
 | some rs=>
  refine sK (d:=.lst (aA rs)) ?_ ?_ (fun _=>rfl) M
  ·show a8 39 (aA rs)=true;exact lR 38 rs
  ·show fL (aA rs) (aA rs)=true;exact pS rs
noncomputable def Jo:GS:=(aj (au 8 (ar 1 bA (aa (ae 5) ag))) (aj (ce (aw (g2 (mq false) (ae 8) (gC .non))) (au 8 (dk (aa (gC (.str "text")) ag))) aG) (ce (aw (g2 (aK true) (ar 1 bC (aa (ae 5) ag)) (ae 8))) (a9 (gC (.bl false))) aG)))
theorem Io {x y:Str}{d2 d4 d6 d7 d8:Option D}(hy:yK 4000 y)(hM:M.all bu=true):Jo (wE sc d2 x d4 (some (.str y)) d6 d7 d8) M=.ok (.nx (wE sc d2 x d4 (some (.str y)) d6 d7 (some (mv y)))) M:=by
 have r:=vO (M:=M) hy.1 hy.2 hM;have t:=ui (M:=M) hy.1 hy.2 hM;have s1:∀b:GS,aj (au 8 (ar 1 bA (aa (ae 5) ag))) b (wE sc d2 x d4 (some (.str y)) d6 d7 d8) M=b (wE sc d2 x d4 (some (.str y)) d6 d7 (some (xU y))) M:=fun b=>ay (aD (fz (x:=.str y) (M1:=M) rfl r))
 have s2:∀b:GS,aj (ce (aw (g2 (mq false) (ae 8) (gC .non))) (au 8 (dk (aa (gC (.str "text")) ag))) aG) b (wE sc d2 x d4 (some (.str y)) d6 d7 (some (xU y))) M=b (wE sc d2 x d4 (some (.str y)) d6 d7 (some (mv y))) M:=fun b=>by
  unfold xU mv;cases kn y with
  | none=>exact ay ((dE (aL rfl)).trans (aD (j9 rfl)))
  | some rs=>exact ay ((dY (aL rfl)).trans rfl)
 unfold Jo;rw[s1,s2];exact(dY (aL (ao (fz (x:=.str y) (M1:=M) rfl t) (y:=mv y) (M2:=M) rfl (BZ y M)))).trans rfl
noncomputable def Jx:GS:=(ce (aw (g2 (aK false) (ar 2 ai (aa (ae 1) (aa (gC (.int 4)) ag))) (gC (.int 0)))) (au 5 (ar 2 bi (aa (ae 1) (aa (ae 5) ag)))) aG)
noncomputable def JL:GE:=(cA (aa (cC (ae 3) bn (aH (ae 6))) (aa (cC (ae 3) (aH (ae 6)) bn) (aa (g2 ax (ae 3) (cC (ae 3) (aH (gC (.int 2))) bn)) (aa (ae 7) ag)))))
noncomputable def IY:GS:=(ce (aw (g2 (aK false) (ar 2 ai (aa (ae 1) (aa (gC (.int 8)) ag))) (gC (.int 0)))) (aj (au 6 (ar 2 ai (aa (ae 1) (aa (g2 ax (az aO (aa (ae 3) ag)) (gC (.int 1))) ag)))) (aj (au 7 (aS cR (gC (.str "")) (aX (bM (aa (gC (.int 5)) ag)) bJ iL aJ))) (au 5 (g2 bh JL (g2 dt (ae 4) (gC (.int 4))))))) aG)
theorem E7 (ρ:bc)(M:av):ma ρ M=aj (au 5 (ar 2 bi (aa (ae 1) (aa (ae 3) ag)))) (aj Jx (aj IY Jo)) ρ M:=rfl
theorem nc {ys:List Str}(h:rest.all bu=true):(rest++[MO.lst (ys.map D.str)]).all bu=true:=by
 rw[all_append,h];show(true&&(bu (.lst (ys.map D.str))&&true))=true;rw[mT];rfl
theorem Ib {x y:Str}{d2 d4 d6 d7 d8:Option D}(hy:yK 3000 y)(hp:rest.all bu=true)(t:bQ l rest M) :
  ∃y' rest' M',yK (y.cps.size+1) y'∧rest'.all bu=true∧bQ l rest' M'∧Jx (wE sc d2 x d4 (some (.str y)) d6 d7 d8) M=.ok (.nx (wE sc d2 x d4 (some (.str y')) d6 d7 d8)) M':=by
 obtain⟨f,M1,a1,b1,t1,e1⟩:=bj (many:=4) (by decide) (aW (by decide) (by decide)) t;have q:(aw (g2 (aK false) (ar 2 ai (aa (ae 1) (aa (gC (.int 4)) ag))) (gC (.int 0)))) (wE sc d2 x d4 (some (.str y)) d6 d7 d8) M=.ok (decide (f=0)) M1:=aL (ao (bV (x:=.mr 0) (M1:=M) rfl (y:=.int 4) (M2:=M) rfl e1) (y:=.int 0) (M2:=M1) rfl (ja f 0 M1));unfold Jx
 by_cases h:f=0
 ·obtain⟨y',ys,M2,o2,l2,t2,e2⟩:=oZ t1 hy.1 (by have:=hy.2;omega);refine⟨y',_,M2,⟨o2,l2⟩,nc hp,t2,?_⟩;rw[dE (q.trans (by rw[decide_eq_true h]))];exact aD (i:=5) (bV (x:=.mr 0) (M1:=M1) rfl (y:=.str y) (M2:=M1) rfl e2)
 ·refine⟨y,rest,M1,⟨hy.1,by omega⟩,hp,t1,?_⟩;rw[dY (q.trans (by rw[decide_eq_false h]))];rfl
theorem sT {P:Str→Prop}:∀{es:List D},(∀e∈es,∃k,e=.str k∧P k)→∃r:List Str,es=r.map D.str∧∀k∈r,P k
 | [],_=>⟨[],rfl,fun _ h=>by cases h⟩
 | e::es,h=>by
  obtain⟨k,rfl,hk⟩:=h e mem_cons_self;obtain⟨r,rfl,hr⟩:=sT fun e' h'=>h e' (mem_cons_of_mem _ h')
  refine⟨k::r,rfl,fun x hx=>?_⟩;rcases mem_cons.mp hx with rfl|hx
  ·exact hk
  ·exact hr x hx
theorem xF {x:Str}{d2 d4 d5 d6 d7 d8:Option D}(t:bQ l rest M) :
  ∃y M',yK 5 y∧bQ l rest M'∧aS cR (gC (.str "")) (aX (bM (aa (gC (.int 5)) ag)) bJ iL aJ) (wE sc d2 x d4 d5 d6 d7 d8) M=.ok (.str y) M':=by
 obtain⟨es,M1,t1,l1,q1,e1⟩:=kW (ds0:=aM 0 5) (ge:=iL) (ρ:=wE sc d2 x d4 d5 d6 d7 d8) (P:=bQ l rest) (Q:=fun e=>∃k,e=.str k∧∃c,c<0x110000∧k=(⟨#[c]⟩:Str)) (aM 0 5) (fun d' _ M hM=>by
  obtain⟨f,M1,a1,b1,t1,e1⟩:=bj (many:=5) (by decide) (aW (by decide) (by decide)) hM;have z5:("11!1a":Str).cps.size=5:=by decide +kernel
  obtain⟨c,hc1,e2⟩:=kO (x:="11!1a") a1 (by rw[z5];exact b1) (by decide +kernel) (lG (by decide +kernel));exact⟨.str ⟨#[c]⟩,M1,t1,⟨_,rfl,c,hc1,rfl⟩,ao (x:=.str "11!1a") (M1:=M) rfl (bV (x:=.mr 0) (M1:=M) rfl (y:=.int 5) (M2:=M) rfl e1) (e2 M1)⟩) M t
 obtain⟨ys,rfl,hy⟩:=sT q1;have ly:ys.length=5:=by
  rw[length_map] at l1;rw[l1];rfl
 have sz:∀y∈ys,y.cps.size=1:=fun y hy'=>by obtain⟨c,_,rfl⟩:=hy y hy';rfl
 have so:gM (ys.map D.str)=some ys:=by
  have:=fV (fun p:Str=>p) ys;rwa [map_id' ys] at this
 have jo:JoinOk "" ys=true:=jy (n:=1) (fun y hy=>Nat.le_of_eq (sz y hy)) (by
  have:("":Str).length=0:=by decide +kernel
  rw[this,ly];decide)
 refine⟨Txt.join "" ys,M1,⟨pb fun y hy'=>?_,by rw[o6 sz,ly];exact Nat.le_refl _⟩,t1,?_⟩
 ·obtain⟨c,hc,rfl⟩:=hy y hy';exact ft hc
 ·have cm:=dS (gi:=bM (aa (gC (.int 5)) ag)) (M:=M) (eD (n:=5) (aZ (d:=.int 5) (M1:=M) rfl rfl) (by decide)) e1 (by rw[length_map,ly];decide);show((aX (bM (aa (gC (.int 5)) ag)) bJ iL aJ) (wE sc d2 x d4 d5 d6 d7 d8) M).bind (fun d M2=>cR "" d M2)=_;rw[cm,ah];unfold cR;show(match some (ys.map D.str) with|some xs=>(match gM xs with|some ys=>if JoinOk "" ys=true then aN.ok (D.str (Txt.join "" ys)) M1 else .bad|none=>.bad)|none=>.bad)=_;dsimp only;rw[so];dsimp only;rw[if_pos jo]
theorem tz {a b:Str}(ha:eG a)(hb:eG b):eG (a++b):=fun c hc=>by
 rw[Str.cps_append,Array.toList_append] at hc;rcases mem_append.mp hc with h|h
 ·exact ha c h
 ·exact hb c h
theorem zp {a b c d:D}{n:Nat}(h:n<4):∃v,(v=a∨v=b∨v=c∨v=d)∧∀M,bh (.lst [a,b,c,d]) (.int n) M=.ok v M:=by
 match n,h with
 | 0,_=>exact⟨a,.inl rfl,fun M=>gZ (xs:=[a,b,c,d]) (k:=0) rfl⟩
 | 1,_=>exact⟨b,.inr (.inl rfl),fun M=>gZ (xs:=[a,b,c,d]) (k:=1) rfl⟩
 | 2,_=>exact⟨c,.inr (.inr (.inl rfl)),fun M=>gZ (xs:=[a,b,c,d]) (k:=2) rfl⟩
 | 3,_=>exact⟨d,.inr (.inr (.inr rfl)),fun M=>gZ (xs:=[a,b,c,d]) (k:=3) rfl⟩
theorem HX {x y:Str}{n:Nat}{d2 d6 d7 d8:Option D}(hx:yK 1000 x)(hy:yK 3000 y)(t:bQ l rest M) :
  ∃y' d6' d7' M',yK 3000 y'∧bQ l rest M'∧IY (wE sc d2 x (some (.int n)) (some (.str y)) d6 d7 d8) M=.ok (.nx (wE sc d2 x (some (.int n)) (some (.str y')) d6' d7' d8)) M':=by
 obtain⟨f,M1,a1,b1,t1,e1⟩:=bj (many:=8) (by decide) (aW (by decide) (by decide)) t;have q:(aw (g2 (aK false) (ar 2 ai (aa (ae 1) (aa (gC (.int 8)) ag))) (gC (.int 0)))) (wE sc d2 x (some (.int n)) (some (.str y)) d6 d7 d8) M=.ok (decide (f=0)) M1:=aL (ao (bV (x:=.mr 0) (M1:=M) rfl (y:=.int 8) (M2:=M) rfl e1) (y:=.int 0) (M2:=M1) rfl (ja f 0 M1));have xl:=hx.2;unfold IY
 by_cases h:f=0
 ·obtain⟨g,M2,a2,b2,t2,e2⟩:=bj (many:=(x.cps.size:Int)+1) (by omega) (aW (by omega) (by omega)) t1;have s1:∀b:GS,aj (au 6 (ar 2 ai (aa (ae 1) (aa (g2 ax (az aO (aa (ae 3) ag)) (gC (.int 1))) ag)))) b (wE sc d2 x (some (.int n)) (some (.str y)) d6 d7 d8) M1=b (wE sc d2 x (some (.int n)) (some (.str y)) (some (.int g)) d7 d8) M2:=fun b=>
   ay (aD (bV (x:=.mr 0) (M1:=M1) rfl (ao (cu (x:=.str x) (M1:=M1) rfl (b7 (by omega) M1)) (y:=.int 1) (M2:=M1) rfl rfl) e2))
  obtain⟨z,M3,hz,t3,e3⟩:=xF (sc:=sc) (x:=x) (d2:=d2) (d4:=some (.int n)) (d5:=some (.str y)) (d6:=some (.int g)) (d7:=d7) (d8:=d8) t2;have s2:∀b:GS,aj (au 7 (aS cR (gC (.str "")) (aX (bM (aa (gC (.int 5)) ag)) bJ iL aJ))) b (wE sc d2 x (some (.int n)) (some (.str y)) (some (.int g)) d7 d8) M2=b (wE sc d2 x (some (.int n)) (some (.str y)) (some (.int g)) (some (.str z)) d8) M3:=fun b=>ay (aD e3)
  obtain⟨v,hv,ev⟩:=zp (a:=.str (bU x none (some g))) (b:=.str (bU x (some g) none)) (c:=.str (x++bU x (some 2) none)) (d:=.str z) (show n % 4<4 from Nat.mod_lt _ (by decide));have c1:=fP (x:=x) (lo:=none) (hi:=some g);have c2:=fP (x:=x) (lo:=some g) (hi:=none);have c3:=fP (x:=x) (lo:=some 2) (hi:=none);obtain⟨u,hu,ou⟩:∃u,v=.str u∧yK 3000 u:=by
   rcases hv with h|h|h|h
   ·exact⟨_,h,jC hx.1,by omega⟩
   ·exact⟨_,h,jC hx.1,by omega⟩
   ·exact⟨_,h,tz hx.1 (jC hx.1),by rw[dO];omega⟩
   ·exact⟨_,h,hz.1,by have:=hz.2;omega⟩
  subst hu;have hg:∀N:av,aH (ae 6) (wE sc d2 x (some (.int n)) (some (.str y)) (some (.int g)) (some (.str z)) d8) N=.ok (some g) N:=fun N=>rfl
  have ll:JL (wE sc d2 x (some (.int n)) (some (.str y)) (some (.int g)) (some (.str z)) d8) M3=.ok (.lst [.str (bU x none (some g)),.str (bU x (some g) none),.str (x++bU x (some 2) none),.str z]) M3:=by
   refine fb (aZ (dC (x:=.str x) (M1:=M3) rfl (lo:=none) (M2:=M3) rfl (hg M3) (dN (by omega) M3)) (aZ (dC (x:=.str x) (M1:=M3) rfl (hg M3) (hi:=none) (M3:=M3) rfl (dN (by omega) M3)) (aZ (ao (x:=.str x) (M1:=M3) rfl (dC (x:=.str x) (M1:=M3) rfl (lo:=some 2) (M2:=M3) rfl (hi:=none) (M3:=M3) rfl (dN (by omega) M3)) ?_) (aZ (d:=.str z) (M1:=M3) rfl rfl))));show(if x.length+(bU x (some 2) none).length≤sizeLine then aN.ok (D.str (x++bU x (some 2) none)) M3 else .bad)=_;exact if_pos (aY (show x.cps.size+(bU x (some 2) none).cps.size≤1000000 by omega))
  have md:g2 dt (ae 4) (gC (.int 4)) (wE sc d2 x (some (.int n)) (some (.str y)) (some (.int g)) (some (.str z)) d8) M3=.ok (.int ((n % 4:Nat):Int)) M3:=by
   refine ao (x:=.int n) (M1:=M3) rfl (y:=.int 4) (M2:=M3) rfl ?_;unfold dt;dsimp only;rw[if_pos (by decide)];rfl
  refine⟨u,some (.int g),some (.str z),M3,ou,t3,?_⟩;rw[dE (q.trans (by rw[decide_eq_true h])),s1,s2];exact aD (i:=5) (ao ll md (ev M3))
 ·refine⟨y,d6,d7,M1,hy,t1,?_⟩;rw[dY (q.trans (by rw[decide_eq_false h]))];rfl
theorem y7 {x:Str}{n:Nat}{d2 d5 d6 d7 d8:Option D}(hx:yK 1000 x)(hp:rest.all bu=true)(t:bQ l rest M) :
  ∃rest' M' d5' d6' d7' d8',rest'.all bu=true∧bQ l rest' M'∧ma (wE sc d2 x (some (.int n)) d5 d6 d7 d8) M=.ok (.nx (wE sc d2 x (some (.int n)) d5' d6' d7' d8')) M':=by
 obtain⟨y1,ys,M1,o1,l1,t1,e1⟩:=oZ t hx.1 (by have:=hx.2;omega);have p1:=nc (ys:=ys) hp;have xl:=hx.2;obtain⟨y2,r2,M2,o2,p2,t2,e2⟩:=Ib (sc:=sc) (x:=x) (d2:=d2) (d4:=some (.int n)) (d6:=d6) (d7:=d7) (d8:=d8) ⟨o1,by omega⟩ p1 t1;obtain⟨y3,d6',d7',M3,o3,t3,e3⟩:=HX (sc:=sc) (x:=x) (n:=n) (d2:=d2) (d6:=d6) (d7:=d7) (d8:=d8) hx ⟨o2.1,by have:=o2.2;omega⟩ t2;have pM:M3.all bu=true:=by
  obtain⟨i,c,_,rfl⟩:=t3;exact kK p2
 have e4:=Io (sc:=sc) (x:=x) (d2:=d2) (d4:=some (.int n)) (d6:=d6') (d7:=d7') (d8:=d8) ⟨o3.1,by have:=o3.2;omega⟩ pM;refine⟨r2,M3,some (.str y3),d6',d7',some (mv y3),p2,t3,?_⟩;have s1:∀b:GS,aj (au 5 (ar 2 bi (aa (ae 1) (aa (ae 3) ag)))) b (wE sc d2 x (some (.int n)) d5 d6 d7 d8) M=b (wE sc d2 x (some (.int n)) (some (.str y1)) d6 d7 d8) M1:=fun b=>ay (aD (bV (x:=.mr 0) (M1:=M) rfl (y:=.str x) (M2:=M) rfl e1))
 rw[E7,s1,ay e2,ay e3,e4]
end
theorem sd {ds0:List D}{s:GG}{body:GS}{W:Nat→bc→av→Prop}:∀(ds:List D) (i:Nat),(∀j d,ds[j]?=some d→∀ρ M,W (i+j) ρ M→∃ρ1 ρ2 M2,s d ρ=some ρ1∧body ρ1 M=.ok (.nx ρ2) M2∧W (i+j+1) ρ2 M2)→∀ρ M,W i ρ M→
  ∃ρ' M',W (i+ds.length) ρ' M'∧cH ⟨ds0,none⟩ s body ds ρ M=.ok (.nx ρ') M'
 | [],i,h,ρ,M,hW=>⟨ρ,M,hW,rfl⟩
 | d::ds,i,h,ρ,M,hW=>by
  obtain⟨ρ1,ρ2,M2,e1,e2,h2⟩:=h 0 d rfl ρ M hW;obtain⟨ρ',M',h3,e3⟩:=sd (ds0:=ds0) (s:=s) (body:=body) (W:=W) ds (i+1) (fun j d' hd ρ M hW=>by
   have e:i+1+j=i+(j+1):=by omega
   rw[e] at hW ⊢;exact h (j+1) d' hd ρ M hW) ρ2 M2 h2
  refine⟨ρ',M',?_,by simp[cH,gx,e1,e2,e3]⟩;have e:i+(d::ds).length=i+1+ds.length:=by simp;omega
  rw[e];exact h3
theorem qM {lo:Int}{n j:Nat}{d:D}(h:(aM lo n)[j]?=some d):j<n∧d=.int (lo+j):=by
 unfold aM at h;rw[getElem?_map] at h;cases q:(List.range n)[j]? with
 | none=>rw[q] at h;cases h
 | some k=>
  rw[q] at h;obtain⟨hj,ek⟩:=List.getElem?_eq_some_iff.mp q;rw[length_range] at hj;rw[getElem_range] at ek;subst ek;cases h;exact⟨hj,rfl⟩
theorem vQ {f:Int}(h0:0≤f)(h1:f<2):∃v,1≤v∧v≤12∧∀M,bh (.lst [.int 4,.int 12]) (.int f) M=.ok (.int v) M:=by
 have:f=0∨f=1:=by omega
 rcases this with rfl|rfl
 ·exact⟨4,by decide,by decide,fun M=>gZ (xs:=[.int 4,.int 12]) (k:=0) rfl⟩
 ·exact⟨12,by decide,by decide,fun M=>gZ (xs:=[.int 4,.int 12]) (k:=1) rfl⟩
theorem x8 {sc:Option D}{d:D}{M:av}(hM:M.all bu=true)(h:kt "str" (ae 0) [some d,none,none,none,none] M=.ok (.bl false) M):jV [sc,some (.mr 0),some d,none,none,none,none,none,none] M=.ok (.nx [sc,some (.mr 0),some d,none,none,none,none,none,none]) M:=
 (dY (aL (ao (fz (x:=d) (M1:=M) rfl (pF hM (zr hM h))) (j9 rfl) (sZ M)))).trans rfl
noncomputable def gp:List D:=[.non,.int 7,.lst [],.tup [.str "11"],.bl true,.lst [.str "1",.str "1"]]
theorem law_true (ns:List Int)(hl:ns.length≤63):∃M',tq [.ro (ns.map D.int)] []=.ok (.bl true) M':=by
 generalize hsc:D.ro (ns.map D.int)=sc;have l3:(3:Nat)≤sizeLine:=aY (by decide);have t0:bQ ns [] [tp ns 0 0]:=⟨0,0,by decide,rfl⟩;have p0:([tp ns 0 0]:av).all bu=true:=kK rfl;have s1:∀b:GS,aj (au 1 (iV (aa (az fG (aa (ae 0) ag)) (aa (gC (.int 0)) (aa (gC (.int 0)) ag))))) b [some sc,none,none,none,none,none,none,none,none] []=b [some sc,some (.mr 0),none,none,none,none,none,none,none] [tp ns 0 0]:=fun b=>by
  subst hsc;refine ay (aD (d:=.mr 0) (M1:=[tp ns 0 0]) ?_);show(if [D.lst (ns.map D.int),.int 0,.int 0].length≤sizeLine then aN.ok (D.mr 0) [MO.lst [D.lst (ns.map D.int),.int 0,.int 0]] else .bad)=_;rw[if_pos (show [D.lst (ns.map D.int),.int 0,.int 0].length≤sizeLine from l3)];rfl
 have f1:∃d,cH ⟨gp,none⟩ (cT 2) jV gp [some sc,some (.mr 0),none,none,none,none,none,none,none] [tp ns 0 0]=.ok (.nx [some sc,some (.mr 0),d,none,none,none,none,none,none]) [tp ns 0 0]:=by
  obtain⟨ρ',M',⟨d,e1,e2⟩,e⟩:=sd (ds0:=gp) (s:=cT 2) (body:=jV) (W:=fun _ ρ N=>∃d,ρ=[some sc,some (.mr 0),d,none,none,none,none,none,none]∧N=[tp ns 0 0]) gp 0 (fun j dd hd ρ N hW=>by
   obtain⟨d,rfl,rfl⟩:=hW;refine⟨_,_,_,rfl,x8 p0 ?_,some dd,rfl,rfl⟩;have:=mem_of_getElem? hd;unfold gp at this;simp only[mem_cons,mem_nil_iff,or_false] at this;rcases this with rfl|rfl|rfl|rfl|rfl|rfl <;> rfl) _ _ ⟨none,rfl,rfl⟩
  subst e1 e2;exact⟨d,e⟩
 obtain⟨d2,f1⟩:=f1;have g1:bF (cA (aa (gC .non) (aa (gC (.int 7)) (aa (cA ag) (aa (dk (aa (gC (.str "11")) ag)) (aa (gC (.bl true)) (aa (cA (aa (gC (.str "1")) (aa (gC (.str "1")) ag))) ag))))))) [some sc,some (.mr 0),none,none,none,none,none,none,none] [tp ns 0 0]=.ok ⟨gp,none⟩ [tp ns 0 0]:=by
  unfold bF;rw[fb (ds:=gp) (aZ rfl (aZ rfl (aZ (fb rfl) (aZ (j9 rfl) (aZ rfl (aZ (fb rfl) rfl)))))),ah];rfl
 have s2:∀b:GS,aj (iQ (bF (cA (aa (gC .non) (aa (gC (.int 7)) (aa (cA ag) (aa (dk (aa (gC (.str "11")) ag)) (aa (gC (.bl true)) (aa (cA (aa (gC (.str "1")) (aa (gC (.str "1")) ag))) ag)))))))) (cT 2) jV) b [some sc,some (.mr 0),none,none,none,none,none,none,none] [tp ns 0 0]=b [some sc,some (.mr 0),d2,none,none,none,none,none,none] [tp ns 0 0]:=fun b=>ay (iJ g1 f1)
 obtain⟨f,M1,a1,b1,t1,e1⟩:=bj (many:=2) (by decide) (aW (by decide) (by decide)) t0;obtain⟨most,m1,m2,em⟩:=vQ a1 b1;obtain⟨rs,w,M2,w1,w2,r1,r2,hrs,t2,e2⟩:=yL m1 (by omega) (rest:=[]) rfl t1;have p2:M2.all bu=true:=by
  obtain⟨i,c,_,rfl⟩:=t2;exact kK rfl
 obtain⟨T,hT,e3⟩:=uZ hrs (fun z=>by rw[z] at r1;cases r1) (by omega) (by omega) p2;have hx0:(en rs).cps.size=w*rs.length:=by unfold en;rw[gW,kT hrs]
 have hx:(en rs).cps.size≤144:=by rw[hx0];exact Nat.mul_le_mul (show w≤12 by omega) (show rs.length≤12 by omega)
 have ts:=hT.size 0 (Nat.le_refl _) (Nat.zero_le _);have ot:=hT.ok 0 (Nat.le_refl _) (Nat.zero_le _);have ox:yK 1000 (aV [(w:Int),(rs.length:Int)]++T.getD 0 ""):=by
  refine⟨tz (xc fun k hk=>?_) ot,?_⟩
  ·rcases mem_cons.mp hk with rfl|hk
   ·exact⟨by omega,by omega⟩
   ·rw[mem_singleton.mp hk];exact⟨by omega,by omega⟩
  ·rw[dO,gW];show 2+_≤1000;omega
 generalize aV [(w:Int),(rs.length:Int)]++T.getD 0 ""=x at *;have s3:∀b:GS,aj (au 3 (ar 1 jg (aa (ar 2 dB (aa (ae 1) (aa (g2 bh (cA (aa (gC (.int 4)) (aa (gC (.int 12)) ag))) (ar 2 ai (aa (ae 1) (aa (gC (.int 2)) ag)))) ag))) ag))) b [some sc,some (.mr 0),d2,none,none,none,none,none,none] [tp ns 0 0]=b (wE (some sc) d2 x none none none none none) M2:=fun b=>by
  refine ay (aD (fz (bV (x:=.mr 0) (M1:=[tp ns 0 0]) rfl (ao (fb (ds:=[.int 4,.int 12]) rfl) (bV (x:=.mr 0) (M1:=[tp ns 0 0]) rfl (y:=.int 2) (M2:=[tp ns 0 0]) rfl e1) (em M1)) e2) e3))
 obtain⟨ρ',N,_,ef⟩:=sd (ds0:=aM 0 8) (s:=cT 4) (body:=ma) (W:=fun _ ρ N=>∃(d4 d5 d6 d7 d8:Option D) (rm:av),ρ=wE (some sc) d2 x d4 d5 d6 d7 d8∧rm.all bu=true∧bQ ns rm N) (aM 0 8) 0 (fun j dd hd ρ N hW=>by
  obtain⟨d4,d5,d6,d7,d8,rm,rfl,hr,t⟩:=hW;obtain⟨hj,rfl⟩:=qM hd;rw[Int.zero_add];obtain⟨rm',N',d5',d6',d7',d8',hr',t',e⟩:=y7 (sc:=some sc) (n:=j) (d2:=d2) (d5:=d5) (d6:=d6) (d7:=d7) (d8:=d8) ox hr t;exact⟨_,_,N',rfl,e,some (.int j),d5',d6',d7',d8',rm',rfl,hr',t'⟩) (wE (some sc) d2 x none none none none none) M2 ⟨none,none,none,none,none,[],rfl,rfl,t2⟩
 refine⟨N,?_⟩;show aQ (sI [some sc,none,none,none,none,none,none,none,none] [])=_;unfold sI;rw[s1,s2,s3];refine congrArg aQ ((ay (iJ (t:=⟨aM 0 8,none⟩) (eD (n:=8) (aZ rfl rfl) (by decide)) ef)).trans (ii rfl))
end K40
theorem PySem.Challenge.cw_glowrow_k40_whole_packings_spoilt_anywhe_holds : PySem.Challenge.rw_glowrow_k40_whole_packings_spoilt_anywhe.Holds :=
 K40.pre K40.law_true
