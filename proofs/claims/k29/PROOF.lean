import PyProof.Rows.All
import Wide.All
import KE.KNestM
import OpenK.KOwn
import OpenK.KRaise
import KE.KIsAll
import KE.KTypeName
import Wide.FinOn
import Lean
import PyProof.EqAt
import PyProof.EqKinds
import PyProof.TupleCall
import PyProof.Draws
import PyProof.EnumMake
import KE.KLam
import KE.KMinKey
import PyProof.StrCalls2
import PyProof.Rows.StrIndexOr
import PyProof.CollectIter
import PyProof.ListStr
import KE.KDictLaws
import PyProof.P3Eq
import KE.KSortTup
import KE.KDictList
import PyProof.ZipIter
import PyProof.Rows.ZipGen
import PySem.Challenge.RW_glowrow_k29_what_is_a_film
set_option Elab.async false
set_option linter.all false
set_option maxRecDepth 100000
set_option maxHeartbeats 4000000
namespace L2
open PySem PySem.Spec PyProof.Rows List
abbrev nC:=Sum Int Str
def zl:nC→Value→Bool
 | .inl k,v=>Value.isInt k v
 | .inr x,v=>Value.isStrOf x v
def FG (w:World):nC→Int
 | .inl k=>hashInt k
 | .inr x=>hashStr w x
theorem cn:∀{k:nC} {v:Value},zl k v=true→(∃i t,k=Sum.inl i∧v=Value.int i t)∨(∃x t,k=Sum.inr x∧v=Value.str x t)
 | .inl i,v,h=>by
  obtain⟨t,e⟩:=Value.isInt_shape (k:=i) (v:=v) h;exact .inl ⟨i,t,rfl,e⟩
 | .inr x,v,h=>by
  obtain⟨t,e⟩:=Value.isStrOf_shape (x:=x) (v:=v) h;exact .inr ⟨x,t,rfl,e⟩
theorem BP (a b:Int):decide ((Sum.inl a:nC)=Sum.inl b)=(a==b):=by
 by_cases e:a=b
 ·subst e;simp
 ·have h:¬(Sum.inl a:nC)=Sum.inl b:=fun q=>e (Sum.inl.inj q)
  rw[decide_eq_false h];exact(beq_eq_false_iff_ne.mpr e).symm
theorem BZ (a b:Str):decide ((Sum.inr a:nC)=Sum.inr b)=decide (a=b):=by
 by_cases e:a=b
 ·subst e;simp
 ·have h:¬(Sum.inr a:nC)=Sum.inr b:=fun q=>e (Sum.inr.inj q)
  rw[decide_eq_false h,decide_eq_false e]
theorem Aj (a:Int)(b:Str):decide ((Sum.inl a:nC)=Sum.inr b)=false:=decide_eq_false (fun q=>nomatch q)
theorem Aq (a:Str)(b:Int):decide ((Sum.inr a:nC)=Sum.inl b)=false:=decide_eq_false (fun q=>nomatch q)
def nZ (prog:Program)(w:World):PySem.KeyKind prog w nC where
 is:=zl
 hash:=FG w
 inj:=fun v a b ha hb=>by
  rcases cn ha with⟨i,t,rfl,rfl⟩|⟨x,t,rfl,rfl⟩
  ·rcases cn hb with⟨j,u,rfl,e⟩|⟨y,u,rfl,e⟩
   ·injection e with e1 _;rw[e1]
   ·exact nomatch e
  ·rcases cn hb with⟨j,u,rfl,e⟩|⟨y,u,rfl,e⟩
   ·exact nomatch e
   ·injection e with e1 _;rw[e1]
 byValue:=fun k v h=>by
  rcases cn h with⟨i,t,rfl,rfl⟩|⟨x,t,rfl,rfl⟩ <;> rfl
 pyHash:=fun hv h=>by
  rcases cn hv with⟨i,t,rfl,rfl⟩|⟨x,t,rfl,rfl⟩
  ·exact wpAny_pyHash_int h
  ·exact wpAny_pyHash_str h
 eqBool:=fun hu hv h=>by
  rcases cn hu with⟨i,t,rfl,rfl⟩|⟨x,t,rfl,rfl⟩
  ·rcases cn hv with⟨j,u,rfl,rfl⟩|⟨y,u,rfl,rfl⟩
   ·rw[BP] at h;exact wpAny_eqBool_int h
   ·rw[Aj] at h;exact SeqAt.EqAt.int_str i t y u _ _ _ _ h
  ·rcases cn hv with⟨j,u,rfl,rfl⟩|⟨y,u,rfl,rfl⟩
   ·rw[Aq] at h;exact SeqAt.EqAt.str_int x t j u _ _ _ _ h
   ·rw[BZ] at h;exact wpAny_eqBool_str h
 «strs»:=fun k x t v h=>by
  rcases cn h with⟨i,u,rfl,e⟩|⟨y,u,rfl,e⟩
  ·exact nomatch e
  ·injection e with e1 _
   subst e1;cases v <;> rfl
inductive V where
 | non|bl (b:Bool)|int (i:Int)|str (x:Str)|byt (b:Array UInt8)|flt (b:UInt64)|ref (a:Addr)|ty (n:String)
 deriving DecidableEq
def RelV:V→Value→Prop
 | .non,u=>u=Value.none
 | .bl b,u=>u=Value.bool b
 | .int i,u=>∃t,u=Value.int i t
 | .str x,u=>∃t,u=Value.str x t
 | .byt b,u=>∃t,u=Value.bytes b t
 | .flt b,u=>∃t,u=Value.float b t
 | .ref a,u=>u=Value.ref a
 | .ty n,u=>u=Value.type n
abbrev bi:List V→List Value→Prop:=Paired RelV
theorem bi.length {xs:List V}{us:List Value}(r:bi xs us):xs.length=us.length:=Paired.length r
theorem bi.get:∀{xs:List V} {us:List Value} {i:Nat} {x:V},bi xs us→xs[i]?=some x→∃u,us[i]?=some u∧RelV x u
 | _,_,_,_,.nil,e=>by simp at e
 | _,_,0,_,.cons r _,e=>by simp at e;subst e;exact⟨_,rfl,r⟩
 | _,_,i+1,x,.cons _ t,e=>by
  obtain⟨u,h1,h2⟩:=bi.get (i:=i) (x:=x) t (by simpa using e);exact⟨u,by simpa using h1,h2⟩
theorem bi.set {x:V}{u:Value}(r:RelV x u):∀{xs:List V} {us:List Value} (i:Nat),bi xs us→bi (xs.set i x) (us.set i u)
 | _,_,_,.nil=>.nil
 | _,_,0,.cons _ t=>.cons r t
 | _,_,i+1,.cons q t=>.cons q (bi.set r i t)
theorem bi.append:∀{xs ys:List V} {us ws:List Value},bi xs us→bi ys ws→bi (xs++ys) (us++ws)
 | _,_,_,_,.nil,s=>s
 | _,_,_,_,.cons r t,s=>.cons r (bi.append t s)
theorem bi.take:∀{xs:List V} {us:List Value} (n:Nat),bi xs us→bi (xs.take n) (us.take n)
 | _,_,0,_=>.nil
 | _,_,_+1,.nil=>.nil
 | _,_,n+1,.cons r t=>.cons r (bi.take n t)
theorem bi.drop:∀{xs:List V} {us:List Value} (n:Nat),bi xs us→bi (xs.drop n) (us.drop n)
 | _,_,0,r=>r
 | _,_,_+1,.nil=>.nil
 | _,_,n+1,.cons _ t=>bi.drop n t
def yN:Option V→Option Value→Prop
 | some v,some u=>RelV v u
 | none,none=>True
 | _,_=>False
def KV {κ:Type}:List (κ×V)→List (κ×Value)→Prop:=Paired fun(p:κ×V) (q:κ×Value)=>p.1=q.1∧RelV p.2 q.2
def kV:nC→V
 | .inl i=>.int i
 | .inr x=>.str x
inductive HO where
 | lst (xs:List V)
 | tup (xs:List V)
 | dK (kvs:List (nC×V))|dT (kvs:List (List nC×V))
 | set (S:Int→Bool) (n:Nat)
 | ins (C dx:Addr) (fs:List (Str×V))
 | own (x:Addr)
 | xd (fs:List (Str×V))
 | met (f x:Addr)
 | rng (lo hi:Int)
 | frz (o:Obj) (u:HO)
 | tbl (ps:Array Value)
 | ext (φ:Heap→Prop)
abbrev Hp:=Addr→Option HO
def cN (H:Hp)(a:Addr)(o:HO):Hp:=fun b=>if b=a then some o else H b
theorem cH {H:Hp}{a:Addr}{o:HO}:cN H a o a=some o:=by unfold cN;rw[if_pos rfl]
theorem ax {H:Hp}{a b:Addr}{o:HO}(h:b≠a):cN H a o b=H b:=by unfold cN;rw[if_neg h]
theorem re {H:Hp}{a b:Addr}{o u:HO}(h:H a=some o)(h':H b=some u)(d:o≠u):a≠b:=by
 intro e;subst e;rw[h] at h';exact d (Option.some.inj h')
theorem bE {H:Hp}{a b:Addr}{o:HO}(h:H a=some o)(h':H b=none):a≠b:=by
 intro e;subst e;rw[h] at h';cases h'
section
variable (P:Program)(w:World)
def eZ (H:Hp)(h:Heap)(a:Addr):HO→Prop
 | .lst xs=>xs.length≤sizeLine∧∃(its:List Value) (n:Nat),bi xs its∧h.get? a=some {cls:=.type "list",data:=.seq its.toArray n}
 | .tup xs=>xs.length≤sizeLine∧∃its:List Value,bi xs its∧IsTup h a its.toArray
 | .dK kvs=>kvs.length≤sizeLine∧(a==sysModules)=false∧∃vs,KV kvs vs∧h.DictOf (nZ P w) a vs
 | .dT kvs=>kvs.length≤sizeLine∧(a==sysModules)=false∧∃xs:List (List nC×Addr×Value),
   Paired (fun(p:List nC×V) (q:List nC×Addr×Value)=>p.1=q.1∧H q.2.1=some (.tup (p.1.map kV))∧RelV p.2 q.2.2) kvs xs∧
   ∃o es ep,h.get? a=some o∧o.ExactDict∧o.data=.dict es ep∧es.toList=xs.map (entryOfKey (tupleKind (nZ P w)))∧(xs.map (·.1)).Nodup
 | .set S n=>h.SetOf (intKind P w) a S n
 | .ins C dx fs=>H dx=some (.own a)∧fs.length≤1000∧dx≠a∧h.get? a=some (W.instObj C dx)∧
   ∃mA,h.Ns1 dx mA∧(∀f,yN (fs.lookup f) (mA f))∧PySem.Within mA (fs.map (·.1))
 | .own _=>∃o,h.get? a=some o
 | .xd fs=>∃mA,h.Ns1 a mA∧∀f,yN (fs.lookup f) (mA f)
 | .rng lo hi=>∃t u v,h.get? a=some {cls:=.type "range",data:=.fields #[.int lo t,.int hi u,.int 1 v]}
 | .frz o u=>h.get? a=some o∧eZ H h a u
 | .tbl ps=>h.get? a=some {cls:=.none,data:=.fields ps}
 | .met f x=>h.get? a=some (W.methodObj (.ref f) (.ref x))
 | .ext φ=>φ h∧(∃o,h.get? a=some o)∧∀h1 h2:Heap,φ h1→(∀o,h1.get? a=some o→h2.get? a=some o)→φ h2
def k6 (H:Hp)(h:Heap):Prop:=∀a o,H a=some o→eZ P w H h a o
end
section
variable {P:Program}{w:World}{H H':Hp}{h h':Heap}{a:Addr}{o:HO}
theorem eZ.lt (x:eZ P w H h a o):a<h.objs.size:=by
 cases o with
 | lst xs=>obtain⟨_,_,_,_,e⟩:=x;exact Heap.lt_size e
 | tup xs=>obtain⟨_,_,_,p⟩:=x;exact p.lt
 | dK kvs=>obtain⟨_,_,_,_,o,_,_,e,_⟩:=x;exact Heap.lt_size e
 | dT kvs=>obtain⟨_,_,_,_,o,_,_,e,_⟩:=x;exact Heap.lt_size e
 | set S n=>obtain⟨o,_,_,_,e,_⟩:=x;exact Heap.lt_size e
 | ins C dx fs=>obtain⟨_,_,_,e,_⟩:=x;exact Heap.lt_size e
 | own y=>obtain⟨_,e⟩:=x;exact Heap.lt_size e
 | xd fs=>obtain⟨_,⟨_,_,_,e,_⟩,_⟩:=x;exact Heap.lt_size e
 | rng lo hi=>obtain⟨_,_,_,e⟩:=x;exact Heap.lt_size e
 | frz ob u=>obtain⟨e,_⟩:=x;exact Heap.lt_size e
 | tbl ps=>exact Heap.lt_size (show h.get? a=some _ from x)
 | met f y=>exact Heap.lt_size (show h.get? a=some _ from x)
 | ext φ=>obtain⟨_,⟨_,e⟩,_⟩:=x;exact Heap.lt_size e
theorem Paired.mapP {α β:Type}{F G:α→β→Prop}:∀{l₁:List α} {l₂:List β},Paired F l₁ l₂→(∀a b,F a b→G a b)→Paired G l₁ l₂
 | _,_,.nil,_=>.nil
 | _,_,.cons r t,f=>.cons (f _ _ r) (Paired.mapP t f)
theorem eZ.stay (x:eZ P w H h a o)(k:∀b u,(b=a∨H b=some (.own a))→h.get? b=some u→h'.get? b=some u)
  (ho:∀b,H b=some (.own a)→H' b=some (.own a)) (ht:∀b xs,H b=some (.tup xs)→H' b=some (.tup xs)):eZ P w H' h' a o:=by
 induction o with
 | lst xs=>obtain⟨z,its,n,r,e⟩:=x;exact⟨z,its,n,r,k _ _ (.inl rfl) e⟩
 | tup xs=>obtain⟨z,its,r,ob,e,c⟩:=x;exact⟨z,its,r,ob,k _ _ (.inl rfl) e,c⟩
 | dK kvs=>obtain⟨z,y,vs,r,ob,es,ep,e,c⟩:=x;exact⟨z,y,vs,r,ob,es,ep,k _ _ (.inl rfl) e,c⟩
 | dT kvs=>
  obtain⟨z,y,xs,r,ob,es,ep,e,c⟩:=x;exact⟨z,y,xs,Paired.mapP r fun p q z=>⟨z.1,ht _ _ z.2.1,z.2.2⟩,ob,es,ep,k _ _ (.inl rfl) e,c⟩
 | set S n=>obtain⟨ob,es,ep,t,e,c⟩:=x;exact⟨ob,es,ep,t,k _ _ (.inl rfl) e,c⟩
 | ins C dx fs=>
  obtain⟨d,z,ne,e,mA,⟨od,es,ep,e2,c⟩,r⟩:=x;exact⟨ho _ d,z,ne,k _ _ (.inl rfl) e,mA,⟨od,es,ep,k _ _ (.inr d) e2,c⟩,r⟩
 | own y=>obtain⟨ob,e⟩:=x;exact⟨ob,k _ _ (.inl rfl) e⟩
 | xd fs=>obtain⟨mA,⟨od,es,ep,e,c⟩,r⟩:=x;exact⟨mA,⟨od,es,ep,k _ _ (.inl rfl) e,c⟩,r⟩
 | rng lo hi=>obtain⟨t,u,v,e⟩:=x;exact⟨t,u,v,k _ _ (.inl rfl) e⟩
 | frz ob u ih=>obtain⟨e,q⟩:=x;exact⟨k _ _ (.inl rfl) e,ih q⟩
 | tbl ps=>
  have e:h.get? a=some {cls:=.none,data:=.fields ps}:=x;show h'.get? a=some {cls:=.none,data:=.fields ps};exact k a _ (.inl rfl) e
 | met f y=>
  have e:h.get? a=some (W.methodObj (.ref f) (.ref y)):=x;show h'.get? a=some (W.methodObj (.ref f) (.ref y));exact k a _ (.inl rfl) e
 | ext φ=>obtain⟨p,⟨o,e⟩,st⟩:=x;exact⟨st _ _ p fun o q=>k _ _ (.inl rfl) q,⟨o,k _ _ (.inl rfl) e⟩,st⟩
theorem k6.lt (x:k6 P w H h)(e:H a=some o):a<h.objs.size:=(x a o e).lt
theorem k6.fresh (x:k6 P w H h)(e:h.objs.size≤a):H a=none:=by
 cases q:H a with
 | none=>rfl
 | some u=>exact absurd (Nat.lt_of_lt_of_le (x.lt q) e) (Nat.lt_irrefl _)
theorem k6.kept (x:k6 P w H h)(k:∀b u,h.get? b=some u→h'.get? b=some u):k6 P w H h':=fun a o e=>
 (x a o e).stay (fun b u _ q=>k b u q) (fun _ q=>q) fun _ _ q=>q
theorem k6.laid (x:k6 P w H h)(k:∀b u,h.get? b=some u→h'.get? b=some u)(hp:h.objs.size≤a)(new:eZ P w (cN H a o) h' a o):k6 P w (cN H a o) h':=fun b u e=>by
 have hn:=x.fresh hp
 by_cases hb:b=a
 ·subst hb;rw[cH] at e;cases e;exact new
 ·rw[ax hb] at e;exact(x b u e).stay (fun c v _ q=>k c v q) (fun c q=>by rw[ax (bE q hn)];exact q) fun c xs q=>by rw[ax (bE q hn)];exact q
end
def Rd (H:Hp)(a:Addr)(u:HO):Prop:=H a=some u∨∃o,H a=some (.frz o u)
theorem Rd.ok {P:Program}{w:World}{H:Hp}{h:Heap}{a:Addr}{u:HO}(r:Rd H a u)(x:k6 P w H h):eZ P w H h a u:=by
 rcases r with r|⟨o,r⟩
 ·exact x a u r
 ·obtain⟨_,q⟩:=x a _ r;exact q
def Ew:Option HO→Prop
 | some (.lst _)=>True
 | some (.dK _)=>True
 | some (.dT _)=>True
 | some (.set _ _)=>True
 | some (.ins _ _ _)=>True
 | some (.ext _)=>True
 | _=>False
section
variable {P:Program}{w:World}{H:Hp}{h h':Heap}{x e:Addr}{o':HO}
theorem k6.write (ok:k6 P w H h)(mu:Ew (H x))(he:e=x∨H e=some (.own x))(k:∀b u,b≠e→h.get? b=some u→h'.get? b=some u)(heo:∃u,h'.get? e=some u)
  (new:eZ P w (cN H x o') h' x o'):k6 P w (cN H x o') h':=fun b u q=>by
 have nown:∀c y,H c=some (.own y)→c≠x:=fun c y r z=>by subst z;rw[r] at mu;exact mu
 have ntup:∀c xs,H c=some (.tup xs)→c≠x:=fun c xs r z=>by subst z;rw[r] at mu;exact mu
 by_cases hb:b=x
 ·subst hb;rw[cH] at q;cases q;exact new
 ·rw[ax hb] at q
  by_cases hbe:b=e
  ·have q':H b=some (.own x):=by
    rcases he with z|z
    ·exact absurd (hbe.trans z) hb
    ·rw[hbe];exact z
   rw[q] at q';cases q';obtain⟨v,hv⟩:=heo;exact⟨v,by rw[hbe];exact hv⟩
  ·refine(ok b u q).stay (fun c v hc r=>k c v ?_ r) (fun c r=>by rw[ax (nown c b r)];exact r) fun c xs r=>by rw[ax (ntup c xs r)];exact r
   rcases hc with rfl|hc
   ·exact hbe
   ·rintro rfl;rcases he with z|z
    ·exact nown c b hc z
    ·rw[hc] at z;cases z;exact hb rfl
end
structure Un (fs ex:List Addr)(H H':Hp)(h h':Heap):Prop where
 keep:∀b o,h.get? b=some o→H b=none→b∉fs→b∉ex→h'.get? b=some o
 slot:∀b o,h.get? b=some o→H b=none→b∈fs→b∉ex→∃sl,h'.get? b=some {o with slots:=sl}
 free:∀b o,h.get? b=some o→H b=none→b∉ex→H' b=none
 there:∀b o,h.get? b=some o→b∉ex→∃o',h'.get? b=some o'
 tups:∀b xs,H b=some (.tup xs)→H' b=some (.tup xs)
 frzs:∀b o u,H b=some (.frz o u)→H' b=some (.frz o u)
 tbls:∀b ps,H b=some (.tbl ps)→∃more,H' b=some (.tbl (ps++more))
section
variable {fs fs' ex ex':List Addr}{H H1 H2:Hp}{h h1 h2 h':Heap}{a x e:Addr}{o:HO}
theorem Un.any (u:Un fs ex H H1 h h1){b:Addr}{ob:Obj}(q:h.get? b=some ob)(n:H b=none)(hx:b∉ex):∃sl,h1.get? b=some {ob with slots:=sl}:=by
 by_cases hb:b∈fs
 ·exact u.slot b ob q n hb hx
 ·exact⟨ob.slots,u.keep b ob q n hb hx⟩
theorem Un.kept (k:∀b u,h.get? b=some u→h'.get? b=some u):Un fs ex H H h h':=
 ⟨fun b ob q _ _ _=>k b ob q,fun b ob q _ _ _=>⟨ob.slots,k b ob q⟩,fun _ _ _ n _=>n,fun b ob q _=>⟨ob,k b ob q⟩,fun _ _ q=>q,fun _ _ _ q=>q,fun _ ps q=>⟨#[],by rw[q];simp⟩⟩
theorem Un.refl:Un fs ex H H h h:=Un.kept fun _ _ q=>q
theorem Un.laid (k:∀b u,h.get? b=some u→h'.get? b=some u)(hp:h.objs.size≤a)(hn:H a=none):Un fs ex H (cN H a o) h h' where
 keep:=fun b u q _ _ _=>k b u q
 slot:=fun b u q _ _ _=>⟨u.slots,k b u q⟩
 free:=fun b u q n _=>by rw[ax (Nat.ne_of_lt (Nat.lt_of_lt_of_le (Heap.lt_size q) hp))];exact n
 there:=fun b u q _=>⟨u,k b u q⟩
 tups:=fun b xs q=>by rw[ax (bE q hn)];exact q
 frzs:=fun b u xs q=>by rw[ax (bE q hn)];exact q
 tbls:=fun b ps q=>⟨#[],by rw[ax (bE q hn),q];simp⟩
theorem Un.write (mu:Ew (H x))(he:e=x∨H e=some (.own x))(k:∀b u,b≠e→h.get? b=some u→h'.get? b=some u)(heo:∃u,h'.get? e=some u):Un fs ex H (cN H x o) h h':=by
 have hx:∀b,H b=none→b≠x:=fun b n z=>by subst z;rw[n] at mu;exact mu
 have hb:∀b,H b=none→b≠e:=fun b n z=>by
  subst z;rcases he with r|r
  ·exact hx b n r
  ·rw[n] at r;cases r
 have hm:∀b u,H b=some u→¬Ew (some u)→b≠x:=fun b u q nm z=>by subst z;rw[q] at mu;exact nm mu
 refine⟨fun b u q n _ _=>k b u (hb b n) q,fun b u q n _ _=>⟨u.slots,k b u (hb b n) q⟩,fun b u q n _=>by rw[ax (hx b n)];exact n,fun b u q _=>?_,
  fun b xs q=>by rw[ax (hm b _ q fun z=>z)];exact q,fun b u xs q=>by rw[ax (hm b _ q fun z=>z)];exact q,fun b ps q=>⟨#[],by rw[ax (hm b _ q fun z=>z),q];simp⟩⟩
 by_cases hbe:b=e
 ·subst hbe;exact heo
 ·exact⟨u,k b u hbe q⟩
end
def trk (h:Heap)(H:Hp):List Addr:=(List.range h.objs.size).filter fun a=>(H a).isSome
def nY (h:Heap)(H:Hp):Heap:=W.hideAll h (trk h H)
theorem sw (h:Heap)(H:Hp):(nY h H).objs.size=h.objs.size:=W.hideAll_size _ _
theorem vb {h:Heap}{H:Hp}{b:Addr}{o:Obj}(e:h.get? b=some o)(n:H b=none):(nY h H).get? b=some o:=
 W.hideAll_get _ e fun hm=>by
  have q:(H b).isSome=true:=(mem_filter.mp hm).2;rw[n] at q;simp at q
theorem yP {h:Heap}{H:Hp}{b:Addr}{o:Obj}(e:(nY h H).get? b=some o):h.get? b=some o∧H b=none:=by
 have e':h.get? b=some o:=W.of_hideAll (trk h H) e;refine⟨e',?_⟩;cases q:H b with
 | none=>rfl
 | some x=>
  have hm:b∈trk h H:=mem_filter.mpr ⟨mem_range.mpr (Heap.lt_size e'),by simp[q]⟩;have z:(nY h H).get? b=none:=W.hideAll_none (trk h H) hm;rw[z] at e;cases e
def yj (g h:Heap)(L:Addr):List (Addr×Obj):=(List.range h.objs.size).filterMap fun a=>if a=L∨(g.get? a).isSome=true then none else(h.get? a).map fun o=>(a,o)
def rest (g h:Heap)(L d:Addr):List (Addr×Obj):=(yj g h L).filter fun p=>decide (p.1≠d)
structure Mod (K:W.Frag)(mg:Str→Option Value)(base:Heap):Prop where
 kin:K.In base
 glob:base.Ns mainGlobals mg
 blt:∃mb,base.Ns builtinsNs mb∧∀x:Str,x≠"__name__"→mb x=bootBuiltins x
 nolimit:base.NoLimit
structure Cx where
 prog:Program
 w:World
 K:W.Frag
 mg:Str→Option Value
 base:Heap
 A:Around
 N:List Str
 s₀:Shared
 H₀:Hp
 env:Env
 outer:List Env
 stack:List Env
 ex:List Addr
 fn:Str→Bool
 calm:Bool
 pn:List (Addr×Obj)
 xe:Value→Shared→Prop
def lP (l:List Env):List Addr:=l.filterMap (·.frame)
abbrev Cx.fs (X:Cx):List Addr:=lP X.outer
def CG (sc:Scope)(x:Str):Prop:=sc.names.lookup x=some .local∨sc.names.lookup x=some .cell∨sc.names.lookup x=some .free
def wJ (sc:Scope)(x:Str):Prop:=sc.names.lookup x=some .local∨sc.names.lookup x=some .cell
def E4 (env:Env)(h:Heap)(m:Str→Option Value)(x:Str)(u:Value):Prop:=
 (env.kindOf x=some .local∧m x=some u)∨((env.kindOf x=some .cell∨env.kindOf x=some .free)∧∃c,env.cells.lookup x=some c∧h.IsCell c (some u))
structure Cx.Ok (X:Cx):Prop where
 mod:Mod X.K X.mg X.base
 kind:X.env.scope.kind=.function
 glob:X.env.globals=mainGlobals
 blt:X.env.builtins=builtinsNs
 above:X.s₀.heap.objs.size≤X.env.locals
 inj:∀x y c,X.env.cells.lookup x=some c→X.env.cells.lookup y=some c→x=y
 has:∀x,(X.env.kindOf x=some .cell∨X.env.kindOf x=some .free)→∃c,X.env.cells.lookup x=some c
 cab:∀x c,X.fn x=true→X.env.cells.lookup x=some c→X.s₀.heap.objs.size≤c
 hd:X.calm=true→X.A.handled=none
 frames:X.A.frames=some X.stack
 stk:X.stack=X.outer∨(X.stack=X.env::X.outer∧X.env.frame=some X.env.locals)
 exf:∀b∈X.ex,b≠X.env.locals∧∀x c,X.env.cells.lookup x=some c→c≠b
 bs:∀b o,X.base.get? b=some o→X.s₀.heap.get? b=some o∧X.H₀ b=none
 bsz:X.base.objs.size≤X.s₀.heap.objs.size
 noex:∀b o,X.base.get? b=some o→b∉X.ex
 exfs:∀b∈X.ex,b∉X.fs
 funs:X.s₀.heap.FunFrames X.base X.outer
 frf:∀b∈X.fs,X.H₀ b=none
structure Inv (X:Cx)(ag:List (Addr×Obj))(σ:List (Option V))(H:Hp)(s:Shared):Prop where
 ok:X.Ok
 os:s.os=X.s₀.os
 bare:AllBare s.gens
 base:Un X.fs X.ex X.H₀ H X.s₀.heap s.heap
 loc:∃m,s.heap.Ns X.env.locals m∧∀(i:Nat) (x:Str) (v:V),X.N[i]?=some x→σ[i]?=some (some v)→CG X.env.scope x→∃u,RelV v u∧E4 X.env s.heap m x u
 cell:∀x c,X.env.cells.lookup x=some c→∃v,s.heap.IsCell c v
 free:H X.env.locals=none
 freeC:∀x c,X.env.cells.lookup x=some c→H c=none
 pin:∀p∈X.pn++ag,s.heap.get? p.1=some p.2∧H p.1=none∧p.1≠X.env.locals∧p.1∉X.fs∧∀v,p.2.data≠.cell v
 hok:k6 X.prog X.w H s.heap
 len:σ.length=X.N.length
section
variable {X:Cx}{ag:List (Addr×Obj)}{σ:List (Option V)}{H H':Hp}{s:Shared}{h':Heap}
theorem Cx.Ok.nofr (ok:X.Ok){b:Addr}{o:Obj}(e:X.base.get? b=some o):b∉X.fs:=fun hb=>by
 have:=(ok.funs.mem hb).1;rw[e] at this;cases this
theorem Inv.bs (I:Inv X ag σ H s):∀b o,X.base.get? b=some o→s.heap.get? b=some o∧H b=none:=fun b o e=>
 ⟨I.base.keep b o (I.ok.bs b o e).1 (I.ok.bs b o e).2 (I.ok.nofr e) (I.ok.noex b o e),I.base.free b o (I.ok.bs b o e).1 (I.ok.bs b o e).2 (I.ok.noex b o e)⟩
theorem Inv.bk (I:Inv X ag σ H s):∀b o,X.base.get? b=some o→s.heap.get? b=some o:=fun b o e=>(I.bs b o e).1
theorem Inv.mod (I:Inv X ag σ H s):Mod X.K X.mg X.base:=I.ok.mod
theorem Inv.kIn (I:Inv X ag σ H s):X.K.In s.heap:=I.ok.mod.kin.keeps I.bk
theorem Inv.lt (I:Inv X ag σ H s):X.env.locals<s.heap.objs.size:=let ⟨_,hn,_⟩:=I.loc;hn.lt
theorem Inv.sz (I:Inv X ag σ H s):X.s₀.heap.objs.size≤s.heap.objs.size:=Nat.le_trans I.ok.above (Nat.le_of_lt I.lt)
theorem Inv.nofs (I:Inv X ag σ H s){a:Addr}(h:s.heap.objs.size≤a):a∉X.fs:=fun hb=>by
 obtain⟨_,o,ho,_⟩:=I.ok.funs.mem hb;exact absurd (Nat.lt_of_lt_of_le (Heap.lt_size ho) (Nat.le_trans I.sz h)) (Nat.lt_irrefl _)
theorem Inv.cne (I:Inv X ag σ H s):∀x c,X.env.cells.lookup x=some c→c≠X.env.locals:=fun x c e z=>by
 obtain⟨v,o,ho,hd⟩:=I.cell x c e;obtain⟨m,⟨o',es,ep,ho',hd',_⟩,_⟩:=I.loc;rw[z,ho'] at ho;cases ho;rw[hd'] at hd;cases hd
theorem Inv.funs (I:Inv X ag σ H s):s.heap.FunFrames X.base X.outer:=by
 have all:∀(l:List Env),(∀b∈lP l,b∈X.fs)→X.s₀.heap.FunFrames X.base l→s.heap.FunFrames X.base l:=by
  intro l
  induction l with
  | nil=>intro _ _;trivial
  | cons env r ih=>
   intro hs hl;obtain⟨hk,⟨L,o,hf,hn,ho,hd⟩,hr⟩:=hl;have hL:L∈X.fs:=hs L (by unfold lP;rw[filterMap_cons,hf];exact mem_cons_self);obtain⟨sl,e⟩:=I.base.slot L o ho (I.ok.frf L hL) hL fun z=>I.ok.exfs L z hL
   exact⟨hk,⟨L,_,hf,hn,e,hd⟩,ih (fun b hb=>hs b (by unfold lP;rw[filterMap_cons,hf];exact mem_cons_of_mem _ hb)) hr⟩
 exact all X.outer (fun _ hb=>hb) I.ok.funs
theorem Inv.stack (I:Inv X ag σ H s):s.heap.FunFrames X.base X.stack:=by
 rcases I.ok.stk with e|⟨e,hf⟩
 ·rw[e];exact I.funs
 ·rw[e];obtain⟨m,hn,_⟩:=I.loc;refine .cons (by rw[I.ok.kind];decide) hf hn ?_ I.funs;exact Heap.get?_none_of_le (Nat.le_trans I.ok.bsz I.ok.above)
theorem Inv.stkSub (I:Inv X ag σ H s):∀b∈lP X.stack,b∈X.env.locals::X.fs:=fun b hb=>by
 rcases I.ok.stk with e|⟨e,hf⟩
 ·rw[e] at hb;exact mem_cons_of_mem _ hb
 ·rw[e] at hb;unfold lP at hb;rw[filterMap_cons,hf] at hb;exact hb
theorem Inv.stkFree (I:Inv X ag σ H s):∀b∈lP X.stack,H b=none:=fun b hb=>by
 rcases mem_cons.mp (I.stkSub b hb) with e|hb
 ·rw[e];exact I.free
 ·obtain⟨_,o,ho,_⟩:=I.ok.funs.mem hb;exact I.base.free b o ho (I.ok.frf b hb) fun z=>I.ok.exfs b z hb
theorem Inv.step {g':Array GenState}{t':Nat}{d':Drawn}{ch:List Addr}(I:Inv X ag σ H s)
  (hch:∀b∈ch,(b∈X.ex∨X.s₀.heap.objs.size≤b)∧b≠X.env.locals∧(∀x c,X.env.cells.lookup x=some c→c≠b)∧∀p∈X.pn++ag,p.1≠b)
  (keep:∀b o,b≠X.env.locals→b∉X.fs→b∉ch→s.heap.get? b=some o→H b=none→h'.get? b=some o)
  (slot:∀b o,b≠X.env.locals→b∈X.fs→b∉ch→s.heap.get? b=some o→H b=none→∃sl,h'.get? b=some {o with slots:=sl}) (free:∀b o,b∉ch→s.heap.get? b=some o→H b=none→H' b=none)
  (there:∀b o,b∉ch→s.heap.get? b=some o→∃o',h'.get? b=some o')
  (tups:∀b xs,H b=some (.tup xs)→H' b=some (.tup xs)) (frzs:∀b o u,H b=some (.frz o u)→H' b=some (.frz o u)) (tbls:∀b ps,H b=some (.tbl ps)→∃more,H' b=some (.tbl (ps++more)))
  (ns:∀m,s.heap.Ns X.env.locals m→h'.Ns X.env.locals m) (hok:k6 X.prog X.w H' h') (hg:AllBare g') :
  Inv X ag σ H' {s with heap:=h',gens:=g',drawn:=d',toks:=t'}:=by
 have neL:∀b o,X.s₀.heap.get? b=some o→b≠X.env.locals:=fun b o e=>Nat.ne_of_lt (Nat.lt_of_lt_of_le (Heap.lt_size e) I.ok.above)
 have neC:∀b o,X.s₀.heap.get? b=some o→b∉X.ex→b∉ch:=fun b o e hx hb=>by
  rcases(hch b hb).1 with z|z
  ·exact hx z
  ·exact absurd (Nat.lt_of_lt_of_le (Heap.lt_size e) z) (Nat.lt_irrefl _)
 have cellK:∀x c,X.env.cells.lookup x=some c→∀v,s.heap.IsCell c v→h'.IsCell c v:=fun x c e v hxx=>by
  obtain⟨o,ho,hd⟩:=hxx;have nch:c∉ch:=fun z=>(hch c z).2.2.1 x c e rfl
  by_cases hc:c∈X.fs
  ·obtain⟨sl,q⟩:=slot c o (I.cne x c e) hc nch ho (I.freeC x c e);exact⟨_,q,hd⟩
  ·exact⟨o,keep c o (I.cne x c e) hc nch ho (I.freeC x c e),hd⟩
 refine⟨I.ok,I.os,hg,⟨fun b o e n hb hx=>?_,fun b o e n hb hx=>?_,fun b o e n hx=>?_,fun b o e hx=>?_,fun b xs e=>tups b xs (I.base.tups b xs e),fun b o xs e=>frzs b o xs (I.base.frzs b o xs e),fun b ps e=>?_⟩,?_,fun x c e=>?_,?_,fun x c e=>?_,fun p hp=>?_,hok,I.len⟩
 ·exact keep b o (neL b o e) hb (neC b o e hx) (I.base.keep b o e n hb hx) (I.base.free b o e n hx)
 ·obtain⟨sl,e1⟩:=I.base.slot b o e n hb hx;obtain⟨sl',e2⟩:=slot b _ (neL b o e) hb (neC b o e hx) e1 (I.base.free b o e n hx);exact⟨sl',e2⟩
 ·obtain⟨o',e1⟩:=I.base.there b o e hx;exact free b o' (neC b o e hx) e1 (I.base.free b o e n hx)
 ·obtain⟨o',e1⟩:=I.base.there b o e hx;exact there b o' (neC b o e hx) e1
 ·obtain⟨m1,e1⟩:=I.base.tbls b ps e;obtain⟨m2,e2⟩:=tbls b _ e1;exact⟨m1++m2,by rw[e2,Array.append_assoc]⟩
 ·obtain⟨m,hn,hl⟩:=I.loc;refine⟨m,ns m hn,fun i x v e1 e2 e3=>?_⟩;obtain⟨u,r,l⟩:=hl i x v e1 e2 e3;refine⟨u,r,?_⟩;rcases l with l|⟨k,c,e,z⟩
  ·exact .inl l
  ·exact .inr ⟨k,c,e,cellK x c e _ z⟩
 ·obtain⟨v,z⟩:=I.cell x c e;exact⟨v,cellK x c e v z⟩
 ·obtain⟨m,⟨o,_,_,ho,_⟩,_⟩:=I.loc;exact free _ o (fun z=>(hch _ z).2.1 rfl) ho I.free
 ·obtain⟨v,o,ho,hd⟩:=I.cell x c e;exact free c o (fun z=>(hch c z).2.2.1 x c e rfl) ho (I.freeC x c e)
 ·obtain⟨e,n,ne,nf,d⟩:=I.pin p hp;have nch:p.1∉ch:=fun z=>(hch p.1 z).2.2.2 p hp rfl
  exact⟨keep p.1 p.2 ne nf nch e n,free p.1 p.2 nch e n,ne,nf,d⟩
theorem Inv.un {t':Nat}(I:Inv X ag σ H s)(u:Un X.fs [] H H' s.heap h')(hok:k6 X.prog X.w H' h'):Inv X ag σ H' {s with heap:=h',toks:=t'}:=by
 obtain⟨m,⟨o,es,ep,ho,r⟩,_⟩:=id I.loc;obtain⟨sl,hL⟩:=u.any ho I.free (by simp);exact I.step (g':=s.gens) (d':=s.drawn) (ch:=[]) (fun _ z=>nomatch z) (fun b o _ hb _ e n=>u.keep b o e n hb (by simp)) (fun b o _ hb _ e n=>u.slot b o e n hb (by simp)) (fun b o _ e n=>u.free b o e n (by simp)) (fun b o _ e=>u.there b o e (by simp)) u.tups u.frzs u.tbls (fun m' hm=>by
  obtain⟨o',es',ep',ho',r'⟩:=hm;rw[ho] at ho';cases ho';exact⟨_,es',ep',hL,r'⟩) hok I.bare
theorem Inv.call {g':Array GenState}{t':Nat}{d':Drawn}{ch:List Addr}(I:Inv X ag σ H s)(u:Un (lP X.stack) ch H H' s.heap h')(hok:k6 X.prog X.w H' h')(hg:AllBare g')
  (hch:∀b∈ch,(b∈X.ex∨X.s₀.heap.objs.size≤b)∧b≠X.env.locals∧(∀x c,X.env.cells.lookup x=some c→c≠b)∧∀p∈X.pn++ag,p.1≠b) :
  Inv X ag σ H' {s with heap:=h',gens:=g',drawn:=d',toks:=t'}:=by
 obtain⟨m,⟨o,es,ep,ho,r⟩,_⟩:=id I.loc;obtain⟨sl,hL⟩:=u.any ho I.free fun z=>(hch _ z).2.1 rfl
 exact I.step (ch:=ch) hch (fun b o hL hb hc e n=>u.keep b o e n (fun z=>(mem_cons.mp (I.stkSub b z)).elim hL hb) hc) (fun b o _ _ hc e n=>u.any e n hc) (fun b o hc e n=>u.free b o e n hc) (fun b o hc e=>u.there b o e hc) u.tups u.frzs u.tbls (fun m' hm=>by
  obtain⟨o',es',ep',ho',r'⟩:=hm;rw[ho] at ho';cases ho';exact⟨_,es',ep',hL,r'⟩) hok hg
theorem Inv.turned {t':Nat}{it:Addr}(I:Inv X ag σ H s)(k:∀b o,b≠it→s.heap.get? b=some o→h'.get? b=some o)(hn:H it=none)(hL:it≠X.env.locals)
  (h1:it∈X.ex∨X.s₀.heap.objs.size≤it) (h2:∀x c,X.env.cells.lookup x=some c→c≠it) (h3:∀p∈X.pn++ag,p.1≠it):Inv X ag σ H {s with heap:=h',toks:=t'}:=by
 have nit:∀b u,H b=some u→b≠it:=fun b u e z=>by rw[z,hn] at e;cases e
 refine I.step (g':=s.gens) (d':=s.drawn) (ch:=[it]) (fun b hb=>?_) (fun b o _ _ hc e _=>k b o (fun z=>hc (by simp[z])) e) (fun b o _ _ hc e _=>⟨o.slots,k b o (fun z=>hc (by simp[z])) e⟩) (fun _ _ _ _ n=>n)
  (fun b o hc e=>⟨o,k b o (fun z=>hc (by simp[z])) e⟩) (fun _ _ e=>e) (fun _ _ _ e=>e) (fun b ps e=>⟨#[],by rw[e];simp⟩) (fun m hm=>?_) (fun b u e=>?_) I.bare
 ·have e:b=it:=by simpa using hb
  subst e;exact⟨h1,hL,h2,h3⟩
 ·obtain⟨o,es,ep,ho,r⟩:=hm;exact⟨o,es,ep,k _ o (Ne.symm hL) ho,r⟩
 ·refine(I.hok b u e).stay (fun c v hc q=>k c v ?_ q) (fun _ q=>q) fun _ _ q=>q
  rcases hc with z|z
  ·rw[z];exact nit b u e
  ·exact nit c _ z
theorem Inv.tok (I:Inv X ag σ H s)(t:Nat):Inv X ag σ H {s with toks:=t}:=I.un (h':=s.heap) (t':=t) Un.refl I.hok
theorem Inv.kept {t':Nat}(I:Inv X ag σ H s)(k:∀b u,s.heap.get? b=some u→h'.get? b=some u):Inv X ag σ H {s with heap:=h',toks:=t'}:=I.un (Un.kept k) (I.hok.kept k)
theorem Inv.laid {a:Addr}{o:HO}{t':Nat}(I:Inv X ag σ H s)(k:∀b u,s.heap.get? b=some u→h'.get? b=some u)(hp:s.heap.objs.size≤a)(new:eZ X.prog X.w (cN H a o) h' a o) :
  Inv X ag σ (cN H a o) {s with heap:=h',toks:=t'}:=I.un (Un.laid k hp (I.hok.fresh hp)) (I.hok.laid k hp new)
theorem Inv.write {x e:Addr}{o:HO}{t':Nat}(I:Inv X ag σ H s)(mu:Ew (H x))(he:e=x∨H e=some (.own x))(k:∀b u,b≠e→s.heap.get? b=some u→h'.get? b=some u)(heo:∃u,h'.get? e=some u)
  (new:eZ X.prog X.w (cN H x o) h' x o):Inv X ag σ (cN H x o) {s with heap:=h',toks:=t'}:=I.un (Un.write mu he k heo) (I.hok.write mu he k heo new)
theorem Inv.pins_of {pins':List (Addr×Obj)}(I:Inv X ag σ H s)(h:∀p∈pins',s.heap.get? p.1=some p.2∧H p.1=none∧p.1≠X.env.locals∧p.1∉X.fs∧∀v,p.2.data≠.cell v):Inv X pins' σ H s:=
 ⟨I.ok,I.os,I.bare,I.base,I.loc,I.cell,I.free,I.freeC,fun p hp=>(mem_append.mp hp).elim (fun z=>I.pin p (mem_append_left _ z)) (h p),I.hok,I.len⟩
theorem lI {N:List Str}(hN:N.Nodup){i j:Nat}{x:Str}(a:N[i]?=some x)(b:N[j]?=some x):i=j:=by
 obtain⟨h1,e1⟩:=List.getElem?_eq_some_iff.mp a;obtain⟨h2,e2⟩:=List.getElem?_eq_some_iff.mp b;exact(getElem_inj hN).mp (e1.trans e2.symm)
theorem tW {M:Model}{A:Around}{E:Value→Shared→Prop}{i:Nat}{x:Str}{v:V}{u:Value}{Q:Unit→Shared→Prop}(I:Inv X ag σ H s)(hN:X.N.Nodup)(hi:X.N[i]?=some x)(hx:wJ X.env.scope x)(r:RelV v u)
  (h:∀s',Inv X ag (σ.set i (some v)) H s'→(∃a,Heap.SameBut a s.heap s'.heap∧(a=X.env.locals∨X.env.cells.lookup x=some a))→Q () s') (hf:X.fn x=true∨X.env.scope.names.lookup x=some .local:=by first|exact .inl rfl|exact .inr rfl|assumption):wpAny M A (storeName X.env x u) Q E s:=by
 obtain⟨m,hn,hl⟩:=id I.loc;have hcls:(X.env.scope.kind==.class||(X.env.scope.kind==.module&&X.env.locals != X.env.globals))=false:=by rw[I.ok.kind];rfl
 have hiσ:i<σ.length:=by rw[I.len];exact(List.getElem?_eq_some_iff.mp hi).1
 have cne:=I.cne;have tracked:∀{a:Addr} {h':Heap},(∃o,s.heap.get? a=some o∧H a=none)→Heap.SameBut a s.heap h'→k6 X.prog X.w H h':=fun {a h'} ha hs b ob e=>by
  obtain⟨_,_,hfree⟩:=ha;refine(I.hok b ob e).stay (fun c w' hc q=>(hs.2 c ?_).trans q) (fun _ q=>q) fun _ _ q=>q
  rintro rfl;rcases hc with rfl|hc
  ·rw[hfree] at e;cases e
  ·rw[hfree] at hc;cases hc
 rcases hx with hk|hk
 ·refine wpAny_storeName_local hk hn (fun h' hn' hs=>?_) hcls;obtain⟨oL,_,_,hoL,_⟩:=id hn;refine h _ ⟨I.ok,I.os,I.bare,⟨fun b o e n hb hx=>?_,fun b o e n hb hx=>?_,I.base.free,fun b o e hx=>?_,I.base.tups,I.base.frzs,I.base.tbls⟩,⟨_,hn',fun j y v' e1 e2 e3=>?_⟩,fun y c e=>?_,I.free,I.freeC,fun p hp=>?_,tracked ⟨oL,hoL,I.free⟩ hs,by simpa using I.len⟩ ⟨_,hs,.inl rfl⟩
  ·exact(hs.2 b (Nat.ne_of_lt (Nat.lt_of_lt_of_le (Heap.lt_size e) I.ok.above))).trans (I.base.keep b o e n hb hx)
  ·obtain⟨sl,e1⟩:=I.base.slot b o e n hb hx;exact⟨sl,(hs.2 b (Nat.ne_of_lt (Nat.lt_of_lt_of_le (Heap.lt_size e) I.ok.above))).trans e1⟩
  ·obtain⟨o',e1⟩:=I.base.there b o e hx;exact⟨o',(hs.2 b (Nat.ne_of_lt (Nat.lt_of_lt_of_le (Heap.lt_size e) I.ok.above))).trans e1⟩
  ·by_cases hj:j=i
   ·subst hj;rw[hi] at e1;cases e1;rw[getElem?_set_self hiσ] at e2;cases e2;exact⟨u,r,.inl ⟨hk,by simp⟩⟩
   ·rw[getElem?_set_ne (Ne.symm hj)] at e2;obtain⟨u',r',q⟩:=hl j y v' e1 e2 e3;refine⟨u',r',?_⟩;rcases q with⟨k,e⟩|⟨k,c,e,z⟩
    ·refine .inl ⟨k,?_⟩;have:y≠x:=fun e=>hj (lI hN e1 (e▸hi))
     simp[this,e]
    ·exact .inr ⟨k,c,e,z.sameBut hs (cne y c e)⟩
  ·obtain⟨w',z⟩:=I.cell y c e;exact⟨w',z.sameBut hs (cne y c e)⟩
  ·obtain⟨e,n,ne,nf,d⟩:=I.pin p hp;exact⟨(hs.2 p.1 ne).trans e,n,ne,nf,d⟩
 ·have hfn:X.fn x=true:=by
   rcases hf with z|z
   ·exact z
   ·rw[z] at hk;cases hk
  obtain⟨c,hc⟩:=I.ok.has x (.inl hk);obtain⟨w',z⟩:=I.cell x c hc;refine wpAny_storeName_cell I.ok.kind hk hc z (fun h' hc' hs=>?_);obtain⟨oc,hoc,hocd⟩:=id z;refine h {s with heap:=h'} ⟨I.ok,I.os,I.bare,⟨fun b o e n hb hx=>?_,fun b o e n hb hx=>?_,I.base.free,fun b o e hx=>?_,I.base.tups,I.base.frzs,I.base.tbls⟩,⟨m,hn.sameBut hs (Ne.symm (cne x c hc)),fun j y v' e1 e2 e3=>?_⟩,fun y c' e=>?_,I.free,I.freeC,fun p hp=>?_,tracked ⟨oc,hoc,I.freeC x c hc⟩ hs,by simpa using I.len⟩ ⟨c,hs,.inr hc⟩
  ·exact(hs.2 b (Nat.ne_of_lt (Nat.lt_of_lt_of_le (Heap.lt_size e) (I.ok.cab x c hfn hc)))).trans (I.base.keep b o e n hb hx)
  ·obtain⟨sl,e1⟩:=I.base.slot b o e n hb hx;exact⟨sl,(hs.2 b (Nat.ne_of_lt (Nat.lt_of_lt_of_le (Heap.lt_size e) (I.ok.cab x c hfn hc)))).trans e1⟩
  ·obtain⟨o',e1⟩:=I.base.there b o e hx;exact⟨o',(hs.2 b (Nat.ne_of_lt (Nat.lt_of_lt_of_le (Heap.lt_size e) (I.ok.cab x c hfn hc)))).trans e1⟩
  ·by_cases hj:j=i
   ·subst hj;rw[hi] at e1;cases e1;rw[getElem?_set_self hiσ] at e2;cases e2;exact⟨u,r,.inr ⟨.inl hk,c,hc,hc'⟩⟩
   ·rw[getElem?_set_ne (Ne.symm hj)] at e2;obtain⟨u',r',q⟩:=hl j y v' e1 e2 e3;refine⟨u',r',?_⟩;rcases q with q|⟨k,c',e,z'⟩
    ·exact .inl q
    ·refine .inr ⟨k,c',e,z'.sameBut hs ?_⟩;rintro rfl;exact hj (lI hN e1 (I.ok.inj _ _ _ e hc▸hi))
  ·by_cases hcc:c'=c
   ·subst hcc;exact⟨_,hc'⟩
   ·obtain⟨w2,z2⟩:=I.cell y c' e;exact⟨w2,z2.sameBut hs hcc⟩
  ·obtain⟨e,n,ne,nf,d⟩:=I.pin p hp;refine⟨(hs.2 p.1 ?_).trans e,n,ne,nf,d⟩;intro q;rw[q,hoc] at e;have q':oc=p.2:=Option.some.inj e;exact d w' (by rw[←q'];exact hocd)
theorem mw {M:Model}{A:Around}{E:Value→Shared→Prop}{i:Nat}{x:Str}{v:V}{u:Value}{Q:Unit→Shared→Prop}(I:Inv X ag σ H s)(hN:X.N.Nodup)(hi:X.N[i]?=some x)(hx:wJ X.env.scope x)(r:RelV v u)
  (h:∀s',Inv X ag (σ.set i (some v)) H s'→Q () s') (hf:X.fn x=true∨X.env.scope.names.lookup x=some .local:=by first|exact .inl rfl|exact .inr rfl|assumption):wpAny M A (storeName X.env x u) Q E s:=
 tW I hN hi hx r (fun s' I' _=>h s' I') hf
theorem Inv.call' {s':Shared}{ch:List Addr}(I:Inv X ag σ H s)(ho:s'.os=s.os)(u:Un (lP X.stack) ch H H' s.heap s'.heap)(hok:k6 X.prog X.w H' s'.heap)(hg:AllBare s'.gens)
  (hch:∀b∈ch,(b∈X.ex∨X.s₀.heap.objs.size≤b)∧b≠X.env.locals∧(∀x c,X.env.cells.lookup x=some c→c≠b)∧∀p∈X.pn++ag,p.1≠b):Inv X ag σ H' s':=by
 obtain⟨h',g',d',t',o'⟩:=s';have e:o'=s.os:=ho;subst e;exact I.call (g':=g') (t':=t') (d':=d') u hok hg hch
end
abbrev XK:=Value→Option Addr→Hp→Prop
abbrev St:=List (Option V)
abbrev VK:=V→Hp→Prop
abbrev TE:=St→Hp→VK→Prop
abbrev TT:=St→Hp→(Bool→Hp→Prop)→Prop
abbrev TA:=St→Hp→(List V→Hp→Prop)→Prop
structure tx where
 nx:St→Hp→Prop
 rt:VK
 bk:St→Hp→Prop:=fun _ _=>False
 ct:St→Hp→Prop:=fun _ _=>False
abbrev TS:=tx→St→Hp→Prop
def EP (X:Cx)(ag:List (Addr×Obj))(σ:St)(Q:VK)(u:Value)(s':Shared):Prop:=∃v H',Inv X ag σ H' s'∧RelV v u∧Q v H'
def TP (X:Cx)(ag:List (Addr×Obj))(σ:St)(Q:Bool→Hp→Prop)(b:Bool)(s':Shared):Prop:=∃H',Inv X ag σ H' s'∧Q b H'
def AP (X:Cx)(ag:List (Addr×Obj))(σ:St)(Q:List V→Hp→Prop)(us:List Value)(s':Shared):Prop:=∃vs H',Inv X ag σ H' s'∧bi vs us∧Q vs H'
def SP (X:Cx)(ag:List (Addr×Obj))(D:tx)(f:Flow)(s':Shared):Prop:=
 match f with
 | .next=>∃σ' H',Inv X ag σ' H' s'∧D.nx σ' H'
 | .brk=>∃σ' H',Inv X ag σ' H' s'∧D.bk σ' H'
 | .cont=>∃σ' H',Inv X ag σ' H' s'∧D.ct σ' H'
 | .ret u=>∃v σ' H',Inv X ag σ' H' s'∧RelV v u∧D.rt v H'
def PE (X:Cx)(e:Expr)(t:TE):Prop:=
 ∀(ag:List (Addr×Obj)) (s:Shared) (σ:St) (H:Hp) (Q:VK),Inv X ag σ H s→t σ H Q→wpAny (model X.prog X.w) X.A (eval e X.env) (EP X ag σ Q) X.xe s
def PT (X:Cx)(e:Expr)(t:TT):Prop:=
 ∀(ag:List (Addr×Obj)) (s:Shared) (σ:St) (H:Hp) (Q:Bool→Hp→Prop),Inv X ag σ H s→t σ H Q→wpAny (model X.prog X.w) X.A (isTrue e X.env (eval e X.env)) (TP X ag σ Q) X.xe s
def PW (X:Cx)(e:Expr)(t:TT):Prop:=
 ∀(whole:Sem Value) (ag:List (Addr×Obj)) (s:Shared) (σ:St) (H:Hp) (Q:Bool→Hp→Prop),Inv X ag σ H s→t σ H Q→wpAny (model X.prog X.w) X.A (isTrue e X.env whole) (TP X ag σ Q) X.xe s
theorem PW.pt {X:Cx}{e:Expr}{t:TT}(h:PW X e t):PT X e t:=h _
def PA (X:Cx)(es:List Expr)(t:TA):Prop:=
 ∀(pos:Pos) (ag:List (Addr×Obj)) (s:Shared) (σ:St) (H:Hp) (Q:List V→Hp→Prop),Inv X ag σ H s→t σ H Q→wpAny (model X.prog X.w) X.A (spliced (backTo pos (starEach es X.env))) (AP X ag σ Q) X.xe s
def PS (X:Cx)(st:Stmt)(t:TS):Prop:=
 ∀(ag:List (Addr×Obj)) (s:Shared) (σ:St) (H:Hp) (D:tx),Inv X ag σ H s→t D σ H→wpAny (model X.prog X.w) X.A (exec st X.env) (SP X ag D) X.xe s
def PSs (X:Cx)(st:List Stmt)(t:TS):Prop:=
 ∀(ag:List (Addr×Obj)) (s:Shared) (σ:St) (H:Hp) (D:tx),Inv X ag σ H s→t D σ H→wpAny (model X.prog X.w) X.A (execs st X.env) (SP X ag D) X.xe s
theorem dh {α:Type}{t:Sem α}{Q Q':α→Shared→Prop}{M:Model}{A:Around}{E:Value→Shared→Prop}{s:Shared}(h:wpAny M A t Q E s)(hQ:∀a s,Q a s→Q' a s):wpAny M A t Q' E s:=wpAny_mono h hQ fun _ _ x=>x
section
variable {X:Cx}
def Ef (i:Nat):TE:=fun σ H Q=>∃v,σ[i]?=some (some v)∧Q v H
def tC (v:V):TE:=fun _ H Q=>Q v H
theorem AI {i:Nat}{x:Str}{pos:Pos}(hN:X.N[i]?=some x)(hv:CG X.env.scope x)(hd:(x==("__debug__":Str))=false:=by decide)(hcd:(x==("__classdict__":Str))=false:=by decide):PE X (.Name x pos) (Ef i):=by
 intro ag s σ H Q I h;obtain⟨v,e,h⟩:=h;obtain⟨m,hn,hl⟩:=I.loc;obtain⟨u,r,l⟩:=hl i x v hN e hv;have fin:EP X ag σ Q u s:=⟨v,H,I,r,h⟩;rcases l with⟨hk,hm⟩|⟨hk,c,hc,hcell⟩
 ·exact wpAny_Name (wpAny_loadName_local I.ok.kind hk hn hm fin) hd
 ·rcases hk with hk|hk
  ·exact wpAny_Name (wpAny_loadName_cell I.ok.kind hk hc hcell fin) hd
  ·exact wpAny_Name (wpAny_loadName_free I.ok.kind hk hc hcell fin hcd) hd
theorem B0 {i j pos}:PE X (.Constant (.int i) j pos) (tC (.int i)):=fun _ _ _ H _ I h=>wpAny_Constant_int ⟨.int i,H,I.tok _,⟨_,rfl⟩,h⟩
theorem DN {b j pos}:PE X (.Constant (.bool b) j pos) (tC (.bl b)):=fun _ _ _ H _ I h=>Constant_bool ⟨.bl b,H,I,rfl,h⟩
theorem Be {j pos}:PE X (.Constant .none j pos) (tC .non):=fun _ _ _ H _ I h=>Constant_none ⟨.non,H,I,rfl,h⟩
theorem AX {x j pos}:PE X (.Constant (.str x) j pos) (tC (.str x)):=fun _ _ _ H _ I h=>Calls.Constant_str ⟨.str x,H,I.tok _,⟨_,rfl⟩,h⟩
def Gl (X:Cx)(x:Str):Prop:=X.env.kindOf x=some .globalImplicit
theorem j7 {E:Value→Shared→Prop}{ag:List (Addr×Obj)}{s:Shared}{σ:St}{H:Hp}{x:Str}{u:Value}{pos:Pos}{Q:Value→Shared→Prop}(I:Inv X ag σ H s)(hg:Gl X x)(hm:X.mg x=some u)(h:Q u s)
  (hd:(x==("__debug__":Str))=false:=by decide):wpAny (model X.prog X.w) X.A (eval (.Name x pos) X.env) Q E s:=
 Calls.Name_function_global I.ok.kind hg (Calls.loadGlobal_global (by rw[I.ok.glob];exact I.mod.glob.keeps I.bk) hm h) hd
theorem mE {E:Value→Shared→Prop}{ag:List (Addr×Obj)}{s:Shared}{σ:St}{H:Hp}{x:Str}{u:Value}{pos:Pos}{Q:Value→Shared→Prop}(I:Inv X ag σ H s)(hg:Gl X x)(hm:X.mg x=none)(hv:bootBuiltins x=some u)(h:Q u s)
  (hn:x≠"__name__":=by decide) (hd:(x==("__debug__":Str))=false:=by decide):wpAny (model X.prog X.w) X.A (eval (.Name x pos) X.env) Q E s:=by
 obtain⟨mb,h1,h2⟩:=I.mod.blt;exact Calls.Name_function_global I.ok.kind hg (Calls.loadGlobal_builtin (by rw[I.ok.glob];exact I.mod.glob.keeps I.bk) hm (by rw[I.ok.blt];exact h1.keeps I.bk) ((h2 x hn).trans hv) h) hd
theorem yf {x:Str}{v:V}{u:Value}{pos:Pos}(hg:Gl X x)(hm:X.mg x=some u)(r:RelV v u)(hd:(x==("__debug__":Str))=false:=by decide):PE X (.Name x pos) (tC v):=
 fun _ _ _ H _ I h=>j7 I hg hm ⟨v,H,I,r,h⟩ hd
theorem rK {x:Str}{v:V}{u:Value}{pos:Pos}(hg:Gl X x)(hm:X.mg x=none)(hv:bootBuiltins x=some u)(r:RelV v u)(hn:x≠"__name__":=by decide)(hd:(x==("__debug__":Str))=false:=by decide):PE X (.Name x pos) (tC v):=
 fun _ _ _ H _ I h=>mE I hg hm hv ⟨v,H,I,r,h⟩ hn hd
variable {a b:Expr}{ta tb:TE}{pos:Pos}
variable {tA tB':TT}{rest:List Expr}
def EH (t u:TT):TT:=fun σ H Q=>t σ H fun c H1=>if c=true then u σ H1 Q else Q false H1
def F0 (t u:TT):TT:=fun σ H Q=>t σ H fun c H1=>if c=true then Q true H1 else u σ H1 Q
def Fx (t:TT):TT:=fun σ H Q=>t σ H fun c H1=>Q (!c) H1
theorem yc (ha:PT X a tA):PW X (.BoolOp .And [a] pos) tA:=by
 intro wh ag s σ H Q I h;refine isTrue_and (dh (ha ag s σ H Q I h) fun c s1 e=>?_);cases c with
 | true=>exact isTrue_and_nil e
 | false=>exact e
theorem AV (ha:PT X a tA):PW X (.BoolOp .Or [a] pos) tA:=by
 intro wh ag s σ H Q I h;refine isTrue_or (dh (ha ag s σ H Q I h) fun c s1 e=>?_);cases c with
 | false=>exact isTrue_or_nil e
 | true=>exact e
theorem AS (ha:PT X a tA)(hb:PW X (.BoolOp .And (b::rest) pos) tB'):PW X (.BoolOp .And (a::b::rest) pos) (EH tA tB'):=by
 intro wh ag s σ H Q I h;refine isTrue_and (dh (ha ag s σ H _ I h) fun c s1 hxx=>?_);obtain⟨H1,I1,q1⟩:=hxx;cases c with
 | true=>exact hb wh ag s1 σ H1 Q I1 q1
 | false=>exact⟨H1,I1,q1⟩
theorem DO (ha:PT X a tA)(hb:PW X (.BoolOp .Or (b::rest) pos) tB'):PW X (.BoolOp .Or (a::b::rest) pos) (F0 tA tB'):=by
 intro wh ag s σ H Q I h;refine isTrue_or (dh (ha ag s σ H _ I h) fun c s1 hxx=>?_);obtain⟨H1,I1,q1⟩:=hxx;cases c with
 | true=>exact⟨H1,I1,q1⟩
 | false=>exact hb wh ag s1 σ H1 Q I1 q1
theorem Ae (ha:PT X a tA):PT X (.UnaryOp .Not a pos) (Fx tA):=by
 intro ag s σ H Q I h;exact isTrue_not (ha ag s σ H (fun c H1=>Q (!c) H1) I h)
def CS (ta tb:TE):TE:=fun σ H Q=>ta σ H fun x H1=>∃c,x=.bl c∧if c=true then tb σ H1 Q else Q (.bl false) H1
def Fh (ta tb:TE):TE:=fun σ H Q=>ta σ H fun x H1=>∃c,x=.bl c∧if c=true then Q (.bl true) H1 else tb σ H1 Q
def Dy (ta:TE):TE:=fun σ H Q=>ta σ H fun x H1=>∃c,x=.bl c∧Q (.bl (!c)) H1
theorem AA {op}{t:TE}(h:PE X a t):PE X (.BoolOp op [a] pos) t:=fun ag s σ H Q I hw=>BoolOp_one (h ag s σ H Q I hw)
theorem zA (ha:PE X a ta)(hb:PE X (.BoolOp .And (b::rest) pos) tb):PE X (.BoolOp .And (a::b::rest) pos) (CS ta tb):=by
 intro ag s σ H Q I h;refine BoolOp_and (dh (ha ag s σ H _ I h) fun v s1 hxx=>?_);obtain⟨x,H1,I1,r1,q1⟩:=hxx;obtain⟨c,rfl,q1⟩:=q1;cases r1;refine wpAny_truthy_bool ?_;cases c with
 | true=>exact hb ag s1 σ H1 Q I1 q1
 | false=>exact⟨.bl false,H1,I1,rfl,q1⟩
theorem DQ (ha:PE X a ta)(hb:PE X (.BoolOp .Or (b::rest) pos) tb):PE X (.BoolOp .Or (a::b::rest) pos) (Fh ta tb):=by
 intro ag s σ H Q I h;refine BoolOp_or (dh (ha ag s σ H _ I h) fun v s1 hxx=>?_);obtain⟨x,H1,I1,r1,q1⟩:=hxx;obtain⟨c,rfl,q1⟩:=q1;cases r1;refine wpAny_truthy_bool ?_;cases c with
 | false=>exact hb ag s1 σ H1 Q I1 q1
 | true=>exact⟨.bl true,H1,I1,rfl,q1⟩
theorem BC (ha:PE X a ta):PE X (.UnaryOp .Not a pos) (Dy ta):=by
 intro ag s σ H Q I h;refine UnaryOp_ (dh (ha ag s σ H _ I h) fun v s1 hxx=>?_);obtain⟨x,H1,I1,r1,q1⟩:=hxx;obtain⟨c,rfl,q1⟩:=q1;cases r1;exact not_of (wpAny_truthy_bool ⟨.bl (!c),H1,I1,rfl,q1⟩)
end
def kU (K:W.Frag)(H:Hp)(a:Addr)(xs:List V):Prop:=
 Rd H a (.lst xs)∨
  ∃(o:Obj) (its:Array Value) (n:Nat),K.lookup a=some o∧o.cls=.type "list"∧o.dict=none∧o.data=.seq its n∧its.size≤sizeLine∧bi xs its.toList
def j9 (K:W.Frag)(H:Hp)(a:Addr)(xs:List V):Prop:=
 Rd H a (.tup xs)∨
  ∃(o:Obj) (its:Array Value) (n:Nat),K.lookup a=some o∧o.cls=.type "tuple"∧o.data=.seq its n∧its.size≤sizeLine∧bi xs its.toList
def FN:Value→Option V
 | .none=>some .non
 | .bool b=>some (.bl b)
 | .int i _=>some (.int i)
 | .str x _=>some (.str x)
 | .bytes b _=>some (.byt b)
 | .float b _=>some (.flt b)
 | .ref a=>some (.ref a)
 | .type n=>some (.ty n)
 | _=>none
theorem RelV.abs {x:V}{u:Value}(r:RelV x u):FN u=some x:=by
 cases x with
 | non=>cases r;rfl
 | bl _=>cases r;rfl
 | int _=>obtain⟨t,rfl⟩:=r;rfl
 | str _=>obtain⟨t,rfl⟩:=r;rfl
 | byt _=>obtain⟨t,rfl⟩:=r;rfl
 | flt _=>obtain⟨t,rfl⟩:=r;rfl
 | ref _=>cases r;rfl
 | ty _=>cases r;rfl
theorem RelV.inj {x y:V}{u:Value}(r:RelV x u)(q:RelV y u):x=y:=Option.some.inj (r.abs.symm.trans q.abs)
theorem bi.inj:∀{xs ys:List V} {us:List Value},bi xs us→bi ys us→xs=ys
 | _,_,_,.nil,.nil=>rfl
 | _,_,_,.cons r t,.cons r' t'=>by rw[r.inj r',bi.inj t t']
section
variable {X:Cx}{ag:List (Addr×Obj)}{σ:St}{H:Hp}{s:Shared}{a:Addr}{xs ys:List V}
theorem Inv.list (I:Inv X ag σ H s)(h:kU X.K H a xs):∃its:List Value,bi xs its∧PlainL s.heap a its.toArray∧xs.length≤sizeLine:=by
 rcases h with h|⟨o,its,n,hk,hc,hd,hs,hz,r⟩
 ·obtain⟨z,its,n,r,e⟩:=h.ok I.hok;exact⟨its,r,⟨_,n,e,rfl,rfl,rfl⟩,z⟩
 ·refine⟨its.toList,r,⟨o,n,I.kIn a o hk,hc,hd,by simpa using hs⟩,?_⟩;have e:=r.length;simp only[Array.length_toList] at e;omega
theorem Inv.tuple (I:Inv X ag σ H s)(h:j9 X.K H a xs):∃its:List Value,bi xs its∧IsTup s.heap a its.toArray∧xs.length≤sizeLine:=by
 rcases h with h|⟨o,its,n,hk,hc,hs,hz,r⟩
 ·obtain⟨z,its,r,p⟩:=h.ok I.hok;exact⟨its,r,p,z⟩
 ·refine⟨its.toList,r,⟨o,I.kIn a o hk,hc,n,by simpa using hs⟩,?_⟩;have e:=r.length;simp only[Array.length_toList] at e;omega
theorem Inv.list_inj (I:Inv X ag σ H s)(h:kU X.K H a xs)(h':kU X.K H a ys):xs=ys:=by
 obtain⟨its,r,⟨o,n,e,_,_,d⟩,_⟩:=I.list h;obtain⟨its',r',⟨o',n',e',_,_,d'⟩,_⟩:=I.list h';rw[e] at e';cases e';rw[d] at d';injection d' with d1 _
 have:its=its':=by simpa using congrArg Array.toList d1
 subst this;exact r.inj r'
theorem Inv.tuple_inj (I:Inv X ag σ H s)(h:j9 X.K H a xs)(h':j9 X.K H a ys):xs=ys:=by
 obtain⟨its,r,⟨o,e,_,n,d⟩,_⟩:=I.tuple h;obtain⟨its',r',⟨o',e',_,n',d'⟩,_⟩:=I.tuple h';rw[e] at e';cases e';rw[d] at d';injection d' with d1 _
 have:its=its':=by simpa using congrArg Array.toList d1
 subst this;exact r.inj r'
end
section
variable {X:Cx}{st:Stmt}{rest:List Stmt}{t u:TS}{e:Expr}{te:TE}{pos:Pos}
def Dc:TS:=fun D σ H=>D.nx σ H
def ES (t u:TS):TS:=fun D σ H=>t {D with nx:=u D} σ H
theorem xk:PSs X [] Dc:=fun _ _ σ H _ I h=>wpAny_execs_nil ⟨σ,H,I,h⟩
theorem uw (h1:PS X st t)(h2:PSs X rest u):PSs X (st::rest) (ES t u):=by
 intro ag s σ H D I h;refine wpAny_execs_cons (dh (h1 ag s σ H {D with nx:=u D} I h) fun f s1 q=>?_);cases f with
 | next=>
  obtain⟨σ',H',I',q⟩:=q;exact h2 ag s1 σ' H' D I' q
 | ret v=>exact q
 | brk=>exact q
 | cont=>exact q
theorem xj (h1:PS X st t):PSs X [st] t:=by
 intro ag s σ H D I h;refine wpAny_execs_cons (dh (h1 ag s σ H D I h) fun f s1 q=>?_);cases f with
 | next=>exact wpAny_execs_nil q
 | ret v=>exact q
 | brk=>exact q
 | cont=>exact q
theorem Inv.quiet {ag:List (Addr×Obj)}{σ:St}{H:Hp}{s:Shared}(I:Inv X ag σ H s):interactive X.env=false:=by simp[interactive,I.ok.kind]
def DF (te:TE):TS:=fun D σ H=>te σ H fun _ H1=>D.nx σ H1
theorem x9 (he:PE X e te)(hs:swapsWith e none pos.line X.env=pure false:=by rfl):PS X (.Expr e pos) (DF te):=by
 intro ag s σ H D I h;exact wpAny_Expr_any (dh (he ag s σ H _ I h) fun v s1 ⟨x,H1,I1,r1,q1⟩=>⟨σ,H1,I1,q1⟩) I.quiet hs
def E5 (te:TE):TS:=fun D σ H=>te σ H D.rt
theorem Af (he:PE X e te):PS X (.Return (some e) pos) (E5 te):=by
 intro ag s σ H D I h;exact wpAny_Return_some (dh (he ag s σ H _ I h) fun v s1 ⟨x,H1,I1,r1,q1⟩=>⟨x,σ,H1,I1,r1,q1⟩)
def FA (c:TT)(t u:TS):TS:=fun D σ H=>c σ H fun b H1=>if b=true then t D σ H1 else u D σ H1
theorem Ek {c:Expr}{a b:List Stmt}{tc:TT}(hc:PT X c tc)(ha:PSs X a t)(hb:PSs X b u):PS X (.If c a b pos) (FA tc t u):=by
 intro ag s σ H D I h;refine wpAny_If (dh (hc ag s σ H _ I h) fun d s1 hxx=>?_);obtain⟨H1,I1,q1⟩:=hxx;cases d with
 | true=>exact ha ag s1 σ H1 D I1 q1
 | false=>exact hb ag s1 σ H1 D I1 q1
end
abbrev TG:=V→St→Hp→(St→Hp→Prop)→Prop
abbrev zp:=List V→St→Hp→(St→Hp→Prop)→Prop
def PG (X:Cx)(target:Expr)(t:TG):Prop:=
 ∀(ag:List (Addr×Obj)) (s:Shared) (σ:St) (H:Hp) (v:V) (u:Value) (Q:St→Hp→Prop),Inv X ag σ H s→RelV v u→t v σ H Q→
  wpAny (model X.prog X.w) X.A (assign target X.env u) (fun _ s'=>∃σ' H',Inv X ag σ' H' s'∧Q σ' H') X.xe s
def xm (X:Cx)(ts:List Expr)(t:zp):Prop:=
 ∀(ag:List (Addr×Obj)) (s:Shared) (σ:St) (H:Hp) (vs:List V) (us:List Value) (Q:St→Hp→Prop),Inv X ag σ H s→bi vs us→t vs σ H Q→
  wpAny (model X.prog X.w) X.A (assignInOrder ((assignEach ts X.env).map (·.2)) us) (fun _ s'=>∃σ' H',Inv X ag σ' H' s'∧Q σ' H') X.xe s
abbrev Bi:=V→V→V→Hp→(Hp→Prop)→Prop
def D2 (X:Cx)(t:Bi):Prop:=
 ∀(ag:List (Addr×Obj)) (s:Shared) (σ:St) (H:Hp) (o i v:V) (ov iv u:Value) (Q:Hp→Prop),Inv X ag σ H s→RelV o ov→RelV i iv→RelV v u→t o i v H Q→
  wpAny (model X.prog X.w) X.A (setItem ov iv u) (fun _ s'=>∃H',Inv X ag σ H' s'∧Q H') X.xe s
section
variable {X:Cx}{pos:Pos}
def yT (i:Nat):TG:=fun v σ H Q=>Q (σ.set i (some v)) H
theorem yO {i:Nat}{x:Str}(hN:X.N.Nodup)(hi:X.N[i]?=some x)(hx:wJ X.env.scope x)(hf:X.fn x=true∨X.env.scope.names.lookup x=some .local:=by first|exact .inl rfl|exact .inr rfl|assumption):PG X (.Name x pos) (yT i):=by
 intro ag s σ H v u Q I r h;exact wpAny_assign_Name (mw I hN hi hx r (fun s' I'=>⟨_,H,I',h⟩) hf)
def EV:zp:=fun vs σ H Q=>vs=[]∧Q σ H
def Dv (t:TG)(u:zp):zp:=fun vs σ H Q=>∃v r,vs=v::r∧t v σ H fun σ' H'=>u r σ' H' Q
theorem ym:xm X [] EV:=by
 intro ag s σ H vs us Q I r h;obtain⟨e,h⟩:=h;subst e;cases r;exact assignInOrder_nil ⟨σ,H,I,h⟩
theorem wB {e:Expr}{es:List Expr}{t:TG}{u:zp}(h1:PG X e t)(h2:xm X es u)
  (hs:(assignEach (e::es) X.env).map (·.2)=assign e X.env::(assignEach es X.env).map (·.2):=by rfl):xm X (e::es) (Dv t u):=by
 intro ag s σ H vs us Q I r h;obtain⟨v,vr,e1,h⟩:=h;subst e1;cases r with
 | cons r rr=>
  rw[hs];refine assignInOrder_cons (dh (h1 ag s σ H _ _ _ I r h) fun _ s1 hxx=>?_);obtain⟨σ1,H1,I1,q1⟩:=hxx;exact h2 ag s1 σ1 H1 _ _ Q I1 rr q1
def Fo (K:W.Frag)(n:Nat)(t:zp):TG:=fun v σ H Q=>∃a xs,v=.ref a∧j9 K H a xs∧xs.length=n∧t xs σ H Q
theorem Bq {es:List Expr}{k:Nat}{t:zp}{n:Nat}(hc:X.calm=true)(h:xm X es t)
  (hn:(assignEach es X.env).length=n:=by rfl) (hst:(assignEach es X.env).findIdx? (·.1)=none:=by rfl):PG X (.Tuple es k pos) (Fo X.K n t):=by
 intro ag s σ H v u Q I r hw;obtain⟨a,xs,e1,hq,hl,hw⟩:=hw;subst e1;cases r;obtain⟨its,rv,ht,hz⟩:=I.tuple hq;refine assign_Tuple_tuple (I.ok.hd hc) ht (by simp[hn,←hl,rv.length]) hst fun h' hx=>?_
 have I1:Inv X ag σ H {s with heap:=h'}:=I.kept (t':=s.toks) fun b o e=>hx b o (Nat.ne_of_lt (Heap.lt_size e)) e
 exact h ag _ σ H xs _ Q I1 (by simpa using rv) hw
def Fu (to ti:TE)(t:Bi):TG:=fun v σ H Q=>to σ H fun o H1=>ti σ H1 fun i H2=>t o i v H2 fun H3=>Q σ H3
theorem zv {o i:Expr}{to ti:TE}{t:Bi}(ho:PE X o to)(hi:PE X i ti)(hs:D2 X t)
  (ha:∀v,assign (.Subscript o i pos) X.env v=(do
   let ov ←holding [v] (eval o X.env)
   let iv ←holding [v,ov] (eval i X.env)
   standAt pos
   holding [v,ov,iv] (setItem ov iv v)
   release [v,ov,iv] []):=by intro _;rfl):PG X (.Subscript o i pos) (Fu to ti t):=by
 intro ag s σ H v u Q I r h;rw[ha];refine wpAny_bind (wpAny_holding (dh (ho ag s σ H _ I h) fun ov s1 hxx=>?_));obtain⟨x,H1,I1,r1,q1⟩:=hxx;refine wpAny_bind (wpAny_holding (dh (hi ag s1 σ H1 _ I1 q1) fun iv s2 hxx=>?_));obtain⟨y,H2,I2,r2,q2⟩:=hxx;refine wpAny_bind (wpAny_standAt (wpAny_bind (wpAny_holding (dh (hs ag s2 σ H2 x y v ov iv u _ I2 r1 r2 r q2) fun _ s3 hxx=>?_))));obtain⟨H3,I3,q3⟩:=hxx;exact wpAny_release ⟨σ,H3,I3,q3⟩
def CQ (te:TE)(g:TG):TS:=fun D σ H=>te σ H fun x H1=>g x σ H1 D.nx
theorem va {tg e:Expr}{te:TE}{g:TG}(he:PE X e te)(hg:PG X tg g)(hs:swapsWithSole [tg] e pos.line X.env=pure false:=by rfl)(hw:swappedStores [tg] e X.env=pure none:=by rfl)
  (h1:(assignEach [tg] X.env).map (·.2)=[assign tg X.env]:=by rfl):PS X (.Assign [tg] e pos) (CQ te g):=by
 intro ag s σ H D I h;refine wpAny_Assign_stores (dh (he ag s σ H _ I h) fun v s1 hxx=>?_) hs hw;obtain⟨x,H1,I1,r1,q1⟩:=hxx;rw[h1];exact dh (hg ag s1 σ H1 x v _ I1 r1 q1) fun _ s2 q=>q
theorem BW {i:Nat}{x:Str}{e:Expr}{te:TE}{pos':Pos}(hN:X.N.Nodup)(hi:X.N[i]?=some x)(hx:wJ X.env.scope x)(he:PE X e te)(hs:swapsWith e (some (.Name x pos')) pos.line X.env=pure false:=by rfl)(hf:X.fn x=true∨X.env.scope.names.lookup x=some .local:=by first|exact .inl rfl|exact .inr rfl|assumption) :
  PS X (.Assign [.Name x pos'] e pos) (CQ te (yT i)):=by
 intro ag s σ H D I h;refine wpAny_Assign_Name (dh (he ag s σ H _ I h) fun v s1 hxx=>?_) hs;obtain⟨y,H1,I1,r1,q1⟩:=hxx;exact mw I1 hN hi hx r1 (fun s2 I2=>⟨_,H1,I2,q1⟩) hf
end
section
variable {X:Cx}{pos:Pos}
def An (c:TT)(tb:TS):TS:=fun D σ H=>∃W:Nat→St→Hp→Prop,(∃m,W m σ H)∧∀m σ H,W m σ H→
 c σ H fun b H1=>if b=true then∃N:St→Hp→Prop,(∀σ' H',N σ' H'→∃m',m'<m∧W m' σ' H')∧tb {D with nx:=N,ct:=N,bk:=D.nx} σ H1 else D.nx σ H1
theorem v8 {c:Expr}{body:List Stmt}{tc:TT}{tb:TS}(hp:PassesOwn (model X.prog X.w) X.A X.env X.xe)(hc:PT X c tc)(hb:PSs X body tb):PS X (.While c body [] pos) (An tc tb):=by
 intro ag s σ H D I h;obtain⟨W,⟨m0,w0⟩,turn⟩:=h;refine wpAny_While (codeAny_whileLoop (fun n s'=>∃σ' H',Inv X ag σ' H' s'∧W n σ' H') ?_ m0 ⟨σ,H,I,w0⟩);rintro n s1 ⟨σ1,H1,I1,w1⟩;refine wpAny_passesOwn hp (dh (hc ag s1 σ1 H1 _ I1 (turn n σ1 H1 w1)) fun b s2 hxx=>?_);obtain⟨H2,I2,q2⟩:=hxx;cases b with
 | true=>
  obtain⟨N,hN,q2⟩:=q2;rw[if_pos rfl];refine wpAny_passesOwn hp (dh (hb ag s2 σ1 H2 _ I2 q2) fun f s3 q3=>?_);cases f with
  | next=>
   obtain⟨σ3,H3,I3,n3⟩:=q3;obtain⟨m',hm,w3⟩:=hN σ3 H3 n3;exact⟨m',hm,σ3,H3,I3,w3⟩
  | cont=>
   obtain⟨σ3,H3,I3,n3⟩:=q3;obtain⟨m',hm,w3⟩:=hN σ3 H3 n3;exact⟨m',hm,σ3,H3,I3,w3⟩
  | brk=>exact q3
  | ret v=>exact q3
 | false=>
  rw[if_neg Bool.false_ne_true];exact wpAny_execs_nil ⟨σ1,H2,I2,q2⟩
end
structure It where
 go:Nat→Hp→Prop
 yld:Nat→Hp→V→Hp→Prop
 stop:Nat→Hp→Prop
def lw (X:Cx)(ag:List (Addr×Obj))(H:Hp)(b:Addr):Prop:=
 H b=none∧b≠X.env.locals∧b∉X.fs∧(b∈X.ex∨X.s₀.heap.objs.size≤b)∧(∀x c,X.env.cells.lookup x=some c→c≠b)∧∀p∈X.pn++ag,p.1≠b
theorem Inv.fpOk {X:Cx}{ag:List (Addr×Obj)}{σ:St}{H H':Hp}{s:Shared}{b:Addr}(I:Inv X ag σ H s)(hb:s.heap.objs.size≤b)(hn:H' b=none):lw X ag H' b:=by
 refine⟨hn,Nat.ne_of_gt (Nat.lt_of_lt_of_le I.lt hb),I.nofs hb,.inr (Nat.le_trans I.sz hb),fun x c e z=>?_,fun p hp z=>?_⟩
 ·obtain⟨v,q⟩:=I.cell x c e;exact absurd (Nat.lt_of_lt_of_le q.lt (by rw[z];exact hb)) (Nat.lt_irrefl _)
 ·exact absurd (Nat.lt_of_lt_of_le (Heap.lt_size (I.pin p hp).1) (by rw[z];exact hb)) (Nat.lt_irrefl _)
structure sW (P:Program)(w:World)(K:W.Frag)(tg:Expr)(J:It)(fp:List Addr)(it:Addr)(tn:Nat→Heap→Prop):Prop where
 mem:it∈fp
 obj:∀i h,tn i h→∀b∈fp,∃o,h.get? b=some o∧∀v,o.data≠.cell v
 keep:∀i h h',tn i h→(∀b∈fp,∀o,h.get? b=some o→h'.get? b=some o)→tn i h'
 item:∀(X:Cx),X.prog=P→X.w=w→X.K=K→X.calm=true→∀(i:Nat) (ag:List (Addr×Obj)) (s:Shared) (σ:St) (H:Hp) (E:Value→Shared→Prop),Inv X ag σ H s→(∀b∈fp,lw X ag H b)→tn i s.heap→J.go i H→
  wpAny (model P w) X.A (pyNext (.ref it)) (fun r s1=>∃u,r=some u∧
   wpAny (model P w) X.A (letOwnedTupleGo tg (.ref it) u) (fun _ s2=>∃x H',Inv X ag σ H' s2∧RelV x u∧J.yld i H x H'∧tn (i+1) s2.heap∧∀b∈fp,H' b=none) E s1) E s
 done:∀(X:Cx),X.prog=P→X.w=w→X.K=K→X.calm=true→∀(i:Nat) (ag:List (Addr×Obj)) (s:Shared) (σ:St) (H:Hp) (E:Value→Shared→Prop),Inv X ag σ H s→(∀b∈fp,lw X ag H b)→tn i s.heap→J.stop i H→
  wpAny (model P w) X.A (pyNext (.ref it)) (fun r s1=>r=none∧Inv X ag σ H s1) E s
 self:∀(A:Around) (i:Nat) (s:Shared) (Q:Value→Shared→Prop) (E:Value→Shared→Prop),tn i s.heap→Q (.ref it) s→wpAny (model P w) A (pyIter (.ref it)) Q E s
abbrev TI:=St→Hp→(It→Hp→Prop)→Prop
def FO (X:Cx)(ag:List (Addr×Obj))(σ:St)(tg:Expr)(R:It→Hp→Prop)(itv:Value)(s2:Shared):Prop:=
 ∃(it:Addr) (fp:List Addr) (tn:Nat→Heap→Prop) (J:It) (H':Hp),itv=.ref it∧Inv X ag σ H' s2∧sW X.prog X.w X.K tg J fp it tn∧tn 0 s2.heap∧(∀b∈fp,lw X ag H' b)∧R J H'
def PI (X:Cx)(tg iter:Expr)(wi:TI):Prop:=
 ∀(ag:List (Addr×Obj)) (s:Shared) (σ:St) (H:Hp) (R:It→Hp→Prop),Inv X ag σ H s→wi σ H R→
  wpAny (model X.prog X.w) X.A (eval iter X.env) (fun v s1=>wpAny (model X.prog X.w) X.A (pyIter v) (FO X ag σ tg R) X.xe s1) X.xe s
theorem uB {M:Model}{A:Around}{E:Value→Shared→Prop}{s:Shared}{tg:Expr}{it:Addr}{u:Value}{o:Obj}{n:String}{vs:Array Value}{Q:Unit→Shared→Prop}(ho:s.heap.get? it=some o)(hc:o.cls=.type n)(hd:o.data=.fields vs)
  (hn:["enumerate","zip","dict_itemiterator","dict_reverseitemiterator","odict_iterator","itertools.zip_longest","itertools.pairwise"].contains n=false) (hQ:Q () s):wpAny M A (letOwnedTupleGo tg (.ref it) u) Q E s:=by
 unfold letOwnedTupleGo;cases tg <;> first
  | exact wpAny_pure hQ
  | (cases u <;> first
    | exact wpAny_pure hQ
    | (refine wpAny_bind (wpAny_load ho ?_)
       rw[hc,hd];show wpAny M A (if(["enumerate","zip","dict_itemiterator","dict_reverseitemiterator","odict_iterator","itertools.zip_longest","itertools.pairwise"].contains n&&vs[0]?==some (rawInt _))=true then _ else _) Q E s;rw[if_neg (by intro h;rw[hn,Bool.false_and] at h;cases h)];exact wpAny_pure hQ))
def Es (K:W.Frag)(a:Addr):It:=
 ⟨fun i H=>∃xs x,kU K H a xs∧xs[i]?=some x,fun i H x H'=>H'=H∧∀xs,kU K H a xs→xs[i]?=some x,fun i H=>∃xs,kU K H a xs∧xs.length≤i⟩
def Ff (K:W.Frag)(a:Addr):It:=
 ⟨fun i H=>∃xs x,j9 K H a xs∧xs[i]?=some x,fun i H x H'=>H'=H∧∀xs,j9 K H a xs→xs[i]?=some x,fun i H=>∃xs,j9 K H a xs∧xs.length≤i⟩
def Ez (lo:Int)(n:Nat):It:=⟨fun i _=>i<n,fun i H x H'=>H'=H∧x=.int (lo+i),fun i _=>n≤i⟩
theorem tz {P:Program}{w:World}{K:W.Frag}{tg:Expr}(a it:Addr):sW P w K tg (Es K a) [it] it (fun i h=>h.IsListIter it a i) where
 mem:=by simp
 obj:=fun i h st b hb=>by
  have e:b=it:=by simpa using hb
  subst e;obtain⟨o,e,c,d⟩:=st;exact⟨o,e,fun v z=>by rw[d] at z;cases z⟩
 keep:=fun i h h' st k=>st.at fun o e=>k it (by simp) o e
 item:=by
  intro X hP hw hK hc i ag s σ H E I hf st hg;subst hP hw hK;obtain⟨xs,x,hq,hx⟩:=hg;obtain⟨its,rv,p,hz⟩:=I.list hq;obtain⟨u,hu,ru⟩:=rv.get hx;obtain⟨f0,f1,f2,f3,f4,f5⟩:=hf it (by simp);refine wpAny_pyNext_list_item st p.isList (x:=u) (by simpa using hu) fun h' st' sb=>?_
  have I1:Inv X ag σ H {s with heap:=h'}:=I.turned (t':=s.toks) (fun b o hb e=>(sb.2 b hb).trans e) f0 f1 f3 f4 f5;obtain⟨o,e,c,d⟩:=id st';exact⟨u,rfl,uB (s:={s with heap:=h'}) e c d (by decide) ⟨x,H,I1,ru,⟨rfl,fun ys hy=>by rw[I.list_inj hy hq];exact hx⟩,st',fun b hb=>(hf b hb).1⟩⟩
 done:=by
  intro X hP hw hK hc i ag s σ H E I hf st hg;subst hP hw hK;obtain⟨xs,hq,hx⟩:=hg;obtain⟨its,rv,p,hz⟩:=I.list hq;obtain⟨f0,f1,f2,f3,f4,f5⟩:=hf it (by simp);have hl:=rv.length;exact wpAny_pyNext_list_end (I.ok.hd hc) st p.isList (by simp;omega) fun h' eb=>⟨rfl,I.turned (t':=s.toks) (fun b o hb e=>eb b o hb e) f0 f1 f3 f4 f5⟩
 self:=fun _ _ _ _ _ st h=>wpAny_pyIter_listiter st h
theorem qN {P:Program}{w:World}{K:W.Frag}{tg:Expr}(a it:Addr):sW P w K tg (Ff K a) [it] it (fun i h=>h.IsTupleIter it a i) where
 mem:=by simp
 obj:=fun i h st b hb=>by
  have e:b=it:=by simpa using hb
  subst e;obtain⟨o,e,c,d⟩:=st;exact⟨o,e,fun v z=>by rw[d] at z;cases z⟩
 keep:=fun i h h' st k=>st.at fun o e=>k it (by simp) o e
 item:=by
  intro X hP hw hK hc i ag s σ H E I hf st hg;subst hP hw hK;obtain⟨xs,x,hq,hx⟩:=hg;obtain⟨its,rv,p,hz⟩:=I.tuple hq;obtain⟨u,hu,ru⟩:=rv.get hx;obtain⟨f0,f1,f2,f3,f4,f5⟩:=hf it (by simp);refine wpAny_pyNext_tuple_item st (show s.heap.IsTuple a its.toArray from p) (x:=u) (by simpa using hu) fun h' st' sb=>?_
  have I1:Inv X ag σ H {s with heap:=h'}:=I.turned (t':=s.toks) (fun b o hb e=>(sb.2 b hb).trans e) f0 f1 f3 f4 f5;obtain⟨o,e,c,d⟩:=id st';exact⟨u,rfl,uB (s:={s with heap:=h'}) e c d (by decide) ⟨x,H,I1,ru,⟨rfl,fun ys hy=>by rw[I.tuple_inj hy hq];exact hx⟩,st',fun b hb=>(hf b hb).1⟩⟩
 done:=by
  intro X hP hw hK hc i ag s σ H E I hf st hg;subst hP hw hK;obtain⟨xs,hq,hx⟩:=hg;obtain⟨its,rv,p,hz⟩:=I.tuple hq;obtain⟨f0,f1,f2,f3,f4,f5⟩:=hf it (by simp);have hl:=rv.length;exact wpAny_pyNext_tuple_end (I.ok.hd hc) st (show s.heap.IsTuple a its.toArray from p) (by simp;omega) fun h' eb=>⟨rfl,I.turned (t':=s.toks) (fun b o hb e=>eb b o hb e) f0 f1 f3 f4 f5⟩
 self:=fun _ _ _ _ _ st h=>wpAny_pyIter_tupleiter st h
theorem qq {P:Program}{w:World}{K:W.Frag}{tg:Expr}(it:Addr)(lo:Int)(n:Nat):sW P w K tg (Ez lo n) [it] it (fun i h=>IsRangeIter h it (lo+(i:Nat)*1) ((n:Int)-(i:Nat)) 1) where
 mem:=by simp
 obj:=fun i h st b hb=>by
  have e:b=it:=by simpa using hb
  subst e;exact⟨_,st,fun v z=>by
   have z':Data.fields _=Data.cell v:=z;cases z'⟩
 keep:=fun i h h' st k=>k it (by simp) _ st
 item:=by
  intro X hP hw hK hc i ag s σ H E I hf st hg;subst hP hw hK;obtain⟨f0,f1,f2,f3,f4,f5⟩:=hf it (by simp);have W:=Walks.range (prog:=X.prog) (w:=X.w) (I.ok.hd hc) it lo 1 n;refine W.item i s _ _ hg st fun v h' tk hv st' kk=>?_
  obtain⟨t,rfl⟩:=hv;have I1:Inv X ag σ H {s with heap:=h',toks:=tk}:=I.turned (fun b o hb e=>kk b o (by simpa using hb) e) f0 f1 f3 f4 f5;refine⟨_,rfl,uB (s:={s with heap:=h',toks:=tk}) (n:="range_iterator") st' rfl rfl (by decide) ⟨.int (lo+i),H,I1,⟨t,?_⟩,⟨rfl,rfl⟩,st',fun b hb=>(hf b hb).1⟩⟩;rw[Int.mul_one]
 done:=by
  intro X hP hw hK hc i ag s σ H E I hf st hg;subst hP hw hK;obtain⟨f0,f1,f2,f3,f4,f5⟩:=hf it (by simp);exact wpAny_pyNext_range_end (I.ok.hd hc) st (by have:n≤i:=hg;omega) fun h' eb=>⟨rfl,I.turned (t':=s.toks) (fun b o hb e=>eb b o hb e) f0 f1 f3 f4 f5⟩
 self:=fun _ _ _ _ _ st h=>wpAny_pyIter_rangeiter st h
section
variable {X:Cx}{tg:Expr}
theorem ux {ag:List (Addr×Obj)}{σ:St}{H:Hp}{s:Shared}{R:It→Hp→Prop}{E:Value→Shared→Prop}{lo hi:Int}{t u v:Tok}{tk:Nat}(I:Inv X ag σ H s)(h1:-(2 ^ 62)≤lo)(h2:lo<2 ^ 62)(h3:-(2 ^ 62)≤hi)(h4:hi<2 ^ 62)
  (q:R (Ez lo (hi-lo).toNat) H):wpAny (model X.prog X.w) X.A (pyIter (.ref s.heap.objs.size)) (FO X ag σ tg R) E {s with heap:=s.heap.push {cls:=.type "range",data:=.fields #[.int lo t,.int hi u,.int 1 v]},toks:=tk}:=by
 refine wpAny_pyIter_range (IsRange.new ..) (small_one h1 h2 h3 h4) ?_;have I1:Inv X ag σ H {s with heap:=s.heap.push {cls:=.type "range",data:=.fields #[.int lo t,.int hi u,.int 1 v]},toks:=tk}:=I.kept fun b o e=>Heap.get?_push_of_some _ e
 refine⟨(s.heap.push {cls:=.type "range",data:=.fields #[.int lo t,.int hi u,.int 1 v]}).objs.size,[(s.heap.push {cls:=.type "range",data:=.fields #[.int lo t,.int hi u,.int 1 v]}).objs.size],_,_,H,rfl,
  I1.kept (t':=tk) fun b o e=>Heap.get?_push_of_some _ e,qq _ lo (hi-lo).toNat,?_,fun b hb=>?_,q⟩
 ·have e1:lo+((0:Nat):Int)*1=lo:=by simp
  have e2:(((hi-lo).toNat:Nat):Int)-((0:Nat):Int)=Builtin.Range.rangeSize lo hi 1:=by rw[rangeSize_one];split <;> omega
  show IsRangeIter _ _ (lo+((0:Nat):Int)*1) ((((hi-lo).toNat:Nat):Int)-((0:Nat):Int)) 1;rw[e1,e2];exact Heap.get?_push_size _ rfl
 ·have e:b=(s.heap.push {cls:=.type "range",data:=.fields #[.int lo t,.int hi u,.int 1 v]}).objs.size:=by simpa using hb
  subst e;exact I1.fpOk (Nat.le_refl _) (I1.hok.fresh (Nat.le_refl _))
def CC (ta:TA):TI:=fun σ H R=>ta σ H fun vs H1=>∃j:Int,vs=[.int j]∧-(2 ^ 62)≤j∧j<2 ^ 62∧R (Ez 0 j.toNat) H1
theorem ui {a:Expr}{ta:TA}{p pos:Pos}(hg:Gl X "range")(hm:X.mg "range"=none)(ha:PA X [a] ta)(hs:starEach [a] X.env=[(false,eval a X.env)]:=by rfl):PI X tg (.Call (.Name "range" p) [a] [] pos) (CC ta):=by
 intro ag s σ H R I h;refine Call_ (mE I hg hm boot_range (PyProof.Rows.callWith_type1 (dh (ha pos ag s σ H _ I h) fun us s1 hxx=>?_) hs rfl));obtain⟨vs,H1,I1,r1,q1⟩:=hxx;obtain⟨j,e,q1,q2,q⟩:=q1;subst e;cases r1 with
 | cons r rr=>
  cases rr;obtain⟨t,rfl⟩:=r;exact call_range_1 (ux I1 (by omega) (by omega) q1 q2 (by simpa using q))
def Ft (wi:TI)(g:TG)(tb:TS):TS:=fun D σ H=>wi σ H fun J H1=>∃W:Nat→Nat→St→Hp→Prop,(∃m,W 0 m σ H1)∧∀i m σ H,W i m σ H→
 (J.stop i H∧D.nx σ H)∨(J.go i H∧∃N:St→Hp→Prop,(∀σ' H',N σ' H'→∃m',m'<m∧W (i+1) m' σ' H')∧∀x H',J.yld i H x H'→g x σ H' fun σ2 H2=>tb {D with nx:=N,ct:=N,bk:=D.nx} σ2 H2)
def my (fp:List Addr)(h:Heap):List (Addr×Obj):=fp.filterMap fun b=>(h.get? b).map fun o=>(b,o)
theorem iz {fp:List Addr}{h:Heap}{b:Addr}{o:Obj}(hb:b∈fp)(e:h.get? b=some o):(b,o)∈my fp h:=mem_filterMap.mpr ⟨b,hb,by rw[e];rfl⟩
theorem sY {fp:List Addr}{h:Heap}{p:Addr×Obj}(hp:p∈my fp h):p.1∈fp∧h.get? p.1=some p.2:=by
 obtain⟨b,hb,e⟩:=mem_filterMap.mp hp;cases q:h.get? b with
 | none=>rw[q] at e;cases e
 | some o=>
  rw[q] at e;have e':(b,o)=p:=Option.some.inj e;subst e';exact⟨hb,q⟩
theorem Inv.pinned {ag:List (Addr×Obj)}{σ:St}{H:Hp}{s:Shared}{fp:List Addr}(I:Inv X ag σ H s)(hf:∀b∈fp,lw X ag H b)(ho:∀b∈fp,∃o,s.heap.get? b=some o∧∀v,o.data≠.cell v):Inv X (ag++my fp s.heap) σ H s:=
 I.pins_of fun p hp=>(mem_append.mp hp).elim (fun z=>I.pin p (mem_append_right _ z)) fun z=>by
  obtain⟨hb,e⟩:=sY z;obtain⟨f0,f1,f2,_⟩:=hf p.1 hb;obtain⟨o,e',d⟩:=ho p.1 hb;rw[e] at e';cases e';exact⟨e,f0,f1,f2,d⟩
theorem Inv.unpinned {ag pl:List (Addr×Obj)}{σ:St}{H:Hp}{s:Shared}(I:Inv X (ag++pl) σ H s):Inv X ag σ H s:=I.pins_of fun p hp=>I.pin p (mem_append_right _ (mem_append_left _ hp))
theorem A0 {iter:Expr}{body:List Stmt}{wi:TI}{g:TG}{tb:TS}{pos:Pos}(hp:PassesOwn (model X.prog X.w) X.A X.env X.xe)(hc:X.calm=true)(hi:PI X tg iter wi)(hg:PG X tg g)(hb:PSs X body tb)
  (hs:∀x,foldedSetIterable iter X.env x=pure x:=by intro _;rfl):PS X (.For tg iter body [] pos) (Ft wi g tb):=by
 intro ag s σ H D I h;refine wpAny_For (dh (hi ag s σ H _ I h) fun v s1 h1=>dh h1 fun itv s2 h2=>?_) hs;obtain⟨it,fp,tn,J,H2,e,I2,T,st2,f2,W,⟨m0,w0⟩,turn⟩:=h2;subst e;have stat:∀{H':Hp},(∀b∈fp,H' b=none)→∀b∈fp,lw X ag H' b:=fun hn b hb=>⟨hn b hb,(f2 b hb).2⟩
 refine codeAny_forLoop_any (fun n s'=>∃i σ' H',Inv X ag σ' H' s'∧tn i s'.heap∧(∀b∈fp,H' b=none)∧W i n σ' H') ?_ m0 ⟨0,σ,H2,I2,st2,fun b hb=>(f2 b hb).1,w0⟩;rintro n s3 ⟨i,σ3,H3,I3,st3,fr3,w3⟩;rcases turn i n σ3 H3 w3 with⟨stop,qn⟩|⟨go,N,hN,step⟩
 ·refine wpAny_passesOwn hp (dh (T.done X rfl rfl rfl hc i ag s3 σ3 H3 X.xe I3 (stat fr3) st3 stop) fun r s4 hxx=>?_);obtain⟨hr,I4⟩:=hxx;subst hr;exact wpAny_execs_nil ⟨σ3,H3,I4,qn⟩
 ·refine wpAny_passesOwn hp (dh (T.item X rfl rfl rfl hc i ag s3 σ3 H3 X.xe I3 (stat fr3) st3 go) fun r s4 hxx=>?_);obtain⟨u,hr,h4⟩:=hxx;subst hr;refine wpAny_passesOwn hp (dh h4 fun _ s5 hxx=>?_);obtain⟨x,H5,I5,r5,y5,st5,fr5⟩:=hxx;have I5':=I5.pinned (stat fr5) (T.obj _ _ st5);refine wpAny_passesOwn hp (dh (hg _ s5 σ3 H5 x u _ I5' r5 (step x H5 y5)) fun _ s6 hxx=>?_);obtain⟨σ6,H6,I6,q6⟩:=hxx;refine wpAny_passesOwn hp (dh (hb _ s6 σ6 H6 _ I6 q6) fun f s7 q7=>?_);have again:∀{σ7:St} {H7:Hp},Inv X (ag++my fp s5.heap) σ7 H7 s7→N σ7 H7→∃m,m<n∧∃i σ' H',Inv X ag σ' H' s7∧tn i s7.heap∧(∀b∈fp,H' b=none)∧W i m σ' H':=fun {σ7 H7} I7 n7=>by
   obtain⟨m',hm,w7⟩:=hN σ7 H7 n7;refine⟨m',hm,i+1,σ7,H7,I7.unpinned,T.keep _ _ _ st5 fun b hb o e=>(I7.pin (b,o) (mem_append_right _ (mem_append_right _ (iz hb e)))).1,fun b hb=>?_,w7⟩;obtain⟨o,e,d⟩:=T.obj _ _ st5 b hb;exact(I7.pin (b,o) (mem_append_right _ (mem_append_right _ (iz hb e)))).2.1
  cases f with
  | next=>obtain⟨σ7,H7,I7,n7⟩:=q7;exact again I7 n7
  | cont=>obtain⟨σ7,H7,I7,n7⟩:=q7;exact again I7 n7
  | brk=>obtain⟨σ7,H7,I7,q7⟩:=q7;exact⟨σ7,H7,I7.unpinned,q7⟩
  | ret v=>obtain⟨x7,σ7,H7,I7,r7,q7⟩:=q7;exact⟨x7,σ7,H7,I7.unpinned,r7,q7⟩
end
abbrev R2:=V→V→Hp→VK→Prop
def gz (X:Cx)(f:Value→Value→Sem Value)(r:R2):Prop:=
 ∀(ag:List (Addr×Obj)) (s:Shared) (σ:St) (H:Hp) (x y:V) (v u:Value) (Q:VK),Inv X ag σ H s→RelV x v→RelV y u→r x y H Q→
  wpAny (model X.prog X.w) X.A (f v u) (EP X ag σ Q) X.xe s
def FJ (X:Cx)(f:Value→Sem Value)(r:V→Hp→VK→Prop):Prop:=
 ∀(ag:List (Addr×Obj)) (s:Shared) (σ:St) (H:Hp) (x:V) (v:Value) (Q:VK),Inv X ag σ H s→RelV x v→r x H Q→
  wpAny (model X.prog X.w) X.A (f v) (EP X ag σ Q) X.xe s
def dj (X:Cx)(f:Value)(r:List V→Hp→VK→Prop):Prop:=
 ∀(ag:List (Addr×Obj)) (s:Shared) (σ:St) (H:Hp) (xs:List V) (us:List Value) (Q:VK),Inv X ag σ H s→bi xs us→r xs H Q→
  wpAny (model X.prog X.w) X.A (call f us) (EP X ag σ Q) X.xe s
def Fz (X:Cx)(r:V→Hp→(Bool→Hp→Prop)→Prop):Prop:=
 ∀(ag:List (Addr×Obj)) (s:Shared) (σ:St) (H:Hp) (x:V) (v:Value) (Q:Bool→Hp→Prop),Inv X ag σ H s→RelV x v→r x H Q→
  wpAny (model X.prog X.w) X.A (truthy v) (TP X ag σ Q) X.xe s
def CK (r:R2)(ta tb:TE):TE:=fun σ H Q=>ta σ H fun x H1=>tb σ H1 fun y H2=>r x y H2 Q
def F6 (r:V→Hp→VK→Prop)(ta:TE):TE:=fun σ H Q=>ta σ H fun x H1=>r x H1 Q
def rI (C:Int→Int→Prop)(g:Int→Int→V):R2:=fun x y H Q=>∃i j,x=.int i∧y=.int j∧C i j∧Q (g i j) H
def yU (g:Int→Int→V):R2:=fun x y H Q=>∃i j,x=.int i∧y=.int j∧Q (g i j) H
def rU (g:Int→V):V→Hp→VK→Prop:=fun x H Q=>∃i,x=.int i∧Q (g i) H
section
variable {X:Cx}{a b c:Expr}{ta tb tc:TE}{pos:Pos}
theorem BI (ha:PE X a ta)(hb:PE X b tb){ag:List (Addr×Obj)}{s:Shared}{σ:St}{H:Hp}{R:V→V→Hp→Prop}(I:Inv X ag σ H s)
  (h:ta σ H fun x H1=>tb σ H1 fun y H2=>R x y H2) {Q:Value→Shared→Prop} {f:Value→Value→Sem Value}
  (hf:∀v u s2 x y H2,Inv X ag σ H2 s2→RelV x v→RelV y u→R x y H2→wpAny (model X.prog X.w) X.A (f v u) Q X.xe s2) :
  wpAny (model X.prog X.w) X.A (eval a X.env) (fun v s₁=>wpAny (model X.prog X.w) X.A (eval b X.env) (fun u s₂=>wpAny (model X.prog X.w) X.A (f v u) Q X.xe s₂) X.xe s₁) X.xe s:=by
 refine dh (ha ag s σ H _ I h) fun v s1 hxx=>?_
 obtain⟨x,H1,I1,r1,q1⟩:=hxx;refine dh (hb ag s1 σ H1 _ I1 q1) fun u s2 hxx=>?_
 obtain⟨y,H2,I2,r2,q2⟩:=hxx;exact hf v u s2 x y H2 I2 r1 r2 q2
theorem Cq {op:Operator}{r:R2}(ho:gz X (binaryOp op) r)(ha:PE X a ta)(hb:PE X b tb):PE X (.BinOp a op b pos) (CK r ta tb):=by
 intro ag s σ H Q I h;exact wpAny_BinOp (BI ha hb I h fun v u s2 x y H2 I2 rx ry q=>ho ag s2 σ H2 x y v u Q I2 rx ry q)
theorem D6 {op:UnaryOp}{r:V→Hp→VK→Prop}(ho:FJ X (unaryOp op) r)(ha:PE X a ta):PE X (.UnaryOp op a pos) (F6 r ta):=by
 intro ag s σ H Q I h;exact UnaryOp_ (dh (ha ag s σ H _ I h) fun v s1 ⟨x,H1,I1,r1,q1⟩=>ho ag s1 σ H1 x v Q I1 r1 q1)
theorem Fg {f:Value→Value→Sem Value}{C:Int→Int→Prop}{g:Int→Int→Int}
  (rule:∀(i j:Int) (t u:Tok) (s:Shared) (Q:Value→Shared→Prop) (E:Value→Shared→Prop),C i j→Q (.int (g i j) s.toks) {s with toks:=s.toks+1}→wpAny (model X.prog X.w) X.A (f (.int i t) (.int j u)) Q E s) :
  gz X f (rI C fun i j=>.int (g i j)):=by
 intro ag s σ H x y v u Q I rx ry h;obtain⟨i,j,rfl,rfl,hc,q⟩:=h;obtain⟨t,rfl⟩:=rx;obtain⟨t',rfl⟩:=ry;exact rule i j t t' s _ _ hc ⟨.int (g i j),H,I.tok _,⟨_,rfl⟩,q⟩
theorem Dz {f:Value→Value→Sem Value}{g:Int→Int→Int}
  (rule:∀(i j:Int) (t u:Tok) (s:Shared) (Q:Value→Shared→Prop) (E:Value→Shared→Prop),Q (.int (g i j) s.toks) {s with toks:=s.toks+1}→wpAny (model X.prog X.w) X.A (f (.int i t) (.int j u)) Q E s) :
  gz X f (yU fun i j=>.int (g i j)):=by
 intro ag s σ H x y v u Q I rx ry h;obtain⟨i,j,rfl,rfl,q⟩:=h;obtain⟨t,rfl⟩:=rx;obtain⟨t',rfl⟩:=ry;exact rule i j t t' s _ _ ⟨.int (g i j),H,I.tok _,⟨_,rfl⟩,q⟩
theorem yQ {f:Value→Value→Sem Value}{g:Int→Int→Bool}
  (rule:∀(i j:Int) (t u:Tok) (s:Shared) (Q:Value→Shared→Prop) (E:Value→Shared→Prop),Q (.bool (g i j)) s→wpAny (model X.prog X.w) X.A (f (.int i t) (.int j u)) Q E s) :
  gz X f (yU fun i j=>.bl (g i j)):=by
 intro ag s σ H x y v u Q I rx ry h;obtain⟨i,j,rfl,rfl,q⟩:=h;obtain⟨t,rfl⟩:=rx;obtain⟨t',rfl⟩:=ry;exact rule i j t t' s _ _ ⟨.bl (g i j),H,I,rfl,q⟩
def EW (i j:Int):Prop:=0≤j∧j≤1000000∧i.natAbs<2 ^ 64
def Bf (i j:Int):Prop:=(-(2 ^ 64)<i∧i<2 ^ 64)∨(-(2 ^ 64)<j∧j<2 ^ 64)
theorem Bf.ok {i j:Int}(h:Bf i j):IntMulOk i j:=by
 rcases h with⟨h1,h2⟩|⟨h1,h2⟩
 ·exact .of_left (intBits_le_64 h1 h2)
 ·exact .of_right (intBits_le_64 h1 h2)
theorem AZ:gz X (binaryOp .Add) (yU fun i j=>.int (i+j)):=Dz fun _ _ _ _ _ _ _ q=>add_int q
theorem zK:gz X (binaryOp .Sub) (yU fun i j=>.int (i-j)):=Dz fun _ _ _ _ _ _ _ q=>sub_int q
theorem zB:gz X (binaryOp .Mult) (rI Bf fun i j=>.int (i*j)):=Fg fun _ _ _ _ _ _ _ hc q=>mul_int q hc.ok
theorem zW:gz X (binaryOp .Mod) (rI (fun _ j=>0<j) fun i j=>.int (i % j)):=Fg fun i j _ _ _ _ _ hc q=>by
 have h1:(0:Int)<j:=hc;exact mod_int' (by omega) (by rw[Int.fmod_eq_emod_of_nonneg i (by omega)];exact q)
theorem Bw:gz X (binaryOp .Pow) (rI EW fun i j=>.int (i ^ j.toNat)):=Fg fun _ _ _ _ _ _ _ hc q=>pow_int_small hc.1 hc.2.1 hc.2.2 q
theorem FZ {f:Value→Sem Value}{g:Int→Int}
  (rule:∀(i:Int) (t:Tok) (s:Shared) (Q:Value→Shared→Prop) (E:Value→Shared→Prop),Q (.int (g i) s.toks) {s with toks:=s.toks+1}→wpAny (model X.prog X.w) X.A (f (.int i t)) Q E s) :
  FJ X f (rU fun i=>.int (g i)):=by
 intro ag s σ H x v Q I rx h;obtain⟨i,rfl,q⟩:=h;obtain⟨t,rfl⟩:=rx;exact rule i t s _ _ ⟨.int (g i),H,I.tok _,⟨_,rfl⟩,q⟩
theorem AC:FJ X (unaryOp .USub) (rU fun i=>.int (-i)):=FZ fun _ _ _ _ _ q=>neg_int q
end
section
variable {X:Cx}{a b c:Expr}{ta tb tc:TE}{pos:Pos}
theorem D7:gz X (compareOp .Lt) (yU fun i j=>.bl (decide (i<j))):=yQ fun _ _ _ _ _ _ _ q=>lt_int q
theorem Cs:gz X (compareOp .LtE) (yU fun i j=>.bl (decide (i≤j))):=yQ fun _ _ _ _ _ _ _ q=>le_int q
theorem Dh:gz X (compareOp .Gt) (yU fun i j=>.bl (decide (j<i))):=yQ fun _ _ _ _ _ _ _ q=>gt_int q
theorem Dx:gz X (compareOp .GtE) (yU fun i j=>.bl (decide (j≤i))):=yQ fun _ _ _ _ _ _ _ q=>ge_int q
def Eo:HO→Bool
 | .lst _=>true
 | .ins _ _ _=>true
 | _=>false
theorem Ca {ag:List (Addr×Obj)}{s:Shared}{σ:St}{H:Hp}{a:Addr}{o:HO}(I:Inv X ag σ H s)(h:H a=some o)(p:Eo o=true):∃ob,s.heap.get? a=some ob∧ob.cls≠.type "tuple":=by
 cases o with
 | lst xs=>
  obtain⟨_,its,n,_,e⟩:xs.length≤sizeLine∧∃(its:List Value) (n:Nat),bi xs its∧s.heap.get? a=some {cls:=.type "list",data:=.seq its.toArray n}:=I.hok a _ h;exact⟨_,e,(by show Value.type "list"≠.type "tuple";decide +kernel)⟩
 | ins C dx fs=>
  have x:=I.hok a _ h;obtain⟨_,_,_,e,_⟩:=x;exact⟨_,e,(by show Value.ref C≠.type "tuple";exact fun z=>by cases z)⟩
 | _=>exact absurd (show false=true from p) Bool.false_ne_true
theorem BM (b:Expr){op:CmpOp}(h:op≠.In:=by decide)(h2:op≠.NotIn:=by decide):behindInMarks op b=false:=by
 have e1:(op==CmpOp.In)=false:=by cases op <;> first|rfl|exact absurd rfl h
 have e2:(op==CmpOp.NotIn)=false:=by cases op <;> first|rfl|exact absurd rfl h2
 cases b <;> simp[behindInMarks,e1,e2]
theorem yo {op:CmpOp}{r:R2}(ho:gz X (compareOp op) r)(ha:PE X a ta)(hb:PE X b tb)(hm:behindInMarks op b=false):PE X (.Compare a [op] [b] pos) (CK r ta tb):=by
 intro ag s σ H Q I h;exact wpAny_Compare1 (BI ha hb I h fun v u s2 x y H2 I2 rx ry q=>ho ag s2 σ H2 x y v u Q I2 rx ry q) hm
def y9 (t:TE):TT:=fun σ H Q=>t σ H fun x H'=>∃k,x=.bl k∧Q k H'
theorem xD {op:CmpOp}{r:R2}(ho:gz X (compareOp op) r)(ha:PE X a ta)(hb:PE X b tb)(hm:behindInMarks op b=false):PT X (.Compare a [op] [b] pos) (y9 (CK r ta tb)):=by
 intro ag s σ H Q I h;refine wpAny_isTrue_Compare1 (dh (ha ag s σ H _ I h) fun v s1 ⟨x,H1,I1,r1,q1⟩=>dh (hb ag s1 σ H1 _ I1 q1) fun u s2 ⟨y,H2,I2,r2,q2⟩=>
  dh (ho ag s2 σ H2 x y v u _ I2 r1 r2 q2) fun c s3 hxx=>?_) hm
 obtain⟨z,H3,I3,r3,k,e,q3⟩:=hxx;subst e;cases r3;exact wpAny_truthy_bool ⟨H3,I3,q3⟩
def p4 (r r':R2)(ta tb tc:TE):TE:=fun σ H Q=>ta σ H fun x H1=>tb σ H1 fun y H2=>r x y H2 fun z H3=>∃k,z=.bl k∧
 (if k=true then tc σ H3 fun w' H4=>r' y w' H4 Q else Q (.bl false) H3)
theorem vE {op op':CmpOp}{r r':R2}(ho:gz X (compareOp op) r)(ho':gz X (compareOp op') r')(ha:PE X a ta)(hb:PE X b tb)(hc:PE X c tc)
  (hm:lastMarks [op,op'] [b,c]=false:=by with_unfolding_all rfl):PE X (.Compare a [op,op'] [b,c] pos) (p4 r r' ta tb tc):=by
 intro ag s σ H Q I h;refine Compare_chain (dh (ha ag s σ H _ I h) fun v s1 ⟨x,H1,I1,r1,q1⟩=>chain_link (dh (hb ag s1 σ H1 _ I1 q1) fun u s2 ⟨y,H2,I2,r2,q2⟩=>
  dh (ho ag s2 σ H2 x y v u _ I2 r1 r2 q2) fun d s3 hxx=>?_)) hm
 obtain⟨z,H3,I3,r3,k,e,q3⟩:=hxx;subst e;cases r3;refine wpAny_truthy_bool ?_;cases k with
 | false=>exact ite_ff ⟨.bl false,H3,I3,rfl,q3⟩
 | true=>exact ite_tt (chain_last (dh (hc ag s3 σ H3 _ I3 q3) fun w' s4 ⟨z',H4,I4,r4,q4⟩=>ho' ag s4 σ H4 y z' u w' Q I4 r2 r4 q4))
theorem vN {op op':CmpOp}{r r':R2}(ho:gz X (compareOp op) r)(ho':gz X (compareOp op') r')(ha:PE X a ta)(hb:PE X b tb)(hc:PE X c tc)
  (hm:lastMarks [op,op'] [b,c]=false:=by with_unfolding_all rfl):PT X (.Compare a [op,op'] [b,c] pos) (y9 (p4 r r' ta tb tc)):=by
 intro ag s σ H Q I h;refine isTrue_chain (dh (ha ag s σ H _ I h) fun v s1 ⟨x,H1,I1,r1,q1⟩=>test_link (dh (hb ag s1 σ H1 _ I1 q1) fun u s2 ⟨y,H2,I2,r2,q2⟩=>
  dh (ho ag s2 σ H2 x y v u _ I2 r1 r2 q2) fun d s3 hxx=>?_)) hm
 obtain⟨z,H3,I3,r3,k,e,q3⟩:=hxx;subst e;cases r3;refine wpAny_truthy_bool ?_;cases k with
 | false=>
  obtain⟨k',e',q'⟩:=q3;cases e';exact ite_ff ⟨H3,I3,q'⟩
 | true=>
  refine ite_tt (test_last (dh (hc ag s3 σ H3 _ I3 q3) fun w' s4 ⟨z',H4,I4,r4,q4⟩=>dh (ho' ag s4 σ H4 y z' u w' _ I4 r2 r4 q4) fun d' s5 hxx=>?_));obtain⟨z2,H5,I5,r5,k2,e2,q5⟩:=hxx;subst e2;cases r5;exact wpAny_truthy_bool ⟨H5,I5,q5⟩
def D8 (K:W.Frag)(x:V)(H:Hp)(k:Bool):Prop:=
 match x with
 | .non=>k=false
 | .bl b=>k=b
 | .int i=>k=(i != 0)
 | .str y=>y.length≤sizeLine∧k=((y.length:Int) != 0)
 | .byt y=>y.size≤sizeLine∧k=((y.size:Int) != 0)
 | .ref p=>(∃xs,kU K H p xs∧k=!xs.isEmpty)∨(∃xs,j9 K H p xs∧k=!xs.isEmpty)∨∃kvs,H p=some (.dK kvs)∧k=!kvs.isEmpty
 | _=>False
theorem qL {κ:Type}{kvs:List (κ×V)}{vs:List (κ×Value)}(r:KV kvs vs):(!vs.isEmpty)=!kvs.isEmpty:=by
 cases r <;> rfl
theorem lE {xs:List V}{its:List Value}(r:bi xs its):(!its.toArray.isEmpty)=!xs.isEmpty:=by
 cases r <;> simp
theorem js:(sizeLine:Nat)<2 ^ 63:=by rw[sizeLine_eq];decide
theorem AD:Fz X (fun x H Q=>∃k,D8 X.K x H k∧Q k H):=by
 intro ag s σ H x v Q I rx h;obtain⟨k,e,q⟩:=h;have hl:=js;have hs:sizeLine=16777216:=sizeLine_eq;cases x with
 | non=>
  cases rx;have e':k=false:=e;subst e';exact truthy_none ⟨H,I,q⟩
 | bl b=>
  cases rx;have e':k=b:=e;subst e';exact wpAny_truthy_bool ⟨H,I,q⟩
 | int i=>
  obtain⟨t,rfl⟩:=rx;have e':k=(i != 0):=e;subst e';exact PySem.P.truthy_int ⟨H,I,q⟩
 | str y=>
  obtain⟨t,rfl⟩:=rx;obtain⟨hy,e'⟩:y.length≤sizeLine∧k=((y.length:Int) != 0):=e;subst e';exact PySem.P.truthy_str (by omega) ⟨H,I.tok _,q⟩
 | byt y=>
  obtain⟨t,rfl⟩:=rx;obtain⟨hy,e'⟩:y.size≤sizeLine∧k=((y.size:Int) != 0):=e;subst e';exact W.truthy_bytes (by omega) ⟨H,I.tok _,q⟩
 | ref p=>
  cases rx;have e':(∃xs,kU X.K H p xs∧k=!xs.isEmpty)∨(∃xs,j9 X.K H p xs∧k=!xs.isEmpty)∨∃kvs,H p=some (.dK kvs)∧k=!kvs.isEmpty:=e;rcases e' with⟨xs,hx,e'⟩|⟨xs,hx,e'⟩|⟨kvs,hx,e'⟩
  ·subst e';obtain⟨its,r,pl,hz⟩:=I.list hx;have hlen:=r.length;exact wpAny_truthy_list pl.isList (by simp only[size_toArray];omega) ⟨H,I.tok _,by rw[lE r];exact q⟩
  ·subst e';obtain⟨its,r,pl,hz⟩:=I.tuple hx;have hlen:=r.length;exact truthy_tuple pl (by simp only[size_toArray];omega) ⟨H,I.tok _,by rw[lE r];exact q⟩
  ·subst e';obtain⟨hz,hS,vs,r,m⟩:kvs.length≤sizeLine∧(p==sysModules)=false∧∃vs,KV kvs vs∧s.heap.DictOf (nZ X.prog X.w) p vs:=I.hok p _ hx;have hlen:kvs.length=vs.length:=Paired.length r;exact wpAny_truthy_dict hS m (by omega) ⟨H,I.tok _,by rw[qL r];exact q⟩
 | _=>exact(show False from e).elim
theorem uZ (ha:PE X a ta)(he:∀whole,isTrue a X.env whole=(do let v ←whole;standAt a.pos;holding [v] (truthy v))) :
  PT X a (fun σ H Q=>ta σ H fun x H'=>∃k,D8 X.K x H' k∧Q k H'):=by
 intro ag s σ H Q I h;exact isTrue_plain (dh (ha ag s σ H _ I h) fun v s1 ⟨x,H1,I1,r1,q1⟩=>AD ag s1 σ H1 x v Q I1 r1 q1) (he _)
theorem p7:gz X (binaryOp .Add) (fun x y H Q=>∃i j,x=.str i∧y=.str j∧i.length+j.length≤sizeLine∧Q (.str (i++j)) H):=by
 intro ag s σ H x y v u Q I rx ry h;obtain⟨i,j,rfl,rfl,hz,q⟩:=h;obtain⟨t,rfl⟩:=rx;obtain⟨t',rfl⟩:=ry;exact add_str (fun t' tk=>⟨.str (i++j),H,I.tok _,⟨_,rfl⟩,q⟩) hz
theorem lW {x:V}{us:List Value}(r:bi [x] us):∃u,us=[u]∧RelV x u:=by
 cases r with
 | cons r1 r2=>cases r2;exact⟨_,rfl,r1⟩
theorem rj {x y:V}{us:List Value}(r:bi [x,y] us):∃u w',us=[u,w']∧RelV x u∧RelV y w':=by
 cases r with
 | cons r1 r2=>
  cases r2 with
  | cons r3 r4=>cases r4;exact⟨_,_,rfl,r1,r3⟩
theorem tB (hc:X.calm=true):dj X (.builtin "max") (fun xs H Q=>∃i j,xs=[.int i,.int j]∧Q (.int (if j>i then j else i)) H):=by
 intro ag s σ H xs us Q I r h;obtain⟨i,j,rfl,q⟩:=h;obtain⟨u,w',rfl,⟨t,rfl⟩,⟨t',rfl⟩⟩:=rj r;refine max_two_ints (I.ok.hd hc) fun h' tk k=>⟨_,H,I.kept k,?_,q⟩
 by_cases hj:j>i
 ·rw[if_pos hj,if_pos hj];exact⟨_,rfl⟩
 ·rw[if_neg hj,if_neg hj];exact⟨_,rfl⟩
theorem sG (hc:X.calm=true):dj X (.builtin "min") (fun xs H Q=>∃i j,xs=[.int i,.int j]∧Q (.int (if j<i then j else i)) H):=by
 intro ag s σ H xs us Q I r h;obtain⟨i,j,rfl,q⟩:=h;obtain⟨u,w',rfl,⟨t,rfl⟩,⟨t',rfl⟩⟩:=rj r;refine min_two_ints (I.ok.hd hc) fun h' tk k=>⟨_,H,I.kept k,?_,q⟩
 by_cases hj:j<i
 ·rw[if_pos hj,if_pos hj];exact⟨_,rfl⟩
 ·rw[if_neg hj,if_neg hj];exact⟨_,rfl⟩
theorem nw:dj X (.type "int") (fun xs H Q=>(∃i,xs=[.int i]∧Q (.int i) H)∨∃k,xs=[.bl k]∧Q (.int (if k then 1 else 0)) H):=by
 intro ag s σ H xs us Q I r h;rcases h with⟨i,rfl,q⟩|⟨k,rfl,q⟩
 ·obtain⟨u,rfl,t,rfl⟩:=lW r;exact call_int_int ⟨.int i,H,I,⟨_,rfl⟩,q⟩
 ·obtain⟨u,rfl,r1⟩:=lW r;cases r1;exact call_int_bool ⟨.int (if k then 1 else 0),H,I.tok _,⟨_,rfl⟩,q⟩
end
structure wC (h:Heap)(x dx C:Addr)(mA:Str→Option Value):Prop where
 obj:h.get? x=some (W.instObj C dx)
 ns:h.Ns1 dx mA
 ne:dx≠x
theorem tQ {h:Heap}{dx:Addr}{mA:Str→Option Value}(n:h.Ns1 dx mA):∃od,h.get? dx=some od∧∀name,W.lookIn name od=some (mA name):=by
 obtain⟨o,es,ep,ho,hd,hk,_,hm⟩:=n;refine⟨o,ho,fun name=>?_⟩;have e:=hm name;unfold nsFind findBy at e;rw[←Array.find?_toList] at e;unfold W.lookIn;rw[hd];dsimp only;split
 ·rename_i y q;rw[q] at e;exact congrArg some e
 ·rename_i q;rw[q] at e;have a:es.toList.any (·.refKey)=false:=by
   rw[any_eq_false];intro y hy;obtain⟨z,t,hkey⟩:=hk y (Array.mem_toList_iff.mp hy);simp[DictEntry.refKey,hkey]
  have a':¬es.toList.any (·.refKey)=true:=by rw[a];exact Bool.false_ne_true
  rw[if_neg a'];exact congrArg some e
theorem wC.look {h:Heap}{x dx C:Addr}{mA:Str→Option Value}(I:wC h x dx C mA):∃od,W.InstAt h x (W.instObj C dx) C (some od)∧∀name,W.lookIn name od=some (mA name):=
 let ⟨od,ho,hl⟩:=tQ I.ns
 ⟨od,⟨I.obj,rfl,rfl,ho⟩,hl⟩
section
variable {prog:Program}{w:World}{A:Around}{E:Value→Shared→Prop}{s:Shared}{K:W.Frag}{x dx C f:Addr}{mA:Str→Option Value}{name:Str}{v:Value}
theorem yb {ns:List Str}{Q:Unit→Shared→Prop}(X:K.In s.heap)(I:wC s.heap x dx C mA)
  (hs:W.findIn K (.ref C) "__setattr__"=some (some (.builtin "object.__setattr__"))) (hp:W.plainOver K C=true) (ht:W.takerIn K C name=some none) (hh:W.hasDictIn K C=true)
  (hw:PySem.Within mA ns) (hsz:ns.length≤sizeLine)
  (h:∀h',wC h' x dx C (fun y=>if y=name then some v else mA y)→Heap.SameBut dx s.heap h'→Q () {s with heap:=h',toks:=s.toks+2}) :
  wpAny (model prog w) A (setAttr (.ref x) name v) Q E s:=by
 obtain⟨od,J,hl⟩:=I.look;refine W.set_plain X J hs (W.osa_open (s:={s with toks:=s.toks+1}) (r:=none) X J hp ht fun b=>?_);obtain⟨cd,hc,hd'⟩:=W.any_some hh;have hx:s.heap.get? x=some ⟨.ref C,some dx,.plain,#[]⟩:=I.obj;refine wpAny_bind (wpAny_pure (wpAny_bind (wpAny_bind (wpAny_loadPart hx (wpAny_bind (W.Looks.here (s:={s with toks:=s.toks+1}) (W.looks_clsIn X hc) ?_))))));rw[hd'];refine wpAny_pure (a:=some dx) (wpAny_bind (wpAny_pure (wpAny_bind ?_)));refine wpAny_nsSet1 (s:={s with toks:=s.toks+1}) I.ns fun h' hn2 hs2=>?_
 obtain⟨oD,esD,epD,hoD,hdD,hcD⟩:=hn2.count (PySem.Within.cons name v hw);refine wpAny_bind (wpAny_lookBehind hoD (by rw[hdD];exact pastItsLine_dict (Nat.le_trans hcD (by rw[length_cons];omega))) ?_);exact wpAny_pure (h _ ⟨(hs2.2 _ (Ne.symm I.ne)).trans I.obj,hn2,I.ne⟩ hs2)
theorem wc {R:Result→Shared→Prop}{vs:List Value}{kw:List (Str×Value)}(X:K.In s.heap)(hm:W.makesIn K C=true)
  (hi:W.findIn K (.ref C) "__init__"=some (some (.ref f))) (hf:W.typeIn K (.ref f)=some (.type "function"))
  (h:codeAny (model prog w) (A.under (.builtin "type.__call__" ⟨.ref C::vs,kw⟩)) (.call (.ref f) ⟨.ref (s.heap.objs.size+1)::vs,kw⟩) (W.InitBack (s.heap.objs.size+1) R)
   {s with heap:=(s.heap.push W.emptyDict).push (W.instObj C s.heap.objs.size)}) :
  codeAny (model prog w) A (.call (.ref C) ⟨vs,kw⟩) R s:=by
 obtain⟨hh,g,d,t,os⟩:=s;exact W.make_core (W.makes_of X hm) (W.looks_findIn X hi) (fun self=>W.bind_fn X self hf) (.inl rfl) h
end
def iq (f:Str)(v:V):List (Str×V)→List (Str×V)
 | []=>[(f,v)]
 | (g,x)::r=>if g=f then(g,v)::r else(g,x)::iq f v r
theorem kQ (f g:Str)(v:V):∀fs:List (Str×V),(iq f v fs).lookup g=if g=f then some v else fs.lookup g
 | []=>by
  show List.lookup g [(f,v)]=_
  by_cases h:g=f
  ·have hb:(g==f)=true:=beq_iff_eq.mpr h;simp only[List.lookup,hb,if_pos h]
  ·have hb:(g==f)=false:=beq_eq_false_iff_ne.mpr h;simp only[List.lookup,hb,if_neg h]
 | (k,x)::r=>by
  have ih:=kQ f g v r;rw[show iq f v ((k,x)::r)=(if k=f then(k,v)::r else(k,x)::iq f v r) from rfl]
  by_cases hk:k=f
  ·rw[if_pos hk]
   by_cases h:g=k
   ·have hb:(g==k)=true:=beq_iff_eq.mpr h;simp only[List.lookup,hb,if_pos (h.trans hk)]
   ·have hb:(g==k)=false:=beq_eq_false_iff_ne.mpr h;simp only[List.lookup,hb,if_neg (fun e:g=f=>h (e.trans hk.symm))]
  ·rw[if_neg hk]
   by_cases h:g=k
   ·have hb:(g==k)=true:=beq_iff_eq.mpr h;simp only[List.lookup,hb,if_neg (fun e:g=f=>hk (h.symm.trans e))]
   ·have hb:(g==k)=false:=beq_eq_false_iff_ne.mpr h;simp only[List.lookup,hb];exact ih
theorem kl (f:Str)(v:V):∀fs:List (Str×V),f∈(iq f v fs).map (·.1)∧∀g,g∈fs.map (·.1)→g∈(iq f v fs).map (·.1)
 | []=>⟨by simp[iq],fun g h=>by simp at h⟩
 | (k,x)::r=>by
  obtain⟨i1,i2⟩:=kl f v r;rw[show iq f v ((k,x)::r)=(if k=f then(k,v)::r else(k,x)::iq f v r) from rfl]
  by_cases hk:k=f
  ·rw[if_pos hk];subst hk;exact⟨by simp,fun g h=>by simpa using h⟩
  ·rw[if_neg hk];refine⟨?_,fun g h=>?_⟩
   ·rw[map_cons];exact mem_cons_of_mem _ i1
   ·rw[map_cons] at h ⊢;rcases mem_cons.mp h with e|e
    ·exact mem_cons.mpr (.inl e)
    ·exact mem_cons_of_mem _ (i2 g e)
theorem k7 (f:Str)(v:V):∀fs:List (Str×V),(iq f v fs).length≤fs.length+1
 | []=>by simp[iq]
 | (k,x)::r=>by
  have ih:=k7 f v r;rw[show iq f v ((k,x)::r)=(if k=f then(k,v)::r else(k,x)::iq f v r) from rfl]
  by_cases hk:k=f
  ·rw[if_pos hk,length_cons,length_cons];omega
  ·rw[if_neg hk,length_cons,length_cons];omega
section
variable {P:Program}{w:World}{H H':Hp}{h h':Heap}{a C dx:Addr}{fs fs':List (Str×V)}
theorem xW (hok:k6 P w H h)(e:H a=some (.ins C dx fs)):∃mA,wC h a dx C mA∧(∀f,yN (fs.lookup f) (mA f))∧PySem.Within mA (fs.map (·.1))∧fs.length≤1000∧H dx=some (.own a):=by
 obtain⟨d,z,ne,ob,mA,n,r,q⟩:=(show eZ P w H h a (.ins C dx fs) from hok a _ e);exact⟨mA,⟨ob,n,ne⟩,r,q,z,d⟩
end
structure E8 (K:W.Frag)(C:Addr):Prop where
 pg:W.plainGet K C Str.empty=true
 hd:W.hasDictIn K C=true
 po:W.plainOver K C=true
 sa:W.findIn K (.ref C) "__setattr__"=some (some (.builtin "object.__setattr__"))
def jH (K:W.Frag)(C:Addr)(f:Str):Prop:=W.findIn K (.ref C) f=some none
theorem jH.taker {K:W.Frag}{C:Addr}{f:Str}(n:jH K C f):W.takerIn K C f=some none:=by
 unfold W.takerIn;rw[show W.findIn K (.ref C) f=some none from n];rfl
structure Cz (K:W.Frag)(C:Addr)(m:Str)(f:Addr):Prop where
 at_:W.findIn K (.ref C) m=some (some (.ref f))
 fn:W.isFn K (.ref f)=true
 kp:W.keepIn K (.ref f)=true
section
variable {X:Cx}{ag:List (Addr×Obj)}{σ:St}{H:Hp}{s:Shared}{a C dx:Addr}{fs:List (Str×V)}{f:Str}{v:V}{A:Around}{E:Value→Shared→Prop}
theorem qI {y:V}{u:Value}{Q:Unit→Shared→Prop}(I:Inv X ag σ H s)(e:H a=some (.ins C dx fs))(c:E8 X.K C)(n:jH X.K C f)(hl:fs.length<1000)(ry:RelV y u)
  (h:∀s',Inv X ag σ (cN H a (.ins C dx (iq f y fs))) s'→Q () s'):wpAny (model X.prog X.w) A (setAttr (.ref a) f u) Q E s:=by
 obtain⟨mA,O,r,wi,_,ho⟩:=xW I.hok e;have hz:(fs.map (·.1)).length≤sizeLine:=by rw[length_map,sizeLine_eq];omega
 refine yb I.kIn O c.sa c.po n.taker c.hd wi hz fun h' O' sb=>h _ ?_
 have hd:∃o,h'.get? dx=some o:=let ⟨o,_,_,e',_⟩:=O'.ns;⟨o,e'⟩
 refine I.write (x:=a) (e:=dx) (by rw[e];exact True.intro) (.inr ho) (fun b q hb z=>(sb.2 b hb).trans z) hd ?_;refine⟨by rw[ax O.ne];exact ho,?_,O.ne,O'.obj,_,O'.ns,fun g=>?_,fun g hg=>?_⟩
 ·have:=k7 f y fs;omega
 ·show yN ((iq f y fs).lookup g) (if g=f then some u else mA g);rw[kQ]
  by_cases q:g=f
  ·rw[if_pos q,if_pos q];exact ry
  ·rw[if_neg q,if_neg q];exact r g
 ·by_cases q:g=f
  ·rw[q];exact(kl f y fs).1
  ·refine(kl f y fs).2 g (wi g fun z=>hg ?_);show(if g=f then some u else mA g)=none;rw[if_neg q];exact z
theorem Inv.made (I:Inv X ag σ H s):Inv X ag σ (cN (cN H s.heap.objs.size (.own (s.heap.objs.size+1))) (s.heap.objs.size+1) (.ins C s.heap.objs.size []))
  {s with heap:=(s.heap.push W.emptyDict).push (W.instObj C s.heap.objs.size)}:=by
 have e1:(s.heap.push W.emptyDict).get? s.heap.objs.size=some W.emptyDict:=Heap.get?_push_size s.heap rfl;have e2:((s.heap.push W.emptyDict).push (W.instObj C s.heap.objs.size)).get? (s.heap.objs.size+1)=some (W.instObj C s.heap.objs.size):=by
  have:=Heap.get?_push_size (s.heap.push W.emptyDict) (o:=W.instObj C s.heap.objs.size) rfl;rwa [Heap.size_push] at this
 have e3:(s.heap.push W.emptyDict).Ns s.heap.objs.size (fun _=>none):=⟨W.emptyDict,#[],_,e1,rfl,(fun e he=>absurd he (by simp)),fun _=>rfl⟩;have I1:=I.laid (a:=s.heap.objs.size) (o:=.own (s.heap.objs.size+1)) (h':=s.heap.push W.emptyDict) (t':=s.toks) (fun b u q=>Heap.get?_push_of_some _ q) (Nat.le_refl _) ⟨_,e1⟩;refine I1.laid (a:=s.heap.objs.size+1) (o:=.ins C s.heap.objs.size []) (t':=s.toks) (fun b u q=>Heap.get?_push_of_some _ q) (Nat.le_of_eq (Heap.size_push _ _)) ?_;have ne:s.heap.objs.size≠s.heap.objs.size+1:=Nat.ne_of_lt (Nat.lt_succ_self _);refine⟨by rw[ax ne,cH],Nat.zero_le _,ne,e2,fun _=>none,(Heap.Ns1.of_empty e3).at fun o q=>Heap.get?_push_of_some _ q,fun _=>True.intro,fun y hy=>absurd rfl hy⟩
end
def EO (K:W.Frag)(ta tv:TE)(f:Str):TS:=fun D σ H=>tv σ H fun y H1=>ta σ H1 fun x H2=>∃a C dx fs,x=.ref a∧H2 a=some (.ins C dx fs)∧E8 K C∧jH K C f∧fs.length<1000∧
 D.nx σ (cN H2 a (.ins C dx (iq f y fs)))
section
variable {X:Cx}{o e value:Expr}{f:Str}{pos pos' tpos:Pos}{ta tv:TE}
theorem zU (ha:PE X o ta)(hv:PE X value tv)(hs:swapsWith value (some (.Attribute o f pos')) pos.line X.env=pure false):PS X (.Assign [.Attribute o f pos'] value pos) (EO X.K ta tv f):=by
 intro ag s σ H D I h;refine plainObj_wpAny_Assign_Attribute (dh (hv ag s σ H _ I h) fun u s1 ⟨y,H1,I1,ry,q⟩=>dh (ha ag s1 σ H1 _ I1 q) fun ov s2 hxx=>?_) hs;obtain⟨x,H2,I2,rx,a,C,dx,fs,ex,ea,c,n,l,q2⟩:=hxx;subst ex;obtain rfl:ov=Value.ref a:=rx;exact qI I2 ea c n l ry fun s3 I3=>⟨σ,_,I3,q2⟩
end
structure dm (k:Nat)(A:Around):Prop where
 hd:A.handled=none
 dp:A.depth+3*k+5<recursionLimit
 un:A.units+16*k+200<cLine
theorem dm.mono {j k:Nat}{A:Around}(r:dm k A)(h:j≤k):dm j A:=⟨r.hd,by have:=r.dp;omega,by have:=r.un;omega⟩
theorem dm.deeper {k:Nat}{A:Around}(r:dm (k+1) A)(env:Env):dm k (A.deeper env):=
 ⟨r.hd,by have:=r.dp;show A.depth+1+3*k+5<_;omega,by have:=r.un;show A.units+3+16*k+200<_;omega⟩
theorem qT {A:Around}{C:Addr}{us:List Value}{kw:List (Str×Value)}:(A.under (.builtin "type.__call__" ⟨.ref C::us,kw⟩)).depth=A.depth+1:=by
 first|rfl|simp[Around.under,Code.weight,Code.isCreation,Code.isGuard,Code.isCaller,Code.frames,Code.isFrame,guardIds]
theorem qQ {A:Around}{C:Addr}{us:List Value}{kw:List (Str×Value)}:(A.under (.builtin "type.__call__" ⟨.ref C::us,kw⟩)).units=A.units+1:=by
 first|rfl|simp[Around.under,Code.cUnits,Code.frames,Code.isFrame]
theorem dm.make {k:Nat}{A:Around}(r:dm (k+1) A)(C:Addr)(us:List Value)(kw:List (Str×Value)):dm k (A.under (.builtin "type.__call__" ⟨.ref C::us,kw⟩)):=
 ⟨r.hd,by have:=r.dp;rw[qT];omega,by have:=r.un;rw[qQ];omega⟩
theorem dm.depth {k:Nat}{A:Around}(r:dm k A):A.depth<recursionLimit:=by have:=r.dp;omega
theorem dm.units {k:Nat}{A:Around}(r:dm k A):A.units+64<cLine:=by have:=r.un;omega
def AB:TA:=fun _ H Q=>Q [] H
def rE (ta:TE)(tr:TA):TA:=fun σ H Q=>ta σ H fun x H1=>tr σ H1 fun xs H2=>Q (x::xs) H2
section
variable {X:Cx}{e:Expr}{es:List Expr}{te:TE}{t:TA}{pos:Pos}
theorem iW:PA X [] AB:=fun _ _ _ _ H Q I h=>Calls.spliced_nil ⟨[],H,I,.nil,h⟩
theorem eS (ha:PE X e te)(hr:PA X es t)(hs:starEach (e::es) X.env=(false,eval e X.env)::starEach es X.env:=by rfl):PA X (e::es) (rE te t):=by
 intro pos ag s σ H Q I h;rw[hs];show wpAny _ _ (spliced ((false,eval e X.env)::backTo pos (starEach es X.env))) _ _ s;refine Calls.spliced_cons (dh (ha ag s σ H _ I h) fun u s1 hxx=>?_);obtain⟨x,H1,I1,r1,q1⟩:=hxx;exact dh (hr pos ag s1 σ H1 _ I1 q1) fun us s2 ⟨xs,H2,I2,r2,q2⟩=>⟨x::xs,H2,I2,.cons r1 r2,q2⟩
def E7 (t:TA):TE:=fun σ H Q=>t σ H fun xs H1=>xs.length≤sizeLine∧∀p,H1 p=none→Q (.ref p) (cN H1 p (.tup xs))
def EL (t:TA):TE:=fun σ H Q=>t σ H fun xs H1=>xs.length≤sizeLine∧∀p,H1 p=none→Q (.ref p) (cN H1 p (.lst xs))
theorem Ad {x1}(h:PA X es t):PE X (.Tuple es x1 pos) (E7 t):=by
 intro ag s σ H Q I hq;refine wpAny_Tuple_spliced (dh (h pos ag s σ H _ I hq) fun us s1 ⟨xs,H1,I1,r,z,q⟩=>⟨by rw[←r.length];exact z,?_⟩);have hf:H1 s1.heap.objs.size=none:=I1.hok.fresh (Nat.le_refl _);refine⟨.ref s1.heap.objs.size,cN H1 s1.heap.objs.size (.tup xs),I1.laid (t':=s1.toks) (fun b u e=>Heap.get?_push_of_some _ e) (Nat.le_refl _) ?_,rfl,q _ hf⟩;exact⟨z,us,r,⟨_,Heap.get?_push_size _ rfl,rfl,_,rfl⟩⟩
theorem wd (h:PA X es t):PE X (.List es pos) (EL t):=by
 intro ag s σ H Q I hq;refine wpAny_List_spliced (dh (h pos ag s σ H _ I hq) fun us s1 ⟨xs,H1,I1,r,z,q⟩=>⟨by rw[←r.length];exact z,?_⟩);have hf:H1 s1.heap.objs.size=none:=I1.hok.fresh (Nat.le_refl _);refine⟨.ref s1.heap.objs.size,cN H1 s1.heap.objs.size (.lst xs),I1.laid (t':=s1.toks) (fun b u e=>Heap.get?_push_of_some _ e) (Nat.le_refl _) ?_,rfl,q _ hf⟩;exact⟨z,us,0,r,Heap.get?_push_size _ rfl⟩
end
abbrev Sp:=List V→Hp→VK→XK→Prop
abbrev sH:=List Env→Hp→Shared→XK→Value→Shared→Prop
structure qi (P:Program)(w:World)(K:W.Frag)(mg:Str→Option Value)(base:Heap)(A:Around)(outer:List Env)(s:Shared)(H:Hp):Prop where
 frames:A.frames=some outer
 mod:Mod K mg base
 bs:∀b o,base.get? b=some o→s.heap.get? b=some o∧H b=none
 bsz:base.objs.size≤s.heap.objs.size
 funs:s.heap.FunFrames base outer
 frf:∀b∈lP outer,H b=none
 hok:k6 P w H s.heap
 bare:AllBare s.gens
def CE (outer:List Env)(P:Program)(w:World)(H:Hp)(s:Shared)(Q:VK)(u:Value)(s':Shared):Prop:=
 ∃v H',s'.os=s.os∧AllBare s'.gens∧Un (lP outer) [] H H' s.heap s'.heap∧k6 P w H' s'.heap∧RelV v u∧Q v H'
def CR (CX:sH)(outer:List Env)(P:Program)(w:World)(H:Hp)(s:Shared)(Q:VK)(E:XK)(r:Result)(s':Shared):Prop:=
 match r with
 | .ok (.ret u)=>CE outer P w H s Q u s'
 | .ok _=>False
 | .error e=>CX outer H s E e s'
structure fE (P:Program)(w:World)(K:W.Frag)(mg:Str→Option Value)(base:Heap)(CX:sH)(k:Nat)(f:Addr)(fd:FuncData)(ps:List Str)(sp:Sp):Prop where
 len:∀vs H Q E,sp vs H Q E→vs.length=ps.length
 run:∀(A:Around) (outer:List Env) (s:Shared) (H:Hp) (args:Args) (us:List Value) (vs:List V) (Q:VK) (E:XK),dm k A→qi P w K mg base A outer s H→BindsTo s fd args (ps.zip us)→bi vs us→sp vs H Q E→
  codeAny (model P w) A (.call (.ref f) args) (CR CX outer P w H s Q E) s
theorem fE.imp {P:Program}{w:World}{K:W.Frag}{mg:Str→Option Value}{base:Heap}{CX:sH}{k:Nat}{f:Addr}{fd:FuncData}{ps:List Str}{sp sp':Sp}(F:fE P w K mg base CX k f fd ps sp)
  (h:∀vs H Q E,sp' vs H Q E→sp vs H Q E):fE P w K mg base CX k f fd ps sp':=
 ⟨fun vs H Q E q=>F.len vs H Q E (h _ _ _ _ q),fun A outer s H args us vs Q E hr he hb hv hs=>F.run A outer s H args us vs Q E hr he hb hv (h _ _ _ _ hs)⟩
theorem qi.make {P:Program}{w:World}{K:W.Frag}{mg:Str→Option Value}{base:Heap}{A:Around}{outer:List Env}{s:Shared}{H:Hp}(e:qi P w K mg base A outer s H)(C:Addr)(us:List Value)(kw:List (Str×Value)) :
  qi P w K mg base (A.under (.builtin "type.__call__" ⟨.ref C::us,kw⟩)) outer s H:=⟨by first|exact e.frames|(simpa[Around.under,Code.envs,Code.isFrame,pushEnvs] using e.frames),e.mod,e.bs,e.bsz,e.funs,e.frf,e.hok,e.bare⟩
section
variable {X:Cx}{ag:List (Addr×Obj)}{σ:St}{H:Hp}{s s':Shared}
theorem Inv.env0 (I:Inv X ag σ H s):qi X.prog X.w X.K X.mg X.base X.A X.stack s H:=
 ⟨I.ok.frames,I.ok.mod,I.bs,Nat.le_trans I.ok.bsz I.sz,I.stack,I.stkFree,I.hok,I.bare⟩
theorem Inv.after {Q:VK}{u:Value}(I:Inv X ag σ H s)(h:CE X.stack X.prog X.w H s Q u s'):EP X ag σ Q u s':=by
 obtain⟨v,H',os,bare,un,hok,r,q⟩:=h;obtain⟨hh,g,d,t,os'⟩:=s';obtain rfl:os'=s.os:=os;exact⟨v,H',I.call (h':=hh) (g':=g) (d':=d) (t':=t) (ch:=[]) un hok bare (fun b z=>absurd z (by simp)),r,q⟩
end
def CY (sp:Sp)(dvs:List V)(E:XK)(t:TA):TE:=fun σ H Q=>t σ H fun vs H1=>sp (vs++dvs) H1 Q E
def zo (C:Addr)(sp:Sp)(dvs:List V)(E:XK)(t:TA):TE:=fun σ H Q=>t σ H fun vs H1=>∀x dx,H1 x=none→H1 dx=none→dx≠x→
 sp (.ref x::(vs++dvs)) (cN (cN H1 dx (.own x)) x (.ins C dx [])) (fun v H2=>v=.non∧Q (.ref x) H2) E
def fO (K:W.Frag)(fd:FuncData)(ps:List Str)(ds:List Value):Prop:=
 ∀(s:Shared) (us:List Value),K.In s.heap→(us++ds).length=ps.length→BindsTo s fd ⟨us,[]⟩ (ps.zip (us++ds))
theorem fO.all {K:W.Frag}{fd:FuncData}{ps:List Str}(h:∀us:List Value,us.length=ps.length→bindArgs fd ⟨us,[]⟩=pure (ps.zip us)):fO K fd ps []:=fun s us _ hl=>by
 rw[append_nil] at hl ⊢;exact .of_eq (h us hl)
def ma (CX:sH)(X:Cx)(E:XK):Prop:=∀(ag:List (Addr×Obj)) (σ:St) (H:Hp) (s:Shared) (e:Value) (s':Shared),Inv X ag σ H s→CX X.stack H s E e s'→X.xe e s'
section
variable {X:Cx}{CX:sH}{k:Nat}{f C:Addr}{fd:FuncData}{ps:List Str}{sp:Sp}{dvs:List V}{ds:List Value}{E:XK}{x m:Str}{p pos apos:Pos}{e o:Expr}{es:List Expr}{ta:TE}{t:TA}
theorem B8 {ag:List (Addr×Obj)}{σ:St}{H:Hp}{s:Shared}{Q:VK}{us:List Value}{vs:List V}(F:fE X.prog X.w X.K X.mg X.base CX k f fd ps sp)(hr:dm k X.A)(hb:fO X.K fd ps ds)(hd:bi dvs ds)(hx:ma CX X E)
  (I:Inv X ag σ H s) (r:bi vs us) (h:sp (vs++dvs) H Q E):wpAny (model X.prog X.w) X.A (call (.ref f) us) (EP X ag σ Q) X.xe s:=by
 have r2:bi (vs++dvs) (us++ds):=r.append hd;have hl:(us++ds).length=ps.length:=by rw[←r2.length];exact F.len _ _ _ _ h
 refine wpAny_call (codeAny_mono (F.run X.A X.stack s H ⟨us,[]⟩ (us++ds) (vs++dvs) Q E hr I.env0 (hb s us I.kIn hl) r2 h) fun r s' hq=>?_);cases r with
 | error e=>exact hx ag σ H s e s' I hq
 | ok fl=>
  cases fl with
  | ret u=>exact I.after hq
  | next=>exact False.elim hq
  | brk=>exact False.elim hq
  | cont=>exact False.elim hq
theorem xx (F:fE X.prog X.w X.K X.mg X.base CX k f fd ps sp)(hr:dm k X.A)(hg:Gl X x)(hm:X.mg x=some (.ref f))(hk:W.keepIn X.K (.ref f)=true)(hb:fO X.K fd ps ds)(hd:bi dvs ds)(hx:ma CX X E)
  (ha:PA X (e::es) t) (hdb:(x==("__debug__":Str))=false:=by decide) (he:starEach (e::es) X.env=(false,eval e X.env)::starEach es X.env:=by rfl) (hpl:(backTo pos (starEach es X.env)).any (·.1)=false:=by rfl) :
  PE X (.Call (.Name x p) (e::es) [] pos) (CY sp dvs E t):=by
 intro ag s σ H Q I h;refine wpAny_Call_Name_kw (j7 I hg hm ?_ hdb);refine W.callWith_K (h₀:=X.base) I.ok.mod.kin hk (dh (ha pos ag s σ H _ I h) fun us s1 ⟨vs,H1,I1,r,q⟩=>⟨I1.kIn,?_⟩) he hpl;exact B8 F hr hb hd hx I1 r q
structure Mk (K:W.Frag)(C f:Addr):Prop where
 makes:W.makesIn K C=true
 init:W.findIn K (.ref C) "__init__"=some (some (.ref f))
 fn:W.isFn K (.ref f)=true
 kp:W.keepIn K (.ref C)=true
theorem uz {ag:List (Addr×Obj)}{σ:St}{H:Hp}{s:Shared}{Q:VK}{us:List Value}{vs:List V}(M:Mk X.K C f)(F:fE X.prog X.w X.K X.mg X.base CX k f fd ps sp)(hr:dm (k+1) X.A)(hb:fO X.K fd ps ds)(hd:bi dvs ds)
  (hx:ma CX X E) (I:Inv X ag σ H s) (r:bi vs us)
  (h:∀x dx,H x=none→H dx=none→dx≠x→sp (.ref x::(vs++dvs)) (cN (cN H dx (.own x)) x (.ins C dx [])) (fun v H2=>v=.non∧Q (.ref x) H2) E) :
  wpAny (model X.prog X.w) X.A (call (.ref C) us) (EP X ag σ Q) X.xe s:=by
 have hq:=h (s.heap.objs.size+1) s.heap.objs.size (I.hok.fresh (Nat.le_succ _)) (I.hok.fresh (Nat.le_refl _)) (Nat.ne_of_lt (Nat.lt_succ_self _));have I2:=Inv.made (C:=C) I;have r2:bi (V.ref (s.heap.objs.size+1)::(vs++dvs)) (Value.ref (s.heap.objs.size+1)::(us++ds)):=.cons rfl (r.append hd);have hl:(Value.ref (s.heap.objs.size+1)::us++ds).length=ps.length:=by
  have e:=r2.length;rw[F.len _ _ _ _ hq] at e;exact e.symm
 refine wpAny_call (wc (f:=f) I.kIn M.makes M.init (beq_iff_eq.mp M.fn) (codeAny_mono (F.run _ X.stack _ _ ⟨Value.ref (s.heap.objs.size+1)::us,[]⟩ (Value.ref (s.heap.objs.size+1)::(us++ds)) _ _ E (hr.make C us [])
  (I2.env0.make C us []) (hb _ (Value.ref (s.heap.objs.size+1)::us) I2.kIn hl) r2 hq) fun r s' hq'=>?_))
 cases r with
 | error e=>exact hx ag σ _ _ e s' I2 hq'
 | ok fl=>
  cases fl with
  | ret u=>
   obtain⟨v,H',I3,rv,ev,q3⟩:=I2.after hq';subst ev;exact⟨rv,⟨V.ref (s.heap.objs.size+1),H',I3,rfl,q3⟩⟩
  | next=>exact False.elim hq'
  | brk=>exact False.elim hq'
  | cont=>exact False.elim hq'
theorem xT (M:Mk X.K C f)(F:fE X.prog X.w X.K X.mg X.base CX k f fd ps sp)(hr:dm (k+1) X.A)(hg:Gl X x)(hm:X.mg x=some (.ref C))(hb:fO X.K fd ps ds)(hd:bi dvs ds)(hx:ma CX X E)
  (ha:PA X (e::es) t) (hdb:(x==("__debug__":Str))=false:=by decide) (he:starEach (e::es) X.env=(false,eval e X.env)::starEach es X.env:=by rfl) (hpl:(backTo pos (starEach es X.env)).any (·.1)=false:=by rfl) :
  PE X (.Call (.Name x p) (e::es) [] pos) (zo C sp dvs E t):=by
 intro ag s σ H Q I h;refine wpAny_Call_Name_kw (j7 I hg hm ?_ hdb);refine W.callWith_K (h₀:=X.base) I.ok.mod.kin M.kp (dh (ha pos ag s σ H _ I h) fun us s1 ⟨vs,H1,I1,r,q⟩=>⟨I1.kIn,?_⟩) he hpl;exact uz M F hr hb hd hx I1 r q
end
structure iB (N P:List Str)(sc:Scope):Prop where
 kind:sc.kind=.function
 co:sc.isCoroutine=false
 gen:sc.isGenerator=false
 nd:N.Nodup
 pre:N.take P.length=P
 par:∀x∈P,sc.names.lookup x=some .local∨sc.names.lookup x=some .cell
 nofree:∀y∈sc.names,y.2≠.free
theorem nv {kindOf:Str→Option NameKind}{x:Str}:∀{binds:List (Str×Value)} {m:Str→Option Value},(∀v,(x,v)∉binds)→bindL kindOf binds m x=m x
 | [],_,_=>rfl
 | (n,v)::r,m,h=>by
  unfold bindL;rw[nv fun w hw=>h w (mem_cons_of_mem _ hw)];split
  ·have:x≠n:=by rintro rfl;exact h v mem_cons_self
   simp[this]
  ·rfl
theorem nK {kindOf:Str→Option NameKind}{x:Str}:∀{binds:List (Str×Value)} {m:Str→Option Value},(∀v,(x,v)∉binds)→bindC kindOf binds m x=m x
 | [],_,_=>rfl
 | (n,v)::r,m,h=>by
  unfold bindC;rw[nK fun w hw=>h w (mem_cons_of_mem _ hw)];split
  ·rfl
  ·have:x≠n:=by rintro rfl;exact h v mem_cons_self
   simp[this]
theorem nc {kindOf:Str→Option NameKind}{x:Str}{v:Value}:∀{P:List Str} {vs:List Value} {i:Nat} {m:Str→Option Value},P.Nodup→P[i]?=some x→vs[i]?=some v→kindOf x=some .local→
  bindL kindOf (P.zip vs) m x=some v
 | [],_,_,_,_,h,_,_=>by simp at h
 | _::_,[],_,_,_,_,h,_=>by simp at h
 | p::P,w::vs,0,m,nd,h1,h2,hk=>by
  simp at h1 h2;subst h1;subst h2;show bindL kindOf ((p,w)::P.zip vs) m p=_;unfold bindL;rw[nv fun v hv=>(nodup_cons.mp nd).1 (of_mem_zip hv).1,if_pos hk];simp
 | p::P,w::vs,i+1,m,nd,h1,h2,hk=>by
  show bindL kindOf ((p,w)::P.zip vs) m x=_;unfold bindL;exact nc (i:=i) (nodup_cons.mp nd).2 (by simpa using h1) (by simpa using h2) hk
theorem nH {kindOf:Str→Option NameKind}{x:Str}{v:Value}:∀{P:List Str} {vs:List Value} {i:Nat} {m:Str→Option Value},P.Nodup→P[i]?=some x→vs[i]?=some v→kindOf x≠some .local→
  bindC kindOf (P.zip vs) m x=some v
 | [],_,_,_,_,h,_,_=>by simp at h
 | _::_,[],_,_,_,_,h,_=>by simp at h
 | p::P,w::vs,0,m,nd,h1,h2,hk=>by
  simp at h1 h2;subst h1;subst h2;show bindC kindOf ((p,w)::P.zip vs) m p=_;unfold bindC;rw[nK fun v hv=>(nodup_cons.mp nd).1 (of_mem_zip hv).1,if_neg hk];simp
 | p::P,w::vs,i+1,m,nd,h1,h2,hk=>by
  show bindC kindOf ((p,w)::P.zip vs) m x=_;unfold bindC;exact nH (i:=i) (nodup_cons.mp nd).2 (by simpa using h1) (by simpa using h2) hk
def start (N:List Str)(vs:List V):St:=vs.map some++List.replicate (N.length-vs.length) none
def jv (CX:sH)(P:Program)(w:World)(K:W.Frag)(mg:Str→Option Value)(base:Heap)(N:List Str)(qual:Str)(scope:Scope)(f:Addr)(cd:Value)(A:Around)(outer:List Env)(s:Shared)(H:Hp)(E:XK):Cx where
 prog:=P
 w:=w
 K:=K
 mg:=mg
 base:=base
 A:=A.deeper (envOfC qual scope s.heap.objs.size f cd)
 N:=N
 s₀:=s
 H₀:=H
 env:=envOfC qual scope s.heap.objs.size f cd
 outer:=outer
 stack:=envOfC qual scope s.heap.objs.size f cd::outer
 ex:=[]
 calm:=true
 fn:=fun _=>true
 pn:=[]
 xe:=fun e s'=>wpAny (model P w) (A.deeper (envOfC qual scope s.heap.objs.size f cd)) (leaving (envOfC qual scope s.heap.objs.size f cd) e) (fun _ s''=>CX outer H s E e s'') (fun e' s''=>CX outer H s E e' s'') s'
theorem o6 {sc:Scope}{n:Nat}{x:Str}(h:sc.names.lookup x=some .cell):∃c,(cellsFrom n sc.names []).lookup x=some c:=by
 have q:=W.cellsFrom_some sc.names n [] (.inl h);exact Option.isSome_iff_exists.mp q
theorem tm {CX:sH}{P:Program}{w:World}{K:W.Frag}{mg:Str→Option Value}{base:Heap}{N ps:List Str}{qual:Str}{scope:Scope}{f:Addr}{cd:Value}{A:Around}{outer:List Env}{s s1:Shared}{H:Hp}{E:XK}{us:List Value}{vs:List V}
  (S:iB N ps scope) (hd:A.handled=none) (e0:qi P w K mg base A outer s H) (hl:vs.length=ps.length) (r:bi vs us)
  (x:InCallC s s.heap.objs.size (bindL (envOfC qual scope s.heap.objs.size f cd).kindOf (ps.zip us) fun _=>none) (cellsFrom (s.heap.objs.size+1) scope.names []) (bindC (envOfC qual scope s.heap.objs.size f cd).kindOf (ps.zip us) fun _=>none) s1) :
  Inv (jv CX P w K mg base N qual scope f cd A outer s H E) [] (start N vs) H s1:=by
 have hpl:ps.length≤N.length:=by have:=congrArg List.length S.pre;rw[length_take] at this;omega
 obtain⟨h1,tk,rfl,hk⟩:=x.done;have noA:∀b:Addr,b∉(jv CX P w K mg base N qual scope f cd A outer s H E).ex:=fun b z=>absurd (show b∈([]:List Addr) from z) (by simp)
 refine⟨⟨e0.mod,S.kind,rfl,rfl,Nat.le_refl _,fun y z c h1 h2=>?_,fun y hy=>?_,fun y c _ h=>?_,fun _=>hd,Around.frames_deeper e0.frames,.inr ⟨rfl,rfl⟩,fun b z=>absurd z (noA b),e0.bs,e0.bsz,fun b _ _=>noA b,fun b z=>absurd z (noA b),e0.funs,e0.frf⟩,
  rfl,e0.bare,Un.kept hk,⟨_,x.toInCall.ns,fun i y v h1 h2 h3=>?_⟩,fun y c h=>⟨_,x.cell y c h⟩,e0.hok.fresh (Nat.le_refl _),fun y c h=>?_,fun p hp=>absurd (show p∈([]:List (Addr×Obj)) from hp) (by simp),e0.hok.kept hk,?_⟩
 ·exact name_of_addr x.apart (PySem.mem_of_lookup h1) (PySem.mem_of_lookup h2)
 ·have hy:scope.names.lookup y=some .cell∨scope.names.lookup y=some .free:=hy;rcases hy with hy|hy
  ·exact o6 hy
  ·exact absurd rfl (S.nofree _ (PySem.mem_of_lookup hy))
 ·exact Nat.le_of_lt (x.above y c (PySem.mem_of_lookup h))
 ·have hi:i<vs.length:=by
   unfold start at h2
   by_cases hi:i<vs.length
   ·exact hi
   ·rw[getElem?_append_right (by simpa using hi)] at h2;rw[getElem?_replicate] at h2;split at h2 <;> cases h2
  have ha:vs[i]?=some v:=by
   unfold start at h2;rw[getElem?_append_left (by simpa using hi),getElem?_map] at h2;cases e:vs[i]? with
   | none=>rw[e] at h2;cases h2
   | some a=>rw[e] at h2;cases h2;rfl
  obtain⟨u,hu,rv⟩:=r.get ha;have hp:ps[i]?=some y:=by
   rw[←S.pre,getElem?_take_of_lt (by omega)];exact h1
  have ndP:ps.Nodup:=by rw[←S.pre];exact S.nd.sublist (take_sublist _ _)
  refine⟨u,rv,?_⟩;rcases S.par y (mem_of_getElem? hp) with k|k
  ·exact .inl ⟨k,nc ndP hp hu k⟩
  ·obtain⟨c,e⟩:=o6 (n:=s.heap.objs.size+1) k;refine .inr ⟨.inl k,c,e,?_⟩;have q:=x.cell y c e;rw[nH ndP hp hu (by show scope.names.lookup y≠_;rw[k];decide)] at q;exact q
 ·exact e0.hok.fresh (Nat.le_of_lt (x.above y c (PySem.mem_of_lookup h)))
 ·unfold start;show _=N.length;rw[length_append,length_map,length_replicate];omega
theorem Ct {CX:sH}{P:Program}{w:World}{K:W.Frag}{mg:Str→Option Value}{base:Heap}{k:Nat}{f:Addr}{name qual:Str}{params:Arguments}{body:List Stmt}{scope:Scope}{dV kV doc pm cdv ct oc:Value}{an od:Option Addr}
  {osl:Array (Option Value)} {N ps:List Str} {sp:Sp} (lk:K.lookup f=some ⟨oc,od,.func (W.fnOf name qual params body scope dV kV doc pm an cdv ct),osl⟩) (hcd:W.codeIn K cdv qual=true) (S:iB N ps scope)
  (len:∀vs H Q E,sp vs H Q E→vs.length=ps.length)
  (hbody:∀(A:Around) (outer:List Env) (s:Shared) (H:Hp) (vs:List V) (Q:VK) (E:XK),dm k (A.deeper (envOfC qual scope s.heap.objs.size f cdv))→sp vs H Q E→
   ∃t,PSs (jv CX P w K mg base N qual scope f cdv A outer s H E) body t∧t {nx:=fun _ H'=>Q .non H',rt:=Q} (start N vs) H) :
  fE P w K mg base CX (k+1) f (W.fnOf name qual params body scope dV kV doc pm an cdv ct) ps sp:=by
 refine⟨len,fun A outer s H args us vs Q E hr e0 hb r hsp=>?_⟩;have hl:=len _ _ _ _ hsp;have KX:K.In s.heap:=e0.mod.kin.keeps fun b o e=>(e0.bs b o e).1
 have lim:s.heap.NoLimit:=e0.mod.nolimit.keeps fun b o e=>(e0.bs b o e).1
 have hkind:∀y∈ps.zip us,scope.names.lookup y.1=some .local∨(scope.names.lookup y.1=some .cell∧((cellsFrom (s.heap.objs.size+1) scope.names []).lookup y.1).isSome=true):=fun⟨n,v⟩ hy=>by
  rcases S.par n (of_mem_zip hy).1 with q|q
  ·exact .inl q
  ·exact .inr ⟨q,W.cellsFrom_some _ _ _ (.inl q)⟩
 refine codeAny_call_function hr.depth (KX _ _ lk) rfl S.co S.gen rfl (W.codeRec_of KX hcd) (hb _ _ _ _ ?_);refine wpAny_newFunctionEnv_cells S.kind hkind fun env he s1 x=>?_
 subst he;refine⟨lim.keeps x.toInCall.keep,codeAny_func ?_⟩;obtain⟨t,ht,hq⟩:=hbody A outer s H vs Q E (hr.deeper _) hsp;have I:Inv (jv CX P w K mg base N qual scope f cdv A outer s H E) [] (start N vs) H s1:=tm S hr.hd e0 hl r x;refine wpAny_mono (ht [] s1 (start N vs) H _ I hq) (fun fl s' hs=>?_) fun e s' hs=>hs
 have fin:∀{σ':St} {H':Hp} {v:V} {u:Value},Inv (jv CX P w K mg base N qual scope f cdv A outer s H E) [] σ' H' s'→RelV v u→Q v H'→CE outer P w H s Q u s':=
  fun {σ' H' v u} J rv q=>⟨v,H',J.os,J.bare,J.base,J.hok,rv,q⟩
 cases fl with
 | ret u=>
  obtain⟨v,σ',H',J,rv,q⟩:=hs;exact fin J rv q
 | next=>
  obtain⟨σ',H',J,q⟩:=hs;exact fin (v:=V.non) (u:=Value.none) J rfl q
 | brk=>
  obtain⟨_,_,_,q⟩:=hs;exact False.elim q
 | cont=>
  obtain⟨_,_,_,q⟩:=hs;exact False.elim q
section
variable {X:Cx}{x:Str}{p pos:Pos}{e:Expr}{es:List Expr}{t:TA}{id T:String}{r:List V→Hp→VK→Prop}
def EA (r:List V→Hp→VK→Prop)(t:TA):TE:=fun σ H Q=>t σ H fun vs H1=>r vs H1 Q
theorem j4 (hc:dj X (.builtin id) r)(hg:Gl X x)(hm:X.mg x=none)(hv:bootBuiltins x=some (.builtin id))(ha:PA X (e::es) t)(hn:x≠"__name__":=by decide)(hdb:(x==("__debug__":Str))=false:=by decide)
  (he:starEach (e::es) X.env=(false,eval e X.env)::starEach es X.env:=by rfl) (hpl:(backTo pos (starEach es X.env)).any (·.1)=false:=by rfl):PE X (.Call (.Name x p) (e::es) [] pos) (EA r t):=by
 intro ag s σ H Q I h;refine wpAny_Call_Name_kw (mE I hg hm hv ?_ hn hdb);exact PyProof.Rows.callWith_builtin1 (dh (ha pos ag s σ H _ I h) fun us s1 ⟨vs,H1,I1,r1,q1⟩=>hc ag s1 σ H1 vs us Q I1 r1 q1) he hpl
theorem tY (hc:dj X (.type T) r)(hg:Gl X x)(hm:X.mg x=none)(hv:bootBuiltins x=some (.type T))(ha:PA X (e::es) t)(hn:x≠"__name__":=by decide)(hdb:(x==("__debug__":Str))=false:=by decide)
  (he:starEach (e::es) X.env=(false,eval e X.env)::starEach es X.env:=by rfl) (hpl:(backTo pos (starEach es X.env)).any (·.1)=false:=by rfl):PE X (.Call (.Name x p) (e::es) [] pos) (EA r t):=by
 intro ag s σ H Q I h;refine wpAny_Call_Name_kw (mE I hg hm hv ?_ hn hdb);exact PyProof.Rows.callWith_type1 (dh (ha pos ag s σ H _ I h) fun us s1 ⟨vs,H1,I1,r1,q1⟩=>hc ag s1 σ H1 vs us Q I1 r1 q1) he hpl
end
end L2
namespace HT
open PySem PyProof.Rows
def lexLt:List Int→List Int→Bool
 | [],[]=>false
 | [],_::_=>true
 | _::_,[]=>false
 | x::xs,y::ys=>if x=y then lexLt xs ys else decide (x<y)
section
open PySem.SeqAt
open PySem.AutoSeq1 (wpAny_loadPart')
open PySem.MeetsSeq PySem.MeetsSeq2 PySem.MeetsSeq3
end
section
variable {prog:Program}{w:World}{A:Around}{E:Value→Shared→Prop}{s:Shared}
theorem cat_tup {t b:Addr}{vs ws:List Value}{Q:Value→Shared→Prop}(ht:IsTup s.heap t vs.toArray)(hb:IsTup s.heap b ws.toArray)(hv:vs≠[])
  (h1:ws=[]→Q (.ref t) s) (h2:ws≠[]→Q (.ref s.heap.objs.size) {s with heap:=s.heap.push {cls:=.type "tuple",data:=.seq (vs++ws).toArray}})
  (hsz:vs.length+ws.length≤sizeLine):wpAny (model prog w) A (binaryOp .Add (.ref t) (.ref b)) Q E s:=by
 obtain⟨⟨cls,dd,data,sl⟩,ho,hc,n,hd⟩:=id ht;obtain⟨⟨cls2,dd2,data2,sl2⟩,ho2,hc2,n2,hd2⟩:=id hb;simp only at hc hd hc2 hd2;subst hc hd hc2 hd2;have e:vs.toArray++ws.toArray=(vs++ws).toArray:=by simp
 by_cases hw:ws=[]
 ·exact concat_meets ⟨_,ho,rfl⟩ ⟨_,ho2,rfl⟩ noFill_tuple_add seq_tuple_add PySem.F.slot_tuple_add PySem.F.entry_tuple_add (PySem.F.args_tuple_add_2 _ _)
   (tuple_addW1 t b vs.toArray ws.toArray n n2 dd dd2 sl sl2 (by simpa using hv) (by simp[hw])) ⟨ho,ho2,h1 hw⟩
 ·refine concat_meets ⟨_,ho,rfl⟩ ⟨_,ho2,rfl⟩ noFill_tuple_add seq_tuple_add PySem.F.slot_tuple_add PySem.F.entry_tuple_add (PySem.F.args_tuple_add_2 _ _)
   (tuple_addW2 t b vs.toArray ws.toArray n n2 dd dd2 sl sl2 (by simpa using hv) (by simpa using hw) (by rw[List.size_toArray,List.size_toArray];exact hsz)) ⟨ho,ho2,?_⟩
  rw[e];exact h2 hw
def sIx (n d:Nat):Option Int→Nat
 | none=>d
 | some v=>if v<0 then(v+(n:Int)).toNat else min v.toNat n
theorem sIx_none (n d:Nat):sIx n d none=d:=rfl
theorem sIx_nat (n d k:Nat):sIx n d (some (k:Int))=min k n:=by
 show(if(k:Int)<0 then((k:Int)+(n:Int)).toNat else min (k:Int).toNat n)=min k n;rw[if_neg (by omega),Int.toNat_natCast]
theorem AR (n d:Nat)(hd:d≤n)(o:Option Int):sIx n d o≤n:=by
 cases o with
 | none=>exact hd
 | some v=>
  show(if v<0 then(v+(n:Int)).toNat else min v.toNat n)≤n
  by_cases hv:v<0
  ·rw[if_pos hv];omega
  ·rw[if_neg hv];exact Nat.min_le_right _ _
theorem rh (v:Int)(n d:Nat):(if v<0 then max (v+(n:Int)) 0 else min v (n:Int))=((sIx n d (some v):Nat):Int):=by
 show(if v<0 then max (v+(n:Int)) 0 else min v (n:Int))=(((if v<0 then(v+(n:Int)).toNat else min v.toNat n):Nat):Int)
 by_cases hv:v<0
 ·simp only[if_pos hv];omega
 ·simp only[if_neg hv];omega
theorem qh (lo hi:Option Int)(n:Nat):Builtin.Slice.sliceAdjust lo hi 1 (n:Int)=(((sIx n 0 lo:Nat):Int),((sIx n n hi:Nat):Int)):=by
 have h1:¬((1:Int)<0):=by omega
 unfold Builtin.Slice.sliceAdjust;simp only[h1,if_false];refine Prod.ext ?_ ?_
 ·cases lo with
  | none=>rfl
  | some v=>exact rh v n 0
 ·cases hi with
  | none=>rfl
  | some v=>exact rh v n n
theorem qG (i j:Nat):Builtin.Slice.slicePlaces (i:Int) (j:Int) 1=j-i:=by
 unfold Builtin.Slice.slicePlaces;have h1:(1:Int)>0:=by omega
 simp only[h1,if_true,Int.ediv_one];split <;> omega
theorem mG {v:Value}{o:Option Int}{Q:Option Int→Shared→Prop}(p:IsPart v o)(h:Q o s):wpAny (model prog w) A (Builtin.Slice.slicePartIndex v) Q E s:=by
 cases p with
 | none=>exact slicePart_none h
 | int i t=>exact slicePart_int h
theorem sliceApplied_gen {sl:Addr}{vl vu:Value}{lo hi:Option Int}{n:Nat}{Q:Int×Int×Nat→Shared→Prop}(hs:s.heap.IsSliceOf sl vl vu .none)(pl:IsPart vl lo)(pu:IsPart vu hi)
  (h:Q (((sIx n 0 lo:Nat):Int),1,sIx n n hi-sIx n 0 lo) s):wpAny (model prog w) A (Builtin.Slice.sliceApplied (.ref sl) (pure (n:Int))) Q E s:=by
 obtain⟨os,hos,hcs,hds⟩:=id hs;unfold Builtin.Slice.sliceApplied Builtin.Slice.sliceFields;refine wpAny_bind (wpAny_bind (wpAny_field hos hds (x:=vl) rfl (wpAny_bind (wpAny_field hos hds (x:=vu) rfl (wpAny_bind (wpAny_field hos hds (x:=.none) rfl (wpAny_pure ?_)))))));refine wpAny_bind (slicePart_none ?_);show wpAny _ _ (if((1:Int)==0)=true then _ else _) _ _ s;rw[if_neg (by decide)];refine wpAny_bind (mG pl (wpAny_bind (mG pu (wpAny_bind (wpAny_pure ?_)))));show wpAny _ _ (match Builtin.Slice.sliceAdjust lo hi 1 (n:Int) with|(lo,hi)=>pure (lo,(1:Int),Builtin.Slice.slicePlaces lo hi 1)) _ _ s;rw[qh lo hi n];show wpAny _ _ (pure (((sIx n 0 lo:Nat):Int),(1:Int),Builtin.Slice.slicePlaces ((sIx n 0 lo:Nat):Int) ((sIx n n hi:Nat):Int) 1)) _ _ s;rw[qG];exact wpAny_pure h
theorem vw (xs:Array Value)(i k:Nat):((List.range k).filterMap fun(m:Nat)=>xs[((i:Int)+(m:Int)*1).toNat]?).toArray=((xs.toList.drop i).take k).toArray:=by
 have e:(fun(m:Nat)=>xs[((i:Int)+(m:Int)*1).toNat]?)=fun m=>xs[i+m]?:=by
  funext m;have:((i:Int)+(m:Int)*1).toNat=i+m:=by omega
  rw[this]
 rw[e];have:=pick_run xs i k;rw[List.filterMap_map] at this;have e2:((fun x=>xs[x]?) ∘ fun x=>i+x)=fun m=>xs[i+m]?:=rfl
 rw[e2] at this;rw[this]
theorem getItem_tuple_cut {t sl:Addr}{items:Array Value}{vl vu:Value}{lo hi:Option Int}{Q:Value→Shared→Prop}(ht:IsTup s.heap t items)(hs:s.heap.IsSliceOf sl vl vu .none)(pl:IsPart vl lo)(pu:IsPart vu hi)
  (hw:¬(sIx items.size 0 lo=0∧sIx items.size items.size hi=items.size))
  (h:Q (.ref s.heap.objs.size) {s with heap:=s.heap.push {cls:=.type "tuple",data:=.seq ((items.toList.drop (sIx items.size 0 lo)).take (sIx items.size items.size hi-sIx items.size 0 lo)).toArray}})
  (hsz:items.size≤sizeLine):wpAny (model prog w) A (getItem (.ref t) (.ref sl)) Q E s:=by
 have htake:sizeOk (.seq ((items.toList.drop (sIx items.size 0 lo)).take (sIx items.size items.size hi-sIx items.size 0 lo)).toArray):=by
  show((items.toList.drop (sIx items.size 0 lo)).take (sIx items.size items.size hi-sIx items.size 0 lo)).toArray.size≤sizeLine;rw[List.size_toArray,List.length_take,List.length_drop,Array.length_toList];omega
 have hj:sIx items.size items.size hi≤items.size:=AR _ _ (Nat.le_refl _) hi;obtain⟨os,hos,hcs,hds⟩:=id hs;have hTs:s.TypeIs (.ref sl) "slice":=⟨os,hos,hcs⟩;unfold getItem
 try with_reducible refine wpAny_holding ?_
 first|refine wpAny_bind (wpAny_pure ?_)|skip
 refine wpAny_bind (wpAny_sequenceKey ht.typeIs (by decide) ?_);refine wpAny_bind (wpAny_callSpecial?_slot (name:=Str.ofString "__getitem__") ht.typeIs PyProof.Rows.slot_tuple_getitem
  (wpAny_call_entry PyProof.Rows.slot_tuple_getitem ht.typeIs entry_tuple_getitem ?_ (args_tuple_getitem _ _)))
 show wpAny _ _ (Builtin.Tuple.tupleItemsOf (.ref t) >>= _) _ _ s;refine wpAny_bind (tupleItemsOf_ ht ?_);refine wpAny_bind (wpAny_typeOf hTs ?_);rw[if_pos (by decide)];refine wpAny_bind (sliceApplied_gen hs pl pu ?_);have hno:¬((((sIx items.size 0 lo:Nat):Int)==0&&(1:Int)==1&&(sIx items.size items.size hi-sIx items.size 0 lo)==items.size)=true):=by
  intro q;rw[Bool.and_eq_true,Bool.and_eq_true] at q;have q1:((sIx items.size 0 lo:Nat):Int)=0:=eq_of_beq q.1.1;have q2:sIx items.size items.size hi-sIx items.size 0 lo=items.size:=eq_of_beq q.2;exact hw ⟨by omega,by omega⟩
 show wpAny _ _ (if(((sIx items.size 0 lo:Nat):Int)==0&&(1:Int)==1&&(sIx items.size items.size hi-sIx items.size 0 lo)==items.size)=true then _ else _) _ _ s;rw[if_neg hno,vw]
 first
  | exact wpAny_bind (m:=Builtin.Tuple.tupleExact _) (wpAny_newObj_type (wpAny_pure ⟨_,rfl,wpAny_pure h⟩) htake)
  | exact wpAny_bind (m:=Builtin.Tuple.tupleExact _) (wpAny_newObj_type (wpAny_bind (wpAny_pure (wpAny_pure ⟨_,rfl,wpAny_pure h⟩))) htake)
  | exact wpAny_bind (wpAny_bind (m:=Builtin.Tuple.tupleExact _) (wpAny_newObj_type (wpAny_pure (wpAny_pure ⟨_,rfl,wpAny_pure h⟩)) htake))
  | exact wpAny_bind (wpAny_bind (m:=Builtin.Tuple.tupleExact _) (wpAny_newObj_type (wpAny_pure ⟨_,rfl,wpAny_pure h⟩) htake))
end
end HT
namespace L2
open PySem PySem.Spec PyProof.Rows List
abbrev TO:=St→Hp→(Option Int→Hp→Prop)→Prop
def PO (X:Cx)(e:Option Expr)(t:TO):Prop:=
 ∀(ag:List (Addr×Obj)) (s:Shared) (σ:St) (H:Hp) (Q:Option Int→Hp→Prop),Inv X ag σ H s→t σ H Q→
  wpAny (model X.prog X.w) X.A (evalPart e X.env) (fun u s'=>∃o H',Inv X ag σ H' s'∧IsPart u o∧Q o H') X.xe s
def yw:TO:=fun _ H Q=>Q none H
def C3 (t:TE):TO:=fun σ H Q=>t σ H fun x H1=>∃i,x=.int i∧Q (some i) H1
section
variable {X:Cx}{e:Expr}{te:TE}{lo hi:Option Expr}{tl th:TO}{pos p2:Pos}
theorem xL:PO X none yw:=by
 intro ag s σ H Q I h;rw[evalPart_none];exact wpAny_pure ⟨none,H,I,.none,h⟩
theorem ya (h:PE X e te):PO X (some e) (C3 te):=by
 intro ag s σ H Q I hw;rw[evalPart_some];refine dh (h ag s σ H _ I hw) fun u s1 hxx=>?_
 obtain⟨x,H1,I1,r1,q1⟩:=hxx;obtain⟨i,rfl,q⟩:=q1;obtain⟨t,rfl⟩:=r1;exact⟨some i,H1,I1,.int i t,q⟩
def Ex (X:Cx)(r:V→Option Int→Option Int→Hp→VK→Prop):Prop:=
 ∀(ag:List (Addr×Obj)) (s:Shared) (σ:St) (H:Hp) (x:V) (v vl vu:Value) (lo hi:Option Int) (sl:Addr) (Q:VK),Inv X ag σ H s→RelV x v→s.heap.IsSliceOf sl vl vu .none→IsPart vl lo→IsPart vu hi→r x lo hi H Q→
  ∃T id,typeLookup (.type T) "__getitem__"=pure (some (.builtin id))∧s.TypeIs v T∧wpAny (model X.prog X.w) X.A (getItem v (.ref sl)) (EP X ag σ Q) X.xe s
def F5 (r:V→Option Int→Option Int→Hp→VK→Prop)(te:TE)(tl th:TO):TE:=fun σ H Q=>te σ H fun x H1=>tl σ H1 fun l H2=>th σ H2 fun u H3=>r x l u H3 Q
theorem vh {r:V→Option Int→Option Int→Hp→VK→Prop}(hr:Ex X r)(he:PE X e te)(hl:PO X lo tl)(hu:PO X hi th):PE X (.Subscript e (.Slice lo hi none p2) pos) (F5 r te tl th):=by
 intro ag s σ H Q I h;refine Subscript_ (dh (he ag s σ H _ I h) fun v s1 hxx=>?_);obtain⟨x,H1,I1,r1,q1⟩:=hxx;refine wpAny_Slice (dh (hl ag s1 σ H1 _ I1 q1) fun vl s2 ⟨l,H2,I2,pl,q2⟩=>dh (hu ag s2 σ H2 _ I2 q2) fun vu s3 hxx=>?_);obtain⟨u,H3,I3,pu,q3⟩:=hxx;rw[evalPart_none];refine wpAny_pure ?_;have I4:Inv X ag σ H3 {s3 with heap:=s3.heap.push {cls:=.type "slice",data:=.fields #[vl,vu,.none]}}:=I3.kept (t':=s3.toks) fun b ob q=>Heap.get?_push_of_some _ q
 obtain⟨T,id,hT,ht,hg⟩:=hr ag {s3 with heap:=s3.heap.push {cls:=.type "slice",data:=.fields #[vl,vu,.none]}} σ H3 x v vl vu l u s3.heap.objs.size Q I4 r1 (Heap.IsSliceOf.new ..) pl pu q3;show wpAny (model X.prog X.w) X.A (subscriptTail e (.Slice lo hi none p2) v (.ref s3.heap.objs.size)) (EP X ag σ Q) X.xe {s3 with heap:=s3.heap.push {cls:=.type "slice",data:=.fields #[vl,vu,.none]}};exact tail_any (ops:=[.ref s3.heap.objs.size,v]) ht hT hg (by with_unfolding_all rfl)
def o7 (xs:List V)(lo hi:Option Int):List V:=(xs.drop (HT.sIx xs.length 0 lo)).take (HT.sIx xs.length xs.length hi-HT.sIx xs.length 0 lo)
theorem kR (xs:List V)(lo hi:Option Int):(o7 xs lo hi).length≤xs.length:=by
 unfold o7;rw[length_take,length_drop];omega
def Fk (K:W.Frag):V→Option Int→Option Int→Hp→VK→Prop:=fun x lo hi H Q=>∃a xs,x=.ref a∧j9 K H a xs∧
 ¬(HT.sIx xs.length 0 lo=0∧HT.sIx xs.length xs.length hi=xs.length)∧∀p,H p=none→Q (.ref p) (cN H p (.tup (o7 xs lo hi)))
theorem AE:Ex X (Fk X.K):=by
 intro ag s σ H x v vl vu lo hi sl Q I rx hs pl pu h;obtain⟨a,xs,rfl,hx,hw,q⟩:=h;cases rx;obtain⟨its,r,ht,hz⟩:=I.tuple hx;have hlen:its.toArray.size=xs.length:=by rw[size_toArray];exact r.length.symm
 refine⟨"tuple",_,PyProof.Rows.slot_tuple_getitem.lookup,ht.typeIs,?_⟩;refine HT.getItem_tuple_cut ht hs pl pu (by rw[hlen];exact hw) ?_ (by rw[hlen];exact hz);rw[hlen];refine⟨.ref s.heap.objs.size,_,I.laid (t':=s.toks) (o:=.tup (o7 xs lo hi)) (fun b ob q=>Heap.get?_push_of_some _ q) (Nat.le_refl _) ?_,rfl,q _ (I.hok.fresh (Nat.le_refl _))⟩;exact⟨Nat.le_trans (kR xs lo hi) hz,_,(r.drop (HT.sIx xs.length 0 lo)).take (HT.sIx xs.length xs.length hi-HT.sIx xs.length 0 lo),IsTup.new _ _⟩
def C5 (K:W.Frag):R2:=fun x y H Q=>∃a b xs ys,x=.ref a∧y=.ref b∧j9 K H a xs∧j9 K H b ys∧xs≠[]∧xs.length+ys.length≤sizeLine∧
 (ys=[]→Q (.ref a) H)∧(ys≠[]→∀p,H p=none→Q (.ref p) (cN H p (.tup (xs++ys))))
theorem bi.nil_iff {xs:List V}{us:List Value}(r:bi xs us):us=[]↔xs=[]:=by
 cases r with
 | nil=>simp
 | cons _ _=>simp
theorem xB:gz X (binaryOp .Add) (C5 X.K):=by
 intro ag s σ H x y v u Q I rx ry h;obtain⟨a,b,xs,ys,rfl,rfl,ha,hb,hx,hz,q1,q2⟩:=h;cases rx;cases ry;obtain⟨its,r1,p1,_⟩:=I.tuple ha;obtain⟨its2,r2,p2,_⟩:=I.tuple hb;refine HT.cat_tup p1 p2 (fun z=>hx (r1.nil_iff.mp z)) (fun z=>⟨.ref a,H,I,rfl,q1 (r2.nil_iff.mp z)⟩) (fun z=>?_) (by rw[←r1.length,←r2.length];exact hz);refine⟨.ref s.heap.objs.size,_,I.laid (t':=s.toks) (o:=.tup (xs++ys)) (fun b ob q=>Heap.get?_push_of_some _ q) (Nat.le_refl _) ?_,rfl,q2 (fun w=>z (r2.nil_iff.mpr w)) _ (I.hok.fresh (Nat.le_refl _))⟩;exact⟨by rw[length_append];exact hz,_,r1.append r2,IsTup.new _ _⟩
end
def wK (n:Nat)(i:Int):Option Nat:=if 0≤i then(if i<n then some i.toNat else none) else if -(n:Int)≤i then some (i+n).toNat else none
def kT {α:Type}(xs:List α)(i:Int):Option α:=(wK xs.length i).bind fun j=>xs[j]?
theorem rB {n:Nat}{i:Int}{j:Nat}(h:wK n i=some j):seqIndex? i n=some j∧j<n∧-(n:Int)≤i∧i<n:=by
 unfold wK at h
 by_cases h0:0≤i
 ·rw[if_pos h0] at h
  by_cases h1:i<n
  ·rw[if_pos h1] at h;have e:i.toNat=j:=Option.some.inj h;exact⟨by rw[seqIndex_of h0 h1,e],by omega,by omega,h1⟩
  ·rw[if_neg h1] at h;cases h
 ·rw[if_neg h0] at h
  by_cases h1:-(n:Int)≤i
  ·rw[if_pos h1] at h;have e:(i+n).toNat=j:=Option.some.inj h;exact⟨by rw[seqIndex_neg (by omega) h1,e],by omega,h1,by omega⟩
  ·rw[if_neg h1] at h;cases h
theorem rl {α:Type}{xs:List α}{i:Int}{v:α}(h:kT xs i=some v):∃j,seqIndex? i xs.length=some j∧xs[j]?=some v∧j<xs.length∧-(xs.length:Int)≤i∧i<xs.length:=by
 unfold kT at h;cases e:wK xs.length i with
 | none=>rw[e] at h;cases h
 | some j=>
  rw[e] at h;obtain⟨h1,h2,h3,h4⟩:=rB e;exact⟨j,h1,h,h2,h3,h4⟩
theorem gM {α:Type}{xs:List α}{j:Nat}{v:α}(h:xs[j]?=some v):kT xs (j:Int)=some v:=by
 have hj:j<xs.length:=(List.getElem?_eq_some_iff.mp h).1;have e:wK xs.length (j:Int)=some j:=by
  unfold wK;rw[if_pos (by omega),if_pos (by omega)];simp
 unfold kT;rw[e];exact h
def ol (b:Expr):Prop:=∀o i,subscripted b false o i=operate [o,i] (getItem o i)
def Ep (X:Cx)(r:R2):Prop:=
 ∀(value slice:Expr) (ag:List (Addr×Obj)) (s:Shared) (σ:St) (H:Hp) (x y:V) (v u:Value) (Q:VK),Inv X ag σ H s→RelV x v→RelV y u→r x y H Q→
  subscripted slice false v u=operate [v,u] (getItem v u)→wpAny (model X.prog X.w) X.A (subscriptTail value slice v u) (EP X ag σ Q) X.xe s
def FK (X:Cx)(id:String)(r:V→List V→Hp→VK→Prop):Prop:=
 ∀(ag:List (Addr×Obj)) (s:Shared) (σ:St) (H:Hp) (x:V) (xs:List V) (v:Value) (us:List Value) (Q:VK),Inv X ag σ H s→RelV x v→bi xs us→r x xs H Q→
  wpAny (model X.prog X.w) X.A (call (.builtin id) (v::us)) (EP X ag σ Q) X.xe s
section
variable {X:Cx}{a b:Expr}{ta tb:TE}{pos:Pos}
theorem Dj {r:R2}(hr:Ep X r)(ha:PE X a ta)(hb:PE X b tb)(hs:ol b):PE X (.Subscript a b pos) (CK r ta tb):=by
 intro ag s σ H Q I h;exact Subscript_ (BI ha hb I h fun v u s2 x y H2 I2 rx ry q=>hr a b ag s2 σ H2 x y v u Q I2 rx ry q (hs _ _))
def Fa (K:W.Frag):R2:=fun x y H Q=>∃p xs i v,x=.ref p∧y=.int i∧kU K H p xs∧kT xs i=some v∧Q v H
def EI (K:W.Frag):R2:=fun x y H Q=>∃p xs i v,x=.ref p∧y=.int i∧j9 K H p xs∧kT xs i=some v∧Q v H
theorem xN:Ep X (Fa X.K):=by
 intro value slice ag s σ H x y v u Q I rx ry h hs;obtain⟨p,xs,i,z,rfl,rfl,hq,he,q⟩:=h;cases rx;obtain⟨t,rfl⟩:=ry;obtain⟨its,r,pl,hz⟩:=I.list hq;obtain⟨j,h1,h2,h3,h4,h5⟩:=rl he;obtain⟨w,ew,rw'⟩:=r.get h2;have hl:=r.length;have hn:=js;have fin:EP X ag σ Q w s:=⟨z,H,I,rw',q⟩
 by_cases h0:0≤i
 ·have hj:i.toNat=j:=by
   rw[seqIndex_of h0 h5] at h1;exact Option.some.inj h1
  exact item_listR pl.isList h0 (by omega) (by rw[hj];simpa using ew) fin hs
 ·have hj:(i+(its.toArray.size:Int)).toNat=j:=by
   rw[seqIndex_neg (by omega) h4] at h1;rw[size_toArray,←hl];exact Option.some.inj h1
  exact subscriptTail_builtinR (x:=w) pl.isList.typeIs slot_list_getitem.lookup
   (wpAny_getItem_list_neg (Q:=fun r s'=>r=w∧EP X ag σ Q r s') pl.isList (by omega) (by rw[size_toArray] <;> omega) (by omega) (by rw[hj];simpa using ew) ⟨rfl,fin⟩) hs
theorem Ba:Ep X (EI X.K):=by
 intro value slice ag s σ H x y v u Q I rx ry h hs;obtain⟨p,xs,i,z,rfl,rfl,hq,he,q⟩:=h;cases rx;obtain⟨t,rfl⟩:=ry;obtain⟨its,r,pl,hz⟩:=I.tuple hq;obtain⟨j,h1,h2,h3,h4,h5⟩:=rl he;obtain⟨w,ew,rw'⟩:=r.get h2;have hl:=r.length;have hn:=js;have fin:EP X ag σ Q w s:=⟨z,H,I,rw',q⟩;exact subscriptTail_builtinR (x:=w) pl.typeIs slot_tuple_getitem.lookup
  (getItem_tuple (j:=j) (Q:=fun r s'=>r=w∧EP X ag σ Q r s') pl (by omega) (by omega) (by rw[size_toArray,←hl];exact h1) (by simpa using ew) ⟨rfl,fin⟩) hs
theorem p5 (its:List Value)(n j:Nat)(u:Value):Obj.mapSeq (·.setIfInBounds j u) {cls:=.type "list",data:=.seq its.toArray n}={cls:=.type "list",data:=.seq (its.set j u).toArray n}:=by
 simp[Obj.mapSeq]
theorem Inv.lst {ag:List (Addr×Obj)}{σ:St}{H:Hp}{s:Shared}{p:Addr}{xs:List V}(I:Inv X ag σ H s)(h:H p=some (.lst xs)) :
  ∃(its:List Value) (n:Nat),bi xs its∧s.heap.get? p=some {cls:=.type "list",data:=.seq its.toArray n}∧xs.length≤sizeLine:=by
 obtain⟨z,its,n,r,e⟩:=I.hok p _ h;exact⟨its,n,r,e,z⟩
theorem Inv.lstUpd {ag:List (Addr×Obj)}{σ:St}{H:Hp}{s:Shared}{p:Addr}{xs ys:List V}{its its':List Value}{n n':Nat}{f:Obj→Obj}(I:Inv X ag σ H s)(h:H p=some (.lst xs))
  (ho:s.heap.get? p=some {cls:=.type "list",data:=.seq its.toArray n}) (hf:f {cls:=.type "list",data:=.seq its.toArray n}={cls:=.type "list",data:=.seq its'.toArray n'}) (r:bi ys its') (hz:ys.length≤sizeLine) (t:Nat) :
  Inv X ag σ (cN H p (.lst ys)) {s with heap:=s.heap.update p f,toks:=t}:=by
 have e:(s.heap.update p f).get? p=some {cls:=.type "list",data:=.seq its'.toArray n'}:=by
  rw[Heap.get?_update_self f ho (by rw[hf] <;> rfl),hf]
 refine I.write (x:=p) (e:=p) (by rw[h];trivial) (.inl rfl) (fun b u hb q=>(Heap.get?_update_other _ _ (Ne.symm hb)).trans q) ⟨_,e⟩ ?_;exact⟨hz,its',n',r,e⟩
def CF:V→V→V→Hp→(Hp→Prop)→Prop:=fun o i v H Q=>∃p xs k j,o=.ref p∧i=.int k∧H p=some (.lst xs)∧wK xs.length k=some j∧Q (cN H p (.lst (xs.set j v)))
theorem wm:D2 X CF:=by
 intro ag s σ H o i v ov iv u Q I ro ri rv h;obtain⟨p,xs,k,j,rfl,rfl,hp,hj,q⟩:=h;cases ro;obtain⟨t,rfl⟩:=ri;obtain⟨its,n,r,ho,hz⟩:=I.lst hp;obtain⟨h1,h2,h3,h4⟩:=rB hj;have hl:=r.length;have hn:=js;have I':Inv X ag σ (cN H p (.lst (xs.set j v))) {s with heap:=s.heap.update p (Obj.mapSeq (·.setIfInBounds j u))}:=
  I.lstUpd hp ho (p5 its n j u) (r.set rv j) (by rw[length_set];exact hz) s.toks
 by_cases h0:0≤k
 ·have hk:k.toNat=j:=by
   rw[seqIndex_of h0 h4] at h1;exact Option.some.inj h1
  exact W.ki_setAt ho h0 (by omega) (by rw[size_toArray,←hl];exact h4) (by rw[hk];exact⟨_,I',q⟩)
 ·have hk:(k+(its.toArray.size:Int)).toNat=j:=by
   rw[seqIndex_neg (by omega) h3] at h1;rw[size_toArray,←hl];exact Option.some.inj h1
  exact W.ki_setBack ho (by omega) (by rw[size_toArray,←hl];exact h3) (by omega) (by rw[hk];exact⟨_,I',q⟩)
theorem oo (lo hi:Option Int)(n:Nat):(sliceBounds lo hi none n).1=((HT.sIx n 0 lo:Nat):Int)∧(sliceBounds lo hi none n).2.1=((HT.sIx n n hi:Nat):Int)∧(sliceBounds lo hi none n).2.2=1:=by
 refine⟨?_,?_,rfl⟩
 ·cases lo with
  | none=>simp[sliceBounds,HT.sIx]
  | some i=>
   simp only[sliceBounds,HT.sIx,Option.getD_none,show(1:Int)>0 by decide,if_true]
   by_cases h:i<0
   ·simp only[h,if_true] <;> omega
   ·simp only[h,if_false] <;> omega
 ·cases hi with
  | none=>simp[sliceBounds,HT.sIx]
  | some i=>
   simp only[sliceBounds,HT.sIx,Option.getD_none,show(1:Int)>0 by decide,if_true]
   by_cases h:i<0
   ·simp only[h,if_true] <;> omega
   ·simp only[h,if_false] <;> omega
theorem mP (its:List Value)(lo hi:Option Int):slicePick its.toArray lo hi none=((its.drop (HT.sIx its.length 0 lo)).take (HT.sIx its.length its.length hi-HT.sIx its.length 0 lo)).toArray:=by
 obtain⟨h1,h2,h3⟩:=oo lo hi its.toArray.size;unfold slicePick;rw[h1,h2,h3];simp only[sliceRange_one,pick_run,size_toArray] <;> rfl
def E0 (K:W.Frag):V→Option Int→Option Int→Hp→VK→Prop:=fun x lo hi H Q=>∃a xs,x=.ref a∧kU K H a xs∧∀p,H p=none→Q (.ref p) (cN H p (.lst (o7 xs lo hi)))
theorem nR:Ex X (E0 X.K):=by
 intro ag s σ H x v vl vu lo hi sl Q I rx hs pl pu h;obtain⟨a,xs,rfl,hx,q⟩:=h;cases rx;obtain⟨its,r,ht,hz⟩:=I.list hx;have hlen:=r.length;refine⟨"list",_,slot_list_getitem.lookup,ht.isList.typeIs,?_⟩;refine wpAny_getItem_list_slice ht.isList hs pl pu .none (by simp) ?_ (by rw[size_toArray] <;> omega);rw[mP,←hlen];refine⟨.ref s.heap.objs.size,_,I.laid (t':=s.toks) (o:=.lst (o7 xs lo hi)) (fun b ob q=>Heap.get?_push_of_some _ q) (Nat.le_refl _) ?_,rfl,q _ (I.hok.fresh (Nat.le_refl _))⟩;exact⟨Nat.le_trans (kR xs lo hi) hz,_,0,(r.drop (HT.sIx xs.length 0 lo)).take (HT.sIx xs.length xs.length hi-HT.sIx xs.length 0 lo),Heap.get?_push_size _ rfl⟩
def gZ:V→Bool
 | .non=>true
 | .bl _=>true
 | .int _=>true
 | .str _=>true
 | _=>false
def rA:V→V→Bool
 | .non,.non=>true
 | .bl a,.bl b=>a==b
 | .bl a,.int b=>(if a then 1 else 0)==b
 | .int a,.bl b=>a==(if b then 1 else 0)
 | .int a,.int b=>a==b
 | .str a,.str b=>a==b
 | _,_=>false
theorem AM {A:Around}{s:Shared}{y x:V}{u v:Value}(ry:RelV y u)(rx:RelV x v)(fy:gZ y=true)(fx:gZ x=true):SeqAt.EqAt A s u v (rA y x):=by
 cases y with
 | non=>
  cases ry;cases x with
  | non=>cases rx;exact SeqAt.EqAt.same _
  | bl b=>cases rx;exact SeqAt.EqAt.none_bool b
  | int b=>obtain⟨t,rfl⟩:=rx;exact SeqAt.EqAt.none_int b t
  | str b=>obtain⟨t,rfl⟩:=rx;exact SeqAt.EqAt.none_str b t
  | _=>exact absurd (show false=true from fx) Bool.false_ne_true
 | bl a=>
  cases ry;cases x with
  | non=>cases rx;exact SeqAt.EqAt.bool_none a
  | bl b=>cases rx;exact SeqAt.EqAt.bool_bool a b
  | int b=>obtain⟨t,rfl⟩:=rx;exact SeqAt.EqAt.bool_int a b t
  | str b=>obtain⟨t,rfl⟩:=rx;exact SeqAt.EqAt.bool_str a b t
  | _=>exact absurd (show false=true from fx) Bool.false_ne_true
 | int a=>
  obtain⟨t',rfl⟩:=ry;cases x with
  | non=>cases rx;exact SeqAt.EqAt.int_none a t'
  | bl b=>cases rx;exact SeqAt.EqAt.int_bool a t' b
  | int b=>obtain⟨t,rfl⟩:=rx;exact SeqAt.EqAt.int_int a t' b t
  | str b=>obtain⟨t,rfl⟩:=rx;exact SeqAt.EqAt.int_str a t' b t
  | _=>exact absurd (show false=true from fx) Bool.false_ne_true
 | str a=>
  obtain⟨t',rfl⟩:=ry;cases x with
  | non=>cases rx;exact SeqAt.EqAt.str_none a t'
  | bl b=>cases rx;exact SeqAt.EqAt.str_bool a t' b
  | int b=>obtain⟨t,rfl⟩:=rx;exact SeqAt.EqAt.str_int a t' b t
  | str b=>obtain⟨t,rfl⟩:=rx;exact SeqAt.EqAt.str_str a t' b t
  | _=>exact absurd (show false=true from fx) Bool.false_ne_true
 | _=>exact absurd (show false=true from fy) Bool.false_ne_true
def Cj (x:V)(u:Value):Bool:=match u with
 | .none=>rA .non x
 | .bool b=>rA (.bl b) x
 | .int i _=>rA (.int i) x
 | .str z _=>rA (.str z) x
 | _=>false
theorem p6 {x y:V}{u:Value}(r:RelV y u)(f:gZ y=true):Cj x u=rA y x:=by
 cases y with
 | non=>cases r;rfl
 | bl b=>cases r;rfl
 | int i=>obtain⟨t,rfl⟩:=r;rfl
 | str z=>obtain⟨t,rfl⟩:=r;rfl
 | _=>exact absurd (show false=true from f) Bool.false_ne_true
theorem lJ {A:Around}{s:Shared}{x:V}{v:Value}(rx:RelV x v)(fx:gZ x=true):∀{xs:List V} {us:List Value},bi xs us→xs.all gZ=true→∀u∈us,SeqAt.EqAt A s u v (Cj x u)
 | _,_,.nil,_=>fun u hu=>by cases hu
 | y::xs,u::us,.cons r t,f=>fun u' hu=>by
  rw[all_cons,Bool.and_eq_true] at f;rcases mem_cons.mp hu with rfl|hu
  ·rw[p6 r f.1];exact AM r rx f.1 fx
  ·exact lJ rx fx t f.2 u' hu
theorem nT:dj X (.builtin "len") (fun xs H Q=>∃p ys,xs=[.ref p]∧(kU X.K H p ys∨j9 X.K H p ys)∧Q (.int ys.length) H):=by
 intro ag s σ H xs us Q I r h;obtain⟨p,ys,rfl,hq,q⟩:=h;obtain⟨u,rfl,rx⟩:=lW r;cases rx;have hn:=js;rcases hq with hq|hq
 ·obtain⟨its,r',pl,hz⟩:=I.list hq;have hlen:=r'.length;exact Calls.call_len_list pl.isList (by simp only[size_toArray] <;> omega) ⟨.int ys.length,H,I.tok _,⟨s.toks+1,by rw[size_toArray,hlen]⟩,q⟩
 ·obtain⟨its,r',pl,hz⟩:=I.tuple hq;have hlen:=r'.length;exact len_tuple pl (by simp only[size_toArray] <;> omega) ⟨.int ys.length,H,I.tok _,⟨s.toks+1,by rw[size_toArray,hlen]⟩,q⟩
theorem nV:dj X (.builtin "len") (fun xs H Q=>∃z,xs=[.str z]∧z.length≤sizeLine∧Q (.int z.length) H):=by
 intro ag s σ H xs us Q I r h;obtain⟨z,rfl,hz,q⟩:=h;obtain⟨u,rfl,t,rfl⟩:=lW r;have hn:=js;exact len_str (by omega) ⟨.int z.length,H,I.tok _,⟨_,rfl⟩,q⟩
theorem oM:dj X (.type "list") (fun xs H Q=>∃p ys,xs=[.ref p]∧(kU X.K H p ys∨j9 X.K H p ys)∧∀l,H l=none→Q (.ref l) (cN H l (.lst ys))):=by
 intro ag s σ H xs us Q I r h;obtain⟨p,ys,rfl,hq,q⟩:=h;obtain⟨u,rfl,rx⟩:=lW r;cases rx;have fin:∀(its:List Value),bi ys its→ys.length≤sizeLine→∀(h':Heap) (c':Nat),(∀b o',s.heap.get? b=some o'→h'.get? b=some o')→
   h'.get? s.heap.objs.size=some {cls:=.type "list",dict:=none,data:=.seq its.toArray c',slots:=#[]}→EP X ag σ Q (.ref s.heap.objs.size) {s with heap:=h'}:=fun its r' hz h' c' kp e=>
  ⟨.ref s.heap.objs.size,_,I.laid (t':=s.toks) kp (Nat.le_refl _) (show eZ X.prog X.w _ h' _ (.lst ys) from⟨hz,its,c',r',e⟩),rfl,q _ (I.hok.fresh (Nat.le_refl _))⟩
 rcases hq with hq|hq
 ·obtain⟨its,r',pl,hz⟩:=I.list hq;have hlen:=r'.length;obtain⟨o,ho,hc,n,hd⟩:=pl.isList;exact call_list_seq p (.inl rfl) ho hc hd (fun h' c' kp e=>fin its r' hz h' c' kp e) (by simp only[size_toArray] <;> omega)
 ·obtain⟨its,r',pl,hz⟩:=I.tuple hq;have hlen:=r'.length;obtain⟨o,ho,hc,n,hd⟩:=pl;exact call_list_seq p (.inr rfl) ho hc hd (fun h' c' kp e=>fin its r' hz h' c' kp e) (by simp only[size_toArray] <;> omega)
theorem fv:dj X (.type "tuple") (fun xs H Q=>∃p ys,xs=[.ref p]∧((kU X.K H p ys∧∀l,H l=none→Q (.ref l) (cN H l (.tup ys)))∨(j9 X.K H p ys∧Q (.ref p) H))):=by
 intro ag s σ H xs us Q I r h;obtain⟨p,ys,rfl,h⟩:=h;obtain⟨u,rfl,rx⟩:=lW r;cases rx;rcases h with⟨hq,q⟩|⟨hq,q⟩
 ·obtain⟨its,r',pl,hz⟩:=I.list hq;have hlen:=r'.length;refine call_tuple_list pl.isList (fun h' kp=>?_) (by simp only[size_toArray] <;> omega);have I1:Inv X ag σ H {s with heap:=h'}:=I.kept (t':=s.toks) kp;have I2:Inv X ag σ (cN H h'.objs.size (.tup ys)) {s with heap:=h'.push {cls:=.type "tuple",data:=.seq its.toArray}}:=
   I1.laid (t':=s.toks) (fun b o e=>Heap.get?_push_of_some _ e) (Nat.le_refl _) (show eZ X.prog X.w _ _ _ (.tup ys) from⟨hz,its,r',IsTup.new _ _⟩)
  exact⟨.ref h'.objs.size,_,I2,rfl,q _ (I1.hok.fresh (Nat.le_refl _))⟩
 ·obtain⟨its,r',pl,hz⟩:=I.tuple hq;exact call_tuple_same pl ⟨.ref p,H,I,rfl,q⟩
def FY (K:W.Frag)(T:String)(x:V)(H:Hp):Prop:=match x with
 | .str _=>T="str"
 | .int _=>T="int"
 | .ref p=>(T="list"∧∃xs,kU K H p xs)∨(T="tuple"∧∃o,K.lookup p=some o∧o.cls=.type "tuple"∧o.dict=none)∨
   (T="dict"∧((∃kvs,H p=some (.dK kvs))∨∃kvs,H p=some (.dT kvs)))∨(T="set"∧∃S n,H p=some (.set S n))
 | _=>False
theorem As {ag:List (Addr×Obj)}{σ:St}{H:Hp}{s:Shared}{T:String}{x:V}{v:Value}(I:Inv X ag σ H s)(r:RelV x v)(ty:FY X.K T x H) :
  s.TypeIs v T∧∀a,v=.ref a→∃ob,s.heap.get? a=some ob∧ob.dict=none:=by
 cases x with
 | str z=>
  obtain⟨t,rfl⟩:=r;cases (show T="str" from ty);exact⟨typeIs_str s z t,fun _ e=>nomatch e⟩
 | int i=>
  obtain⟨t,rfl⟩:=r;cases (show T="int" from ty);exact⟨typeIs_int s i t,fun _ e=>nomatch e⟩
 | ref p=>
  cases r;rcases ty with⟨rfl,xs,hq⟩|⟨rfl,o,hk,hc,hd⟩|⟨rfl,hk⟩|⟨rfl,S,n,hk⟩
  ·obtain⟨its,_,pl,_⟩:=I.list hq;refine⟨pl.isList.typeIs,fun a e=>?_⟩;cases e;obtain⟨o,n,e,c,hd,_⟩:=pl;exact⟨o,e,hd⟩
  ·refine⟨⟨o,I.kIn p o hk,hc⟩,fun a e=>?_⟩;cases e;exact⟨o,I.kIn _ o hk,hd⟩
  ·have z:∃o,s.heap.get? p=some o∧o.ExactDict:=by
    rcases hk with⟨kvs,hk⟩|⟨kvs,hk⟩
    ·obtain⟨_,_,_,_,o,_,_,e,ex,_⟩:=I.hok p _ hk;exact⟨o,e,ex⟩
    ·obtain⟨_,_,_,_,o,_,_,e,ex,_⟩:=I.hok p _ hk;exact⟨o,e,ex⟩
   obtain⟨o,e,ex⟩:=z;refine⟨⟨o,e,ex.1⟩,fun a e2=>?_⟩;cases e2;exact⟨o,e,ex.2.1⟩
  ·obtain⟨o,_,_,_,e,ex,_⟩:=I.hok p _ hk;refine⟨⟨o,e,ex.1⟩,fun a e2=>?_⟩;cases e2;exact⟨o,e,ex.2.1⟩
 | _=>exact False.elim ty
def FR (K:W.Frag)(T:String)(r:V→List V→Hp→VK→Prop)(to:TE)(t:TA):TE:=fun σ H Q=>to σ H fun x H1=>FY K T x H1∧t σ H1 fun xs H2=>r x xs H2 Q
variable {o e:Expr}{es:List Expr}{to:TE}{t:TA}{name:Str}{apos cpos:Pos}{T id:String}{r:V→List V→Hp→VK→Prop}
theorem vZ (pa:PlainAttrs T)(slot:Slot T name id)(hty:typeOf (.builtin id)=pure (.type "method_descriptor"))(hm:FK X id r)(ho:PE X o to)(ha:PA X (e::es) t)
  (hbase:attributeBase o name X.env (eval o X.env)=eval o X.env:=by rfl)
  (hfew:((backTo cpos (starEach (e::es) X.env)).all (fun x=>!x.1)&&(backToKw cpos (keywordEach [] X.env)).all (fun x=>x.1.isSome)
   && decide ((e::es).length+([]:List Keyword).length+(if([]:List Keyword).isEmpty then 0 else 1)<30))=true:=by rfl)
  (hline:(apos.endLine==cpos.line)=true:=by rfl) (hs:starEach (e::es) X.env=(false,eval e X.env)::starEach es X.env:=by rfl) (hplain:(backTo cpos (starEach es X.env)).any (·.1)=false:=by rfl) :
  PE X (.Call (.Attribute o name apos) (e::es) [] cpos) (FR X.K T r to t):=by
 intro ag s σ H Q I h;refine wpAny_Call_method_late hbase hfew hline rfl (dh (ho ag s σ H _ I h) fun v s1 hxx=>?_);obtain⟨x,H1,I1,r1,ty,q1⟩:=hxx;obtain⟨h1,h2⟩:=As I1 r1 ty;refine⟨T,id,pa,slot,hty,h1,h2,?_⟩;have hA:=ha cpos ag s1 σ H1 _ I1 q1;rw[hs] at hA ⊢;refine Calls.callWith_builtin (by show(false||(backTo cpos (starEach es X.env)).any (·.1))=false;rw[hplain] <;> rfl) (Calls.evalArgs_plain ?_);exact dh hA fun us s2 ⟨vs,H2,I2,r2,q2⟩=>hm ag s2 σ H2 x vs v us Q I2 r1 r2 q2
end
def F9 (X:Cx)(id:String)(r:V→List V→Hp→VK→Prop):Prop:=
 ∀(ag:List (Addr×Obj)) (s:Shared) (σ:St) (H:Hp) (x:V) (xs:List V) (v:Value) (us:List Value) (Q:VK),Inv X ag σ H s→RelV x v→bi xs us→r x xs H Q→
  wpAny (model X.prog X.w) X.A (call (.builtin id) (v::us)) (EP X ag σ Q) X.xe s
theorem bi.one:∀{x:V} {us:List Value},bi [x] us→∃u,us=[u]∧RelV x u
 | _,_,.cons r .nil=>⟨_,rfl,r⟩
section
variable {X:Cx}{ag:List (Addr×Obj)}{σ:St}{H:Hp}{s:Shared}{l b:Addr}{xs ys zs:List V}
theorem Inv.lset {its its':List Value}{n:Nat}{f:Array Value→Array Value}{t':Nat}(I:Inv X ag σ H s)(hH:H l=some (.lst xs))
  (e:s.heap.get? l=some {cls:=.type "list",data:=.seq its.toArray n}) (hf:f its.toArray=its'.toArray) (hv:bi ys its') (hz:ys.length≤sizeLine) :
  Inv X ag σ (cN H l (.lst ys)) {s with heap:=s.heap.update l (Obj.mapSeq f),toks:=t'}:=by
 have q:=PySem.IsL.update e f;rw[hf] at q;refine I.write (x:=l) (e:=l) (by rw[hH];exact trivial) (.inl rfl) (fun b' u hb hu=>(Heap.get?_update_other s.heap (Obj.mapSeq f) (Ne.symm hb)).trans hu) ⟨_,q⟩ ?_;exact⟨hz,its',_,hv,q⟩
theorem Inv.lnew {its:List Value}{t':Nat}(I:Inv X ag σ H s)(hv:bi ys its)(hz:ys.length≤sizeLine) :
  Inv X ag σ (cN H s.heap.objs.size (.lst ys)) {s with heap:=s.heap.push {cls:=.type "list",data:=.seq its.toArray},toks:=t'}:=
 I.laid (fun _ _ q=>Heap.get?_push_of_some _ q) (Nat.le_refl _) ⟨hz,its,0,hv,Heap.get?_push_size _ rfl⟩
theorem Inv.fresh (I:Inv X ag σ H s):H s.heap.objs.size=none:=I.hok.fresh (Nat.le_refl _)
theorem Inv.lstM (I:Inv X ag σ H s)(hH:H l=some (.lst xs)):xs.length≤sizeLine∧∃(its:List Value) (n:Nat),bi xs its∧xs.length=its.length∧s.heap.get? l=some {cls:=.type "list",data:=.seq its.toArray n}:=by
 obtain⟨z,its,n,r,e⟩:=I.hok l _ hH;exact⟨z,its,n,r,r.length,e⟩
end
section
variable {X:Cx}
def xZ:V→List V→Hp→VK→Prop:=fun x vs H Q=>∃l xs y,x=.ref l∧vs=[y]∧H l=some (.lst xs)∧xs.length<sizeLine∧Q .non (cN H l (.lst (xs++[y])))
theorem tF:F9 X "list.append" xZ:=by
 intro ag s σ H x vs v us Q I rx rv h;obtain⟨l,xs,y,rfl,rfl,hH,hz,q⟩:=h;cases rx;obtain⟨u,rfl,ru⟩:=rv.one;obtain⟨z,its,n,r,hl,e⟩:=I.lstM hH;refine call_meets F.slot_list_append ⟨_,e,rfl⟩ F.entry_list_append (F.args_list_append_2 _ _) (PySem.list_append l its.toArray n u (by rw[size_toArray];omega)) ⟨e,?_⟩;refine⟨.non,_,I.lset (its':=its++[u]) hH e (by simp) (r.append (.cons ru .nil)) ?_,rfl,q⟩;rw[length_append,length_singleton];omega
def Fm:R2:=fun x y H Q=>∃l b xs zs,x=.ref l∧y=.ref b∧H l=some (.lst xs)∧H b=some (.lst zs)∧xs.length+zs.length≤sizeLine∧∀p,H p=none→Q (.ref p) (cN H p (.lst (xs++zs)))
theorem ve:gz X (binaryOp .Add) Fm:=by
 intro ag s σ H x y v u Q I rx ry h;obtain⟨l,b,xs,zs,rfl,rfl,hH,hB,hz,q⟩:=h;cases rx;cases ry;obtain⟨z,its,n,r,hl,e⟩:=I.lstM hH;obtain⟨z2,its2,n2,r2,hl2,e2⟩:=I.lstM hB;refine PySem.P.add_list e e2 ?_ (by rw[size_toArray,size_toArray];omega);have ea:its.toArray++its2.toArray=(its++its2).toArray:=by simp
 rw[ea];exact⟨.ref _,_,I.lnew (t':=s.toks) (r.append r2) (by rw[length_append];omega),rfl,q _ I.fresh⟩
end
end L2
namespace Att
open PySem PySem.W PySem.Calls PyProof.Rows
theorem lu {P:Params}{h:Heap}:∀(ns:List Int) (vs:List Value),WellAll P h vs (ns.map WData.int)→IntsAre vs ns:=by
 intro ns
 induction ns with
 | nil=>
  intro vs w;rw[List.map_nil] at w;cases w;exact .nil
 | cons n ns ih=>
  intro vs w;rw[List.map_cons] at w;cases w with
  | cons a b=>
   cases a;exact .cons _ _ (ih _ b)
theorem uh {l:OpenLaw}{n:Nat}(hn:l.most=some n){P:Params}{h:Heap}{args:List WData}{vals:List Value}
  (hpre:l.row.toRowW.claim.pre args=true) (hwl:WellAll P h vals args) :
  ∃a vs ns,vals=[Value.ref a]∧args=[WData.list (ns.map WData.int)]∧h.get? a=some {cls:=.type "list",data:=.seq vs.toArray}∧IntsAre vs ns∧ns.length≤n:=by
 have hsh:WShape.hasAll [] args [.list .int]=true:=(pre_splitW hpre).1;have hc:l.pre.holds [] {args:=args}=true:=(pre_splitW hpre).2;obtain⟨d,r,rfl,h1,h2⟩:=hasAllW_cons hsh;obtain rfl:=hasAllW_nil h2;obtain⟨xs,rfl,h3⟩:=hasW_list h1;obtain⟨ns,rfl⟩:=items_int h3;have hlen:ns.length≤n:=by
  unfold OpenLaw.pre at hc;have h4:(WTm.not (.lt (.lit (.int (n:Int))) (.len (.arg 0)))).holds [] {args:=[.list (ns.map .int)]}=true:=by
   have h4:=(holds_andW hc).1;rw[hn] at h4;exact h4
  have h5:=condW_of h4 (w_not (w_lt w_lit (w_len_list (w_arg rfl))));rw[List.length_map] at h5;refine Nat.le_of_not_lt fun q=>?_
  have q':(n:Int)<((ns.length:Nat):Int):=by omega
  first
   | (rw[decide_eq_true q'] at h5;exact absurd h5 (by decide))
   | (simp at h5;omega)
 cases hwl with
 | cons w1 w2=>
  cases w2;cases w1 with
  | list ho hall=>exact⟨_,_,ns,rfl,rfl,ho,lu ns _ hall,hlen⟩
theorem tH (l:OpenLaw)(args:List WData):l.row.toRowW.claim.post args (.bool true) args=true:=
 postW_of (r:=l.row.toRowW) (X:=(true==true))
  (show WShape.has [] (.bool true) .bool=true by first|rfl|decide|simp[WShape.has,WShape.arms,WShape.armsAll])
  (show(WTm.eq .res (.lit (.bool true))).value [] {args:=args,res:=some (.bool true),after:=args}=some (.bool (true==true)) from w_eq_bool (w_res rfl) w_lit) rfl
theorem attach_call {l:OpenLaw}{n:Nat}{q:Program}{loose:List Str}{XP:(Str→Option Value)→Heap→Prop}{YP:World→Heap→Prop}{d:DefRec}
  (hn:l.most=some n) (hdf:d.params.defaults=[])
  (call:∀(w:World) (s₀ s₁:Shared) (mg mb:Str→Option Value) (fa:Addr) (o:Obj) (pm cd doc:Value) (a:Addr) (vs:List Value) (ns:List Int),
   Ground q loose [] XP w s₀ mg mb s₁.heap→YP w s₁.heap→
   s₁.heap.get? fa=some o→o.data=.func (docDef d.name d.params d.body d.scope pm cd doc)→s₁.heap.CodeRec cd d.name→mg d.name=some (.ref fa)→
   s₁.heap.get? a=some {cls:=.type "list",data:=.seq vs.toArray}→IntsAre vs ns→ns.length≤n→s₁.gens=#[]→
   codeAny (model l.prog w) callerA (.call (.ref fa) ⟨[.ref a],[]⟩) (fun r s'=>r=.ok (.ret (.bool true))∧OldK s₁.heap s'.heap∧s'.os=s₁.os∧AllBare s'.gens) s₁) :
  WalkO q loose XP YP l.row.toRowW d [] (fun f vs=>PySem.call f vs):=by
 intro w s₀ s₁ mg mb G Y fa o pm cd doc dV kV ho hd hcd hD hmg hg args vals as hpre hlay hrd hwl hlo;obtain rfl:dV=.none:=Dflts.none hD hdf;obtain rfl:kV=.none:=Dflts.noKw hD;obtain⟨a,vs,ns,rfl,rfl,hobj,hints,hlen⟩:=uh hn hpre hwl;refine enter_call (codeAny_mono (call w s₀ s₁ mg mb fa o pm cd doc a vs ns G Y ho (fd_plain hd) hcd hmg hobj hints hlen hg) fun r s' hq=>?_);obtain⟨rfl,h2,h3,h4⟩:=hq;exact⟨.inl ⟨.bool true,.bool true,[],rfl,fun _=>rfl,.bool true,tH l _,fun _=>⟨List.Pairwise.nil,fun _ hm=>(nomatch hm)⟩⟩,h2,h3,h4⟩
end Att
namespace L2
open PySem PySem.Spec PyProof.Rows List
theorem m6:∀{vs:List Value} {ns:List Int},IntsAre vs ns→bi (ns.map V.int) vs
 | _,_,.nil=>.nil
 | _,_,.cons n t h=>.cons ⟨t,rfl⟩ (m6 h)
def Bu (H:Hp):Prop:=∀b,H b=none∨∃o xs,H b=some (.frz o (.lst xs))
theorem vk {P:Program}{w:World}{K:W.Frag}{mg mb:Str→Option Value}{CX:sH}{k:Nat}{fa a:Addr}{fd:FuncData}{x:Str}{sp:Sp}{s₁:Shared}{vs:List Value}{ns:List Int}
  (KX:K.In s₁.heap) (hns:s₁.heap.Ns mainGlobals mg) (hb:s₁.heap.Ns builtinsNs mb) (hbb:∀x:Str,x≠"__name__"→mb x=bootBuiltins x) (hlim:s₁.heap.NoLimit) (hg:s₁.gens=#[])
  (ha:s₁.heap.get? a=some {cls:=.type "list",data:=.seq vs.toArray}) (hi:IntsAre vs ns) (hl:ns.length≤sizeLine) (hr:dm k callerA)
  (F:∀base:Heap,K.In base→base.Ns mainGlobals mg→fE P w K mg base CX k fa fd [x] sp) (hbind:∀(s:Shared) (u:Value),BindsTo s fd ⟨[u],[]⟩ [(x,u)])
  (hsp:∀H:Hp,Bu H→kU K H a (ns.map V.int)→sp [.ref a] H (fun v _=>v=.bl true) fun _ _ _=>False)
  (hCX:∀H e s',CX [] H s₁ (fun _ _ _=>False) e s'→False) :
  codeAny (model P w) callerA (.call (.ref fa) ⟨[.ref a],[]⟩) (fun r s'=>r=.ok (.ret (.bool true))∧OldK s₁.heap s'.heap∧s'.os=s₁.os∧AllBare s'.gens) s₁:=by
 have rv:=m6 hi;have lenV:=hi.length;have core:∀H:Hp,Bu H→kU K H a (ns.map V.int)→k6 P w H s₁.heap→(∀b,H b≠none→b=a)→(H a≠none→K.lookup a=none)→
   codeAny (model P w) callerA (.call (.ref fa) ⟨[.ref a],[]⟩) (fun r s'=>r=.ok (.ret (.bool true))∧OldK s₁.heap s'.heap∧s'.os=s₁.os∧AllBare s'.gens) s₁:=by
  intro H hO hS hok hA hK;have base_of:∀{b:Addr} {o:Obj},s₁.heap.get? b=some o→H b=none→(nY s₁.heap H).get? b=some o:=fun e n=>vb e n
  have noA:∀{b:Addr} {o:Obj} {es:Array DictEntry} {ep:Nat},s₁.heap.get? b=some o→o.data=.dict es ep→H b=none:=fun {b o es ep} e d=>by
   cases q:H b with
   | none=>rfl
   | some u=>
    have e':b=a:=hA b (by rw[q];simp);subst e';rw[ha] at e;cases e;have d':Data.seq vs.toArray _=Data.dict es ep:=d;cases d'
  have nsK:∀{b:Addr} {m:Str→Option Value},s₁.heap.Ns b m→(nY s₁.heap H).Ns b m:=fun {b m} ⟨o,es,ep,e,d,r⟩=>⟨o,es,ep,base_of e (noA e d),d,r⟩
  have hKb:K.In (nY s₁.heap H):=fun b o e=>base_of (KX b o e) (by
   cases q:H b with
   | none=>rfl
   | some u=>
    have e':b=a:=hA b (by rw[q];simp);subst e';rw[hK (by rw[q];simp)] at e;cases e)
  have hM:Mod K mg (nY s₁.heap H):=⟨hKb,nsK hns,⟨mb,nsK hb,hbb⟩,let ⟨mc,h1,h2⟩:=hlim;⟨mc,nsK h1,h2⟩⟩;have e0:qi P w K mg (nY s₁.heap H) callerA [] s₁ H:=⟨rfl,hM,fun b o e=>yP e,Nat.le_of_eq (sw _ _),trivial,fun b hb=>absurd (show b∈([]:List Addr) from hb) (by simp),hok,.of_eq hg⟩;refine codeAny_mono ((F _ hKb (nsK hns)).run callerA [] s₁ H ⟨[.ref a],[]⟩ [.ref a] [.ref a] _ _ hr e0 (hbind s₁ (.ref a)) (.cons rfl .nil) (hsp H hO hS)) fun r s' h=>?_
  cases r with
  | error e=>exact(hCX H e s' h).elim
  | ok fl=>
   cases fl with
   | next=>exact False.elim h
   | brk=>exact False.elim h
   | cont=>exact False.elim h
   | ret u=>
    obtain⟨v,H',os,bare,un,hok',r',q⟩:=h;have q':v=.bl true:=q;subst q';obtain rfl:u=Value.bool true:=r';refine⟨rfl,OldK.of_keep fun b o e=>?_,os,bare⟩;cases q:H b with
    | none=>exact un.keep b o e q (by intro z;exact absurd (show b∈([]:List Addr) from z) (by simp)) (by simp)
    | some u=>
     rcases hO b with z|⟨ob,xs,z⟩
     ·rw[q] at z;cases z
     ·have z2:=un.frzs b ob _ z;obtain⟨e1,_⟩:=hok b _ z;obtain⟨e2,_⟩:=hok' b _ z2;rw[e] at e1;cases e1;exact e2
 cases hk:K.lookup a with
 | some o=>
  have e:=KX a o hk;rw[ha] at e;cases e;refine core (fun _=>none) (fun _=>.inl rfl) (.inr ⟨_,vs.toArray,_,hk,rfl,rfl,rfl,by rw[size_toArray,lenV];exact hl,by simpa using rv⟩) (fun b u z=>by have z':(none:Option HO)=some u:=z;cases z') (fun b z=>absurd rfl z) fun z=>absurd rfl z
 | none=>
  refine core (fun b=>if b=a then some (.frz {cls:=.type "list",data:=.seq vs.toArray} (.lst (ns.map V.int))) else none) (fun b=>?_) (.inl (.inr ⟨{cls:=.type "list",data:=.seq vs.toArray},if_pos rfl⟩)) (fun b u z=>?_) (fun b z=>?_) fun _=>hk
  ·by_cases hb:b=a
   ·exact .inr ⟨_,_,if_pos hb⟩
   ·exact .inl (if_neg hb)
  ·by_cases hb:b=a
   ·have z':=(if_pos hb).symm.trans z;cases z';subst hb;exact⟨ha,by rw[length_map];exact hl,vs,_,rv,ha⟩
   ·have z':=(if_neg hb).symm.trans z;cases z'
  ·by_cases hb:b=a
   ·exact hb
   ·exact absurd (if_neg hb) z
theorem walk_of {l:W.OpenLaw}{n k:Nat}{q:Program}{loose:List Str}{XP:(Str→Option Value)→Heap→Prop}{YP:World→Heap→Prop}{d:DefRec}{K:Params→W.Frag}{CX:World→sH}{sp:World→Sp}{x:Str}
  (hn:l.most=some n) (hn2:n≤sizeLine) (hdf:d.params.defaults=[]) (hr:dm k callerA)
  (hY:∀(w:World) (h:Heap),YP w h→(K w.params).In h)
  (F:∀(w:World) (mg:Str→Option Value) (fa:Addr) (h:Heap),(K w.params).In h→h.Ns mainGlobals mg→mg d.name=some (.ref fa)→
   ∃fd:FuncData,(∀(s:Shared) (u:Value),BindsTo s fd ⟨[u],[]⟩ [(x,u)])∧
    ∀base:Heap,(K w.params).In base→base.Ns mainGlobals mg→fE l.prog w (K w.params) mg base (CX w) k fa fd [x] (sp w))
  (hsp:∀(w:World) (H:Hp) (a:Addr) (ns:List Int),ns.length≤n→Bu H→kU (K w.params) H a (ns.map V.int)→sp w [.ref a] H (fun v _=>v=.bl true) fun _ _ _=>False)
  (hCX:∀(w:World) (H:Hp) (s:Shared) (e:Value) (s':Shared),CX w [] H s (fun _ _ _=>False) e s'→False) :
  W.WalkO q loose XP YP l.row.toRowW d [] (fun f vs=>PySem.call f vs):=by
 refine Att.attach_call hn hdf fun w s₀ s₁ mg mb fa o pm cd doc a vs ns G Y ho hd hcd hmg hobj hints hlen hg=>?_
 have KX:=hY w _ Y;obtain⟨fd,hb,hF⟩:=F w mg fa _ KX G.T.g hmg;exact vk KX G.T.g G.T.b G.T.builtins G.T.nolimit hg hobj hints (Nat.le_trans hlen hn2) hr hF hb (fun H hO hS=>hsp w H a ns hlen hO hS) fun H e s'=>hCX w H s₁ e s'
def rp (s:Stmt)(j:Nat):Stmt:=match s with
 | .ClassDef _ _ _ body _ _ _ _ _ _ _=>body.getD j (.Pass ⟨0,0,0,0⟩)
 | _=>.Pass ⟨0,0,0,0⟩
def fR (s:Stmt):Arguments:=match s with
 | .FunctionDef _ a _ _ _ _ _ _ _ _=>a
 | _=>{posonlyargs:=[],args:=[],vararg:=none,kwonlyargs:=[],kw_defaults:=[],kwarg:=none,defaults:=[]}
def dG (s:Stmt):List Stmt:=match s with
 | .FunctionDef _ _ b _ _ _ _ _ _ _=>b
 | _=>[]
def bn (s:Stmt):Scope:=match s with
 | .FunctionDef _ _ _ _ _ _ sc _ _ _=>sc
 | _=>{kind:=.function,names:=[],isGenerator:=false,isCoroutine:=false}
structure Ay (K:W.Frag)(x qual:Str)(st:Stmt)(f:Addr)(fd:FuncData):Prop where
 ex:∃(oc:Value) (od:Option Addr) (kV doc pm:Value) (an:Option Addr) (cdv ct:Value) (osl:Array (Option Value)),
  fd=W.fnOf x qual (fR st) (dG st) (bn st) .none kV doc pm an cdv ct∧K.lookup f=some ⟨oc,od,.func fd,osl⟩∧W.codeIn K cdv qual=true
 kp:W.keepIn K (.ref f)=true
section
variable {P:Program}{w:World}{K:W.Frag}{mg:Str→Option Value}{base:Heap}
theorem Ay.binds {x qual:Str}{st:Stmt}{f:Addr}{fd:FuncData}{ps:List Str}(F:Ay K x qual st f fd)
  (h:∀(kV doc pm:Value) (an:Option Addr) (cdv ct:Value) (us:List Value),us.length=ps.length→bindArgs (W.fnOf x qual (fR st) (dG st) (bn st) .none kV doc pm an cdv ct) ⟨us,[]⟩=pure (ps.zip us)):fO K fd ps []:=by
 obtain⟨oc,od,kV,doc,pm,an,cdv,ct,osl,rfl,lk,hcd⟩:=F.ex;exact .all (h kV doc pm an cdv ct)
theorem oy {x qual:Str}{st:Stmt}{f:Addr}{oc:Value}{od an:Option Addr}{osl:Array (Option Value)}{kV doc pm cdv ct:Value}(l:K.lookup f=some ⟨oc,od,.func (W.fnOf x qual (fR st) (dG st) (bn st) .none kV doc pm an cdv ct),osl⟩)
  (c:W.codeIn K cdv qual=true) (k:W.keepIn K (.ref f)=true):Ay K x qual st f (W.fnOf x qual (fR st) (dG st) (bn st) .none kV doc pm an cdv ct):=⟨⟨oc,od,kV,doc,pm,an,cdv,ct,osl,rfl,l,c⟩,k⟩
end
abbrev KT (H:Hp):List (List nC×V)→List (List nC×Addr×Value)→Prop:=Paired fun p q=>p.1=q.1∧H q.2.1=some (.tup (p.1.map kV))∧RelV p.2 q.2.2
abbrev VV:List (V×V)→List (Value×Value)→Prop:=Paired fun p q=>RelV p.1 q.1∧RelV p.2 q.2
structure M1 (X:Cx)(o:Expr)(m:Str)(apos:Pos)(e:Expr)(cpos:Pos):Prop where
 base:attributeBase o m X.env (eval o X.env)=eval o X.env
 few:((backTo cpos (starEach [e] X.env)).all (fun x=>!x.1)&&(backToKw cpos (keywordEach [] X.env)).all (fun x=>x.1.isSome)
  && decide (([e]:List Expr).length+([]:List Keyword).length+(if([]:List Keyword).isEmpty then 0 else 1)<30))=true
 line:(apos.endLine==cpos.line)=true
 trees:backTo cpos (starEach [e] X.env)=[(false,eval e X.env)]
structure M2 (X:Cx)(o:Expr)(m:Str)(apos:Pos)(e f:Expr)(cpos:Pos):Prop where
 base:attributeBase o m X.env (eval o X.env)=eval o X.env
 few:((backTo cpos (starEach [e,f] X.env)).all (fun x=>!x.1)&&(backToKw cpos (keywordEach [] X.env)).all (fun x=>x.1.isSome)
  && decide (([e,f]:List Expr).length+([]:List Keyword).length+(if([]:List Keyword).isEmpty then 0 else 1)<30))=true
 line:(apos.endLine==cpos.line)=true
 trees:backTo cpos (starEach [e,f] X.env)=[(false,eval e X.env),(false,eval f X.env)]
end L2
namespace Att
open PySem PySem.W PySem.Calls PyProof.Rows
end Att
namespace L2
open PySem PySem.Spec PyProof.Rows List
end L2
namespace DL
open PySem PySem.Spec PyProof.Rows L2 List
structure Au (X:Cx)(ag:List (Addr×Obj))(H:Hp)(B:Heap):Prop where
 trk:∀b o,H b=some o→∃o',B.get? b=some o'
 pin:∀p∈X.pn++ag,∃o',B.get? p.1=some o'
 old:∀b o,X.s₀.heap.get? b=some o→b∉X.ex→b∉lP X.stack→∃o',B.get? b=some o'
def E6 (X:Cx)(H:Hp)(a C:Addr)(s:Shared):Prop:=∃ag σ,
 (∃h vs,L2.Inv X ag σ H {s with heap:=h}∧Heap.MadeExcOf h s.heap a (.ref C) vs)∨
 (L2.Inv X ag σ H s∧H a=none∧∃B a0,Heap.FlyingW B X.stack a (.ref C) a0 s.heap∧Au X ag H B)∨
 (L2.Inv X ag σ H s∧H a=none∧∃B a0 L,X.env.frame=some L∧Heap.HeldW B X.stack a (.ref C) a0 L s.heap∧Au X ag H B)
def cI (K:W.Frag)(c:Str)(C:Addr):Prop:=W.nsIn K mainGlobals c=some (some (.ref C))
theorem cI.inj {K:W.Frag}{c:Str}{C C':Addr}(a:cI K c C)(b:cI K c C'):C=C':=by
 unfold cI at a b;rw[a] at b;cases b;rfl
theorem mI {P:Program}{w:World}{H:Hp}{h:Heap}{a:Addr}{o:HO}(x:eZ P w H h a o):∃u,h.get? a=some u:=by
 cases o with
 | lst xs=>obtain⟨_,_,_,_,e⟩:=x;exact⟨_,e⟩
 | tup xs=>obtain⟨_,_,_,o,e,_⟩:=x;exact⟨_,e⟩
 | dK kvs=>obtain⟨_,_,_,_,o,_,_,e,_⟩:=x;exact⟨_,e⟩
 | dT kvs=>obtain⟨_,_,_,_,o,_,_,e,_⟩:=x;exact⟨_,e⟩
 | set S n=>obtain⟨o,_,_,_,e,_⟩:=x;exact⟨_,e⟩
 | ins C dx fs=>obtain⟨_,_,_,e,_⟩:=x;exact⟨_,e⟩
 | own y=>obtain⟨_,e⟩:=x;exact⟨_,e⟩
 | xd fs=>obtain⟨_,⟨_,_,_,e,_⟩,_⟩:=x;exact⟨_,e⟩
 | rng lo hi=>obtain⟨_,_,_,e⟩:=x;exact⟨_,e⟩
 | frz ob u=>obtain⟨e,_⟩:=x;exact⟨_,e⟩
 | tbl ps=>exact⟨_,show h.get? a=some _ from x⟩
 | met f y=>exact⟨_,show h.get? a=some _ from x⟩
 | ext φ=>obtain⟨_,⟨_,e⟩,_⟩:=x;exact⟨_,e⟩
section
variable {X:Cx}{ag:List (Addr×Obj)}{σ:List (Option V)}{H:Hp}{s:Shared}{B h':Heap}{a C:Addr}
theorem lz (I:L2.Inv X ag σ H s){b:Addr}{o:Obj}(e:X.s₀.heap.get? b=some o)(n:b∉X.fs):b∉lP X.stack:=fun z=>by
 rcases mem_cons.mp (I.stkSub b z) with q|q
 ·have h1:=Heap.lt_size e;rw[q] at h1;exact absurd (Nat.lt_of_lt_of_le h1 I.ok.above) (Nat.lt_irrefl _)
 ·exact n q
theorem sj {h h':Heap}{c:Addr}{v:Option Value}(u:h.UpToSlots h')(x:h.IsCell c v):h'.IsCell c v:=by
 obtain⟨o,e,d⟩:=x;obtain⟨sl,e'⟩:=u c o e fun vs q=>by rw[d] at q;cases q
 exact⟨_,e',d⟩
theorem iM (I:L2.Inv X ag σ H s)(cov:Au X ag H B)(hB:B.StaysIn s.heap)(hB':B.StaysIn h')(up:s.heap.UpToSlots h'):L2.Inv X ag σ H {s with heap:=h'}:=by
 have keepB:∀b o o',B.get? b=some o'→s.heap.get? b=some o→h'.get? b=some o:=fun b o o' e1 e2=>by
  have:=hB b o' e1;rw[e2] at this;cases this;exact hB' b _ e1
 refine⟨I.ok,I.os,I.bare,⟨fun b o e n nf nx=>?_,fun b o e n hf nx=>?_,fun b o e n nx=>I.base.free b o e n nx,fun b o e nx=>?_,I.base.tups,I.base.frzs,I.base.tbls⟩,?_,fun x c e=>?_,I.free,I.freeC,fun p hp=>?_,fun b o e=>?_,I.len⟩
 ·obtain⟨o',e'⟩:=cov.old b o e nx (lz I e nf);exact keepB b o o' e' (I.base.keep b o e n nf nx)
 ·obtain⟨sl,e1⟩:=I.base.slot b o e n hf nx;obtain⟨_,ob,e2,nf⟩:=I.funs.mem hf;rw[e1] at e2;cases e2;obtain⟨sl',e3⟩:=up b _ e1 nf;exact⟨sl',e3⟩
 ·by_cases hf:b∈X.fs
  ·obtain⟨_,ob,e2,nf⟩:=I.funs.mem hf;obtain⟨sl',e3⟩:=up b _ e2 nf;exact⟨_,e3⟩
  ·obtain⟨o',e'⟩:=cov.old b o e nx (lz I e hf);exact⟨o',hB' b o' e'⟩
 ·obtain⟨m,hn,hl⟩:=I.loc;refine⟨m,up.ns hn,fun i x v e1 e2 e3=>?_⟩;obtain⟨u,r,lk⟩:=hl i x v e1 e2 e3;refine⟨u,r,?_⟩;rcases lk with lk|⟨k,c,ec,ic⟩
  ·exact .inl lk
  ·exact .inr ⟨k,c,ec,sj up ic⟩
 ·obtain⟨v,ic⟩:=I.cell x c e;exact⟨v,sj up ic⟩
 ·obtain⟨e,n,ne,nf,d⟩:=I.pin p hp;obtain⟨o',e'⟩:=cov.pin p hp;exact⟨keepB p.1 p.2 o' e' e,n,ne,nf,d⟩
 ·refine(I.hok b o e).stay (fun c u hc q=>?_) (fun _ q=>q) fun _ _ q=>q
  have:∃o,H c=some o:=by
   rcases hc with z|z
   ·exact⟨o,by rw[z];exact e⟩
   ·exact⟨_,z⟩
  obtain⟨oc,ec⟩:=this;obtain⟨o',e'⟩:=cov.trk c oc ec;exact keepB c u o' e' q
theorem pk (I:L2.Inv X ag σ H s):Au X ag H (W.hideAll s.heap (lP X.stack)):=by
 refine⟨fun b o e=>?_,fun p hp=>?_,fun b o e nx nf=>?_⟩
 ·obtain⟨u,q⟩:=mI (I.hok b o e);exact⟨u,W.hideAll_get _ q fun z=>by rw[I.stkFree b z] at e;cases e⟩
 ·obtain⟨e,n,ne,nf,d⟩:=I.pin p hp;exact⟨p.2,W.hideAll_get _ e fun z=>by
   rcases mem_cons.mp (I.stkSub _ z) with q|q
   ·exact ne q
   ·exact nf q⟩
 ·obtain⟨o',e'⟩:=I.base.there b o e nx;exact⟨o',W.hideAll_get _ e' nf⟩
theorem kY (I:L2.Inv X ag σ H s):s.heap.FunFrames (W.hideAll s.heap (lP X.stack)) X.stack:=
 W.funFrames_hide I.stack fun env he b hb=>mem_filterMap.mpr ⟨env,he,hb⟩
theorem nk {vs:List Value}{h:Heap}(I:L2.Inv X ag σ H {s with heap:=h})(m:Heap.MadeExcOf h s.heap a (.ref C) vs):H a=none:=by
 cases q:H a with
 | none=>rfl
 | some o=>
  obtain⟨u,e⟩:=mI (I.hok a o q);have e:h.get? a=some u:=e;rw[m.new] at e;cases e
end
def jJ (P:Program)(w:World):sH:=fun outer H s E e s'=>∃a C H' B a0,e=.ref a∧s'.os=s.os∧AllBare s'.gens∧Un (lP outer) [] H H' s.heap s'.heap∧k6 P w H' s'.heap∧H' a=none∧
 Heap.FlyingW B outer a (.ref C) a0 s'.heap∧(∀b o,H' b=some o→∃o',B.get? b=some o')∧(∀b o,s.heap.get? b=some o→b∉lP outer→∃o',B.get? b=some o')∧E (.ref C) (some a) H'
theorem qH {P:Program}{w:World}{K:W.Frag}{mg:Str→Option Value}{base:Heap}{N:List Str}{qual:Str}{scope:Scope}{f:Addr}{cdv:Value}{A:Around}{outer:List Env}{s s':Shared}{H H':Hp}{E:XK}{a C:Addr}
  (fl:E6 (jv (jJ P w) P w K mg base N qual scope f cdv A outer s H E) H' a C s') (hE:E (.ref C) (some a) H'):(jv (jJ P w) P w K mg base N qual scope f cdv A outer s H E).xe (.ref a) s':=by
 show wpAny (model P w) (A.deeper (envOfC qual scope s.heap.objs.size f cdv)) (leaving (envOfC qual scope s.heap.objs.size f cdv) (.ref a)) (fun _ s''=>jJ P w outer H s E (.ref a) s'') (fun e' s''=>jJ P w outer H s E e' s'') s';obtain⟨ag,σ,fl⟩:=fl;have key:∀(B:Heap) (a0:Value) (h':Heap) (I:L2.Inv (jv (jJ P w) P w K mg base N qual scope f cdv A outer s H E) ag σ H' s'),B.StaysIn s'.heap→Au (jv (jJ P w) P w K mg base N qual scope f cdv A outer s H E) ag H' B→H' a=none→
   Heap.FlyingW B outer a (.ref C) a0 h'→s'.heap.UpToSlots h'→jJ P w outer H s E (.ref a) {s' with heap:=h'}:=fun B a0 h' I hB cov hn fl' up=>by
  have I':=iM I cov hB fl'.1 up;refine⟨a,C,H',B,a0,rfl,I'.os,I'.bare,I'.base,I'.hok,hn,fl',cov.trk,fun b o e nf=>?_,hE⟩;exact cov.old b o e (by show b∉([]:List Addr);simp) (lz I e nf)
 rcases fl with⟨h,vs,I,m⟩|⟨I,hn,B,a0,fl,cov⟩|⟨I,hn,B,a0,L,hL,held,cov⟩
 ·have cov:=pk I;have hid:∀b o,(W.hideAll h (lP (jv (jJ P w) P w K mg base N qual scope f cdv A outer s H E).stack)).get? b=some o→h.get? b=some o:=fun b o q=>W.of_hideAll _ q
  refine wpAny_leaves_madeW (env:=envOfC qual scope s.heap.objs.size f cdv) (outer:=outer) I.ok.frames rfl hid (kY I) m fun h' t x1 x2 x3 x4=>?_
  exact key _ _ h' (I.kept (t':=s'.toks) (h':=s'.heap) m.keeps) (fun b o q=>m.keeps b o (hid b o q)) cov (nk I m) x1 x4
 ·refine wpAny_leaves_onW (env:=envOfC qual scope s.heap.objs.size f cdv) (outer:=outer) I.ok.frames rfl fl fun h' x1 x2=>?_
  exact key B a0 h' I fl.1 cov hn x1 x2
 ·unfold leaving;refine wpAny_bind (wpAny_noteFrame_againW hL held.2.2.2 ?_);refine wpAny_landsW held fun h' x1 x2=>?_
  obtain⟨k1,k2,⟨_,_,k3⟩,k4⟩:=x1;exact key B a0 h' I held.1 cov hn ⟨k1,k2,k3,k4⟩ x2
theorem sJ {X:Cx}{ag:List (Addr×Obj)}{σ:L2.St}{H:Hp}{s:Shared}{e:Value}{s':Shared}{E:XK}(I:L2.Inv X ag σ H s)(h:jJ X.prog X.w X.stack H s E e s'):∃a C H',e=.ref a∧E6 X H' a C s'∧E (.ref C) (some a) H':=by
 obtain⟨a,C,H',B,a0,rfl,os,bare,un,hok,hn,fl,trk,old,hE⟩:=h;refine⟨a,C,H',rfl,⟨ag,σ,.inr (.inl ⟨I.call' os un hok bare (fun b z=>absurd z (by simp)),hn,B,a0,fl,trk,fun p hp=>?_,fun b o eb nx nf=>?_⟩)⟩,hE⟩
 ·obtain⟨eb,n,ne,nf,d⟩:=I.pin p hp;exact old p.1 p.2 eb fun z=>by
   rcases mem_cons.mp (I.stkSub _ z) with q|q
   ·exact ne q
   ·exact nf q
 ·obtain⟨o',e'⟩:=I.base.there b o eb nx;exact old b o' e' nf
inductive D where
 | non|bl (b:Bool)|int (i:Int)|str (x:Str)|tup (xs:List D)|lst (xs:List D)|ro (xs:List D)|mr (i:Nat)|exc (c:Str)|any
instance:Inhabited D:=⟨.non⟩
inductive MO where
 | lst (xs:List D)|obj (c:Str) (fs:List (Str×D))|dK (kvs:List (nC×D))|dT (kvs:List (List nC×D))
instance:Inhabited MO:=⟨.lst []⟩
abbrev au:=List MO
abbrev bU:=List (Option D)
inductive bw (α:Type) where
 | ok (a:α) (M:au)
 | err (c:Str) (M:au)
 | bad
def bw.bind {α β:Type}(o:bw α)(f:α→au→bw β):bw β:=
 match o with
 | .ok a M=>f a M
 | .err c M=>.err c M
 | .bad=>.bad
@[simp] theorem ak {α β:Type} (a:α) (M:au) (f:α→au→bw β):(bw.ok a M).bind f=f a M:=by rw[bw.bind]
@[simp] theorem Dg {α β:Type} (c:Str) (M:au) (f:α→au→bw β):(bw.err c M:bw α).bind f=.err c M:=by rw[bw.bind]
@[simp] theorem Dr {α β:Type} (f:α→au→bw β):(bw.bad:bw α).bind f=.bad:=by rw[bw.bind]
def Gb (K:W.Frag)(a:Addr)(xs:List V):Prop:=∃(o:Obj) (its:Array Value) (n:Nat),K.lookup a=some o∧o.cls=.type "tuple"∧o.data=.seq its n∧its.size≤sizeLine∧bi xs its.toList
def KL (K:W.Frag)(a:Addr)(xs:List V):Prop:=∃(o:Obj) (its:Array Value) (n:Nat),K.lookup a=some o∧o.cls=.type "list"∧o.dict=none∧o.data=.seq its n∧its.size≤sizeLine∧bi xs its.toList
def lG (K:W.Frag)(θ:List Addr)(H:Hp)(a:Addr)(xs:List V):Prop:=H a=some (.tup xs)∧a∉θ
def ng (θ:List Addr)(H:Hp)(a:Addr)(xs:List V):Prop:=H a=some (.lst xs)∧a∉θ
def qj (K:W.Frag)(θ:List Addr)(H:Hp)(a:Addr)(xs:List V):Prop:=(Rd H a (.lst xs)∧a∉θ)∨KL K a xs
theorem lG.sq {K:W.Frag}{θ:List Addr}{H:Hp}{a:Addr}{xs:List V}(h:lG K θ H a xs):j9 K H a xs:=.inl (.inl h.1)
theorem ng.sq {K:W.Frag}{θ:List Addr}{H:Hp}{a:Addr}{xs:List V}(h:ng θ H a xs):kU K H a xs:=.inl (.inl h.1)
theorem qj.sq {K:W.Frag}{θ:List Addr}{H:Hp}{a:Addr}{xs:List V}(h:qj K θ H a xs):kU K H a xs:=by
 rcases h with⟨h,_⟩|h
 ·exact .inl h
 ·exact .inr h
def xH (a C:Addr):HO:=.ext fun h=>∃o,h.get? a=some o∧o.cls=.ref C
mutual
def et (K:W.Frag)(θ:List Addr)(H:Hp):D→V→Prop
 | .non,v=>v=.non
 | .bl b,v=>v=.bl b
 | .int i,v=>v=.int i
 | .str x,v=>v=.str x
 | .tup ds,v=>∃a vs,v=.ref a∧lG K θ H a vs∧bI K θ H ds vs
 | .lst ds,v=>∃a vs,v=.ref a∧ng θ H a vs∧bI K θ H ds vs
 | .ro ds,v=>∃a vs,v=.ref a∧qj K θ H a vs∧bI K θ H ds vs
 | .mr i,v=>∃a,v=.ref a∧θ[i]?=some a
 | .exc c,v=>∃a C,v=.ref a∧cI K c C∧H a=some (xH a C)∧a∉θ
 | .any,_=>True
def bI (K:W.Frag)(θ:List Addr)(H:Hp):List D→List V→Prop
 | [],vs=>vs=[]
 | d::ds,vs=>∃v r,vs=v::r∧et K θ H d v∧bI K θ H ds r
end
def lj (K:W.Frag)(θ:List Addr)(H:Hp):List (Str×D)→List (Str×V)→Prop
 | [],vs=>vs=[]
 | (f,d)::fs,vs=>∃v r,vs=(f,v)::r∧et K θ H d v∧lj K θ H fs r
def p0 {κ:Type}(K:W.Frag)(θ:List Addr)(H:Hp):List (κ×D)→List (κ×V)→Prop
 | [],vs=>vs=[]
 | (k,d)::fs,vs=>∃v r,vs=(k,v)::r∧et K θ H d v∧p0 K θ H fs r
def mT (K:W.Frag)(θ:List Addr)(H:Hp):MO→Addr→Prop
 | .lst ds,a=>∃vs,H a=some (.lst vs)∧bI K θ H ds vs
 | .obj c fs,a=>∃C dx vs,cI K c C∧H a=some (.ins C dx vs)∧lj K θ H fs vs
 | .dK kvs,a=>∃vs,H a=some (.dK vs)∧p0 K θ H kvs vs
 | .dT kvs,a=>∃vs,H a=some (.dT vs)∧p0 K θ H kvs vs
def fY:List Str:=["ink_shown","table_within","slots_given","cast_on_slots"]
def wY (x:Str):Str:=x++(".<locals>.<lambda>":Str)
def D1 (c:Addr)(q:Str):HO:=.ext fun h=>h.CodeRec (.ref c) q
def FU (ob:Obj):HO:=.frz ob (.ext fun _=>True)
structure ki (K:W.Frag)(H:Hp):Prop where
 tab:∀x,x∈fY→∀c P,W.tabIn K x=some (c,P)→∃ps,H P=some (.tbl ps)∧TriplesOk ps.toList∧∀pos cv,codeAmong pos ps.toList=some cv→∃c',cv=.ref c'∧H c'=some (D1 c' (wY x))
 bm:∀x,x∈fY→∀c P,W.tabIn K x=some (c,P)→∃bm ob,W.nsIn K mainGlobals "__builtins__"=some (some (.ref bm))∧H bm=some (FU ob)∧ob.cls=.type "module"∧ob.dict=some builtinsNs∧ob.data=.plain∧bm≠builtinsNs∧bm≠mainGlobals
theorem ki.of {K:W.Frag}{H H':Hp}(t:ki K H)(k1:∀b ps,H b=some (.tbl ps)→H' b=some (.tbl ps))(k2:∀b φ,H b=some (.ext φ)→H' b=some (.ext φ))(k3:∀b o u,H b=some (.frz o u)→H' b=some (.frz o u)):ki K H':=
 ⟨fun x hx c P e=>by
  obtain⟨ps,h1,h2,h3⟩:=t.tab x hx c P e;refine⟨ps,k1 _ _ h1,h2,fun pos cv q=>?_⟩;obtain⟨c',e1,e2⟩:=h3 pos cv q;exact⟨c',e1,k2 _ _ e2⟩,fun x hx c P e=>by
  obtain⟨bm,ob,e1,e2,r⟩:=t.bm x hx c P e;exact⟨bm,ob,e1,k3 _ _ _ e2,r⟩⟩
theorem ki.new {K:W.Frag}{H:Hp}{p:Addr}{o:HO}(t:ki K H)(hp:H p=none):ki K (cN H p o):=
 t.of (fun b ps e=>by rw[ax (bE e hp)];exact e) (fun b φ e=>by rw[ax (bE e hp)];exact e) fun b o u e=>by rw[ax (bE e hp)];exact e
def pZ:HO→Bool
 | .tbl _=>false
 | .ext _=>false
 | .frz _ _=>false
 | _=>true
theorem ki.at_ {K:W.Frag}{H:Hp}{a:Addr}{o u:HO}(t:ki K H)(ha:H a=some u)(hu:pZ u=true):ki K (cN H a o):=
 t.of (fun b ps e=>by rw[ax (re e ha (by intro z;subst z;cases hu))];exact e) (fun b φ e=>by rw[ax (re e ha (by intro z;subst z;cases hu))];exact e) fun b o u e=>by rw[ax (re e ha (by intro z;subst z;cases hu))];exact e
theorem ki.no {K:W.Frag}{H:Hp}(h:∀x,x∈fY→W.nsIn K mainGlobals x=some none):ki K H:=by
 have no:∀x,x∈fY→∀c P,W.tabIn K x≠some (c,P):=fun x hx c P e=>by
  unfold W.tabIn at e;rw[h x hx] at e;cases e
 exact⟨fun x hx c P e=>absurd e (no x hx c P),fun x hx c P e=>absurd e (no x hx c P)⟩
structure Wr (K:W.Frag)(θ:List Addr)(H:Hp)(M:au):Prop where
 len:θ.length=M.length
 nd:θ.Nodup
 at_:∀(i:Nat) a m,θ[i]?=some a→M[i]?=some m→mT K θ H m a
 tb:ki K H
structure im (K:W.Frag)(θ:List Addr)(H:Hp)(σ:L2.St)(ρ:bU):Prop where
 len:ρ.length=σ.length
 at_:∀(i:Nat) d,ρ[i]?=some (some d)→∃v,σ[i]?=some (some v)∧et K θ H d v
structure Grow (θ:List Addr)(H:Hp)(θ':List Addr)(H':Hp):Prop where
 ext:∃more,θ'=θ++more∧∀a∈more,H a=none
 keep:∀b o,H b=some o→b∉θ→(∀ps,o≠.tbl ps)→H' b=some o
 tkeep:∀b ps,H b=some (.tbl ps)→∃ps',H' b=some (.tbl ps')
structure Go (K:W.Frag)(θ:List Addr)(H:Hp)(θ':List Addr)(H':Hp)(M':au):Prop extends Grow θ H θ' H' where
 wr:Wr K θ' H' M'
section
variable {K:W.Frag}{θ θ' θ1 θ2:List Addr}{H H' H1 H2:Hp}{M M' M1 M2:au}{a p:Addr}{σ:L2.St}{ρ:bU}
theorem Wr.tracked (w:Wr K θ H M)(h:a∈θ):H a≠none:=by
 obtain⟨i,hi,e⟩:=mem_iff_getElem.mp h;have h1:θ[i]?=some a:=by rw[getElem?_eq_getElem hi,e]
 have h2:i<M.length:=by rw[←w.len];exact hi
 have h3:=w.at_ i a _ h1 (getElem?_eq_getElem h2);cases q:M[i] with
 | lst ds=>
  rw[q] at h3;obtain⟨vs,e,_⟩:=h3;rw[e];simp
 | obj c fs=>
  rw[q] at h3;obtain⟨C,dx,vs,_,e,_⟩:=h3;rw[e];simp
 | dK kvs=>
  rw[q] at h3;obtain⟨vs,e,_⟩:=h3;rw[e];simp
 | dT kvs=>
  rw[q] at h3;obtain⟨vs,e,_⟩:=h3;rw[e];simp
theorem mT.plain {m:MO}(h:mT K θ H m a):∃o,H a=some o∧pZ o=true:=by
 cases m with
 | lst ds=>obtain⟨vs,e,_⟩:=h;exact⟨_,e,rfl⟩
 | obj c fs=>obtain⟨C,dx,vs,_,e,_⟩:=h;exact⟨_,e,rfl⟩
 | dK kvs=>obtain⟨vs,e,_⟩:=h;exact⟨_,e,rfl⟩
 | dT kvs=>obtain⟨vs,e,_⟩:=h;exact⟨_,e,rfl⟩
theorem Wr.plain (w:Wr K θ H M){i:Nat}(h:θ[i]?=some a):∃o,H a=some o∧pZ o=true:=by
 have h2:i<M.length:=by rw[←w.len];exact(List.getElem?_eq_some_iff.mp h).1
 exact(w.at_ i a _ h (getElem?_eq_getElem h2)).plain
theorem Wr.fresh (w:Wr K θ H M)(h:H p=none):p∉θ:=fun z=>w.tracked z h
theorem Grow.refl (θ:List Addr)(H:Hp):Grow θ H θ H:=⟨⟨[],by simp,fun _ z=>by cases z⟩,fun _ _ h _ _=>h,fun b ps e=>⟨ps,e⟩⟩
theorem Go.refl (w:Wr K θ H M):Go K θ H θ H M:=⟨.refl θ H,w⟩
theorem Go.trans (a:Go K θ H θ1 H1 M1)(b:Go K θ1 H1 θ2 H2 M2):Go K θ H θ2 H2 M2:=by
 obtain⟨m1,e1,f1⟩:=a.ext;obtain⟨m2,e2,f2⟩:=b.ext;refine⟨⟨⟨m1++m2,by rw[e2,e1,append_assoc],fun x hx=>?_⟩,fun x o hx nx nt=>?_,fun x ps e=>?_⟩,b.wr⟩
 ·rcases mem_append.mp hx with z|z
  ·exact f1 x z
  ·cases q:H x with
   | none=>rfl
   | some o=>
    have nx:x∉θ:=by
     intro y;have nd:=b.wr.nd;rw[e2] at nd;have y1:x∈θ1:=by rw[e1];exact mem_append_left _ y
     exact(nodup_append.mp nd).2.2 x y1 x z rfl
    exfalso
    by_cases nt:∃ps,o=.tbl ps
    ·obtain⟨ps,rfl⟩:=nt;obtain⟨ps',e'⟩:=a.tkeep x ps q;rw[f2 x z] at e';cases e'
    ·have:=a.keep x o q nx fun ps e'=>nt ⟨ps,e'⟩
     rw[f2 x z] at this;cases this
 ·have h1:=a.keep x o hx nx nt;refine b.keep x o h1 ?_ nt;rw[e1];intro z;rcases mem_append.mp z with z|z
  ·exact nx z
  ·rw[f1 x z] at hx;cases hx
 ·obtain⟨ps',e'⟩:=a.tkeep x ps e;exact b.tkeep x ps' e'
theorem Grow.notin (g:Grow θ H θ' H'){o:HO}(h:H a=some o)(n:a∉θ):a∉θ':=by
 obtain⟨m,e,f⟩:=g.ext;rw[e];intro z;rcases mem_append.mp z with z|z
 ·exact n z
 ·rw[f a z] at h;cases h
theorem lG.grow {xs:List V}(g:Grow θ H θ' H')(h:lG K θ H a xs):lG K θ' H' a xs:=⟨g.keep _ _ h.1 h.2 (by intro _ z;cases z),g.notin h.1 h.2⟩
theorem ng.grow {xs:List V}(g:Grow θ H θ' H')(h:ng θ H a xs):ng θ' H' a xs:=⟨g.keep _ _ h.1 h.2 (by intro _ z;cases z),g.notin h.1 h.2⟩
theorem qj.grow {xs:List V}(g:Grow θ H θ' H')(h:qj K θ H a xs):qj K θ' H' a xs:=by
 rcases h with⟨h|⟨o,h⟩,n⟩|h
 ·exact .inl ⟨.inl (g.keep _ _ h n (by intro _ z;cases z)),g.notin h n⟩
 ·exact .inl ⟨.inr ⟨o,g.keep _ _ h n (by intro _ z;cases z)⟩,g.notin h n⟩
 ·exact .inr h
mutual
theorem jO (g:Grow θ H θ' H'):∀(d:D) (v:V),et K θ H d v→et K θ' H' d v
 | .non,v,h=>h
 | .bl b,v,h=>h
 | .int i,v,h=>h
 | .str x,v,h=>h
 | .tup ds,v,h=>by
  obtain⟨a,vs,e,t,r⟩:=h;exact⟨a,vs,e,t.grow g,cV g ds vs r⟩
 | .lst ds,v,h=>by
  obtain⟨a,vs,e,t,r⟩:=h;exact⟨a,vs,e,t.grow g,cV g ds vs r⟩
 | .ro ds,v,h=>by
  obtain⟨a,vs,e,t,r⟩:=h;exact⟨a,vs,e,t.grow g,cV g ds vs r⟩
 | .mr i,v,h=>by
  obtain⟨a,e,t⟩:=h;obtain⟨m,em,_⟩:=g.ext;refine⟨a,e,?_⟩;rw[em,getElem?_append_left (List.getElem?_eq_some_iff.mp t).1];exact t
 | .exc c,v,h=>by
  obtain⟨a,C,e,k,t,n⟩:=h;exact⟨a,C,e,k,g.keep _ _ t n (by intro _ z;cases z),g.notin t n⟩
 | .any,v,h=>h
theorem cV (g:Grow θ H θ' H'):∀(ds:List D) (vs:List V),bI K θ H ds vs→bI K θ' H' ds vs
 | [],vs,h=>h
 | d::ds,vs,h=>by
  obtain⟨v,r,e,h1,h2⟩:=h;exact⟨v,r,e,jO g d v h1,cV g ds r h2⟩
end
theorem et.go {d:D}{v:V}(h:et K θ H d v)(g:Go K θ H θ' H' M'):et K θ' H' d v:=jO g.toGrow d v h
theorem bI.go {ds:List D}{vs:List V}(h:bI K θ H ds vs)(g:Go K θ H θ' H' M'):bI K θ' H' ds vs:=cV g.toGrow ds vs h
theorem im.go (h:im K θ H σ ρ)(g:Go K θ H θ' H' M'):im K θ' H' σ ρ:=⟨h.len,fun i d e=>let ⟨v,e1,e2⟩:=h.at_ i d e;⟨v,e1,e2.go g⟩⟩
theorem av:∀{ds:List D} {vs:List V},bI K θ H ds vs→ds.length=vs.length
 | [],vs,h=>by cases (show vs=[] from h);rfl
 | d::ds,vs,h=>by
  obtain⟨v,r,e,_,h2⟩:=h;subst e;rw[length_cons,length_cons,av h2]
theorem eo:∀{ds es:List D} {vs us:List V},bI K θ H ds vs→bI K θ H es us→bI K θ H (ds++es) (vs++us)
 | [],es,vs,us,h,k=>by cases (show vs=[] from h);exact k
 | d::ds,es,vs,us,h,k=>by
  obtain⟨v,r,e,h1,h2⟩:=h;subst e;exact⟨v,r++us,rfl,h1,eo h2 k⟩
theorem fH:∀{ds:List D} {vs:List V} {i:Nat} {d:D},bI K θ H ds vs→ds[i]?=some d→∃v,vs[i]?=some v∧et K θ H d v
 | [],vs,i,d,h,e=>by simp at e
 | x::ds,vs,0,d,h,e=>by
  obtain⟨v,r,e1,h1,h2⟩:=h;subst e1;simp at e;subst e;exact⟨v,rfl,h1⟩
 | x::ds,vs,i+1,d,h,e=>by
  obtain⟨v,r,e1,h1,h2⟩:=h;subst e1;obtain⟨u,e2,h3⟩:=fH (i:=i) h2 (by simpa using e);exact⟨u,by simpa using e2,h3⟩
theorem m8:∀{ds:List D} {vs:List V} (n:Nat),bI K θ H ds vs→bI K θ H (ds.take n) (vs.take n)
 | ds,vs,0,h=>by rw[take_zero,take_zero];exact rfl
 | [],vs,n+1,h=>by cases (show vs=[] from h);exact rfl
 | d::ds,vs,n+1,h=>by
  obtain⟨v,r,e,h1,h2⟩:=h;subst e;exact⟨v,r.take n,rfl,h1,m8 n h2⟩
theorem m9:∀{ds:List D} {vs:List V} (n:Nat),bI K θ H ds vs→bI K θ H (ds.drop n) (vs.drop n)
 | ds,vs,0,h=>h
 | [],vs,n+1,h=>by cases (show vs=[] from h);exact rfl
 | d::ds,vs,n+1,h=>by
  obtain⟨v,r,e,h1,h2⟩:=h;subst e;exact m9 n h2
theorem pH {d:D}{v:V}(hd:et K θ H d v):∀{ds:List D} {vs:List V} (i:Nat),bI K θ H ds vs→bI K θ H (ds.set i d) (vs.set i v)
 | [],vs,i,h=>by cases (show vs=[] from h);exact rfl
 | x::ds,vs,0,h=>by
  obtain⟨u,r,e,h1,h2⟩:=h;subst e;exact⟨v,r,rfl,hd,h2⟩
 | x::ds,vs,i+1,h=>by
  obtain⟨u,r,e,h1,h2⟩:=h;subst e;exact⟨u,r.set i v,rfl,h1,pH hd i h2⟩
theorem jS {o:HO}(w:Wr K θ H M)(hp:H p=none):Grow θ H θ (cN H p o):=
 ⟨⟨[],by simp,fun _ z=>by cases z⟩,fun b u h _ _=>by rw[ax (bE h hp)];exact h,fun b ps h=>⟨ps,by rw[ax (bE h hp)];exact h⟩⟩
theorem kE (g:Grow θ H θ' H'):∀{fs:List (Str×D)} {vs:List (Str×V)},lj K θ H fs vs→lj K θ' H' fs vs
 | [],vs,h=>h
 | (f,d)::fs,vs,h=>by
  obtain⟨v,r,e,h1,h2⟩:=h;exact⟨v,r,e,jO g d v h1,kE g h2⟩
theorem kN {κ:Type}(g:Grow θ H θ' H'):∀{fs:List (κ×D)} {vs:List (κ×V)},p0 K θ H fs vs→p0 K θ' H' fs vs
 | [],vs,h=>h
 | (f,d)::fs,vs,h=>by
  obtain⟨v,r,e,h1,h2⟩:=h;exact⟨v,r,e,jO g d v h1,kN g h2⟩
theorem mT.grow {m:MO}(g:Grow θ H θ' H')(hs:H' a=H a)(h:mT K θ H m a):mT K θ' H' m a:=by
 cases m with
 | lst ds=>
  obtain⟨vs,e,r⟩:=h;exact⟨vs,by rw[hs];exact e,cV g ds vs r⟩
 | obj c fs=>
  obtain⟨C,dx,vs,k,e,r⟩:=h;exact⟨C,dx,vs,k,by rw[hs];exact e,kE g r⟩
 | dK kvs=>
  obtain⟨vs,e,r⟩:=h;exact⟨vs,by rw[hs];exact e,kN g r⟩
 | dT kvs=>
  obtain⟨vs,e,r⟩:=h;exact⟨vs,by rw[hs];exact e,kN g r⟩
theorem eO {o:HO}(w:Wr K θ H M)(hp:H p=none):Go K θ H θ (cN H p o) M:=
 ⟨jS w hp,w.len,w.nd,fun i a m h1 h2=>by
  have ha:a≠p:=fun e=>w.fresh hp (by rw[←e];exact mem_of_getElem? h1)
  exact(w.at_ i a m h1 h2).grow (jS w hp) (ax ha),w.tb.new hp⟩
theorem io {ds:List D}{vs:List V}(w:Wr K θ H M)(hp:H p=none)(r:bI K θ H ds vs):et K θ (cN H p (.tup vs)) (.tup ds) (.ref p):=
 ⟨p,vs,rfl,⟨cH,w.fresh hp⟩,cV (jS w hp) ds vs r⟩
theorem ja {ds:List D}{vs:List V}(w:Wr K θ H M)(hp:H p=none)(r:bI K θ H ds vs):et K θ (cN H p (.lst vs)) (.lst ds) (.ref p):=
 ⟨p,vs,rfl,⟨cH,w.fresh hp⟩,cV (jS w hp) ds vs r⟩
theorem nA {o:HO}(hp:H p=none):Grow θ H (θ++[p]) (cN H p o):=
 ⟨⟨[p],rfl,fun a ha=>by rw[mem_singleton.mp ha];exact hp⟩,fun b u h _ _=>by rw[ax (bE h hp)];exact h,fun b ps h=>⟨ps,by rw[ax (bE h hp)];exact h⟩⟩
theorem wR {m:MO}{o:HO}(w:Wr K θ H M)(hp:H p=none)(hm:mT K (θ++[p]) (cN H p o) m p):Go K θ H (θ++[p]) (cN H p o) (M++[m]):=by
 have np:=w.fresh hp;have g:Grow θ H (θ++[p]) (cN H p o):=nA hp;refine⟨g,by rw[length_append,length_append,w.len];rfl,?_,fun i a m' h1 h2=>?_,w.tb.new hp⟩
 ·rw[nodup_append];exact⟨w.nd,by simp,fun x hx y hy e=>np (by rw[mem_singleton.mp hy] at e;rw[←e];exact hx)⟩
 ·by_cases hi:i<θ.length
  ·rw[getElem?_append_left hi] at h1;rw[getElem?_append_left (by rw[←w.len];exact hi)] at h2;have ha:a≠p:=fun e=>np (by rw[←e];exact mem_of_getElem? h1)
   exact(w.at_ i a m' h1 h2).grow g (ax ha)
  ·have hi':i=θ.length:=by
    have:=(List.getElem?_eq_some_iff.mp h1).1;rw[length_append,length_singleton] at this;omega
   subst hi';rw[getElem?_append_right (Nat.le_refl _)] at h1;rw[getElem?_append_right (by rw[w.len];exact Nat.le_refl _)] at h2;simp only[Nat.sub_self,w.len,getElem?_cons_zero,Option.some.injEq] at h1 h2;subst h1;subst h2;exact hm
theorem ww {ds:List D}{vs:List V}(w:Wr K θ H M)(hp:H p=none)(r:bI K θ H ds vs):Go K θ H (θ++[p]) (cN H p (.lst vs)) (M++[.lst ds]):=
 wR w hp ⟨vs,cH,cV (nA hp) ds vs r⟩
theorem oJ {i:Nat}{o:HO}(w:Wr K θ H M)(hi:θ[i]?=some a):Grow θ H θ (cN H a o):=by
 have ha:a∈θ:=mem_of_getElem? hi;obtain⟨u,hu,pu⟩:=w.plain hi;exact⟨⟨[],by simp,fun _ z=>by cases z⟩,fun b u h n _=>by rw[ax (fun e=>n (by rw[e];exact ha))];exact h,fun b ps h=>⟨ps,by rw[ax (re h hu (by intro z;subst z;cases pu))];exact h⟩⟩
theorem rH {i:Nat}{m:MO}{o:HO}(w:Wr K θ H M)(hi:θ[i]?=some a)(hm:mT K θ (cN H a o) m a):Go K θ H θ (cN H a o) (M.set i m):=by
 have g:Grow θ H θ (cN H a o):=oJ w hi;obtain⟨u,hu,pu⟩:=w.plain hi;refine⟨g,by rw[length_set];exact w.len,w.nd,fun j b m' h1 h2=>?_,w.tb.at_ hu pu⟩
 by_cases hj:j=i
 ·subst hj;rw[hi] at h1;cases h1;have hl:j<M.length:=by rw[←w.len];exact(List.getElem?_eq_some_iff.mp hi).1
  rw[getElem?_set_self hl] at h2;cases h2;exact hm
 ·rw[getElem?_set_ne (Ne.symm hj)] at h2;have hb:b≠a:=fun e=>by
   subst e;obtain⟨h3,e3⟩:=List.getElem?_eq_some_iff.mp h1;obtain⟨h4,e4⟩:=List.getElem?_eq_some_iff.mp hi;exact hj ((getElem_inj w.nd).mp (e3.trans e4.symm))
  exact(w.at_ j b m' h1 h2).grow g (ax hb)
theorem v6 {i:Nat}{ds ds':List D}{vs':List V}(w:Wr K θ H M)(hi:θ[i]?=some a)(r:bI K θ H ds' vs'):Go K θ H θ (cN H a (.lst vs')) (M.set i (.lst ds')):=
 rH w hi ⟨vs',cH,cV (oJ w hi) ds' vs' r⟩
end
abbrev GE:=bU→au→bw D
abbrev GT:=bU→au→bw Bool
abbrev GA:=bU→au→bw (List D)
inductive Fl where
 | nx (ρ:bU)|rt (d:D)|bk (ρ:bU)|ct (ρ:bU)
abbrev GS:=bU→au→bw Fl
def dN (X:Cx)(θ:List Addr)(H:Hp)(c:Str)(M:au):Prop:=∀C θ' H' a s',cI X.K c C→Go X.K θ H θ' H' M→E6 X H' a C s'→X.xe (.ref a) s'
def bg (X:Cx)(θ:List Addr)(H:Hp)(Q:VK):bw D→Prop
 | .ok d M'=>∀v θ' H',Go X.K θ H θ' H' M'→et X.K θ' H' d v→Q v H'
 | .err c M'=>dN X θ H c M'
 | .bad=>False
def kj (X:Cx)(θ:List Addr)(H:Hp)(Q:Bool→Hp→Prop):bw Bool→Prop
 | .ok b M'=>∀θ' H',Go X.K θ H θ' H' M'→Q b H'
 | .err c M'=>dN X θ H c M'
 | .bad=>False
def tZ (X:Cx)(θ:List Addr)(H:Hp)(Q:List V→Hp→Prop):bw (List D)→Prop
 | .ok ds M'=>∀vs θ' H',Go X.K θ H θ' H' M'→bI X.K θ' H' ds vs→Q vs H'
 | .err c M'=>dN X θ H c M'
 | .bad=>False
def dg (X:Cx)(θ:List Addr)(H:Hp)(D:tx):bw Fl→Prop
 | .ok (.nx ρ) M'=>∀σ θ' H',Go X.K θ H θ' H' M'→im X.K θ' H' σ ρ→D.nx σ H'
 | .ok (.bk ρ) M'=>∀σ θ' H',Go X.K θ H θ' H' M'→im X.K θ' H' σ ρ→D.bk σ H'
 | .ok (.ct ρ) M'=>∀σ θ' H',Go X.K θ H θ' H' M'→im X.K θ' H' σ ρ→D.ct σ H'
 | .ok (.rt d) M'=>∀v θ' H',Go X.K θ H θ' H' M'→et X.K θ' H' d v→D.rt v H'
 | .err c M'=>dN X θ H c M'
 | .bad=>False
def tE (X:Cx)(g:GE):TE:=fun σ H Q=>∃ρ θ M,im X.K θ H σ ρ∧Wr X.K θ H M∧bg X θ H Q (g ρ M)
def tT (X:Cx)(g:GT):TT:=fun σ H Q=>∃ρ θ M,im X.K θ H σ ρ∧Wr X.K θ H M∧kj X θ H Q (g ρ M)
def tA (X:Cx)(g:GA):TA:=fun σ H Q=>∃ρ θ M,im X.K θ H σ ρ∧Wr X.K θ H M∧tZ X θ H Q (g ρ M)
def tS (X:Cx)(g:GS):TS:=fun D σ H=>∃ρ θ M,im X.K θ H σ ρ∧Wr X.K θ H M∧dg X θ H D (g ρ M)
section
variable {X:Cx}{θ θ':List Addr}{H H':Hp}{M':au}
theorem dN.go {c:Str}{M:au}(g:Go X.K θ H θ' H' M')(h:dN X θ H c M):dN X θ' H' c M:=fun C θ2 H2 a s' k g2 fl=>h C θ2 H2 a s' k (g.trans g2) fl
theorem bg.go {Q:VK}{o:bw D}(g:Go X.K θ H θ' H' M')(h:bg X θ H Q o):bg X θ' H' Q o:=by
 cases o with
 | ok d M=>exact fun v θ2 H2 g2=>h v θ2 H2 (g.trans g2)
 | err c M=>exact dN.go (c:=c) (M:=M) g h
 | bad=>exact h
theorem kj.go {Q:Bool→Hp→Prop}{o:bw Bool}(g:Go X.K θ H θ' H' M')(h:kj X θ H Q o):kj X θ' H' Q o:=by
 cases o with
 | ok d M=>exact fun θ2 H2 g2=>h θ2 H2 (g.trans g2)
 | err c M=>exact dN.go (c:=c) (M:=M) g h
 | bad=>exact h
theorem tZ.go {Q:List V→Hp→Prop}{o:bw (List D)}(g:Go X.K θ H θ' H' M')(h:tZ X θ H Q o):tZ X θ' H' Q o:=by
 cases o with
 | ok d M=>exact fun v θ2 H2 g2=>h v θ2 H2 (g.trans g2)
 | err c M=>exact dN.go (c:=c) (M:=M) g h
 | bad=>exact h
theorem dg.go {D:tx}{o:bw Fl}(g:Go X.K θ H θ' H' M')(h:dg X θ H D o):dg X θ' H' D o:=by
 cases o with
 | ok f M=>cases f <;> exact fun v θ2 H2 g2=>h v θ2 H2 (g.trans g2)
 | err c M=>exact dN.go (c:=c) (M:=M) g h
 | bad=>exact h
end
section
variable {X:Cx}{e:Expr}
theorem _root_.L2.PE.of {t t':TE}(h:PE X e t)(w:∀σ H Q,t' σ H Q→t σ H Q):PE X e t':=fun ag s σ H Q I q=>h ag s σ H Q I (w σ H Q q)
theorem _root_.L2.PT.of {t t':TT}(h:PT X e t)(w:∀σ H Q,t' σ H Q→t σ H Q):PT X e t':=fun ag s σ H Q I q=>h ag s σ H Q I (w σ H Q q)
theorem _root_.L2.PW.of {t t':TT}(h:PW X e t)(w:∀σ H Q,t' σ H Q→t σ H Q):PW X e t':=fun wh ag s σ H Q I q=>h wh ag s σ H Q I (w σ H Q q)
theorem _root_.L2.PA.of {es:List Expr}{t t':TA}(h:PA X es t)(w:∀σ H Q,t' σ H Q→t σ H Q):PA X es t':=fun pos ag s σ H Q I q=>h pos ag s σ H Q I (w σ H Q q)
theorem _root_.L2.PS.of {st:Stmt}{t t':TS}(h:PS X st t)(w:∀D σ H,t' D σ H→t D σ H):PS X st t':=fun ag s σ H D I q=>h ag s σ H D I (w D σ H q)
theorem _root_.L2.PSs.of {st:List Stmt}{t t':TS}(h:PSs X st t)(w:∀D σ H,t' D σ H→t D σ H):PSs X st t':=fun ag s σ H D I q=>h ag s σ H D I (w D σ H q)
theorem cm {g:GE}{σ:L2.St}{H:Hp}{Q:VK}{α:Type}{ρ:bU}{θ:List Addr}{M:au}(hd:im X.K θ H σ ρ)(hw:Wr X.K θ H M)(F:bw α→Prop)(Fe:∀c M',F (.err c M')→dN X θ H c M')(Fb:F .bad→False)
  {f:D→au→bw α} (h:F ((g ρ M).bind f))
  (k:∀d M1 v θ1 H1,Go X.K θ H θ1 H1 M1→et X.K θ1 H1 d v→F (f d M1)→Q v H1):tE X g σ H Q:=by
 refine⟨ρ,θ,M,hd,hw,?_⟩;cases q:g ρ M with
 | ok d M1=>
  rw[q] at h;exact fun v θ1 H1 g1 r1=>k d M1 v θ1 H1 g1 r1 h
 | err c M1=>rw[q] at h;exact Fe c M1 h
 | bad=>rw[q] at h;exact(Fb h).elim
def ae (i:Nat):GE:=fun ρ M=>match ρ[i]? with
 | some (some d)=>.ok d M
 | _=>.bad
def gC (d:D):GE:=fun _ M=>.ok d M
theorem B7 {i:Nat}(h:PE X e (Ef i)):PE X e (tE X (ae i)):=h.of fun σ H Q hxx=>by
 obtain⟨ρ,θ,M,hd,hw,f⟩:=hxx;unfold ae at f;split at f
 ·rename_i d q;obtain⟨v,e1,r⟩:=hd.at_ i d q;exact⟨v,e1,f v θ H (.refl hw) r⟩
 ·exact f.elim
theorem Aa {i j pos}:PE X (.Constant (.int i) j pos) (tE X (gC (.int i))):=B0.of fun σ H Q ⟨ρ,θ,M,hd,hw,f⟩=>f _ θ H (.refl hw) rfl
theorem Dw {b j pos}:PE X (.Constant (.bool b) j pos) (tE X (gC (.bl b))):=DN.of fun σ H Q ⟨ρ,θ,M,hd,hw,f⟩=>f _ θ H (.refl hw) rfl
theorem zD {j pos}:PE X (.Constant .none j pos) (tE X (gC .non)):=Be.of fun σ H Q ⟨ρ,θ,M,hd,hw,f⟩=>f _ θ H (.refl hw) rfl
theorem BD {x j pos}:PE X (.Constant (.str x) j pos) (tE X (gC (.str x))):=AX.of fun σ H Q ⟨ρ,θ,M,hd,hw,f⟩=>f _ θ H (.refl hw) rfl
abbrev F2:=D→D→au→bw D
def g2 (f:F2)(ga gb:GE):GE:=fun ρ M=>(ga ρ M).bind fun x M1=>(gb ρ M1).bind fun y M2=>f x y M2
def rD (X:Cx)(f:F2):R2:=fun x y H Q=>∃θ M dx dy,Wr X.K θ H M∧et X.K θ H dx x∧et X.K θ H dy y∧bg X θ H Q (f dx dy M)
theorem rW {f:F2}{ga gb:GE}{σ:L2.St}{H:Hp}{Q:VK}(h:tE X (g2 f ga gb) σ H Q):CK (rD X f) (tE X ga) (tE X gb) σ H Q:=by
 obtain⟨ρ,θ,M,hd,hw,h⟩:=h;refine cm hd hw (bg X θ H Q) (fun c M' h=>h) (fun h=>h) h fun dx M1 x θ1 H1 g1 r1 h1=>?_
 refine cm (hd.go g1) g1.wr (bg X θ1 H1 Q) (fun c M' h=>h) (fun h=>h) (h1.go g1) fun dy M2 y θ2 H2 g2 r2 h2=>?_
 exact⟨θ2,M2,dx,dy,g2.wr,r1.go g2,r2,h2.go g2⟩
theorem Du {a b:Expr}{op:Operator}{pos:Pos}{f:F2}{ga gb:GE}(ho:gz X (binaryOp op) (rD X f))(ha:PE X a (tE X ga))(hb:PE X b (tE X gb)):PE X (.BinOp a op b pos) (tE X (g2 f ga gb)):=
 (Cq ho ha hb).of fun _ _ _ h=>rW h
theorem BF {a b:Expr}{op:CmpOp}{pos:Pos}{f:F2}{ga gb:GE}(ho:gz X (compareOp op) (rD X f))(ha:PE X a (tE X ga))(hb:PE X b (tE X gb))(hm:behindInMarks op b=false):PE X (.Compare a [op] [b] pos) (tE X (g2 f ga gb)):=
 (yo ho ha hb hm).of fun _ _ _ h=>rW h
def Ea:D→au→bw Bool
 | .bl b,M=>.ok b M
 | _,_=>.bad
def aH (g:GE):GT:=fun ρ M=>(g ρ M).bind Ea
theorem uF {θ:List Addr}{H:Hp}{Q:Bool→Hp→Prop}{o:bw D}(h:kj X θ H Q (o.bind Ea)):bg X θ H (fun x H'=>∃k,x=.bl k∧Q k H') o:=by
 cases o with
 | ok d M=>
  cases d with
  | bl b=>exact fun v θ1 H1 g1 r1=>⟨b,r1,h θ1 H1 g1⟩
  | _=>exact h.elim
 | err c M=>exact h
 | bad=>exact h
theorem vV {g:GE}{σ:L2.St}{H:Hp}{Q:Bool→Hp→Prop}(h:tT X (aH g) σ H Q):tE X g σ H fun x H'=>∃k,x=.bl k∧Q k H':=by
 obtain⟨ρ,θ,M,hd,hw,h⟩:=h;exact⟨ρ,θ,M,hd,hw,uF h⟩
theorem z7 {a b:Expr}{op:CmpOp}{pos:Pos}{f:F2}{ga gb:GE}(ho:gz X (compareOp op) (rD X f))(ha:PE X a (tE X ga))(hb:PE X b (tE X gb))(hm:behindInMarks op b=false):PT X (.Compare a [op] [b] pos) (tT X (aH (g2 f ga gb))):=
 (xD ho ha hb hm).of fun σ H Q h=>rW (vV h)
def lB (f f':F2)(ga gb gc:GE):GE:=fun ρ M=>(ga ρ M).bind fun x M1=>(gb ρ M1).bind fun y M2=>(f x y M2).bind fun z M3=>match z with
 | .bl true=>(gc ρ M3).bind fun w M4=>f' y w M4
 | .bl false=>.ok (.bl false) M3
 | _=>.bad
theorem yW {f f':F2}{ga gb gc:GE}{σ:L2.St}{H:Hp}{Q:VK}(h:tE X (lB f f' ga gb gc) σ H Q):p4 (rD X f) (rD X f') (tE X ga) (tE X gb) (tE X gc) σ H Q:=by
 obtain⟨ρ,θ,M,hd,hw,h⟩:=h;refine cm hd hw (bg X θ H Q) (fun c M' h=>h) (fun h=>h) h fun dx M1 x θ1 H1 g1 r1 h1=>?_
 refine cm (hd.go g1) g1.wr (bg X θ1 H1 Q) (fun c M' h=>h) (fun h=>h) (h1.go g1) fun dy M2 y θ2 H2 g2 r2 h2=>?_
 refine⟨θ2,M2,dx,dy,g2.wr,r1.go g2,r2,?_⟩;have h3:=h2.go g2;cases q:f dx dy M2 with
 | ok z M3=>
  rw[q] at h3;intro v θ3 H3 g3 r3;cases z with
  | bl k=>
   refine⟨k,r3,?_⟩;cases k with
   | true=>
    rw[if_pos rfl];refine cm ((hd.go g1).go (g2.trans g3)) g3.wr (bg X θ3 H3 Q) (fun c M' h=>h) (fun h=>h) (h3.go g3) fun dw M4 w θ4 H4 g4 r4 h4=>?_
    exact⟨θ4,M4,dy,dw,g4.wr,r2.go (g3.trans g4),r4,h4.go g4⟩
   | false=>
    rw[if_neg Bool.false_ne_true];exact h3 _ θ3 H3 g3 rfl
  | _=>exact h3.elim
 | err c M3=>rw[q] at h3;exact h3
 | bad=>rw[q] at h3;exact h3
theorem wn {a b c:Expr}{op op':CmpOp}{pos:Pos}{f f':F2}{ga gb gc:GE}(ho:gz X (compareOp op) (rD X f))(ho':gz X (compareOp op') (rD X f'))(ha:PE X a (tE X ga))(hb:PE X b (tE X gb))(hc:PE X c (tE X gc))
  (hm:lastMarks [op,op'] [b,c]=false:=by with_unfolding_all rfl):PE X (.Compare a [op,op'] [b,c] pos) (tE X (lB f f' ga gb gc)):=(vE ho ho' ha hb hc hm).of fun _ _ _ h=>yW h
theorem uJ {a b c:Expr}{op op':CmpOp}{pos:Pos}{f f':F2}{ga gb gc:GE}(ho:gz X (compareOp op) (rD X f))(ho':gz X (compareOp op') (rD X f'))(ha:PE X a (tE X ga))(hb:PE X b (tE X gb))(hc:PE X c (tE X gc))
  (hm:lastMarks [op,op'] [b,c]=false:=by with_unfolding_all rfl):PT X (.Compare a [op,op'] [b,c] pos) (tT X (aH (lB f f' ga gb gc))):=(vN ho ho' ha hb hc hm).of fun σ H Q h=>yW (vV h)
def bK (a b:GT):GT:=fun ρ M=>(a ρ M).bind fun c M1=>if c then b ρ M1 else .ok false M1
def bY (a b:GT):GT:=fun ρ M=>(a ρ M).bind fun c M1=>if c then .ok true M1 else b ρ M1
def aN (a:GT):GT:=fun ρ M=>(a ρ M).bind fun c M1=>.ok (!c) M1
theorem pO {g:GT}{σ:L2.St}{H:Hp}{Q:Bool→Hp→Prop}{α:Type}{ρ:bU}{θ:List Addr}{M:au}(hd:im X.K θ H σ ρ)(hw:Wr X.K θ H M)(F:bw α→Prop)(Fe:∀c M',F (.err c M')→dN X θ H c M')(Fb:F .bad→False)
  {f:Bool→au→bw α} (h:F ((g ρ M).bind f)) (k:∀d M1 θ1 H1,Go X.K θ H θ1 H1 M1→F (f d M1)→Q d H1):tT X g σ H Q:=by
 refine⟨ρ,θ,M,hd,hw,?_⟩;cases q:g ρ M with
 | ok d M1=>
  rw[q] at h;exact fun θ1 H1 g1=>k d M1 θ1 H1 g1 h
 | err c M1=>rw[q] at h;exact Fe c M1 h
 | bad=>rw[q] at h;exact(Fb h).elim
variable {a b:Expr}{pos:Pos}{rest:List Expr}{ta tb:GT}{ga gb:GE}
theorem wO (ha:PT X a (tT X ta)):PW X (.BoolOp .And [a] pos) (tT X ta):=yc ha
theorem zV (ha:PT X a (tT X ta)):PW X (.BoolOp .Or [a] pos) (tT X ta):=AV ha
theorem AK (ha:PT X a (tT X ta))(hb:PW X (.BoolOp .And (b::rest) pos) (tT X tb)):PW X (.BoolOp .And (a::b::rest) pos) (tT X (bK ta tb)):=(AS ha hb).of fun σ H Q hxx=>by
 obtain⟨ρ,θ,M,hd,hw,h⟩:=hxx;refine pO hd hw (kj X θ H Q) (fun c M' h=>h) (fun h=>h) h fun c M1 θ1 H1 g1 h1=>?_
 cases c with
 | true=>exact⟨ρ,θ1,M1,hd.go g1,g1.wr,kj.go g1 h1⟩
 | false=>exact h1 θ1 H1 g1
theorem CL (ha:PT X a (tT X ta))(hb:PW X (.BoolOp .Or (b::rest) pos) (tT X tb)):PW X (.BoolOp .Or (a::b::rest) pos) (tT X (bY ta tb)):=(DO ha hb).of fun σ H Q hxx=>by
 obtain⟨ρ,θ,M,hd,hw,h⟩:=hxx;refine pO hd hw (kj X θ H Q) (fun c M' h=>h) (fun h=>h) h fun c M1 θ1 H1 g1 h1=>?_
 cases c with
 | true=>exact h1 θ1 H1 g1
 | false=>exact⟨ρ,θ1,M1,hd.go g1,g1.wr,kj.go g1 h1⟩
theorem Ab (ha:PT X a (tT X ta)):PT X (.UnaryOp .Not a pos) (tT X (aN ta)):=(Ae ha).of fun σ H Q hxx=>by
 obtain⟨ρ,θ,M,hd,hw,h⟩:=hxx;exact pO hd hw (kj X θ H Q) (fun c M' h=>h) (fun h=>h) h fun c M1 θ1 H1 g1 h1=>h1 θ1 H1 g1
def du (a b:GE):GE:=fun ρ M=>(a ρ M).bind fun x M1=>match x with
 | .bl true=>b ρ M1
 | .bl false=>.ok (.bl false) M1
 | _=>.bad
def zm (a b:GE):GE:=fun ρ M=>(a ρ M).bind fun x M1=>match x with
 | .bl true=>.ok (.bl true) M1
 | .bl false=>b ρ M1
 | _=>.bad
def om (a:GT):GE:=fun ρ M=>(a ρ M).bind fun c M1=>.ok (.bl (!c)) M1
theorem zC {op}{g:GE}(h:PE X a (tE X g)):PE X (.BoolOp op [a] pos) (tE X g):=AA h
theorem Bn (ha:PE X a (tE X ga))(hb:PE X (.BoolOp .And (b::rest) pos) (tE X gb)):PE X (.BoolOp .And (a::b::rest) pos) (tE X (du ga gb)):=(zA ha hb).of fun σ H Q hxx=>by
 obtain⟨ρ,θ,M,hd,hw,h⟩:=hxx;refine cm hd hw (bg X θ H Q) (fun c M' h=>h) (fun h=>h) h fun d M1 v θ1 H1 g1 r1 h1=>?_
 cases d with
 | bl c=>
  refine⟨c,r1,?_⟩;cases c with
  | true=>rw[if_pos rfl];exact⟨ρ,θ1,M1,hd.go g1,g1.wr,bg.go g1 h1⟩
  | false=>rw[if_neg Bool.false_ne_true];exact h1 _ θ1 H1 g1 rfl
 | _=>exact h1.elim
theorem DB (ha:PE X a (tE X ga))(hb:PE X (.BoolOp .Or (b::rest) pos) (tE X gb)):PE X (.BoolOp .Or (a::b::rest) pos) (tE X (zm ga gb)):=(DQ ha hb).of fun σ H Q hxx=>by
 obtain⟨ρ,θ,M,hd,hw,h⟩:=hxx;refine cm hd hw (bg X θ H Q) (fun c M' h=>h) (fun h=>h) h fun d M1 v θ1 H1 g1 r1 h1=>?_
 cases d with
 | bl c=>
  refine⟨c,r1,?_⟩;cases c with
  | true=>rw[if_pos rfl];exact h1 _ θ1 H1 g1 rfl
  | false=>rw[if_neg Bool.false_ne_true];exact⟨ρ,θ1,M1,hd.go g1,g1.wr,bg.go g1 h1⟩
 | _=>exact h1.elim
def af:GA:=fun _ M=>.ok [] M
def aa (g:GE)(r:GA):GA:=fun ρ M=>(g ρ M).bind fun d M1=>(r ρ M1).bind fun ds M2=>.ok (d::ds) M2
theorem jT {g:GA}{σ:L2.St}{H:Hp}{Q:List V→Hp→Prop}{α:Type}{ρ:bU}{θ:List Addr}{M:au}(hd:im X.K θ H σ ρ)(hw:Wr X.K θ H M)(F:bw α→Prop)(Fe:∀c M',F (.err c M')→dN X θ H c M')(Fb:F .bad→False)
  {f:List D→au→bw α} (h:F ((g ρ M).bind f)) (k:∀ds M1 vs θ1 H1,Go X.K θ H θ1 H1 M1→bI X.K θ1 H1 ds vs→F (f ds M1)→Q vs H1):tA X g σ H Q:=by
 refine⟨ρ,θ,M,hd,hw,?_⟩;cases q:g ρ M with
 | ok d M1=>
  rw[q] at h;exact fun v θ1 H1 g1 r1=>k d M1 v θ1 H1 g1 r1 h
 | err c M1=>rw[q] at h;exact Fe c M1 h
 | bad=>rw[q] at h;exact(Fb h).elim
theorem A1:PA X [] (tA X af):=iW.of fun σ H Q ⟨ρ,θ,M,hd,hw,f⟩=>f [] θ H (.refl hw) rfl
theorem xU {es:List Expr}{gr:GA}(ha:PE X e (tE X ga))(hr:PA X es (tA X gr))(hs:starEach (e::es) X.env=(false,eval e X.env)::starEach es X.env:=by rfl):PA X (e::es) (tA X (aa ga gr)):=
 (eS ha hr hs).of fun σ H Q hxx=>by
  obtain⟨ρ,θ,M,hd,hw,h⟩:=hxx;refine cm hd hw (tZ X θ H Q) (fun c M' h=>h) (fun h=>h) h fun d M1 v θ1 H1 g1 r1 h1=>?_
  refine jT (hd.go g1) g1.wr (tZ X θ1 H1 Q) (fun c M' h=>h) (fun h=>h) (h1.go g1) fun ds M2 vs θ2 H2 g2 r2 h2=>?_
  exact h2 (v::vs) θ2 H2 g2 ⟨v,vs,rfl,r1.go g2,r2⟩
def lO (ds:List D)(M:au):bw D:=if ds.length≤sizeLine then .ok (.tup ds) M else .bad
def aV (ds:List D)(M:au):bw D:=if ds.length≤sizeLine then .ok (.lst ds) M else .bad
def fM (ds:List D)(M:au):bw D:=if ds.length≤sizeLine then .ok (.mr M.length) (M++[.lst ds]) else .bad
def aI (g:GA):GE:=fun ρ M=>(g ρ M).bind lO
def cX (g:GA):GE:=fun ρ M=>(g ρ M).bind aV
def i6 (g:GA):GE:=fun ρ M=>(g ρ M).bind fM
theorem bg.tup {θ:List Addr}{H:Hp}{Q:VK}{ds:List D}{M:au}{vs:List V}(h:bg X θ H Q (lO ds M))(hw:Wr X.K θ H M)(r:bI X.K θ H ds vs):vs.length≤sizeLine∧∀p,H p=none→Q (.ref p) (cN H p (.tup vs)):=by
 unfold lO at h
 by_cases hl:ds.length≤sizeLine
 ·rw[if_pos hl] at h;exact⟨by rw[←av r];exact hl,fun p hp=>h _ θ _ (eO hw hp) (io hw hp r)⟩
 ·rw[if_neg hl] at h;exact h.elim
theorem bg.lst {θ:List Addr}{H:Hp}{Q:VK}{ds:List D}{M:au}{vs:List V}(h:bg X θ H Q (aV ds M))(hw:Wr X.K θ H M)(r:bI X.K θ H ds vs):vs.length≤sizeLine∧∀p,H p=none→Q (.ref p) (cN H p (.lst vs)):=by
 unfold aV at h
 by_cases hl:ds.length≤sizeLine
 ·rw[if_pos hl] at h;exact⟨by rw[←av r];exact hl,fun p hp=>h _ θ _ (eO hw hp) (ja hw hp r)⟩
 ·rw[if_neg hl] at h;exact h.elim
theorem bg.mut {θ:List Addr}{H:Hp}{Q:VK}{ds:List D}{M:au}{vs:List V}(h:bg X θ H Q (fM ds M))(hw:Wr X.K θ H M)(r:bI X.K θ H ds vs):vs.length≤sizeLine∧∀p,H p=none→Q (.ref p) (cN H p (.lst vs)):=by
 unfold fM at h
 by_cases hl:ds.length≤sizeLine
 ·rw[if_pos hl] at h;refine⟨by rw[←av r];exact hl,fun p hp=>h _ (θ++[p]) _ (ww hw hp r) ⟨p,rfl,?_⟩⟩;rw[←hw.len,getElem?_append_right (Nat.le_refl _)];simp
 ·rw[if_neg hl] at h;exact h.elim
theorem Ai {es:List Expr}{x1}{g:GA}(h:PA X es (tA X g)):PE X (.Tuple es x1 pos) (tE X (aI g)):=(Ad h).of fun σ H Q ⟨ρ,θ,M,hd,hw,h⟩=>
 jT hd hw (bg X θ H Q) (fun c M' h=>h) (fun h=>h) h fun ds M1 vs θ1 H1 g1 r1 h1=>bg.tup (bg.go g1 h1) g1.wr r1
theorem Bm {es:List Expr}{g:GA}(h:PA X es (tA X g)):PE X (.List es pos) (tE X (cX g)):=(wd h).of fun σ H Q ⟨ρ,θ,M,hd,hw,h⟩=>
 jT hd hw (bg X θ H Q) (fun c M' h=>h) (fun h=>h) h fun ds M1 vs θ1 H1 g1 r1 h1=>bg.lst (bg.go g1 h1) g1.wr r1
theorem Bo {es:List Expr}{g:GA}(h:PA X es (tA X g)):PE X (.List es pos) (tE X (i6 g)):=(wd h).of fun σ H Q ⟨ρ,θ,M,hd,hw,h⟩=>
 jT hd hw (bg X θ H Q) (fun c M' h=>h) (fun h=>h) h fun ds M1 vs θ1 H1 g1 r1 h1=>bg.mut (bg.go g1 h1) g1.wr r1
end
section
variable {K:W.Frag}{θ:List Addr}{H:Hp}{σ:L2.St}{ρ:bU}
theorem im.set {d:D}{v:V}(h:im K θ H σ ρ)(r:et K θ H d v)(i:Nat):im K θ H (σ.set i (some v)) (ρ.set i (some d)):=by
 refine⟨by rw[length_set,length_set];exact h.len,fun j d' e=>?_⟩
 by_cases hj:j=i
 ·subst hj;have hl:j<ρ.length:=by
   have:=(List.getElem?_eq_some_iff.mp e).1;rw[length_set] at this;exact this
  rw[getElem?_set_self hl] at e;have e':d=d':=by simpa using e
  subst e';exact⟨v,getElem?_set_self (by rw[←h.len];exact hl),r⟩
 ·rw[getElem?_set_ne (Ne.symm hj)] at e;obtain⟨u,e1,r1⟩:=h.at_ j d' e;exact⟨u,by rw[getElem?_set_ne (Ne.symm hj)];exact e1,r1⟩
end
def aB:GS:=fun ρ M=>.ok (.nx ρ) M
def ao (a b:GS):GS:=fun ρ M=>(a ρ M).bind fun f M1=>match f with
 | .nx ρ1=>b ρ1 M1
 | .rt d=>.ok (.rt d) M1
 | .bk ρ1=>.ok (.bk ρ1) M1
 | .ct ρ1=>.ok (.ct ρ1) M1
def aM (i:Nat)(g:GE):GS:=fun ρ M=>(g ρ M).bind fun d M1=>.ok (.nx (ρ.set i (some d))) M1
def az (g:GE):GS:=fun ρ M=>(g ρ M).bind fun d M1=>.ok (.rt d) M1
def eP (g:GE):GS:=fun ρ M=>(g ρ M).bind fun _ M1=>.ok (.nx ρ) M1
def cD (t:GT)(a b:GS):GS:=fun ρ M=>(t ρ M).bind fun c M1=>if c then a ρ M1 else b ρ M1
section
variable {X:Cx}{st:Stmt}{rest:List Stmt}{e:Expr}{g:GE}{t u:GS}{pos:Pos}
theorem zY:PSs X [] (tS X aB):=xk.of fun D σ H ⟨ρ,θ,M,hd,hw,f⟩=>f σ θ H (.refl hw) hd
theorem yn (h1:PS X st (tS X t))(h2:PSs X rest (tS X u)):PSs X (st::rest) (tS X (ao t u)):=(uw h1 h2).of fun D σ H hxx=>by
 obtain⟨ρ,θ,M,hd,hw,h⟩:=hxx;refine⟨ρ,θ,M,hd,hw,?_⟩;unfold ao at h;cases q:t ρ M with
 | ok f M1=>
  rw[q] at h;cases f with
  | nx ρ1=>exact fun σ1 θ1 H1 g1 d1=>⟨ρ1,θ1,M1,d1,g1.wr,dg.go g1 h⟩
  | rt d=>exact h
  | bk ρ1=>exact h
  | ct ρ1=>exact h
 | err c M1=>rw[q] at h;exact h
 | bad=>rw[q] at h;exact h
theorem z8 (h1:PS X st (tS X t)):PSs X [st] (tS X t):=xj h1
theorem Ac {i:Nat}{x:Str}{pos':Pos}(hN:X.N.Nodup)(hi:X.N[i]?=some x)(hx:wJ X.env.scope x)(he:PE X e (tE X g))(hs:swapsWith e (some (.Name x pos')) pos.line X.env=pure false:=by rfl)(hf:X.fn x=true∨X.env.scope.names.lookup x=some .local:=by first|exact .inl rfl|exact .inr rfl|assumption) :
  PS X (.Assign [.Name x pos'] e pos) (tS X (aM i g)):=(BW hN hi hx he hs hf).of fun D σ H ⟨ρ,θ,M,hd,hw,h⟩=>
 cm hd hw (dg X θ H D) (fun c M' h=>h) (fun h=>h) h fun d M1 v θ1 H1 g1 r1 h1=>h1 _ θ1 H1 g1 ((hd.go g1).set r1 i)
theorem Bt (he:PE X e (tE X g)):PS X (.Return (some e) pos) (tS X (az g)):=(Af he).of fun D σ H ⟨ρ,θ,M,hd,hw,h⟩=>
 cm hd hw (dg X θ H D) (fun c M' h=>h) (fun h=>h) h fun d M1 v θ1 H1 g1 r1 h1=>h1 v θ1 H1 g1 r1
theorem wW (he:PE X e (tE X g))(hs:swapsWith e none pos.line X.env=pure false:=by rfl):PS X (.Expr e pos) (tS X (eP g)):=(x9 he hs).of fun D σ H ⟨ρ,θ,M,hd,hw,h⟩=>
 cm hd hw (dg X θ H D) (fun c M' h=>h) (fun h=>h) h fun d M1 v θ1 H1 g1 r1 h1=>h1 σ θ1 H1 g1 (hd.go g1)
theorem DI {c:Expr}{a b:List Stmt}{tc:GT}(hc:PT X c (tT X tc))(ha:PSs X a (tS X t))(hb:PSs X b (tS X u)):PS X (.If c a b pos) (tS X (cD tc t u)):=(Ek hc ha hb).of fun D σ H hxx=>by
 obtain⟨ρ,θ,M,hd,hw,h⟩:=hxx;refine pO hd hw (dg X θ H D) (fun c M' h=>h) (fun h=>h) h fun c M1 θ1 H1 g1 h1=>?_
 cases c with
 | true=>rw[if_pos rfl];exact⟨ρ,θ1,M1,hd.go g1,g1.wr,dg.go g1 h1⟩
 | false=>rw[if_neg Bool.false_ne_true];exact⟨ρ,θ1,M1,hd.go g1,g1.wr,dg.go g1 h1⟩
abbrev GG:=D→bU→Option bU
def tG (X:Cx)(s:GG):TG:=fun v σ H Q=>∃ρ θ M d,im X.K θ H σ ρ∧Wr X.K θ H M∧et X.K θ H d v∧∃ρ',s d ρ=some ρ'∧∀σ',im X.K θ H σ' ρ'→Q σ' H
def fQ (i:Nat):GG:=fun d ρ=>some (ρ.set i (some d))
def jZ:List Nat→List D→bU→Option bU
 | [],[],ρ=>some ρ
 | i::is,d::ds,ρ=>jZ is ds (ρ.set i (some d))
 | _,_,_=>none
def fF (is:List Nat):GG:=fun d ρ=>match d with
 | .tup ds=>jZ is ds ρ
 | _=>none
theorem ot {i:Nat}{x:Str}(hN:X.N.Nodup)(hi:X.N[i]?=some x)(hx:wJ X.env.scope x)(hf:X.fn x=true∨X.env.scope.names.lookup x=some .local:=by first|exact .inl rfl|exact .inr rfl|assumption):PG X (.Name x pos) (tG X (fQ i)):=by
 intro ag s σ H v u Q I r h;obtain⟨ρ,θ,M,d,hd,hw,rd,ρ',e,h⟩:=h;cases e;exact yO hN hi hx hf ag s σ H v u Q I r (h _ (hd.set rd i))
def Eb (X:Cx)(is:List Nat):zp:=fun vs σ H Q=>∃ρ θ M ds,im X.K θ H σ ρ∧Wr X.K θ H M∧bI X.K θ H ds vs∧∃ρ',jZ is ds ρ=some ρ'∧∀σ',im X.K θ H σ' ρ'→Q σ' H
theorem xY:xm X [] (Eb X []):=by
 intro ag s σ H vs us Q I r h;obtain⟨ρ,θ,M,ds,hd,hw,rd,ρ',e,h⟩:=h;cases ds with
 | cons d ds=>cases e
 | nil=>
  have e2:vs=[]:=rd;subst e2;cases e;exact ym ag s σ H [] us Q I r ⟨rfl,h σ hd⟩
theorem uQ {i:Nat}{is:List Nat}{es:List Expr}(h1:PG X e (tG X (fQ i)))(h2:xm X es (Eb X is))
  (hs:(assignEach (e::es) X.env).map (·.2)=assign e X.env::(assignEach es X.env).map (·.2):=by rfl):xm X (e::es) (Eb X (i::is)):=by
 intro ag s σ H vs us Q I r h;obtain⟨ρ,θ,M,ds,hd,hw,rd,ρ',e1,h⟩:=h;cases ds with
 | nil=>cases e1
 | cons d ds=>
  obtain⟨v,vr,e2,rv,rr⟩:=rd;subst e2;refine wB h1 h2 hs ag s σ H _ us Q I r ⟨v,vr,rfl,ρ,θ,M,d,hd,hw,rv,_,rfl,fun σ1 d1=>?_⟩;exact⟨_,θ,M,ds,d1,hw,rr,ρ',e1,h⟩
theorem A7 {is:List Nat}{es:List Expr}{k:Nat}{n:Nat}(hc:X.calm=true)(h:xm X es (Eb X is))(hl:is.length=n:=by rfl)
  (hn:(assignEach es X.env).length=n:=by rfl) (hst:(assignEach es X.env).findIdx? (·.1)=none:=by rfl):PG X (.Tuple es k pos) (tG X (fF is)):=by
 intro ag s σ H v u Q I r hw;obtain⟨ρ,θ,M,d,hd,hwr,rd,ρ',e1,hw⟩:=hw;cases d with
 | tup ds=>
  obtain⟨a,vs,e2,ta,rs⟩:=rd;have hlen:ds.length=is.length:=by
   have e1:jZ is ds ρ=some ρ':=e1;clear hw hd hwr rs hn hst h hl
   induction is generalizing ds ρ with
   | nil=>
    cases ds with
    | nil=>rfl
    | cons _ _=>cases e1
   | cons i is ih=>
    cases ds with
    | nil=>cases e1
    | cons d ds=>rw[length_cons,length_cons,ih _ ds e1 e1]
  refine Bq (n:=n) hc h hn hst ag s σ H v u Q I r ⟨a,vs,e2,ta.sq,by rw[←av rs,hlen,hl],?_⟩;exact⟨ρ,θ,M,ds,hd,hwr,rs,ρ',e1,hw⟩
 | _=>cases e1
def qX:List GG→List D→bU→Option bU
 | [],[],ρ=>some ρ
 | s::ss,d::ds,ρ=>match s d ρ with
  | some ρ1=>qX ss ds ρ1
  | none=>none
 | _,_,_=>none
def g6 (s:GG)(g:GE):GS:=fun ρ M=>(g ρ M).bind fun d M1=>match s d ρ with
 | some ρ1=>.ok (.nx ρ1) M1
 | none=>.bad
theorem Av {tg:Expr}{s:GG}(he:PE X e (tE X g))(hg:PG X tg (tG X s))(hs:swapsWithSole [tg] e pos.line X.env=pure false:=by rfl)(hw:swappedStores [tg] e X.env=pure none:=by rfl)
  (h1:(assignEach [tg] X.env).map (·.2)=[assign tg X.env]:=by rfl):PS X (.Assign [tg] e pos) (tS X (g6 s g)):=(va he hg hs hw h1).of fun D σ H hxx=>by
 obtain⟨ρ,θ,M,hd,hwr,h⟩:=hxx;refine cm hd hwr (dg X θ H D) (fun c M' h=>h) (fun h=>h) h fun d M1 v θ1 H1 g1 r1 h1=>?_
 cases q:s d ρ with
 | some ρ1=>
  rw[q] at h1;exact⟨ρ,θ1,M1,d,hd.go g1,g1.wr,r1,ρ1,q,fun σ' d'=>h1 σ' θ1 H1 g1 d'⟩
 | none=>rw[q] at h1;exact h1.elim
def uk (o i x:D)(M:au):bw Unit:=match o,i with
 | .mr k,.int j=>match M[k]? with
  | some (.lst xs)=>match wK xs.length j with
   | some n=>.ok () (M.set k (.lst (xs.set n x)))
   | none=>.bad
  | _=>.bad
 | _,_=>.bad
def jj (go gi g:GE):GS:=fun ρ M=>(g ρ M).bind fun x M1=>(go ρ M1).bind fun o M2=>(gi ρ M2).bind fun i M3=>(uk o i x M3).bind fun _ M4=>.ok (.nx ρ) M4
theorem BK {o i:Expr}{ip:Pos}{go gi:GE}(he:PE X e (tE X g))(ho:PE X o (tE X go))(hi:PE X i (tE X gi))
  (ha:∀v,assign (.Subscript o i ip) X.env v=(do
   let ov ←holding [v] (eval o X.env)
   let iv ←holding [v,ov] (eval i X.env)
   standAt ip
   holding [v,ov,iv] (setItem ov iv v)
   release [v,ov,iv] []):=by intro _;rfl)
  (hs:swapsWithSole [.Subscript o i ip] e pos.line X.env=pure false:=by rfl) (hw:swappedStores [.Subscript o i ip] e X.env=pure none:=by rfl)
  (h1:(assignEach [.Subscript o i ip] X.env).map (·.2)=[assign (.Subscript o i ip) X.env]:=by rfl):PS X (.Assign [.Subscript o i ip] e pos) (tS X (jj go gi g)):=
 (va he (zv ho hi wm ha) hs hw h1).of fun D σ H hxx=>by
  obtain⟨ρ,θ,M,hd,hwr,h⟩:=hxx;refine cm hd hwr (dg X θ H D) (fun c M' h=>h) (fun h=>h) h fun dx M1 vx θ1 H1 g1 r1 h1=>?_
  refine cm (hd.go g1) g1.wr (dg X θ1 H1 D) (fun c M' h=>h) (fun h=>h) (h1.go g1) fun dob M2 vo θ2 H2 g2 r2 h2=>?_
  refine cm ((hd.go g1).go g2) g2.wr (dg X θ2 H2 D) (fun c M' h=>h) (fun h=>h) (h2.go g2) fun di M3 vi θ3 H3 g3 r3 h3=>?_
  have h4:=h3.go g3;unfold uk at h4;split at h4
  ·rename_i k j;split at h4
   ·rename_i xs q;split at h4
    ·rename_i n hn;obtain⟨a,ea,ta⟩:=r2.go g3;obtain⟨vs,ev,rv⟩:=g3.wr.at_ k a _ ta q;have ei:vi=.int j:=r3;refine⟨a,vs,j,n,ea,ei,ev,by rw[←av rv];exact hn,?_⟩;have gs:=v6 (ds:=xs) g3.wr ta (pH (r1.go (g2.trans g3)) n rv);exact h4 σ θ3 _ gs ((((hd.go g1).go g2).go g3).go gs)
    ·exact h4.elim
   ·exact h4.elim
  ·exact h4.elim
end
mutual
def AF:D→D→Bool
 | .non,.non=>true
 | .bl a,.bl b=>a==b
 | .int a,.int b=>a==b
 | .str a,.str b=>a==b
 | .tup a,.tup b=>kX a b
 | .lst a,.lst b=>kX a b
 | .ro a,.ro b=>kX a b
 | .mr a,.mr b=>a==b
 | .exc a,.exc b=>a==b
 | .any,.any=>true
 | _,_=>false
def kX:List D→List D→Bool
 | [],[]=>true
 | a::as,b::bs=>AF a b&&kX as bs
 | _,_=>false
end
theorem ff {P:Prop}(h:false=true):P:=absurd h Bool.false_ne_true
mutual
theorem x8:∀(a b:D),AF a b=true→a=b
 | .non,b,h=>by
  cases b with
  | non=>rfl
  | _=>exact ff h
 | .bl x,b,h=>by
  cases b with
  | bl y=>rw[eq_of_beq (show(x==y)=true from h)]
  | _=>exact ff h
 | .int x,b,h=>by
  cases b with
  | int y=>rw[eq_of_beq (show(x==y)=true from h)]
  | _=>exact ff h
 | .str x,b,h=>by
  cases b with
  | str y=>rw[eq_of_beq (show(x==y)=true from h)]
  | _=>exact ff h
 | .tup x,b,h=>by
  cases b with
  | tup y=>rw[iT x y h]
  | _=>exact ff h
 | .lst x,b,h=>by
  cases b with
  | lst y=>rw[iT x y h]
  | _=>exact ff h
 | .ro x,b,h=>by
  cases b with
  | ro y=>rw[iT x y h]
  | _=>exact ff h
 | .mr x,b,h=>by
  cases b with
  | mr y=>rw[eq_of_beq (show(x==y)=true from h)]
  | _=>exact ff h
 | .exc x,b,h=>by
  cases b with
  | exc y=>rw[eq_of_beq (show(x==y)=true from h)]
  | _=>exact ff h
 | .any,b,h=>by
  cases b with
  | any=>rfl
  | _=>exact ff h
theorem iT:∀(a b:List D),kX a b=true→a=b
 | [],b,h=>by
  cases b with
  | nil=>rfl
  | cons _ _=>exact ff h
 | x::xs,b,h=>by
  cases b with
  | nil=>exact ff h
  | cons y ys=>
   have h:=Bool.and_eq_true_iff.mp (show(AF x y&&kX xs ys)=true from h);rw[x8 x y h.1,iT xs ys h.2]
end
structure nE where
 ds:List D
 m:Option Nat
def nE.ok (t:nE)(M:au):Bool:=match t.m with
 | none=>true
 | some i=>match M[i]? with
  | some (.lst xs)=>kX xs t.ds
  | _=>false
abbrev GI:=bU→au→bw nE
def zc (K:W.Frag)(J:It)(θ:List Addr)(H:Hp)(t:nE):Prop:=∀θ1 H1 M1,Go K θ H θ1 H1 M1→t.ok M1=true→∀i:Nat,
 (∀d,t.ds[i]?=some d→J.go i H1∧∀x H2,J.yld i H1 x H2→Go K θ1 H1 θ1 H2 M1∧et K θ1 H2 d x)∧(t.ds.length≤i→J.stop i H1)
def u7 (X:Cx)(θ:List Addr)(H:Hp)(R:It→Hp→Prop):bw nE→Prop
 | .ok t M'=>∀J θ' H',Go X.K θ H θ' H' M'→zc X.K J θ' H' t→R J H'
 | .err c M'=>dN X θ H c M'
 | .bad=>False
def tI (X:Cx)(g:GI):TI:=fun σ H R=>∃ρ θ M,im X.K θ H σ ρ∧Wr X.K θ H M∧u7 X θ H R (g ρ M)
def rY (d:D)(M:au):bw nE:=match d with
 | .lst ds=>.ok ⟨ds,none⟩ M
 | .ro ds=>.ok ⟨ds,none⟩ M
 | .tup ds=>.ok ⟨ds,none⟩ M
 | .mr k=>match M[k]? with
  | some (.lst ds)=>.ok ⟨ds,some k⟩ M
  | _=>.bad
 | _=>.bad
def cS (g:GE):GI:=fun ρ M=>(g ρ M).bind rY
section
variable {X:Cx}{tg:Expr}
theorem CM {l:Expr}{tl:TE}(hl:PE X l tl):PI X tg l (fun σ H R=>tl σ H fun x H1=>∃a,x=.ref a∧(((∃xs,kU X.K H1 a xs)∧R (Es X.K a) H1)∨((∃xs,j9 X.K H1 a xs)∧R (Ff X.K a) H1))):=by
 intro ag s σ H R I h;refine dh (hl ag s σ H _ I h) fun v s1 hxx=>?_
 obtain⟨x,H1,I1,r1,q1⟩:=hxx;obtain⟨a,e,q1⟩:=q1;subst e;cases r1;rcases q1 with⟨⟨xs,hq⟩,q⟩|⟨⟨xs,hq⟩,q⟩
 ·obtain⟨its,rv,p,hz⟩:=I1.list hq;refine wpAny_pyIter_list p.isList ?_;refine⟨s1.heap.objs.size,[s1.heap.objs.size],_,_,H1,rfl,I1.kept (t':=s1.toks) fun b o e=>Heap.get?_push_of_some _ e,tz a _,⟨_,Heap.get?_push_size _ rfl,rfl,rfl⟩,fun b hb=>?_,q⟩;have e:b=s1.heap.objs.size:=by simpa using hb
  subst e;exact I1.fpOk (Nat.le_refl _) (I1.hok.fresh (Nat.le_refl _))
 ·obtain⟨its,rv,p,hz⟩:=I1.tuple hq;refine wpAny_pyIter_tuple (show s1.heap.IsTuple a its.toArray from p) ?_;refine⟨s1.heap.objs.size,[s1.heap.objs.size],_,_,H1,rfl,I1.kept (t':=s1.toks) fun b o e=>Heap.get?_push_of_some _ e,qN a _,⟨_,Heap.get?_push_size _ rfl,rfl,rfl⟩,fun b hb=>?_,q⟩;have e:b=s1.heap.objs.size:=by simpa using hb
  subst e;exact I1.fpOk (Nat.le_refl _) (I1.hok.fresh (Nat.le_refl _))
theorem rg {K:W.Frag}{θ:List Addr}{H:Hp}{a:Addr}{ds:List D}{vs:List V}(ta:qj K θ H a vs)(r:bI K θ H ds vs):zc K (Es K a) θ H ⟨ds,none⟩:=by
 intro θ1 H1 M1 g _ i;have t1:=(ta.grow g.toGrow).sq;have r1:=r.go g;refine⟨fun d e=>?_,fun hl=>⟨vs,t1,by rw[←av r1];exact hl⟩⟩;obtain⟨v,e1,rv⟩:=fH r1 e;refine⟨⟨vs,v,t1,e1⟩,fun x H2 y=>?_⟩;obtain⟨eH,y⟩:=y;subst eH;have e2:=y vs t1;rw[e1] at e2;cases e2;exact⟨.refl g.wr,rv⟩
theorem wU {K:W.Frag}{θ:List Addr}{H:Hp}{a:Addr}{ds:List D}{vs:List V}(ta:lG K θ H a vs)(r:bI K θ H ds vs):zc K (Ff K a) θ H ⟨ds,none⟩:=by
 intro θ1 H1 M1 g _ i;have t1:=(ta.grow g.toGrow).sq;have r1:=r.go g;refine⟨fun d e=>?_,fun hl=>⟨vs,t1,by rw[←av r1];exact hl⟩⟩;obtain⟨v,e1,rv⟩:=fH r1 e;refine⟨⟨vs,v,t1,e1⟩,fun x H2 y=>?_⟩;obtain⟨eH,y⟩:=y;subst eH;have e2:=y vs t1;rw[e1] at e2;cases e2;exact⟨.refl g.wr,rv⟩
theorem xI {K:W.Frag}{θ:List Addr}{H:Hp}{a:Addr}{ds:List D}{k:Nat}(ta:θ[k]?=some a):zc K (Es K a) θ H ⟨ds,some k⟩:=by
 intro θ1 H1 M1 g hok i;have t1:θ1[k]?=some a:=by
  obtain⟨m,em,_⟩:=g.ext;rw[em,getElem?_append_left (List.getElem?_eq_some_iff.mp ta).1];exact ta
 have hok':(match M1[k]? with|some (.lst xs)=>kX xs ds|_=>false)=true:=hok;cases q:M1[k]? with
 | none=>rw[q] at hok';cases hok'
 | some m=>
  cases m with
  | lst xs=>
   rw[q] at hok';have e:xs=ds:=iT xs ds hok';subst e;obtain⟨vs,hv,r1⟩:=g.wr.at_ k a _ t1 q;have s1:kU K H1 a vs:=.inl (.inl hv);refine⟨fun d e=>?_,fun hl=>⟨vs,s1,by rw[←av r1];exact hl⟩⟩;obtain⟨v,e1,rv⟩:=fH r1 e;refine⟨⟨vs,v,s1,e1⟩,fun x H2 y=>?_⟩;obtain⟨eH,y⟩:=y;subst eH;have e2:=y vs s1;rw[e1] at e2;cases e2;exact⟨.refl g.wr,rv⟩
  | _=>rw[q] at hok';cases hok'
theorem B2 {l:Expr}{g:GE}(hl:PE X l (tE X g)):PI X tg l (tI X (cS g)):=by
 intro ag s σ H R I h;refine CM hl ag s σ H R I ?_;obtain⟨ρ,θ,M,hd,hw,h⟩:=h;refine cm hd hw (u7 X θ H R) (fun c M' h=>h) (fun h=>h) h fun d M1 v θ1 H1 g1 r1 h1=>?_
 cases d with
 | lst ds=>
  obtain⟨a,vs,e,ta,r⟩:=r1;exact⟨a,e,.inl ⟨⟨vs,ta.sq⟩,h1 _ θ1 H1 g1 (rg (.inl ⟨.inl ta.1,ta.2⟩) r)⟩⟩
 | ro ds=>
  obtain⟨a,vs,e,ta,r⟩:=r1;exact⟨a,e,.inl ⟨⟨vs,ta.sq⟩,h1 _ θ1 H1 g1 (rg ta r)⟩⟩
 | tup ds=>
  obtain⟨a,vs,e,ta,r⟩:=r1;exact⟨a,e,.inr ⟨⟨vs,ta.sq⟩,h1 _ θ1 H1 g1 (wU ta r)⟩⟩
 | mr k=>
  obtain⟨a,e,ta⟩:=r1;have h2:u7 X θ H R (match M1[k]? with|some (.lst ds)=>.ok ⟨ds,some k⟩ M1|_=>.bad):=h1;cases q:M1[k]? with
  | none=>rw[q] at h2;exact h2.elim
  | some m=>
   cases m with
   | lst ds=>
    rw[q] at h2;obtain⟨vs,hv,r⟩:=g1.wr.at_ k a _ ta q;exact⟨a,e,.inl ⟨⟨vs,.inl (.inl hv)⟩,h2 _ θ1 H1 g1 (xI ta)⟩⟩
   | _=>rw[q] at h2;exact h2.elim
 | _=>exact h1.elim
def aU (lo:Int)(n:Nat):List D:=(List.range n).map fun(k:Nat)=>D.int (lo+(k:Int))
theorem yr {K:W.Frag}{θ:List Addr}{H:Hp}(lo:Int)(n:Nat):zc K (Ez lo n) θ H ⟨aU lo n,none⟩:=by
 intro θ1 H1 M1 g _ i;refine⟨fun d e=>?_,fun hl=>?_⟩
 ·have hi:i<n:=by
   have:=(List.getElem?_eq_some_iff.mp e).1;simpa[aU] using this
  refine⟨hi,fun x H2 y=>?_⟩;obtain⟨eH,y⟩:=y;subst eH;refine⟨.refl g.wr,?_⟩;have e':D.int (lo+(i:Int))=d:=by
   have:(aU lo n)[i]?=some (D.int (lo+(i:Int))):=by simp[aU,hi]
   rw[this] at e;exact Option.some.inj e
  subst e';exact y
 ·have h2:(aU lo n).length≤i:=hl;have h3:n≤i:=by simpa[aU] using h2
  exact h3
def uP (ds:List D)(M:au):bw nE:=match ds with
 | [.int j]=>if -(2 ^ 62)≤j∧j<2 ^ 62 then .ok ⟨aU 0 j.toNat,none⟩ M else .bad
 | _=>.bad
def eA (g:GA):GI:=fun ρ M=>(g ρ M).bind uP
theorem sL {a:Expr}{g:GA}{p pos:Pos}(hg:Gl X "range")(hm:X.mg "range"=none)(ha:PA X [a] (tA X g))(hs:starEach [a] X.env=[(false,eval a X.env)]:=by rfl):PI X tg (.Call (.Name "range" p) [a] [] pos) (tI X (eA g)):=by
 intro ag s σ H R I h;refine ui hg hm ha hs ag s σ H R I ?_;obtain⟨ρ,θ,M,hd,hw,h⟩:=h;refine jT hd hw (u7 X θ H R) (fun c M' h=>h) (fun h=>h) h fun ds M1 vs θ1 H1 g1 r1 h1=>?_
 unfold uP at h1;split at h1
 ·rename_i j;obtain⟨v,r,e,rv,rr⟩:=r1;have e2:r=[]:=rr;have e3:v=.int j:=rv;subst e2;subst e3;split at h1
  ·rename_i hj;exact⟨j,e,hj.1,hj.2,h1 _ θ1 H1 g1 (yr 0 j.toNat)⟩
  ·exact h1.elim
 ·exact h1.elim
def dM (t:nE)(s:GG)(body:GS):List D→bU→au→bw Fl
 | [],ρ,M=>if t.ok M then .ok (.nx ρ) M else .bad
 | d::r,ρ,M=>if t.ok M then
   match s d ρ with
   | none=>.bad
   | some ρ1=>(body ρ1 M).bind fun f M1=>match f with
    | .nx ρ2=>dM t s body r ρ2 M1
    | .ct ρ2=>dM t s body r ρ2 M1
    | .bk ρ2=>.ok (.nx ρ2) M1
    | .rt d=>.ok (.rt d) M1
  else .bad
def kJ (gi:GI)(s:GG)(body:GS):GS:=fun ρ M=>(gi ρ M).bind fun t M1=>dM t s body t.ds ρ M1
theorem AJ {iter:Expr}{body:List Stmt}{gi:GI}{sg:GG}{gb:GS}{pos:Pos}(hp:PassesOwn (model X.prog X.w) X.A X.env X.xe)(hc:X.calm=true)(hi:PI X tg iter (tI X gi))(hg:PG X tg (tG X sg))(hb:PSs X body (tS X gb))
  (hs:∀x,foldedSetIterable iter X.env x=pure x:=by intro _;rfl):PS X (.For tg iter body [] pos) (tS X (kJ gi sg gb)):=(A0 hp hc hi hg hb hs).of fun D σ H hxx=>by
 obtain⟨ρ,θ,M,hd,hw,h⟩:=hxx;refine⟨ρ,θ,M,hd,hw,?_⟩;unfold kJ at h;cases q:gi ρ M with
 | err c M1=>rw[q] at h;exact h
 | bad=>rw[q] at h;exact h
 | ok t M1=>
  rw[q] at h;intro J θ1 H1 g1 hJ;have h:dg X θ H D (dM t sg gb t.ds ρ M1):=h;refine⟨fun i m σ' H'=>m=t.ds.length-i∧i≤t.ds.length∧∃ρ' θ' M',Go X.K θ1 H1 θ' H' M'∧im X.K θ' H' σ' ρ'∧dg X θ' H' D (dM t sg gb (t.ds.drop i) ρ' M'),
   ⟨t.ds.length,by simp,Nat.zero_le _,ρ,θ1,M1,.refl g1.wr,hd.go g1,dg.go g1 h⟩,?_⟩
  rintro i m σ' H' ⟨rfl,hil,ρ',θ',M',g',hd',h'⟩
  by_cases hok:t.ok M'=true
  ·obtain⟨hy,hst⟩:=hJ θ' H' M' g' hok i
   by_cases hlt:i<t.ds.length
   ·refine .inr ?_;have e1:t.ds[i]?=some t.ds[i]:=getElem?_eq_getElem hlt;obtain⟨hgo,hyl⟩:=hy _ e1;rw[drop_eq_getElem_cons hlt,dM,if_pos hok] at h';refine⟨hgo,fun σ2 H2=>∃ρ2 θ2 M2,Go X.K θ' H' θ2 H2 M2∧im X.K θ2 H2 σ2 ρ2∧dg X θ2 H2 D (dM t sg gb (t.ds.drop (i+1)) ρ2 M2),fun σ2 H2 ⟨ρ2,θ2,M2,g2,d2,h2⟩=>?_,fun x H2 y=>?_⟩
    ·exact⟨t.ds.length-(i+1),by omega,rfl,hlt,ρ2,θ2,M2,g'.trans g2,d2,h2⟩
    ·obtain⟨gy,rx⟩:=hyl x H2 y;cases qs:sg t.ds[i] ρ' with
     | none=>rw[qs] at h';exact h'.elim
     | some ρ1=>
      rw[qs] at h';refine⟨ρ',θ',M',_,hd'.go gy,gy.wr,rx,ρ1,qs,fun σ1 d1=>⟨ρ1,θ',M',d1,gy.wr,?_⟩⟩;have h':dg X θ' H2 D ((gb ρ1 M').bind _):=dg.go gy h';cases qb:gb ρ1 M' with
      | err c M2=>rw[qb] at h';exact h'
      | bad=>rw[qb] at h';exact h'
      | ok f M2=>
       rw[qb] at h';cases f with
       | nx ρ2=>exact fun σ2 θ2 H3 g2 d2=>⟨ρ2,θ2,M2,gy.trans g2,d2,dg.go g2 h'⟩
       | ct ρ2=>exact fun σ2 θ2 H3 g2 d2=>⟨ρ2,θ2,M2,gy.trans g2,d2,dg.go g2 h'⟩
       | bk ρ2=>exact h'
       | rt d=>exact h'
   ·have e:i=t.ds.length:=by omega
    subst e;rw[drop_length,dM,if_pos hok] at h';exact .inl ⟨hst (Nat.le_refl _),h' σ' θ' H' (.refl g'.wr) hd'⟩
  ·have hz:dg X θ' H' D .bad:=by
    cases hdr:t.ds.drop i with
    | nil=>rw[hdr,dM,if_neg hok] at h';exact h'
    | cons d r=>rw[hdr,dM,if_neg hok] at h';exact h'
   exact hz.elim
end
def Bv (K:W.Frag)(θ:List Addr)(H:Hp)(E:XK)(c:Str)(M:au):Prop:=∀C θ' H' a,cI K c C→Go K θ H θ' H' M→E (.ref C) (some a) H'
def u6 (K:W.Frag)(θ:List Addr)(H:Hp)(Q:VK)(E:XK):bw D→Prop
 | .ok d M'=>∀v θ' H',Go K θ H θ' H' M'→et K θ' H' d v→Q v H'
 | .err c M'=>Bv K θ H E c M'
 | .bad=>False
abbrev FD:=List D→au→bw D
def nJ (K:W.Frag)(n:Nat)(F:FD):Sp:=fun vs H Q E=>∃θ M ds,ds.length=n∧bI K θ H ds vs∧Wr K θ H M∧u6 K θ H Q E (F ds M)
theorem rq {K:W.Frag}{n:Nat}{F:FD}{ps:List Str}(hn:ps.length=n):∀vs H Q E,nJ K n F vs H Q E→vs.length=ps.length:=fun vs H Q E ⟨θ,M,ds,hl,r,_⟩=>by rw[hn,←hl,av r]
def m3 (k:Nat)(ds:List D):bU:=ds.map some++List.replicate k none
def aD (o:bw Fl):bw D:=o.bind fun f M=>match f with
 | .rt d=>.ok d M
 | .nx _=>.ok .non M
 | _=>.bad
def bB (k:Nat)(g:GS):FD:=fun ds M=>aD (g (m3 k ds) M)
theorem Fs {K:W.Frag}{θ:List Addr}{H:Hp}{ds:List D}{vs:List V}(r:bI K θ H ds vs)(N:List Str):im K θ H (L2.start N vs) (m3 (N.length-vs.length) ds):=by
 have hl:=av r;refine⟨by simp[L2.start,m3,hl],fun i d e=>?_⟩;unfold m3 at e
 by_cases hi:i<ds.length
 ·rw[getElem?_append_left (by simpa using hi),getElem?_map] at e;cases q:ds[i]? with
  | none=>rw[q] at e;cases e
  | some d'=>
   rw[q] at e;have e':d'=d:=by simpa using e
   subst e';obtain⟨v,e1,rv⟩:=fH r q;refine⟨v,?_,rv⟩;unfold L2.start;rw[getElem?_append_left (by rw[length_map,←hl];exact hi),getElem?_map,e1];rfl
 ·rw[getElem?_append_right (by simpa using hi),getElem?_replicate] at e;split at e <;> cases e
section
variable {P:Program}{w:World}{K:W.Frag}{mg:Str→Option Value}{base:Heap}
theorem Fp {x qual:Str}{st:Stmt}{f:Addr}{fd:FuncData}{N ps:List Str}{k n:Nat}{g:GS}(F:Ay K x qual st f fd)(S:iB N ps (bn st))(hn:ps.length=n)
  (hbody:∀(cdv:Value) (A:Around) (outer:List Env) (s:Shared) (H:Hp) (E:XK),dm k (A.deeper (envOfC qual (bn st) s.heap.objs.size f cdv))→
   PSs (jv (jJ P w) P w K mg base N qual (bn st) f cdv A outer s H E) (dG st) (tS (jv (jJ P w) P w K mg base N qual (bn st) f cdv A outer s H E) g)) :
  fE P w K mg base (jJ P w) (k+1) f fd ps (nJ K n (bB (N.length-n) g)):=by
 obtain⟨oc,od,kV,doc,pm,an,cdv,ct,osl,rfl,lk,hcd⟩:=F.ex;refine Ct lk hcd S (rq hn) fun A outer s H vs Q E hr h=>⟨_,hbody cdv A outer s H E hr,?_⟩
 obtain⟨θ,M,ds,hl,r,hw,h⟩:=h;have hv:vs.length=n:=by rw[←av r];exact hl
 refine⟨m3 (N.length-n) ds,θ,M,by rw[←hv];exact Fs r N,hw,?_⟩;have h:u6 K θ H Q E (aD (g (m3 (N.length-n) ds) M)):=h;unfold aD at h;cases q:g (m3 (N.length-n) ds) M with
 | bad=>rw[q] at h;exact h
 | err c M1=>
  rw[q] at h;have h:Bv K θ H E c M1:=h;exact fun C θ' H' a s' kC g1 fl=>qH fl (h C θ' H' a kC g1)
 | ok fl M1=>
  rw[q] at h;cases fl with
  | rt d=>exact h
  | nx ρ1=>exact fun σ1 θ1 H1 g1 _=>h .non θ1 H1 g1 rfl
  | bk ρ1=>exact h.elim
  | ct ρ1=>exact h.elim
end
section
variable {X:Cx}{e:Expr}{es:List Expr}{x:Str}{p pos:Pos}{k n:Nat}{f:Addr}{fd:FuncData}{ps:List Str}{F:FD}{ga:GA}
def ah (n:Nat)(F:FD)(ga:GA):GE:=fun ρ M=>(ga ρ M).bind fun ds M1=>if ds.length=n then F ds M1 else .bad
def BG (X:Cx):XK:=fun cls oa H'=>∃a C c θ M,oa=some a∧cls=.ref C∧cI X.K c C∧Wr X.K θ H' M∧dN X θ H' c M
theorem k8:ma (jJ X.prog X.w) X (BG X):=fun ag σ H s e s' I h=>by
 obtain⟨a,C,H',rfl,fl,a',C',c,θ,M,e1,e2,kC,hw,ok⟩:=sJ I h;cases e1;cases e2;exact ok C θ H' a s' kC (.refl hw) fl
theorem sr {θ:List Addr}{H:Hp}{c:Str}{M:au}(h:dN X θ H c M):Bv X.K θ H (BG X) c M:=fun C θ' H' a kC g=>⟨a,C,c,θ',M,rfl,rfl,kC,g.wr,h.go g⟩
theorem yv (Fn:fE X.prog X.w X.K X.mg X.base (jJ X.prog X.w) k f fd ps (nJ X.K n F))(hr:dm k X.A)(hg:Gl X x)(hm:X.mg x=some (.ref f))(hk:W.keepIn X.K (.ref f)=true)(hb:fO X.K fd ps [])
  (ha:PA X (e::es) (tA X ga)) (hdb:(x==("__debug__":Str))=false:=by decide) (he:starEach (e::es) X.env=(false,eval e X.env)::starEach es X.env:=by rfl) (hpl:(backTo pos (starEach es X.env)).any (·.1)=false:=by rfl) :
  PE X (.Call (.Name x p) (e::es) [] pos) (tE X (ah n F ga)):=(xx Fn hr hg hm hk hb .nil k8 ha hdb he hpl).of fun σ H Q hxx=>by
 obtain⟨ρ,θ,M,hd,hw,h⟩:=hxx;refine jT hd hw (bg X θ H Q) (fun c M' h=>h) (fun h=>h) h fun ds M1 vs θ1 H1 g1 r1 h1=>?_
 by_cases hl:ds.length=n
 ·rw[if_pos hl] at h1;refine⟨θ1,M1,ds,hl,by rw[append_nil];exact r1,g1.wr,?_⟩;have h2:=bg.go g1 h1;cases q:F ds M1 with
  | ok d M2=>rw[q] at h2;exact h2
  | err c M2=>rw[q] at h2;exact sr h2
  | bad=>rw[q] at h2;exact h2
 ·rw[if_neg hl] at h1;exact h1.elim
def rC (X:Cx)(F:FD):List V→Hp→VK→Prop:=fun xs H Q=>∃θ M ds,Wr X.K θ H M∧bI X.K θ H ds xs∧bg X θ H Q (F ds M)
def aq (F:FD)(ga:GA):GE:=fun ρ M=>(ga ρ M).bind F
theorem vc {σ:L2.St}{H:Hp}{Q:VK}(h:tE X (aq F ga) σ H Q):EA (rC X F) (tA X ga) σ H Q:=by
 obtain⟨ρ,θ,M,hd,hw,h⟩:=h;exact jT hd hw (bg X θ H Q) (fun c M' h=>h) (fun h=>h) h fun ds M1 vs θ1 H1 g1 r1 h1=>⟨θ1,M1,ds,g1.wr,r1,bg.go g1 h1⟩
theorem vY {id:String}(hc:dj X (.builtin id) (rC X F))(hg:Gl X x)(hm:X.mg x=none)(hv:bootBuiltins x=some (.builtin id))(ha:PA X (e::es) (tA X ga))(hn:x≠"__name__":=by decide)(hdb:(x==("__debug__":Str))=false:=by decide)
  (he:starEach (e::es) X.env=(false,eval e X.env)::starEach es X.env:=by rfl) (hpl:(backTo pos (starEach es X.env)).any (·.1)=false:=by rfl):PE X (.Call (.Name x p) (e::es) [] pos) (tE X (aq F ga)):=
 (j4 hc hg hm hv ha hn hdb he hpl).of fun σ H Q h=>vc h
theorem sP {T:String}(hc:dj X (.type T) (rC X F))(hg:Gl X x)(hm:X.mg x=none)(hv:bootBuiltins x=some (.type T))(ha:PA X (e::es) (tA X ga))(hn:x≠"__name__":=by decide)(hdb:(x==("__debug__":Str))=false:=by decide)
  (he:starEach (e::es) X.env=(false,eval e X.env)::starEach es X.env:=by rfl) (hpl:(backTo pos (starEach es X.env)).any (·.1)=false:=by rfl):PE X (.Call (.Name x p) (e::es) [] pos) (tE X (aq F ga)):=
 (tY hc hg hm hv ha hn hdb he hpl).of fun σ H Q h=>vc h
end
section
variable {prog:Program}{w:World}{A:Around}{E:Value→Shared→Prop}{s:Shared}
theorem wA {t b:Addr}{ws:List Value}{Q:Value→Shared→Prop}(ht:IsTup s.heap t #[])(hb:IsTup s.heap b ws.toArray)
  (h:Q (.ref b) s):wpAny (model prog w) A (binaryOp .Add (.ref t) (.ref b)) Q E s:=by
 obtain⟨⟨cls,dd,data,sl⟩,ho,hc,n,hd⟩:=id ht;obtain⟨⟨cls2,dd2,data2,sl2⟩,ho2,hc2,n2,hd2⟩:=id hb;simp only at hc hd hc2 hd2;subst hc hd hc2 hd2;exact concat_meets ⟨_,ho,rfl⟩ ⟨_,ho2,rfl⟩ noFill_tuple_add seq_tuple_add PySem.F.slot_tuple_add PySem.F.entry_tuple_add (PySem.F.args_tuple_add_2 _ _)
   (tuple_addW0 t b #[] ws.toArray n n2 dd dd2 sl sl2 (by simp)) ⟨ho,ho2,h⟩
theorem jk {t sl:Addr}{items:Array Value}{vl vu:Value}{lo hi:Option Int}{Q:Value→Shared→Prop}(ht:IsTup s.heap t items)(hs:s.heap.IsSliceOf sl vl vu .none)(pl:IsPart vl lo)(pu:IsPart vu hi)
  (hw:HT.sIx items.size 0 lo=0∧HT.sIx items.size items.size hi=items.size) (h:Q (.ref t) s):wpAny (model prog w) A (getItem (.ref t) (.ref sl)) Q E s:=by
 obtain⟨os,hos,hcs,hds⟩:=id hs;have hTs:s.TypeIs (.ref sl) "slice":=⟨os,hos,hcs⟩;unfold getItem
 try with_reducible refine wpAny_holding ?_
 first|refine wpAny_bind (wpAny_pure ?_)|skip
 refine wpAny_bind (wpAny_sequenceKey ht.typeIs (by decide) ?_);refine wpAny_bind (wpAny_callSpecial?_slot (name:=Str.ofString "__getitem__") ht.typeIs PyProof.Rows.slot_tuple_getitem
  (wpAny_call_entry PyProof.Rows.slot_tuple_getitem ht.typeIs entry_tuple_getitem ?_ (args_tuple_getitem _ _)))
 show wpAny _ _ (Builtin.Tuple.tupleItemsOf (.ref t) >>= _) _ _ s;refine wpAny_bind (tupleItemsOf_ ht ?_);refine wpAny_bind (wpAny_typeOf hTs ?_);rw[if_pos (by decide)];refine wpAny_bind (HT.sliceApplied_gen hs pl pu ?_);have hyes:(((HT.sIx items.size 0 lo:Nat):Int)==0&&(1:Int)==1&&(HT.sIx items.size items.size hi-HT.sIx items.size 0 lo)==items.size)=true:=by
  rw[hw.1,hw.2];simp
 show wpAny _ _ (if(((HT.sIx items.size 0 lo:Nat):Int)==0&&(1:Int)==1&&(HT.sIx items.size items.size hi-HT.sIx items.size 0 lo)==items.size)=true then _ else _) _ _ s;rw[if_pos hyes];unfold Builtin.Tuple.tupleIsExact;refine wpAny_bind (wpAny_bind (wpAny_typeOf ht.typeIs (wpAny_pure ?_)));rw[if_pos (by decide)]
 first
  | exact wpAny_bind (wpAny_rule (wpAny_bind (wpAny_pure ⟨_,rfl,wpAny_pure h⟩)))
  | exact wpAny_bind (wpAny_rule (wpAny_pure ⟨_,rfl,wpAny_pure h⟩))
  | exact wpAny_bind (wpAny_rule (wpAny_bind (wpAny_pure (wpAny_pure ⟨_,rfl,wpAny_pure h⟩))))
end
def pL (d:D)(M:au):Option (List D):=match d with
 | .lst xs=>some xs
 | .mr k=>match M[k]? with
  | some (.lst xs)=>some xs
  | _=>none
 | _=>none
def aW:F2:=fun x y M=>match x,y with
 | .int i,.int j=>.ok (.int (i+j)) M
 | .str a,.str b=>if a.length+b.length≤sizeLine then .ok (.str (a++b)) M else .bad
 | .tup a,.tup b=>if a.length+b.length≤sizeLine then .ok (.tup (a++b)) M else .bad
 | .bl a,.int j=>.ok (.int ((if a=true then 1 else 0)+j)) M
 | x,y=>match pL x M,pL y M with
  | some a,some b=>if a.length+b.length≤sizeLine then .ok (.lst (a++b)) M else .bad
  | _,_=>.bad
def nU:F2:=fun x y M=>match pL x M,pL y M with
 | some a,some b=>if a.length+b.length≤sizeLine then .ok (.mr M.length) (M++[.lst (a++b)]) else .bad
 | _,_=>.bad
theorem rJ {K:W.Frag}{θ:List Addr}{H:Hp}{M:au}{d:D}{xs:List D}{v:V}(hw:Wr K θ H M)(r:et K θ H d v)(e:pL d M=some xs):∃a vs,v=.ref a∧H a=some (.lst vs)∧bI K θ H xs vs:=by
 cases d with
 | lst ys=>cases e;obtain⟨a,vs,ea,ta,ra⟩:=r;exact⟨a,vs,ea,ta.1,ra⟩
 | mr k=>
  obtain⟨a,ea,ta⟩:=r;have e:(match M[k]? with|some (.lst xs)=>some xs|_=>none)=some xs:=e;cases q:M[k]? with
  | none=>rw[q] at e;cases e
  | some m=>
   cases m with
   | lst ys=>
    rw[q] at e;cases e;obtain⟨vs,hv,ra⟩:=hw.at_ k a _ ta q;exact⟨a,vs,ea,hv,ra⟩
   | _=>rw[q] at e;cases e
 | _=>cases e
def gR:F2:=fun x y M=>match x,y with
 | .int i,.int j=>.ok (.int (i-j)) M
 | _,_=>.bad
def eY:F2:=fun x y M=>match x,y with
 | .int i,.int j=>if(-(2 ^ 64)<i∧i<2 ^ 64)∨(-(2 ^ 64)<j∧j<2 ^ 64) then .ok (.int (i*j)) M else .bad
 | _,_=>.bad
def dO:F2:=fun x y M=>match x,y with
 | .int i,.int j=>if 0<j∧j.natAbs.log2<9000 then .ok (.int (i / j)) M else .bad
 | _,_=>.bad
def gS:F2:=fun x y M=>match x,y with
 | .int i,.int j=>if 0<j then .ok (.int (i % j)) M else .bad
 | _,_=>.bad
def li:F2:=fun x y M=>match x,y with
 | .int i,.int j=>if 0≤j∧j≤1000000∧i.natAbs<2 ^ 64 then .ok (.int (i ^ j.toNat)) M else .bad
 | _,_=>.bad
section
variable {X:Cx}
theorem Aw:gz X (binaryOp .Add) (rD X aW):=by
 intro ag s σ H x y v u Q I rx ry h;obtain⟨θ,M,dx,dy,hw,r1,r2,h⟩:=h;unfold aW at h;split at h
 ·rename_i i j;exact AZ ag s σ H x y v u Q I rx ry ⟨i,j,r1,r2,h _ θ H (.refl hw) rfl⟩
 ·rename_i a b;split at h
  ·rename_i hl;exact p7 ag s σ H x y v u Q I rx ry ⟨a,b,r1,r2,hl,h _ θ H (.refl hw) rfl⟩
  ·exact h.elim
 ·rename_i as bs;split at h
  ·rename_i hl;obtain⟨a,vs,ea,ta,ra⟩:=r1;obtain⟨b,us,eb,tb,rb⟩:=r2
   by_cases hv:vs=[]
   ·subst hv;have e0:as=[]:=length_eq_zero_iff.mp (av ra);subst e0;subst ea;subst eb;cases rx;cases ry;obtain⟨its,q1,p1,_⟩:=I.tuple ta.sq;obtain⟨its2,q2,p2,_⟩:=I.tuple tb.sq;cases q1;exact wA p1 p2 ⟨.ref b,H,I,rfl,h _ θ H (.refl hw) ⟨b,us,rfl,tb,rb⟩⟩
   ·refine xB ag s σ H x y v u Q I rx ry ⟨a,b,vs,us,ea,eb,ta.sq,tb.sq,hv,by rw[←av ra,←av rb];exact hl,fun hu=>?_,fun _ p hp=>h _ θ _ (eO hw hp) (io hw hp (eo ra rb))⟩;subst hu;have e0:bs=[]:=length_eq_zero_iff.mp (av rb);subst e0;exact h _ θ H (.refl hw) ⟨a,vs,rfl,ta,by rw[append_nil];exact ra⟩
  ·exact h.elim
 ·rename_i a j;have e1:x=.bl a:=r1;have e2:y=.int j:=r2;subst e1;subst e2;cases rx;obtain⟨t',rfl⟩:=ry;exact IntBool.add_bool_int ⟨.int _,H,I.tok _,⟨_,rfl⟩,h _ θ H (.refl hw) rfl⟩
 ·split at h
  ·rename_i as bs q1 q2;split at h
   ·rename_i hl;obtain⟨a,vs,ea,ta,ra⟩:=rJ hw r1 q1;obtain⟨b,us,eb,tb,rb⟩:=rJ hw r2 q2;exact ve ag s σ H x y v u Q I rx ry ⟨a,b,vs,us,ea,eb,ta,tb,by rw[←av ra,←av rb];exact hl,fun p hp=>h _ θ _ (eO hw hp) (ja hw hp (eo ra rb))⟩
   ·exact h.elim
  ·exact h.elim
theorem pj {K:W.Frag}{θ:List Addr}{H H':Hp}{M:au}{p:Addr}(hw:Wr K θ H M):et K (θ++[p]) H' (.mr M.length) (.ref p):=by
 refine⟨p,rfl,?_⟩;rw[←hw.len,getElem?_append_right (Nat.le_refl _)];simp
theorem xR:gz X (binaryOp .Add) (rD X nU):=by
 intro ag s σ H x y v u Q I rx ry h;obtain⟨θ,M,dx,dy,hw,r1,r2,h⟩:=h;unfold nU at h;split at h
 ·rename_i as bs q1 q2;split at h
  ·rename_i hl;obtain⟨a,vs,ea,ta,ra⟩:=rJ hw r1 q1;obtain⟨b,us,eb,tb,rb⟩:=rJ hw r2 q2;exact ve ag s σ H x y v u Q I rx ry ⟨a,b,vs,us,ea,eb,ta,tb,by rw[←av ra,←av rb];exact hl,fun p hp=>h _ _ _ (ww hw hp (eo ra rb)) (pj hw)⟩
  ·exact h.elim
 ·exact h.elim
theorem AY:gz X (binaryOp .Sub) (rD X gR):=by
 intro ag s σ H x y v u Q I rx ry h;obtain⟨θ,M,dx,dy,hw,r1,r2,h⟩:=h;unfold gR at h;split at h
 ·rename_i i j;exact zK ag s σ H x y v u Q I rx ry ⟨i,j,r1,r2,h _ θ H (.refl hw) rfl⟩
 ·exact h.elim
theorem BL:gz X (binaryOp .Mult) (rD X eY):=by
 intro ag s σ H x y v u Q I rx ry h;obtain⟨θ,M,dx,dy,hw,r1,r2,h⟩:=h;unfold eY at h;split at h
 ·rename_i i j;split at h
  ·rename_i hc;exact zB ag s σ H x y v u Q I rx ry ⟨i,j,r1,r2,hc,h _ θ H (.refl hw) rfl⟩
  ·exact h.elim
 ·exact h.elim
theorem wN:gz X (binaryOp .FloorDiv) (rD X dO):=by
 intro ag s σ H x y v u Q I rx ry h;obtain⟨θ,M,dx,dy,hw,r1,r2,h⟩:=h;unfold dO at h;split at h
 ·rename_i i j;split at h
  ·rename_i hc;have e1:x=.int i:=r1;have e2:y=.int j:=r2;subst e1;subst e2;obtain⟨t,rfl⟩:=rx;obtain⟨t',rfl⟩:=ry;have h1:(0:Int)<j:=hc.1;exact floordiv_int (by omega) (by rw[Int.fdiv_eq_ediv_of_nonneg i (by omega)];exact⟨.int (i / j),H,I.tok _,⟨_,rfl⟩,h _ θ H (.refl hw) rfl⟩) (.inl (PyProof.noPylong_of_log2 hc.2))
  ·exact h.elim
 ·exact h.elim
theorem z9:gz X (binaryOp .Mod) (rD X gS):=by
 intro ag s σ H x y v u Q I rx ry h;obtain⟨θ,M,dx,dy,hw,r1,r2,h⟩:=h;unfold gS at h;split at h
 ·rename_i i j;split at h
  ·rename_i hc;exact zW ag s σ H x y v u Q I rx ry ⟨i,j,r1,r2,hc,h _ θ H (.refl hw) rfl⟩
  ·exact h.elim
 ·exact h.elim
theorem zF:gz X (binaryOp .Pow) (rD X li):=by
 intro ag s σ H x y v u Q I rx ry h;obtain⟨θ,M,dx,dy,hw,r1,r2,h⟩:=h;unfold li at h;split at h
 ·rename_i i j;split at h
  ·rename_i hc;exact Bw ag s σ H x y v u Q I rx ry ⟨i,j,r1,r2,hc,h _ θ H (.refl hw) rfl⟩
  ·exact h.elim
 ·exact h.elim
def eI (g:GE):GE:=fun ρ M=>(g ρ M).bind fun x M1=>match x with
 | .int i=>.ok (.int (-i)) M1
 | _=>.bad
theorem BQ {a:Expr}{pos:Pos}{g:GE}(ha:PE X a (tE X g)):PE X (.UnaryOp .USub a pos) (tE X (eI g)):=(D6 AC ha).of fun σ H Q hxx=>by
 obtain⟨ρ,θ,M,hd,hw,h⟩:=hxx;refine cm hd hw (bg X θ H Q) (fun c M' h=>h) (fun h=>h) h fun d M1 v θ1 H1 g1 r1 h1=>?_
 split at h1
 ·rename_i i;exact⟨i,r1,h1 _ θ1 H1 g1 rfl⟩
 ·exact h1.elim
theorem Br {a:Expr}{pos:Pos}{g:GE}(ha:PE X a (tE X g)):PE X (.UnaryOp .Not a pos) (tE X (om (aH g))):=(BC ha).of fun σ H Q hxx=>by
 obtain⟨ρ,θ,M,hd,hw,h⟩:=hxx;refine⟨ρ,θ,M,hd,hw,?_⟩;unfold om aH at h;cases q:g ρ M with
 | ok d M1=>
  rw[q] at h;cases d with
  | bl b=>exact fun v θ1 H1 g1 r1=>⟨b,r1,h _ θ1 H1 g1 rfl⟩
  | _=>exact h.elim
 | err c M1=>rw[q] at h;exact h
 | bad=>rw[q] at h;exact h
def ni:F2:=fun x y M=>match x,y with
 | .int i,.int j=>.ok (.bl (decide (i<j))) M
 | _,_=>.bad
def jb:F2:=fun x y M=>match x,y with
 | .int i,.int j=>.ok (.bl (decide (i≤j))) M
 | _,_=>.bad
def jV:F2:=fun x y M=>match x,y with
 | .int i,.int j=>.ok (.bl (decide (j<i))) M
 | _,_=>.bad
def xt:F2:=fun x y M=>match x,y with
 | .int i,.int j=>.ok (.bl (decide (j≤i))) M
 | _,_=>.bad
theorem Ed:gz X (compareOp .Lt) (rD X ni):=by
 intro ag s σ H x y v u Q I rx ry h;obtain⟨θ,M,dx,dy,hw,r1,r2,h⟩:=h;unfold ni at h;split at h
 ·rename_i i j;exact D7 ag s σ H x y v u Q I rx ry ⟨i,j,r1,r2,h _ θ H (.refl hw) rfl⟩
 ·exact h.elim
theorem DE:gz X (compareOp .LtE) (rD X jb):=by
 intro ag s σ H x y v u Q I rx ry h;obtain⟨θ,M,dx,dy,hw,r1,r2,h⟩:=h;unfold jb at h;split at h
 ·rename_i i j;exact Cs ag s σ H x y v u Q I rx ry ⟨i,j,r1,r2,h _ θ H (.refl hw) rfl⟩
 ·exact h.elim
theorem C7:gz X (compareOp .Gt) (rD X jV):=by
 intro ag s σ H x y v u Q I rx ry h;obtain⟨θ,M,dx,dy,hw,r1,r2,h⟩:=h;unfold jV at h;split at h
 ·rename_i i j;exact Dh ag s σ H x y v u Q I rx ry ⟨i,j,r1,r2,h _ θ H (.refl hw) rfl⟩
 ·exact h.elim
theorem Ej:gz X (compareOp .GtE) (rD X xt):=by
 intro ag s σ H x y v u Q I rx ry h;obtain⟨θ,M,dx,dy,hw,r1,r2,h⟩:=h;unfold xt at h;split at h
 ·rename_i i j;exact Dx ag s σ H x y v u Q I rx ry ⟨i,j,r1,r2,h _ θ H (.refl hw) rfl⟩
 ·exact h.elim
def Cp (d c:D):Option Bool:=match c,d with
 | .non,.non=>some true
 | .non,.any=>none
 | .non,_=>some false
 | .bl b,.bl b'=>some (b'==b)
 | .bl _,.non=>some false
 | .bl _,.int _=>some false
 | .bl _,.str _=>some false
 | .bl _,.tup _=>some false
 | .bl _,.lst _=>some false
 | .bl _,.ro _=>some false
 | .bl _,.mr _=>some false
 | _,_=>none
def fB (neg:Bool):F2:=fun x y M=>match Cp x y with
 | some b=>.ok (.bl (b != neg)) M
 | none=>.bad
def VS:D→Value→Prop
 | .non,v=>v=.none
 | .bl b,v=>v=.bool b
 | .int i,v=>∃t,v=.int i t
 | .str i,v=>∃t,v=.str i t
 | .any,_=>True
 | _,v=>∃a,v=.ref a
theorem yR {K:W.Frag}{θ:List Addr}{H:Hp}{d:D}{x:V}{v:Value}(r:et K θ H d x)(q:RelV x v):VS d v:=by
 cases d with
 | non=>have e:x=.non:=r;rw[e] at q;exact q
 | bl b=>have e:x=.bl b:=r;rw[e] at q;exact q
 | int i=>have e:x=.int i:=r;rw[e] at q;exact q
 | str i=>have e:x=.str i:=r;rw[e] at q;exact q
 | any=>trivial
 | tup ds=>obtain⟨a,_,e,_⟩:=r;rw[e] at q;exact⟨a,q⟩
 | lst ds=>obtain⟨a,_,e,_⟩:=r;rw[e] at q;exact⟨a,q⟩
 | ro ds=>obtain⟨a,_,e,_⟩:=r;rw[e] at q;exact⟨a,q⟩
 | mr k=>obtain⟨a,e,_⟩:=r;rw[e] at q;exact⟨a,q⟩
 | exc c=>obtain⟨a,_,e,_⟩:=r;rw[e] at q;exact⟨a,q⟩
theorem fn {α:Type}{b:α}{P:Prop}(h:none=some b):P:=nomatch h
theorem rZ {v u:Value}{b:Bool}(h:some false=some b)(k:plainIs v u=true∧(v==u)=false):plainIs v u=true∧(v==u)=b:=Option.some.inj h▸k
theorem Dp {dx dy:D}{v u:Value}{b:Bool}(p:VS dx v)(q:VS dy u)(h:Cp dx dy=some b):plainIs v u=true∧(v==u)=b:=by
 cases dy with
 | non=>
  rw[show u=.none from q];cases dx with
  | non=>rw[show v=.none from p];exact Option.some.inj (show some true=some b from h)▸⟨rfl,rfl⟩
  | bl b=>rw[show v=.bool b from p];exact rZ h ⟨rfl,rfl⟩
  | any=>exact fn h
  | _=>obtain⟨t,e⟩:=p;rw[e];exact rZ h ⟨rfl,rfl⟩
 | bl c=>
  rw[show u=.bool c from q];cases dx with
  | non=>rw[show v=.none from p];exact rZ h ⟨rfl,rfl⟩
  | bl b=>
   rw[show v=.bool b from p,←Option.some.inj h];refine⟨rfl,?_⟩;cases b <;> cases c <;> rfl
  | any=>exact fn h
  | exc _=>exact fn h
  | _=>obtain⟨t,e⟩:=p;rw[e];exact rZ h ⟨rfl,rfl⟩
 | _=>exact fn h
theorem wI {K:W.Frag}{θ:List Addr}{H:Hp}{dx dy:D}{x y:V}{v u:Value}{b:Bool}(r1:et K θ H dx x)(r2:et K θ H dy y)(rx:RelV x v)(ry:RelV y u)(h:Cp dx dy=some b) :
  plainIs v u=true∧(v==u)=b:=Dp (yR r1 rx) (yR r2 ry) h
theorem Dk:gz X (compareOp .Is) (rD X (fB false)):=by
 intro ag s σ H x y v u Q I rx ry h;obtain⟨θ,M,dx,dy,hw,r1,r2,h⟩:=h;unfold fB at h;split at h
 ·rename_i b q;obtain⟨hp,e⟩:=wI r1 r2 rx ry q;refine wpAny_is_plain hp ?_;rw[e];refine⟨.bl b,H,I,rfl,?_⟩;have:=h (.bl (b != false)) θ H (.refl hw) rfl;rw[Bool.bne_false] at this;exact this
 ·exact h.elim
theorem vq:gz X (compareOp .IsNot) (rD X (fB true)):=by
 intro ag s σ H x y v u Q I rx ry h;obtain⟨θ,M,dx,dy,hw,r1,r2,h⟩:=h;unfold fB at h;split at h
 ·rename_i b q;obtain⟨hp,e⟩:=wI r1 r2 rx ry q;refine wpAny_isNot_plain hp ?_;rw[e];refine⟨.bl (!b),H,I,rfl,?_⟩;have:=h (.bl (b != true)) θ H (.refl hw) rfl;rw[Bool.bne_true] at this;exact this
 ·exact h.elim
mutual
def mM:D→PyData
 | .non=>.none
 | .bl b=>.bool b
 | .int i=>.int i
 | .str x=>.str x
 | .tup ds=>.tuple (kI ds)
 | .lst ds=>.list (kI ds)
 | .ro ds=>.list (kI ds)
 | .mr _=>.dict []
 | .exc _=>.dict []
 | .any=>.dict []
def kI:List D→List PyData
 | []=>[]
 | d::ds=>mM d::kI ds
end
mutual
def dI:Nat→D→Bool
 | _,.non=>true
 | _,.bl _=>true
 | _,.int _=>true
 | _,.str x=>PyData.strOk x
 | n+1,.tup ds=>cw n ds
 | n+1,.lst ds=>cw n ds
 | n+1,.ro ds=>cw n ds
 | _,_=>false
def cw:Nat→List D→Bool
 | _,[]=>true
 | n,d::ds=>dI n d&&cw n ds
end
mutual
def oB:D→D→Bool
 | .non,.non=>true
 | .bl a,.bl b=>a==b
 | .bl a,.int j=>(if a then 1 else 0)==j
 | .int i,.bl b=>i==(if b then 1 else 0)
 | .int i,.int j=>i==j
 | .str x,.str y=>x==y
 | .lst xs,.lst ys=>jz xs ys
 | .lst xs,.ro ys=>jz xs ys
 | .ro xs,.lst ys=>jz xs ys
 | .ro xs,.ro ys=>jz xs ys
 | .tup xs,.tup ys=>jz xs ys
 | _,_=>false
def jz:List D→List D→Bool
 | [],[]=>true
 | x::xs,y::ys=>oB x y&&jz xs ys
 | _,_=>false
end
mutual
theorem oK:∀(x y:D) (n m:Nat),dI n x=true→dI m y=true→PyData.eqv (mM x) (mM y)=oB x y
 | .non,y,n,m,hx,hy=>by cases y <;> rfl
 | .bl a,y,n,m,hx,hy=>by cases y <;> rfl
 | .int a,y,n,m,hx,hy=>by cases y <;> rfl
 | .str a,y,n,m,hx,hy=>by cases y <;> rfl
 | .tup xs,y,n,m,hx,hy=>by
  cases n with
  | zero=>exact ff hx
  | succ n=>
   cases y with
   | tup ys=>
    cases m with
    | zero=>exact ff hy
    | succ m=>
     exact hG xs ys n m hx hy
   | _=>rfl
 | .lst xs,y,n,m,hx,hy=>by
  cases n with
  | zero=>exact ff hx
  | succ n=>
   cases y with
   | lst ys=>
    cases m with
    | zero=>exact ff hy
    | succ m=>
     exact hG xs ys n m hx hy
   | ro ys=>
    cases m with
    | zero=>exact ff hy
    | succ m=>
     exact hG xs ys n m hx hy
   | _=>rfl
 | .ro xs,y,n,m,hx,hy=>by
  cases n with
  | zero=>exact ff hx
  | succ n=>
   cases y with
   | lst ys=>
    cases m with
    | zero=>exact ff hy
    | succ m=>
     exact hG xs ys n m hx hy
   | ro ys=>
    cases m with
    | zero=>exact ff hy
    | succ m=>
     exact hG xs ys n m hx hy
   | _=>rfl
 | .mr a,y,n,m,hx,hy=>by cases n <;> exact ff hx
 | .exc a,y,n,m,hx,hy=>by cases n <;> exact ff hx
 | .any,y,n,m,hx,hy=>by cases n <;> exact ff hx
theorem hG:∀(x y:List D) (n m:Nat),cw n x=true→cw m y=true→PyData.eqvAll (kI x) (kI y)=jz x y
 | [],y,n,m,hx,hy=>by cases y <;> rfl
 | x::xs,y,n,m,hx,hy=>by
  cases y with
  | nil=>rfl
  | cons y ys=>
   have hx:=Bool.and_eq_true_iff.mp (show(dI n x&&cw n xs)=true from hx);have hy:=Bool.and_eq_true_iff.mp (show(dI m y&&cw m ys)=true from hy);show(PyData.eqv (mM x) (mM y)&&PyData.eqvAll (kI xs) (kI ys))=(oB x y&&jz xs ys);rw[oK x y n m hx.1 hy.1,hG xs ys n m hx.2 hy.2]
end
mutual
theorem jX:∀(d:D) (n:Nat),dI n d=true→(mM d).canLay0=true∧(mM d).depth≤n
 | .non,n,h=>by simp[mM,PyData.canLay0,PyData.depth]
 | .bl a,n,h=>by simp[mM,PyData.canLay0,PyData.depth]
 | .int a,n,h=>by simp[mM,PyData.canLay0,PyData.depth]
 | .str a,n,h=>by
  have:PyData.strOk a=true:=by cases n <;> exact h
  simp[mM,PyData.canLay0,PyData.depth,this]
 | .tup xs,n,h=>by
  cases n with
  | zero=>exact ff h
  | succ n=>
   have:=jK xs n h;simp only[mM,PyData.canLay0,PyData.depth];exact⟨this.1,by omega⟩
 | .lst xs,n,h=>by
  cases n with
  | zero=>exact ff h
  | succ n=>
   have:=jK xs n h;simp only[mM,PyData.canLay0,PyData.depth];exact⟨this.1,by omega⟩
 | .ro xs,n,h=>by
  cases n with
  | zero=>exact ff h
  | succ n=>
   have:=jK xs n h;simp only[mM,PyData.canLay0,PyData.depth];exact⟨this.1,by omega⟩
 | .mr a,n,h=>by cases n <;> exact ff h
 | .exc a,n,h=>by cases n <;> exact ff h
 | .any,n,h=>by cases n <;> exact ff h
theorem jK:∀(ds:List D) (n:Nat),cw n ds=true→PyData.canLayAll0 (kI ds)=true∧PyData.depthAll (kI ds)≤n
 | [],n,h=>by simp[kI,PyData.canLayAll0,PyData.depthAll]
 | d::ds,n,h=>by
  have h:=Bool.and_eq_true_iff.mp (show(dI n d&&cw n ds)=true from h);have h1:=jX d n h.1;have h2:=jK ds n h.2;simp only[kI,PyData.canLayAll0,PyData.depthAll,Bool.and_eq_true];exact⟨⟨h1.1,h2.1⟩,by omega⟩
end
mutual
theorem pe {ag:List (Addr×Obj)}{s:Shared}{σ:L2.St}{H:Hp}{θ:List Addr}(I:Inv X ag σ H s):∀(d:D) (n:Nat) (v:V) (u:Value),dI n d=true→et X.K θ H d v→RelV v u→∃as,Reads s.heap u (mM d) as
 | .non,n,v,u,h,r,q=>by have e:v=.non:=r;subst e;cases q;exact⟨_,.none⟩
 | .bl a,n,v,u,h,r,q=>by have e:v=.bl a:=r;subst e;cases q;exact⟨_,.bool a⟩
 | .int a,n,v,u,h,r,q=>by have e:v=.int a:=r;subst e;obtain⟨t,rfl⟩:=q;exact⟨_,.int a t⟩
 | .str a,n,v,u,h,r,q=>by have e:v=.str a:=r;subst e;obtain⟨t,rfl⟩:=q;exact⟨_,.str a t⟩
 | .tup xs,n,v,u,h,r,q=>by
  cases n with
  | zero=>exact ff h
  | succ n=>
   obtain⟨a,vs,e,ta,ra⟩:=r;subst e;cases q;obtain⟨its,rv,⟨o,h1,h2,m,h3⟩,_⟩:=I.tuple ta.sq;obtain⟨as,R⟩:=gV I xs n vs its h ra rv;exact⟨_,.tuple h1 h2 h3 (by simpa using R)⟩
 | .lst xs,n,v,u,h,r,q=>by
  cases n with
  | zero=>exact ff h
  | succ n=>
   obtain⟨a,vs,e,ta,ra⟩:=r;subst e;cases q;obtain⟨its,rv,⟨o,m,h1,h2,_,h3⟩,_⟩:=I.list (ta.sq (K:=X.K));obtain⟨as,R⟩:=gV I xs n vs its h ra rv;exact⟨_,.list h1 h2 h3 (by simpa using R)⟩
 | .ro xs,n,v,u,h,r,q=>by
  cases n with
  | zero=>exact ff h
  | succ n=>
   obtain⟨a,vs,e,ta,ra⟩:=r;subst e;cases q;obtain⟨its,rv,⟨o,m,h1,h2,_,h3⟩,_⟩:=I.list ta.sq;obtain⟨as,R⟩:=gV I xs n vs its h ra rv;exact⟨_,.list h1 h2 h3 (by simpa using R)⟩
 | .mr a,n,v,u,h,r,q=>by cases n <;> exact ff h
 | .exc a,n,v,u,h,r,q=>by cases n <;> exact ff h
 | .any,n,v,u,h,r,q=>by cases n <;> exact ff h
theorem gV {ag:List (Addr×Obj)}{s:Shared}{σ:L2.St}{H:Hp}{θ:List Addr}(I:Inv X ag σ H s):∀(ds:List D) (n:Nat) (vs:List V) (us:List Value),cw n ds=true→bI X.K θ H ds vs→bi vs us→∃as,ReadsAll s.heap us (kI ds) as
 | [],n,vs,us,h,r,q=>by have e:vs=[]:=r;subst e;cases q;exact⟨_,.nil⟩
 | d::ds,n,vs,us,h,r,q=>by
  have h:=Bool.and_eq_true_iff.mp (show(dI n d&&cw n ds)=true from h);obtain⟨v,rr,e,r1,r2⟩:=r;subst e;cases q with
  | cons q1 q2=>
   obtain⟨as,R1⟩:=pe I d n v _ h.1 r1 q1;obtain⟨bs,R2⟩:=gV I ds n rr _ h.2 r2 q2;exact⟨_,.cons R1 R2⟩
end
def now (d:D)(M:au):D:=match d with
 | .mr k=>match M[k]? with
  | some (.lst xs)=>.lst xs
  | _=>.mr k
 | d=>d
def aR (neg:Bool):F2:=fun x y M=>if dI 40 (now x M)&&dI 40 (now y M) then .ok (.bl (oB (now x M) (now y M) != neg)) M else .bad
theorem i7 {ag:List (Addr×Obj)}{s:Shared}{σ:L2.St}{H:Hp}{θ:List Addr}{M:au}(I:Inv X ag σ H s)(hw:Wr X.K θ H M){d:D}{n:Nat}{v:V}{u:Value}(h:dI n (now d M)=true)(r:et X.K θ H d v)(q:RelV v u):∃as,Reads s.heap u (mM (now d M)) as:=by
 cases d with
 | mr k=>
  obtain⟨a,e,ta⟩:=r;subst e;cases q;cases qm:M[k]? with
  | none=>
   have e:now (.mr k) M=.mr k:=by simp[now,qm]
   rw[e] at h;cases n <;> exact ff h
  | some m=>
   cases m with
   | lst xs=>
    have e:now (.mr k) M=.lst xs:=by simp[now,qm]
    rw[e] at h ⊢;cases n with
    | zero=>exact ff h
    | succ n=>
     obtain⟨vs,hv,ra⟩:=hw.at_ k a _ ta qm;obtain⟨its,rv,⟨o,m,h1,h2,_,h3⟩,_⟩:=I.list (X:=X) (xs:=vs) (.inl (.inl hv));obtain⟨as,R⟩:=gV I xs n vs its h ra rv;exact⟨_,.list h1 h2 h3 (by simpa using R)⟩
   | _=>
    have e:now (.mr k) M=.mr k:=by simp[now,qm]
    rw[e] at h;cases n <;> exact ff h
 | _=>exact pe I _ n v u h r q
theorem DM (hu:X.A.units+64<cLine):gz X (compareOp .Eq) (rD X (aR false)):=by
 intro ag s σ H x y v u Q I rx ry h;obtain⟨θ,M,dx,dy,hw,r1,r2,h⟩:=h;unfold aR at h;split at h
 ·rename_i hc;rw[Bool.and_eq_true] at hc;obtain⟨as,R1⟩:=i7 I hw hc.1 r1 rx;obtain⟨bs,R2⟩:=i7 I hw hc.2 r2 ry;have l1:=jX _ _ hc.1;have l2:=jX _ _ hc.2;refine SeqAt.compareEq_reads R1 R2 l1.1 l2.1 (by have:=l1.2;have:min (mM (now dx M)).depth (mM (now dy M)).depth≤(mM (now dx M)).depth:=Nat.min_le_left _ _;omega) ?_;rw[oK _ _ _ _ hc.1 hc.2];refine⟨.bl _,H,I,rfl,?_⟩;have:=h _ θ H (.refl hw) rfl;rw[Bool.bne_false] at this;exact this
 ·exact h.elim
theorem De (hu:X.A.units+64<cLine):gz X (compareOp .NotEq) (rD X (aR true)):=by
 intro ag s σ H x y v u Q I rx ry h;obtain⟨θ,M,dx,dy,hw,r1,r2,h⟩:=h;unfold aR at h;split at h
 ·rename_i hc;rw[Bool.and_eq_true] at hc;obtain⟨as,R1⟩:=i7 I hw hc.1 r1 rx;obtain⟨bs,R2⟩:=i7 I hw hc.2 r2 ry;have l1:=jX _ _ hc.1;have l2:=jX _ _ hc.2;refine SeqAt.compareNe_reads R1 R2 l1.1 l2.1 (by have:=l1.2;have:min (mM (now dx M)).depth (mM (now dy M)).depth≤(mM (now dx M)).depth:=Nat.min_le_left _ _;omega) ?_;rw[oK _ _ _ _ hc.1 hc.2];refine⟨.bl _,H,I,rfl,?_⟩;have:=h _ θ H (.refl hw) rfl;rw[Bool.bne_true] at this;exact this
 ·exact h.elim
def cq (d:D)(M:au):Option (List D):=match d with
 | .tup xs=>some xs
 | .lst xs=>some xs
 | .ro xs=>some xs
 | .mr k=>match M[k]? with
  | some (.lst xs)=>some xs
  | _=>none
 | _=>none
def aK:F2:=fun x y M=>match cq x M,y with
 | some xs,.int i=>match kT xs i with
  | some d=>.ok d M
  | none=>.bad
 | _,_=>.bad
theorem uR {K:W.Frag}{θ:List Addr}{H:Hp}{ds:List D}{vs:List V}{i:Int}{d:D}(r:bI K θ H ds vs)(e:kT ds i=some d):∃v,kT vs i=some v∧et K θ H d v:=by
 unfold kT at e ⊢;rw[←av r];cases q:wK ds.length i with
 | none=>rw[q] at e;cases e
 | some j=>
  rw[q] at e;exact fH r e
theorem n8 {K:W.Frag}{θ:List Addr}{H:Hp}{M:au}{d:D}{xs:List D}{v:V}(hw:Wr K θ H M)(r:et K θ H d v)(e:cq d M=some xs):∃a vs,v=.ref a∧(kU K H a vs∨j9 K H a vs)∧bI K θ H xs vs:=by
 cases d with
 | tup ds=>obtain⟨a,vs,e1,ta,ra⟩:=r;cases e;exact⟨a,vs,e1,.inr ta.sq,ra⟩
 | lst ds=>obtain⟨a,vs,e1,ta,ra⟩:=r;cases e;exact⟨a,vs,e1,.inl ta.sq,ra⟩
 | ro ds=>obtain⟨a,vs,e1,ta,ra⟩:=r;cases e;exact⟨a,vs,e1,.inl ta.sq,ra⟩
 | mr k=>
  obtain⟨a,e1,ta⟩:=r;have e:(match M[k]? with|some (.lst xs)=>some xs|_=>none)=some xs:=e;cases qm:M[k]? with
  | none=>rw[qm] at e;cases e
  | some m=>
   cases m with
   | lst ys=>
    rw[qm] at e;cases e;obtain⟨vs,hv,ra⟩:=hw.at_ k a _ ta qm;exact⟨a,vs,e1,.inl (.inl (.inl hv)),ra⟩
   | _=>rw[qm] at e;cases e
 | _=>cases e
theorem C0:Ep X (rD X aK):=by
 intro value slice ag s σ H x y v u Q I rx ry h hs;obtain⟨θ,M,dx,dy,hw,r1,r2,h⟩:=h;unfold aK at h;split at h
 ·rename_i xs i q;split at h
  ·rename_i d qd;obtain⟨a,vs,ea,sq,ra⟩:=n8 hw r1 q;obtain⟨z,ez,rz⟩:=uR ra qd;have hq:=h z θ H (.refl hw) rz;rcases sq with sq|sq
   ·exact xN value slice ag s σ H x y v u Q I rx ry ⟨a,vs,i,z,ea,r2,sq,ez,hq⟩ hs
   ·exact Ba value slice ag s σ H x y v u Q I rx ry ⟨a,vs,i,z,ea,r2,sq,ez,hq⟩ hs
  ·exact h.elim
 ·exact h.elim
theorem CD {a b:Expr}{pos:Pos}{ga gb:GE}(ha:PE X a (tE X ga))(hb:PE X b (tE X gb))(hs:ol b:=by intro _ _;rfl):PE X (.Subscript a b pos) (tE X (g2 aK ga gb)):=
 (Dj C0 ha hb hs).of fun _ _ _ h=>rW h
def cP (xs:List D)(lo hi:Option Int):List D:=(xs.drop (HT.sIx xs.length 0 lo)).take (HT.sIx xs.length xs.length hi-HT.sIx xs.length 0 lo)
def mH (x:D)(lo hi:Option Int)(M:au):bw D:=match x with
 | .tup xs=>.ok (.tup (cP xs lo hi)) M
 | .lst xs=>.ok (.lst (cP xs lo hi)) M
 | .ro xs=>.ok (.lst (cP xs lo hi)) M
 | .mr k=>match M[k]? with
  | some (.lst xs)=>.ok (.lst (cP xs lo hi)) M
  | _=>.bad
 | _=>.bad
abbrev GO:=bU→au→bw (Option Int)
def aT:GO:=fun _ M=>.ok none M
def bR (g:GE):GO:=fun ρ M=>(g ρ M).bind fun d M1=>match d with
 | .int i=>.ok (some i) M1
 | _=>.bad
def En (X:Cx)(θ:List Addr)(H:Hp)(Q:Option Int→Hp→Prop):bw (Option Int)→Prop
 | .ok b M'=>∀θ' H',Go X.K θ H θ' H' M'→Q b H'
 | .err c M'=>dN X θ H c M'
 | .bad=>False
def tO (X:Cx)(g:GO):TO:=fun σ H Q=>∃ρ θ M,im X.K θ H σ ρ∧Wr X.K θ H M∧En X θ H Q (g ρ M)
theorem _root_.L2.PO.of {e:Option Expr}{t t':TO}(h:PO X e t)(w:∀σ H Q,t' σ H Q→t σ H Q):PO X e t':=fun ag s σ H Q I q=>h ag s σ H Q I (w σ H Q q)
theorem xV:PO X none (tO X aT):=xL.of fun σ H Q ⟨ρ,θ,M,hd,hw,f⟩=>f θ H (.refl hw)
theorem wX {e:Expr}{g:GE}(h:PE X e (tE X g)):PO X (some e) (tO X (bR g)):=(ya h).of fun σ H Q hxx=>by
 obtain⟨ρ,θ,M,hd,hw,h⟩:=hxx;refine cm hd hw (En X θ H Q) (fun c M' h=>h) (fun h=>h) h fun d M1 v θ1 H1 g1 r1 h1=>?_
 split at h1
 ·rename_i i;exact⟨i,r1,h1 θ1 H1 g1⟩
 ·exact h1.elim
theorem zd {g:GO}{σ:L2.St}{H:Hp}{Q:Option Int→Hp→Prop}{α:Type}{ρ:bU}{θ:List Addr}{M:au}(hd:im X.K θ H σ ρ)(hw:Wr X.K θ H M)(F:bw α→Prop)(Fe:∀c M',F (.err c M')→dN X θ H c M')(Fb:F .bad→False)
  {f:Option Int→au→bw α} (h:F ((g ρ M).bind f)) (k:∀d M1 θ1 H1,Go X.K θ H θ1 H1 M1→F (f d M1)→Q d H1):tO X g σ H Q:=by
 refine⟨ρ,θ,M,hd,hw,?_⟩;cases q:g ρ M with
 | ok d M1=>
  rw[q] at h;exact fun θ1 H1 g1=>k d M1 θ1 H1 g1 h
 | err c M1=>rw[q] at h;exact Fe c M1 h
 | bad=>rw[q] at h;exact(Fb h).elim
def jh (g:GE)(gl gh:GO):GE:=fun ρ M=>(g ρ M).bind fun x M1=>(gl ρ M1).bind fun lo M2=>(gh ρ M2).bind fun hi M3=>mH x lo hi M3
def F4 (X:Cx):V→Option Int→Option Int→Hp→VK→Prop:=fun x lo hi H Q=>∃θ M d,Wr X.K θ H M∧et X.K θ H d x∧bg X θ H Q (mH d lo hi M)
theorem jR {K:W.Frag}{θ:List Addr}{H:Hp}{ds:List D}{vs:List V}(r:bI K θ H ds vs)(lo hi:Option Int):bI K θ H (cP ds lo hi) (o7 vs lo hi):=by
 unfold cP o7;rw[←av r];exact m8 _ (m9 _ r)
theorem EJ:Ex X (F4 X):=by
 intro ag s σ H x v vl vu lo hi sl Q I rx hs pl pu h;obtain⟨θ,M,d,hw,r,h⟩:=h;cases d with
 | tup ds=>
  obtain⟨a,vs,e,ta,ra⟩:=r
  by_cases hc:HT.sIx vs.length 0 lo=0∧HT.sIx vs.length vs.length hi=vs.length
  ·subst e;cases rx;obtain⟨its,rv,ht,hz⟩:=I.tuple ta.sq;have hlen:its.toArray.size=vs.length:=by rw[size_toArray];exact rv.length.symm
   refine⟨"tuple",_,PyProof.Rows.slot_tuple_getitem.lookup,ht.typeIs,?_⟩;refine jk ht hs pl pu (by rw[hlen];exact hc) ⟨.ref a,H,I,rfl,h _ θ H (.refl hw) ⟨a,vs,rfl,ta,?_⟩⟩;have e:cP ds lo hi=ds:=by
    unfold cP;rw[av ra,hc.1,hc.2,drop_zero,Nat.sub_zero,←av ra,take_length]
   rw[e];exact ra
  ·exact AE ag s σ H x v vl vu lo hi sl Q I rx hs pl pu ⟨a,vs,e,ta.sq,hc,fun p hp=>h _ θ _ (eO hw hp) (io hw hp (jR ra lo hi))⟩
 | lst ds=>
  obtain⟨a,vs,e,ta,ra⟩:=r;exact nR ag s σ H x v vl vu lo hi sl Q I rx hs pl pu ⟨a,vs,e,ta.sq,fun p hp=>h _ θ _ (eO hw hp) (ja hw hp (jR ra lo hi))⟩
 | ro ds=>
  obtain⟨a,vs,e,ta,ra⟩:=r;exact nR ag s σ H x v vl vu lo hi sl Q I rx hs pl pu ⟨a,vs,e,ta.sq,fun p hp=>h _ θ _ (eO hw hp) (ja hw hp (jR ra lo hi))⟩
 | mr k=>
  obtain⟨a,e,ta⟩:=r;have h:bg X θ H Q (match M[k]? with|some (.lst xs)=>.ok (.lst (cP xs lo hi)) M|_=>.bad):=h;cases qm:M[k]? with
  | none=>rw[qm] at h;exact h.elim
  | some m=>
   cases m with
   | lst ys=>
    rw[qm] at h;obtain⟨vs,hv,ra⟩:=hw.at_ k a _ ta qm;exact nR ag s σ H x v vl vu lo hi sl Q I rx hs pl pu ⟨a,vs,e,.inl (.inl hv),fun p hp=>h _ θ _ (eO hw hp) (ja hw hp (jR ra lo hi))⟩
   | _=>rw[qm] at h;exact h.elim
 | _=>exact h.elim
theorem v3 {e:Expr}{lo hi:Option Expr}{g:GE}{gl gh:GO}{p2 pos:Pos}(he:PE X e (tE X g))(hl:PO X lo (tO X gl))(hh:PO X hi (tO X gh)):PE X (.Subscript e (.Slice lo hi none p2) pos) (tE X (jh g gl gh)):=
 (vh EJ he hl hh).of fun σ H Q hxx=>by
  obtain⟨ρ,θ,M,hd,hw,h⟩:=hxx;refine cm hd hw (bg X θ H Q) (fun c M' h=>h) (fun h=>h) h fun d M1 v θ1 H1 g1 r1 h1=>?_
  refine zd (hd.go g1) g1.wr (bg X θ1 H1 Q) (fun c M' h=>h) (fun h=>h) (h1.go g1) fun l M2 θ2 H2 g2 h2=>?_
  refine zd ((hd.go g1).go g2) g2.wr (bg X θ2 H2 Q) (fun c M' h=>h) (fun h=>h) (h2.go g2) fun u M3 θ3 H3 g3 h3=>?_
  exact⟨θ3,M3,d,g3.wr,r1.go (g2.trans g3),h3.go g3⟩
def ye (d:D)(M:au):bw Bool:=match d with
 | .non=>.ok false M
 | .bl b=>.ok b M
 | .int i=>.ok (i != 0) M
 | .str x=>if x.length≤sizeLine then .ok ((x.length:Int) != 0) M else .bad
 | .tup xs=>.ok (!xs.isEmpty) M
 | .lst xs=>.ok (!xs.isEmpty) M
 | .ro xs=>.ok (!xs.isEmpty) M
 | .mr k=>match M[k]? with
  | some (.lst xs)=>.ok (!xs.isEmpty) M
  | _=>.bad
 | .exc _=>.bad
 | .any=>.bad
def bf (g:GE):GT:=fun ρ M=>(g ρ M).bind ye
theorem ik {K:W.Frag}{θ:List Addr}{H:Hp}{ds:List D}{vs:List V}(r:bI K θ H ds vs):(!vs.isEmpty)=!ds.isEmpty:=by
 have:=av r;cases ds <;> cases vs <;> simp_all
theorem Bp {a:Expr}{g:GE}(ha:PE X a (tE X g))(he:∀whole,isTrue a X.env whole=(do let v ←whole;standAt a.pos;holding [v] (truthy v)):=by intro _;rfl):PT X a (tT X (bf g)):=
 (uZ ha he).of fun σ H Q hxx=>by
  obtain⟨ρ,θ,M,hd,hw,h⟩:=hxx;refine cm hd hw (kj X θ H Q) (fun c M' h=>h) (fun h=>h) h fun d M1 v θ1 H1 g1 r1 h1=>?_
  cases d with
  | non=>have e:v=.non:=r1;subst e;exact⟨false,rfl,h1 θ1 H1 g1⟩
  | bl b=>have e:v=.bl b:=r1;subst e;exact⟨b,rfl,h1 θ1 H1 g1⟩
  | int i=>have e:v=.int i:=r1;subst e;exact⟨i != 0,rfl,h1 θ1 H1 g1⟩
  | str x=>
   have e:v=.str x:=r1;subst e;have h1:kj X θ H Q (if x.length≤sizeLine then .ok ((x.length:Int) != 0) M1 else .bad):=h1;split at h1
   ·rename_i hl;exact⟨_,⟨hl,rfl⟩,h1 θ1 H1 g1⟩
   ·exact h1.elim
  | tup xs=>
   obtain⟨a,vs,e,ta,ra⟩:=r1;subst e;exact⟨_,.inr (.inl ⟨vs,ta.sq,(ik ra).symm⟩),h1 θ1 H1 g1⟩
  | lst xs=>
   obtain⟨a,vs,e,ta,ra⟩:=r1;subst e;exact⟨_,.inl ⟨vs,ta.sq,(ik ra).symm⟩,h1 θ1 H1 g1⟩
  | ro xs=>
   obtain⟨a,vs,e,ta,ra⟩:=r1;subst e;exact⟨_,.inl ⟨vs,ta.sq,(ik ra).symm⟩,h1 θ1 H1 g1⟩
  | mr k=>
   obtain⟨a,e,ta⟩:=r1;subst e;have h1:kj X θ H Q (match M1[k]? with|some (.lst xs)=>.ok (!xs.isEmpty) M1|_=>.bad):=h1;cases qm:M1[k]? with
   | none=>rw[qm] at h1;exact h1.elim
   | some m=>
    cases m with
    | lst ys=>
     rw[qm] at h1;obtain⟨vs,hv,ra⟩:=g1.wr.at_ k a _ ta qm;exact⟨_,.inl ⟨vs,.inl (.inl hv),(ik ra).symm⟩,h1 θ1 H1 g1⟩
    | _=>rw[qm] at h1;exact h1.elim
  | exc c=>exact h1.elim
  | any=>exact h1.elim
def aJ:FD:=fun ds M=>match ds with
 | [.str x]=>if x.length≤sizeLine then .ok (.int x.length) M else .bad
 | [d]=>match cq d M with
  | some xs=>.ok (.int xs.length) M
  | none=>.bad
 | _=>.bad
def nS:FD:=fun ds M=>match ds with
 | [.int i,.int j]=>.ok (.int (if j<i then j else i)) M
 | _=>.bad
def oV:FD:=fun ds M=>match ds with
 | [.int i,.int j]=>.ok (.int (if j>i then j else i)) M
 | _=>.bad
def mO:FD:=fun ds M=>match ds with
 | [.int i]=>.ok (.int i) M
 | [.bl b]=>.ok (.int (if b then 1 else 0)) M
 | _=>.bad
def jm:FD:=fun ds M=>match ds with
 | [d]=>match cq d M with
  | some xs=>.ok (.lst xs) M
  | none=>.bad
 | _=>.bad
def cZ:FD:=fun ds M=>match ds with
 | [d]=>match cq d M with
  | some xs=>.ok (.tup xs) M
  | none=>.bad
 | _=>.bad
theorem iZ {K:W.Frag}{θ:List Addr}{H:Hp}{d:D}{xs:List V}(r:bI K θ H [d] xs):∃v,xs=[v]∧et K θ H d v:=by
 obtain⟨v,rr,e,h1,h2⟩:=r;have e2:rr=[]:=h2;subst e2;exact⟨v,e,h1⟩
theorem vj {K:W.Frag}{θ:List Addr}{H:Hp}{d d':D}{xs:List V}(r:bI K θ H [d,d'] xs):∃v v',xs=[v,v']∧et K θ H d v∧et K θ H d' v':=by
 obtain⟨v,rr,e,h1,h2⟩:=r;obtain⟨v',e2,h3⟩:=iZ h2;subst e2;exact⟨v,v',e,h1,h3⟩
theorem BS:dj X (.builtin "len") (rC X aJ):=by
 intro ag s σ H xs us Q I r h;obtain⟨θ,M,ds,hw,rd,h⟩:=h;unfold aJ at h;split at h
 ·rename_i x;split at h
  ·rename_i hl;obtain⟨v,e,rv⟩:=iZ rd;exact nV ag s σ H xs us Q I r ⟨x,by rw[e,show v=.str x from rv],hl,h _ θ H (.refl hw) rfl⟩
  ·exact h.elim
 ·rename_i d _;split at h
  ·rename_i ys q;obtain⟨v,e,rv⟩:=iZ rd;obtain⟨a,vs,ea,sq,ra⟩:=n8 hw rv q;refine nT ag s σ H xs us Q I r ⟨a,vs,by rw[e,ea],sq,?_⟩;rw[←av ra];exact h _ θ H (.refl hw) rfl
  ·exact h.elim
 ·exact h.elim
theorem zG (hc:X.calm=true):dj X (.builtin "min") (rC X nS):=by
 intro ag s σ H xs us Q I r h;obtain⟨θ,M,ds,hw,rd,h⟩:=h;unfold nS at h;split at h
 ·rename_i i j;obtain⟨v,v',e,rv,rv'⟩:=vj rd;exact sG hc ag s σ H xs us Q I r ⟨i,j,by rw[e,show v=.int i from rv,show v'=.int j from rv'],h _ θ H (.refl hw) rfl⟩
 ·exact h.elim
theorem Bh (hc:X.calm=true):dj X (.builtin "max") (rC X oV):=by
 intro ag s σ H xs us Q I r h;obtain⟨θ,M,ds,hw,rd,h⟩:=h;unfold oV at h;split at h
 ·rename_i i j;obtain⟨v,v',e,rv,rv'⟩:=vj rd;exact tB hc ag s σ H xs us Q I r ⟨i,j,by rw[e,show v=.int i from rv,show v'=.int j from rv'],h _ θ H (.refl hw) rfl⟩
 ·exact h.elim
theorem A2:dj X (.type "int") (rC X mO):=by
 intro ag s σ H xs us Q I r h;obtain⟨θ,M,ds,hw,rd,h⟩:=h;unfold mO at h;split at h
 ·rename_i i;obtain⟨v,e,rv⟩:=iZ rd;exact nw ag s σ H xs us Q I r (.inl ⟨i,by rw[e,show v=.int i from rv],h _ θ H (.refl hw) rfl⟩)
 ·rename_i b;obtain⟨v,e,rv⟩:=iZ rd;exact nw ag s σ H xs us Q I r (.inr ⟨b,by rw[e,show v=.bl b from rv],h _ θ H (.refl hw) rfl⟩)
 ·exact h.elim
theorem yd:dj X (.type "list") (rC X jm):=by
 intro ag s σ H xs us Q I r h;obtain⟨θ,M,ds,hw,rd,h⟩:=h;unfold jm at h;split at h
 ·rename_i d;split at h
  ·rename_i ys q;obtain⟨v,e,rv⟩:=iZ rd;obtain⟨a,vs,ea,sq,ra⟩:=n8 hw rv q;exact oM ag s σ H xs us Q I r ⟨a,vs,by rw[e,ea],sq,fun l hl=>h _ θ _ (eO hw hl) (ja hw hl ra)⟩
  ·exact h.elim
 ·exact h.elim
theorem vS:dj X (.type "tuple") (rC X cZ):=by
 intro ag s σ H xs us Q I r h;obtain⟨θ,M,ds,hw,rd,h⟩:=h;unfold cZ at h;split at h
 ·rename_i d;obtain⟨v,e,rv⟩:=iZ rd;cases d with
  | tup ys=>
   obtain⟨a,vs,ea,ta,ra⟩:=rv;exact fv ag s σ H xs us Q I r ⟨a,vs,by rw[e,ea],.inr ⟨ta.sq,h _ θ H (.refl hw) ⟨a,vs,rfl,ta,ra⟩⟩⟩
  | lst ys=>
   obtain⟨a,vs,ea,ta,ra⟩:=rv;exact fv ag s σ H xs us Q I r ⟨a,vs,by rw[e,ea],.inl ⟨ta.sq,fun l hl=>h _ θ _ (eO hw hl) (io hw hl ra)⟩⟩
  | ro ys=>
   obtain⟨a,vs,ea,ta,ra⟩:=rv;exact fv ag s σ H xs us Q I r ⟨a,vs,by rw[e,ea],.inl ⟨ta.sq,fun l hl=>h _ θ _ (eO hw hl) (io hw hl ra)⟩⟩
  | mr k=>
   obtain⟨a,ea,ta⟩:=rv;cases qm:M[k]? with
   | none=>simp[cq,qm] at h;exact h.elim
   | some m=>
    cases m with
    | lst ys=>
     simp only[cq,qm] at h;obtain⟨vs,hv,ra⟩:=hw.at_ k a _ ta qm;exact fv ag s σ H xs us Q I r ⟨a,vs,by rw[e,ea],.inl ⟨.inl (.inl hv),fun l hl=>h _ θ _ (eO hw hl) (io hw hl ra)⟩⟩
    | _=>simp[cq,qm] at h;exact h.elim
  | _=>exact h.elim
 ·exact h.elim
end
def dJ (cells:List (Str×Addr)):List (Str×NameKind)→List (Str×Addr)→List (Str×Addr)
 | [],acc=>acc
 | (n,k)::r,acc=>if k==.free then dJ cells r ((n,(cells.lookup n).getD 0)::acc) else dJ cells r acc
theorem lL {env:Env}:∀(l:List (Str×NameKind)) (cs:List (Str×Addr)),(∀p∈l,p.2=.free→∃c,env.cells.lookup p.1=some c)→
  (forIn (m:=Sem) l cs fun x r=>match x with
   | (name,kind)=>if(kind==NameKind.free)=true then do let __do_lift ←cellOf env name;pure (ForInStep.yield ((name,__do_lift)::r)) else pure (ForInStep.yield r))=pure (dJ env.cells l cs)
 | [],cs,h=>rfl
 | (n,k)::r,cs,h=>by
  have ih:=fun cs=>lL (env:=env) r cs fun p hp=>h p (mem_cons_of_mem _ hp)
  rw[forIn_cons]
  by_cases hk:(k==NameKind.free)=true
  ·obtain⟨c,hc⟩:=h (n,k) mem_cons_self (by simpa using hk);have e:cellOf env n=pure c:=by unfold cellOf;rw[show List.lookup n env.cells=some c from hc]
   simp only[hk,if_true,dJ,e,pure_bind];rw[ih,show List.lookup n env.cells=some c from hc];rfl
  ·simp only[hk,if_false,dJ,pure_bind,Bool.false_eq_true];exact ih cs
theorem oC {env:Env}{scope:Scope}(h:∀p∈scope.names,p.2=.free→∃c,env.cells.lookup p.1=some c):closureFor scope env=pure (dJ env.cells scope.names []):=by
 have:=lL (env:=env) scope.names [] h;unfold closureFor;simp only[bind_pure_comp] at this ⊢
 first
  | (rw[this];rfl)
  | (simp[this])
  | exact this
theorem mF {cells:List (Str×Addr)}:∀(l:List (Str×NameKind)) (acc:List (Str×Addr)),(∀p∈acc,cells.lookup p.1=some p.2)→(∀p∈l,p.2=.free→∃c,cells.lookup p.1=some c)→
  ∀p∈dJ cells l acc,cells.lookup p.1=some p.2
 | [],acc,ha,h=>ha
 | (n,k)::r,acc,ha,h=>by
  have hr:∀p∈r,p.2=.free→∃c,cells.lookup p.1=some c:=fun p hp=>h p (mem_cons_of_mem _ hp)
  unfold dJ
  by_cases hk:(k==NameKind.free)=true
  ·rw[if_pos hk];refine mF r _ (fun p hp=>?_) hr;rcases mem_cons.mp hp with e|hp
   ·subst e;obtain⟨c,hc⟩:=h (n,k) mem_cons_self (by simpa using hk);have hc':cells.lookup n=some c:=hc;show cells.lookup n=some ((cells.lookup n).getD 0);rw[hc'];rfl
   ·exact ha p hp
  ·rw[if_neg hk];exact mF r acc ha hr
theorem mf {cells:List (Str×Addr)}:∀(l:List (Str×NameKind)) (acc:List (Str×Addr)),∀p∈acc,p∈dJ cells l acc
 | [],acc,p,h=>h
 | (n,k)::r,acc,p,h=>by
  unfold dJ
  by_cases hk:(k==NameKind.free)=true
  ·rw[if_pos hk];exact mf r _ p (mem_cons_of_mem _ h)
  ·rw[if_neg hk];exact mf r acc p h
theorem mB {cells:List (Str×Addr)}:∀(l:List (Str×NameKind)) (acc:List (Str×Addr)) (n:Str),(n,NameKind.free)∈l→∃c,(n,c)∈dJ cells l acc
 | [],acc,n,h=>by cases h
 | (m,k)::r,acc,n,h=>by
  unfold dJ;rcases mem_cons.mp h with e|h
  ·cases e;rw[if_pos (by rfl)];exact⟨_,mf r _ _ mem_cons_self⟩
  ·by_cases hk:(k==NameKind.free)=true
   ·rw[if_pos hk];exact mB r _ n h
   ·rw[if_neg hk];exact mB r acc n h
theorem jE {l:List (Str×Addr)}{n:Str}{c:Addr}(h:(n,c)∈l):∃c',l.lookup n=some c':=by
 induction l with
 | nil=>cases h
 | cons p r ih=>
  obtain⟨m,d⟩:=p
  by_cases e:(n==m)=true
  ·exact⟨d,by simp[List.lookup,e]⟩
  ·have e':(n==m)=false:=by simpa using e
   rcases mem_cons.mp h with q|q
   ·cases q;simp at e
   ·obtain⟨c',hc⟩:=ih q;exact⟨c',by simp only[List.lookup,e'];exact hc⟩
theorem gf {env:Env}:∀{names:List (Str×NameKind)} {x:Str} {k:NameKind},
  (names.map fun(n,k)=>if(k==NameKind.free&&env.scope.kind==.function&&env.kindOf n==some .cell) then(n,NameKind.cell) else(n,k)).lookup x=some k→
   names.lookup x=some k∨(k=.cell∧names.lookup x=some .free)
 | [],_,_,h=>by simp at h
 | (n,k')::r,x,k,h=>by
  have ih:=@gf env r x k;have h:List.lookup x ((if(k'==NameKind.free&&env.scope.kind==.function&&env.kindOf n==some .cell)=true then(n,NameKind.cell) else(n,k'))::_)=some k:=h
  by_cases hc:(k'==NameKind.free&&env.scope.kind==.function&&env.kindOf n==some .cell)=true
  ·rw[if_pos hc] at h;cases hx:x==n with
   | true=>
    simp only[lookup_cons,hx] at h ⊢;cases h;have:k'=.free:=by
     rw[Bool.and_eq_true,Bool.and_eq_true] at hc;simpa using hc.1.1
    subst this;exact .inr ⟨rfl,rfl⟩
   | false=>
    simp only[lookup_cons,hx] at h ⊢;exact ih h
  ·rw[if_neg hc] at h;cases hx:x==n with
   | true=>
    simp only[lookup_cons,hx] at h ⊢;exact .inl h
   | false=>
    simp only[lookup_cons,hx] at h ⊢;exact ih h
def eJ (sc:Scope)(fk:Str→Option NameKind)(xs:List Str)(R N:List Str):Bool:=
 decide (sc.kind=.function)&&xs.all (fun x=>sc.names.lookup x==some .local) &&
 sc.names.all (fun p=>match p.2 with
  | .cell=>false
  | .local=>(xs.contains p.1||p.1==(".0":Str))&&sc.names.lookup p.1==some .local
  | .free=>fk p.1==some .cell||fk p.1==some .free
  | _=>true) &&
 decide ((xs++R).Nodup)&&!(R.contains (".0":Str))&&R.length==N.length &&
 (R.zip N).all (fun p=>p.1==p.2||sc.names.lookup p.1 != some .free)
structure cA (sc:Scope)(fk:Str→Option NameKind)(xs:List Str)(R N:List Str):Prop where
 kind:sc.kind=.function
 own:∀x∈xs,sc.names.lookup x=some .local
 nocell:∀p∈sc.names,p.2≠.cell
 locs:∀p∈sc.names,p.2=.local→p.1∈xs∨p.1=(".0":Str)
 lnames:∀p∈sc.names,p.2=.local→sc.names.lookup p.1=some .local
 free:∀p∈sc.names,p.2=.free→fk p.1=some .cell∨fk p.1=some .free
 nd:(xs++R).Nodup
 no0:(".0":Str)∉R
 len:R.length=N.length
 same:∀(i:Nat) y,R[i]?=some y→sc.names.lookup y=some .free→N[i]?=some y
theorem cA.of {sc:Scope}{fk:Str→Option NameKind}{xs:List Str}{R N:List Str}(h:eJ sc fk xs R N=true):cA sc fk xs R N:=by
 unfold eJ at h;simp only[Bool.and_eq_true,decide_eq_true_eq,all_eq_true,Bool.not_eq_true',beq_iff_eq] at h;obtain⟨⟨⟨⟨⟨⟨h1,h2⟩,h3⟩,h4⟩,h5⟩,h6⟩,h7⟩:=h;refine⟨h1,h2,fun p hp e=>?_,fun p hp e=>?_,fun p hp e=>?_,fun p hp e=>?_,h4,?_,h6,fun i y hy hf=>?_⟩
 ·have:=h3 p hp;rw[e] at this;simp at this
 ·have:=h3 p hp;rw[e] at this;simp at this;exact this.1
 ·have:=h3 p hp;rw[e] at this;simp at this;exact this.2
 ·have:=h3 p hp;rw[e] at this;simp at this;exact this
 ·intro hm;have:R.contains (".0":Str)=true:=by simpa using hm
  rw[this] at h5;cases h5
 ·obtain⟨hi,e⟩:=List.getElem?_eq_some_iff.mp hy;have hn:i<N.length:=by rw[←h6];exact hi
  have hz:(R[i],N[i])∈R.zip N:=by
   rw[mem_iff_getElem];exact⟨i,by simp;omega,by simp⟩
  have:=h7 _ hz;simp only[Bool.or_eq_true,beq_iff_eq,bne_iff_ne,ne_eq] at this;rcases this with q|q
  ·rw[getElem?_eq_getElem hn,←q,e]
  ·rw[e] at q;exact absurd hf q
def aP (X:Cx)(scope:Scope)(xs:List Str)(R:List Str)(fp:List Addr)(s:Shared)(H:Hp)(C:Addr):Cx where
 prog:=X.prog
 w:=X.w
 K:=X.K
 mg:=X.mg
 base:=X.base
 A:=X.A
 N:=xs++R
 s₀:=s
 H₀:=H
 env:=compEnvC scope (dJ X.env.cells scope.names []) C X.env
 outer:=X.stack
 stack:=X.stack
 ex:=fp
 fn:=fun _=>false
 calm:=X.calm
 pn:=[]
 xe:=fun _ _=>False
section
variable {X:Cx}{ag:List (Addr×Obj)}{σ:L2.St}{H:Hp}{s:Shared}{scope:Scope}{xs:List Str}{R:List Str}{fp:List Addr}{C:Addr}
theorem cA.cells (S:cA scope X.env.kindOf xs R X.N)(I:L2.Inv X ag σ H s):∀p∈scope.names,p.2=.free→∃c,X.env.cells.lookup p.1=some c:=fun p hp e=>I.ok.has p.1 (S.free p hp e)
theorem cJ (S:cA scope X.env.kindOf xs R X.N)(I:L2.Inv X ag σ H s){y:Str}{c:Addr}(h:(dJ X.env.cells scope.names []).lookup y=some c):X.env.cells.lookup y=some c:=
 mF scope.names [] (fun _ z=>by cases z) (S.cells I) (y,c) (PySem.mem_of_lookup h)
theorem uC {h4:Heap}{m:Str→Option Value}{tk:Nat}(S:cA scope X.env.kindOf xs R X.N)(I:L2.Inv X ag σ H s)(hC:s.heap.objs.size≤C)(k:∀b o,s.heap.get? b=some o→h4.get? b=some o)(hn:h4.Ns C m)
  (hf:∀b∈fp,lw X ag H b) (hfl:∀b∈fp,b<s.heap.objs.size):L2.Inv (aP X scope xs R fp s H C) [] (List.replicate xs.length none++σ) H {s with heap:=h4,toks:=tk}:=by
 have hkn:∀y kk,(relabel scope X.env).names.lookup y=some kk→(kk=.cell∨kk=.free)→scope.names.lookup y=some .free:=fun y kk e hk=>by
  rcases gf e with q|q
  ·rcases hk with z|z
   ·subst z;exact absurd rfl (S.nocell _ (PySem.mem_of_lookup q))
   ·subst z;exact q
  ·exact q.2
 have hasc:∀y,scope.names.lookup y=some .free→∃c,(dJ X.env.cells scope.names []).lookup y=some c:=fun y e=>by
  obtain⟨c,hc⟩:=mB (cells:=X.env.cells) scope.names [] y (PySem.mem_of_lookup e);exact jE hc
 refine⟨⟨I.ok.mod,S.kind,I.ok.glob,I.ok.blt,hC,fun y z c h1 h2=>I.ok.inj y z c (cJ S I h1) (cJ S I h2),fun y hy=>?_,fun y c z=>absurd (show false=true from z) Bool.false_ne_true,I.ok.hd,I.ok.frames,.inl rfl,fun b hb=>⟨?_,fun y c e=>?_⟩,I.bs,Nat.le_trans I.ok.bsz I.sz,fun b o e hb=>?_,fun b hb z=>?_,I.stack,I.stkFree⟩,
  rfl,I.bare,Un.kept k,⟨m,hn,fun i y v h1 h2 h3=>?_⟩,fun y c e=>?_,I.hok.fresh hC,fun y c e=>I.freeC y c (cJ S I e),fun p hp=>absurd (show p∈([]:List (Addr×Obj)) from hp) (by simp),I.hok.kept k,?_⟩
 ·rcases hy with e|e
  ·exact hasc y (hkn y _ e (.inl rfl))
  ·exact hasc y (hkn y _ e (.inr rfl))
 ·exact Nat.ne_of_lt (Nat.lt_of_lt_of_le (hfl b hb) hC)
 ·exact(hf b hb).2.2.2.2.1 y c (cJ S I e)
 ·rcases(hf b hb).2.2.2.1 with z|z
  ·exact I.ok.noex b o e z
  ·exact absurd (Nat.lt_of_lt_of_le (Heap.lt_size e) (Nat.le_trans I.ok.bsz z)) (Nat.lt_irrefl _)
 ·rcases mem_cons.mp (I.stkSub b z) with e|e
  ·exact(hf b hb).2.1 e
  ·exact(hf b hb).2.2.1 e
 ·by_cases hi:i<xs.length
  ·exfalso;rw[getElem?_append_left (by rw[length_replicate];exact hi),getElem?_replicate,if_pos hi] at h2;cases h2
  ·obtain⟨i,rfl⟩:∃j,i=xs.length+j:=⟨i-xs.length,by omega⟩;have h1:R[i]?=some y:=by
    have h1:(xs++R)[xs.length+i]?=some y:=h1;rw[getElem?_append_right (by omega)] at h1;simpa using h1
   have h2:σ[i]?=some (some v):=by
    rw[getElem?_append_right (by rw[length_replicate];omega)] at h2;simpa using h2
   have hyR:y∈R:=mem_of_getElem? h1;have hf':scope.names.lookup y=some .free∧((relabel scope X.env).names.lookup y=some .cell∨(relabel scope X.env).names.lookup y=some .free):=by
    have h3:(relabel scope X.env).names.lookup y=some .local∨(relabel scope X.env).names.lookup y=some .cell∨(relabel scope X.env).names.lookup y=some .free:=h3;rcases h3 with e|e|e
    ·rcases gf e with q|q
     ·exfalso;rcases S.locs _ (PySem.mem_of_lookup q) rfl with z|z
      ·exact(nodup_append.mp S.nd).2.2 y z y hyR rfl
      ·have z:y=(".0":Str):=z;rw[z] at hyR;exact S.no0 hyR
     ·exact absurd q.1 (by intro z;cases z)
    ·exact⟨hkn y _ e (.inl rfl),.inl e⟩
    ·exact⟨hkn y _ e (.inr rfl),.inr e⟩
   have hN:=S.same i y h1 hf'.1;have hk:=S.free (y,.free) (PySem.mem_of_lookup hf'.1) rfl;obtain⟨mX,hnX,hl⟩:=I.loc;have vis:CG X.env.scope y:=by
    rcases hk with z|z
    ·exact .inr (.inl z)
    ·exact .inr (.inr z)
   obtain⟨u,r,l⟩:=hl i y v hN h2 vis;refine⟨u,r,.inr ⟨hf'.2,?_⟩⟩;rcases l with⟨z,_⟩|⟨_,c,hc,o,ho,hod⟩
   ·exfalso;rcases hk with q|q
    ·have q:X.env.kindOf y=some .cell:=q;rw[z] at q;cases q
    ·have q:X.env.kindOf y=some .free:=q;rw[z] at q;cases q
   ·obtain⟨c',hc'⟩:=hasc y hf'.1;have:c'=c:=by
     have:=cJ S I hc';rw[hc] at this;exact(Option.some.inj this).symm
    subst this;exact⟨c',hc',o,k _ _ ho,hod⟩
 ·obtain⟨v,o,ho,hd⟩:=I.cell y c (cJ S I e);exact⟨v,o,k _ _ ho,hd⟩
 ·show(List.replicate xs.length none++σ).length=(xs++R).length;rw[length_append,length_append,length_replicate,I.len,S.len]
end
def gO (t:nE)(gc:GT)(ge:GE):List D→bU→au→bw (List D)
 | [],ρ,M=>if t.ok M then .ok [] M else .bad
 | d::r,ρ,M=>if t.ok M then
   match gc (some d::ρ) M with
   | .ok true M1=>match ge (some d::ρ) M1 with
    | .ok e M2=>(gO t gc ge r ρ M2).bind fun es M3=>.ok (e::es) M3
    | _=>.bad
   | .ok false M1=>gO t gc ge r ρ M1
   | _=>.bad
  else .bad
def ce:GT:=fun _ M=>.ok true M
def bp (t:nE)(n:Nat)(sg:GG)(gc:GT)(ge:GE):List D→bU→au→bw (List D)
 | [],ρ,M=>if t.ok M then .ok [] M else .bad
 | d::r,ρ,M=>if t.ok M then
   match sg d (List.replicate n none++ρ) with
   | none=>.bad
   | some ρ1=>match gc ρ1 M with
    | .ok true M1=>match ge ρ1 M1 with
     | .ok e M2=>(bp t n sg gc ge r ρ M2).bind fun es M3=>.ok (e::es) M3
     | _=>.bad
    | .ok false M1=>bp t n sg gc ge r ρ M1
    | _=>.bad
  else .bad
def fJ (gi:GI)(n:Nat)(sg:GG)(gc:GT)(ge:GE)(mk:List D→au→bw D):GE:=fun ρ M=>(gi ρ M).bind fun t M1=>(bp t n sg gc ge t.ds ρ M1).bind mk
theorem oZ (t:nE)(gc:GT)(ge:GE):∀(ds:List D) (ρ:bU) (M:au),gO t gc ge ds ρ M=bp t 1 (fQ 0) gc ge ds ρ M
 | [],ρ,M=>rfl
 | d::r,ρ,M=>by
  have ih:=oZ t gc ge r;unfold gO bp;show _=(if t.ok M=true then(match gc (some d::ρ) M with
    | .ok true M1=>match ge (some d::ρ) M1 with
     | .ok e M2=>(bp t 1 (fQ 0) gc ge r ρ M2).bind fun es M3=>.ok (e::es) M3
     | _=>.bad
    | .ok false M1=>bp t 1 (fQ 0) gc ge r ρ M1
    | _=>.bad) else .bad)
  simp only[ih]
def pW (n:Nat)(sg:GG):Prop:=∀d ρ ρ',sg d ρ=some ρ'→ρ'.length=ρ.length∧∀i:Nat,n≤i→ρ'[i]?=ρ[i]?
theorem xv {n i:Nat}(h:i<n):pW n (fQ i):=fun d ρ ρ' e=>by
 have e:some (ρ.set i (some d))=some ρ':=e;cases e;exact⟨by rw[length_set],fun j hj=>by rw[getElem?_set_ne (by omega)]⟩
theorem pI {n:Nat}:∀{is:List Nat} {ds:List D} {ρ ρ':bU},is.all (fun i=>decide (i<n))=true→jZ is ds ρ=some ρ'→ρ'.length=ρ.length∧∀i:Nat,n≤i→ρ'[i]?=ρ[i]?
 | [],[],ρ,ρ',_,e=>by cases e;exact⟨rfl,fun _ _=>rfl⟩
 | [],_::_,_,_,_,e=>by cases e
 | _::_,[],_,_,_,e=>by cases e
 | i::is,d::ds,ρ,ρ',h,e=>by
  rw[all_cons,Bool.and_eq_true] at h;have hi:i<n:=by simpa using h.1
  obtain⟨a,b⟩:=pI h.2 (show jZ is ds (ρ.set i (some d))=some ρ' from e);exact⟨by rw[a,length_set],fun j hj=>by rw[b j hj,getElem?_set_ne (by omega)]⟩
theorem wV {n:Nat}{is:List Nat}(h:is.all (fun i=>decide (i<n))=true):pW n (fF is):=fun d ρ ρ' e=>by
 cases d with
 | tup ds=>exact pI h e
 | _=>cases e
theorem pW.back {n:Nat}{sg:GG}{K:W.Frag}{θ:List Addr}{H:Hp}{τ:L2.St}{ρ ρ1:bU}{d:D}(o:pW n sg)(e:sg d (List.replicate n none++ρ)=some ρ1)(h:im K θ H τ ρ1):im K θ H τ (List.replicate n none++ρ):=by
 obtain⟨a,b⟩:=o _ _ _ e;refine⟨by rw[←a];exact h.len,fun i d' q=>?_⟩
 by_cases hi:i<n
 ·rw[getElem?_append_left (by rw[length_replicate];exact hi),getElem?_replicate,if_pos hi] at q;cases q
 ·rw[←b i (by omega)] at q;exact h.at_ i d' q
def bv (gi:GI)(gc:GT)(ge:GE)(mk:List D→au→bw D):GE:=fun ρ M=>(gi ρ M).bind fun t M1=>(gO t gc ge t.ds ρ M1).bind mk
theorem pJ (elt target iter:Expr)(ifs:List Expr)(scope:Scope)(pos:Pos)(it acc:Value)(env:Env)(cond:Sem Bool)
  (hc:(forIn (m:=Sem) ifs true fun c r=>if r=true then do let ok ←isTrue c env (eval c env);pure (ForInStep.yield ok) else pure (ForInStep.yield r))=cond) :
  compTurn (.ListComp elt [⟨target,iter,ifs,0⟩] scope pos) 0 it acc env=(standAt iter.pos >>= fun _=>pyNext it >>= fun r=>match r with
   | none=>pure (.done .next)
   | some v=>letOwnedTupleGo target it v >>= fun _=>assign target env v >>= fun _=>cond >>= fun ok=>
    if ok=true then((eval elt env >>= fun x=>call (.builtin "list.append") [acc,x] >>= fun _=>pure ()) >>= fun _=>
     again (.compLoop (.ListComp elt [⟨target,iter,ifs,0⟩] scope pos) 0 it acc env)) else again (.compLoop (.ListComp elt [⟨target,iter,ifs,0⟩] scope pos) 0 it acc env)):=by
 subst hc;rfl
section
variable {prog:Program}{w:World}{A:Around}{R:Result→Shared→Prop}{s:Shared}
theorem iY {elt target iter:Expr}{ifs:List Expr}{scope:Scope}{pos:Pos}{it acc:Value}{env:Env}{cond:Sem Bool}
  (hc:(forIn (m:=Sem) ifs true fun c r=>if r=true then do let ok ←isTrue c env (eval c env);pure (ForInStep.yield ok) else pure (ForInStep.yield r))=cond) (I:Nat→Shared→Prop)
  (turn:∀n s,I n s→wpAny (model prog w) A (pyNext it) (fun r s₁=>match r with
   | none=>R (.ok .next) s₁
   | some v=>wpAny (model prog w) A (letOwnedTupleGo target it v) (fun _ s₂=>wpAny (model prog w) A (assign target env v) (fun _ s₃=>wpAny (model prog w) A cond (fun ok s₄=>if ok=true then
     wpAny (model prog w) A (eval elt env) (fun x s₅=>wpAny (model prog w) A (call (.builtin "list.append") [acc,x]) (fun _ s₆=>∃m,m<n∧I m s₆) (fun _ _=>False) s₅) (fun _ _=>False) s₄
     else∃m,m<n∧I m s₄) (fun _ _=>False) s₃) (fun _ _=>False) s₂) (fun _ _=>False) s₁) (fun _ _=>False) s)
  (n:Nat) (h:I n s):codeAny (model prog w) A (.compLoop (.ListComp elt [⟨target,iter,ifs,0⟩] scope pos) 0 it acc env) R s:=by
 refine codeAny_loop rfl I (fun n s hI=>?_) n h;show wpAny _ _ ((compTurn (.ListComp elt [⟨target,iter,ifs,0⟩] scope pos) 0 it acc env).onRaise (fun x=>do noteFrame x env;theTreesLotGoes x)) _ _ s;refine wpAny_noted ?_;rw[pJ _ _ _ _ _ _ _ _ _ _ hc];refine wpAny_bind (wpAny_standAt (wpAny_bind (wpAny_mono (turn n s hI) (fun r s₁ h₁=>?_) fun _ _ z=>z.elim)));cases r with
 | none=>exact wpAny_pure h₁
 | some v=>
  refine wpAny_bind (wpAny_mono h₁ (fun _ s₂ h₂=>?_) fun _ _ z=>z.elim);refine wpAny_bind (wpAny_mono h₂ (fun _ s₃ h₃=>?_) fun _ _ z=>z.elim);refine wpAny_bind (wpAny_mono h₃ (fun ok s₄ h₄=>?_) fun _ _ z=>z.elim);cases ok with
  | true=>
   rw[if_pos rfl] at h₄;rw[if_pos rfl];exact wpAny_bind (wpAny_bind (wpAny_mono h₄ (fun x s₅ h₅=>wpAny_bind (wpAny_mono h₅ (fun _ s₆ h₆=>wpAny_pure (wpAny_pure ⟨rfl,h₆⟩)) fun _ _ z=>z.elim)) fun _ _ z=>z.elim))
  | false=>
   rw[if_neg Bool.false_ne_true] at h₄;rw[if_neg Bool.false_ne_true];exact wpAny_pure ⟨rfl,h₄⟩
theorem qy {env:Env}:(forIn (m:=Sem) ([]:List Expr) true fun c r=>if r=true then do let ok ←isTrue c env (eval c env);pure (ForInStep.yield ok) else pure (ForInStep.yield r))=pure true:=rfl
end
theorem yz {b a c:Nat}(h:b<a)(e:c=a+1):b≠c:=by omega
theorem vH {b a c:Nat}(h:b<c)(e:c=a):a≠b:=by omega
theorem nW {b a c:Nat}(h:b<c)(e:c=a):b≠a:=by omega
abbrev gq (its:List Value)(n:Nat):Obj:={cls:=.type "list",data:=.seq its.toArray n}
section
variable {X:Cx}{ag:List (Addr×Obj)}{σ:L2.St}{s:Shared}{scope:Scope}{xs:List Str}{tg:Expr}{sg:GG}{R:List Str}{elt iter:Expr}{ifs:List Expr}{pos:Pos}{E:Value→Shared→Prop}
theorem xu {K:W.Frag}{θ:List Addr}{H:Hp}{σ:L2.St}{ρ:bU}{n:Nat}(h:im K θ H σ ρ):im K θ H (List.replicate n none++σ) (List.replicate n none++ρ):=by
 refine⟨by rw[length_append,length_append,length_replicate,length_replicate,h.len],fun i d e=>?_⟩
 by_cases hi:i<n
 ·rw[getElem?_append_left (by rw[length_replicate];exact hi),getElem?_replicate,if_pos hi] at e;cases e
 ·rw[getElem?_append_right (by rw[length_replicate];omega),length_replicate] at e ⊢;exact h.at_ _ d e
inductive F7 (X0:Cx) (fp:List Addr) (tn:Nat→Heap→Prop) (K:W.Frag) (acc:Addr) (t:nE) (ρ0:bU) (θ1:List Addr) (H2:Hp) (es:List D) (go:List D→au→bw (List D)) (Mend:au) (n:Nat) (s':Shared):Prop
 | mk (i:Nat) (τ:L2.St) (H':Hp) (θ':List Addr) (M':au) (ds rest:List D) (vs:List V) (its:List Value) (na:Nat) (e1:n=t.ds.length-i) (e2:i≤t.ds.length)
   (e3:L2.Inv X0 [(acc,gq its na)] τ H' s') (e4:im K θ' H' τ ρ0) (e5:tn i s'.heap) (e6:∀b∈fp,H' b=none) (e7:Go K θ1 H2 θ' H' M') (e8:bI K θ' H' ds vs) (e9:bi vs its) (e10:go (t.ds.drop i) M'=.ok rest Mend) (e11:ds++rest=es)
theorem qt {fp:List Addr}{it:Addr}{tn:Nat→Heap→Prop}{J:It}{H2:Hp}{s2:Shared}{t:nE}{M1:au}{θ1:List Addr}{ρ:bU}{gc:GT}{ge:GE}{es:List D}{Mend:au}{RR:Value→Addr→Result→Shared→Prop}
  (S:cA scope X.env.kindOf xs R X.N) (hc:X.calm=true) (I2:L2.Inv X ag σ H2 s2) (T:sW X.prog X.w X.K tg J fp it tn) (st2:tn 0 s2.heap) (f2:∀b∈fp,lw X ag H2 b)
  (hw1:Wr X.K θ1 H2 M1) (hd1:im X.K θ1 H2 σ ρ) (hJ:zc X.K J θ1 H2 t) (hgo:bp t xs.length sg gc ge t.ds ρ M1=.ok es Mend) (hlen:es.length≤sizeLine)
  (hcd:∀C,∃cond,(forIn (m:=Sem) ifs true fun c r=>if r=true then do let ok ←isTrue c (aP X scope xs R fp s2 H2 C).env (eval c (aP X scope xs R fp s2 H2 C).env);pure (ForInStep.yield ok) else pure (ForInStep.yield r))=cond∧
   ∀(ag:List (Addr×Obj)) (s:Shared) (σ:L2.St) (H:Hp) (Q:Bool→Hp→Prop),L2.Inv (aP X scope xs R fp s2 H2 C) ag σ H s→tT (aP X scope xs R fp s2 H2 C) gc σ H Q→wpAny (model X.prog X.w) X.A cond (TP (aP X scope xs R fp s2 H2 C) ag σ Q) (fun _ _=>False) s)
  (own:pW xs.length sg) (hg:∀C,PG (aP X scope xs R fp s2 H2 C) tg (tG (aP X scope xs R fp s2 H2 C) sg))
  (he:∀C,PE (aP X scope xs R fp s2 H2 C) elt (tE (aP X scope xs R fp s2 H2 C) ge))
  (fin:∀(acc C:Addr) (s':Shared) (H':Hp) (θ':List Addr) (vs:List V) (m:Str→Option Value),L2.Inv X ag σ (cN H' acc (.lst vs)) s'→s'.heap.Ns C m→lw X ag (cN H' acc (.lst vs)) C→Go X.K θ1 H2 θ' H' Mend→H' acc=none→bI X.K θ' H' es vs→RR (.ref acc) C (.ok .next) s') :
  wpAny (model X.prog X.w) X.A (newList []) (fun acc s₃=>wpAny (model X.prog X.w) X.A (newFunctionEnv scope X.env.globals (dJ X.env.cells scope.names []) [] X.env.qual none .none (some X.env)) (fun cenv s₄=>
   codeAny (model X.prog X.w) X.A (.compStart (.ListComp elt [⟨tg,iter,ifs,0⟩] scope pos) 0 (.ref it) acc {cenv with scope:=relabel scope X.env}) (RR acc cenv.locals) s₄) E s₃) E s2:=by
 refine wpAny_newObj_type (wpAny_newFunctionEnv S.nocell (by intro y hy;simp at hy) (fun h₁ hns₁ hsb₁=>?_) S.kind);dsimp only at hns₁ hsb₁ ⊢;generalize hHp:s2.heap.push {cls:=.type "list",dict:=none,data:=.seq ([]:List Value).toArray}=Hp2 at hns₁ hsb₁ ⊢;have hCe:Hp2.objs.size=s2.heap.objs.size+1:=by rw[←hHp,Heap.size_push]
 generalize hCd:Hp2.objs.size=C at hns₁ hsb₁ hCe ⊢;generalize hAd:s2.heap.objs.size=acc at hCe ⊢;have hDC:acc≠C:=by rw[hCe];exact Nat.ne_of_lt (Nat.lt_succ_self _)
 have old:∀b o,s2.heap.get? b=some o→h₁.get? b=some o:=fun b o e=>by
  have hb:b<acc:=by rw[←hAd];exact Heap.lt_size e
  refine hsb₁.extBut b o (yz hb hCe) (Heap.get?_push_of_some _ ?_);rw[←hHp];exact Heap.get?_push_of_some _ e
 have hacc0:h₁.get? acc=some (gq [] 0):=by
  refine hsb₁.extBut acc _ hDC (Heap.get?_push_of_some _ ?_);rw[←hHp,←hAd];exact Heap.get?_push_size _ rfl
 have hfl:∀b∈fp,b<s2.heap.objs.size:=fun b hb=>by
  obtain⟨o,e,_⟩:=T.obj 0 _ st2 b hb;exact Heap.lt_size e
 have hCs:s2.heap.objs.size≤C:=by omega
 have IY0:L2.Inv (aP X scope xs R fp s2 H2 C) [] (List.replicate xs.length none++σ) H2 {s2 with heap:=h₁,toks:=s2.toks+([]:List (Str×Value)).length}:=uC S I2 hCs old hns₁ f2 hfl;obtain⟨cond,hcond,hct⟩:=hcd C;have fpY:∀{H':Hp} {p:Obj},(∀b∈fp,H' b=none)→∀b∈fp,lw (aP X scope xs R fp s2 H2 C) [(acc,p)] H' b:=fun {H' p} hn b hb=>by
  refine⟨hn b hb,?_,fun z=>?_,.inl hb,fun y c e=>?_,fun q hq=>?_⟩
  ·exact Nat.ne_of_lt (Nat.lt_of_lt_of_le (hfl b hb) hCs)
  ·rcases mem_cons.mp (I2.stkSub b z) with e|e
   ·exact(f2 b hb).2.1 e
   ·exact(f2 b hb).2.2.1 e
  ·exact(f2 b hb).2.2.2.2.1 y c (cJ S I2 e)
  ·have hq:q∈([]:List (Addr×Obj))++[(acc,p)]:=hq;have e:q=(acc,p):=by simpa using hq
   rw[e];exact vH (hfl b hb) hAd
 have accF:∀b∈lP X.stack,acc≠b:=fun b hb e=>by
  have:acc∉X.env.locals::X.fs:=by
   intro z;rcases mem_cons.mp z with z|z
   ·exact vH I2.lt hAd z
   ·exact I2.nofs (Nat.le_of_eq hAd) z
  exact this (e▸I2.stkSub b hb)
 have loop:∀s₃:Shared,s₃={s2 with heap:=h₁,toks:=s2.toks+([]:List (Str×Value)).length}→
   codeAny (model X.prog X.w) X.A (.compLoop (.ListComp elt [⟨tg,iter,ifs,0⟩] scope pos) 0 (.ref it) (.ref acc) (aP X scope xs R fp s2 H2 C).env) (RR (.ref acc) C) s₃:=by
  rintro s₃ rfl;have pin0:∀{σ':L2.St} {H':Hp} {s':Shared} {its:List Value} {n:Nat},L2.Inv (aP X scope xs R fp s2 H2 C) [] σ' H' s'→s'.heap.get? acc=some (gq its n)→H' acc=none→L2.Inv (aP X scope xs R fp s2 H2 C) [(acc,gq its n)] σ' H' s':=fun {σ' H' s' its n} I' e hn=>
   I'.pins_of fun p hp=>by
    have ep:p=(acc,gq its n):=by simpa using hp
    subst ep;exact⟨e,hn,hDC,fun z=>accF acc z rfl,fun v z=>by cases z⟩
  refine iY hcond (F7 (aP X scope xs R fp s2 H2 C) fp tn X.K acc t (List.replicate xs.length none++ρ) θ1 H2 es (fun l N=>bp t xs.length sg gc ge l ρ N) Mend) ?_ t.ds.length
   ⟨0,_,H2,θ1,M1,[],es,[],[],0,rfl,Nat.zero_le _,pin0 IY0 hacc0 (I2.hok.fresh (Nat.le_of_eq hAd)),xu hd1,T.keep 0 _ _ st2 (fun b hb o e=>old b o e),fun b hb=>(f2 b hb).1,.refl hw1,rfl,.nil,hgo,rfl⟩
  rintro n s' ⟨i,τ,H',θ',M',ds,rest,vs,its,na,rfl,hil,I',dn',st',fr',g',rd',rv',hrest,hes⟩;have hok:t.ok M'=true:=by
   cases hq:t.ok M' with
   | true=>rfl
   | false=>
    exfalso;cases hdr:t.ds.drop i with
    | nil=>rw[hdr,bp,if_neg (by rw[hq];exact Bool.false_ne_true)] at hrest;cases hrest
    | cons d r=>rw[hdr,bp,if_neg (by rw[hq];exact Bool.false_ne_true)] at hrest;cases hrest
  obtain⟨hy,hst⟩:=hJ θ' H' M' g' hok i
  by_cases hlt:i<t.ds.length
  ·have e1:t.ds[i]?=some t.ds[i]:=getElem?_eq_getElem hlt;obtain⟨hgo',hyl⟩:=hy _ e1;rw[drop_eq_getElem_cons hlt,bp,if_pos hok] at hrest;refine dh (T.item (aP X scope xs R fp s2 H2 C) rfl rfl rfl hc i _ s' _ H' _ I' (fpY fr') st' hgo') fun r s4 hxx=>?_
   obtain⟨u,hr,h4⟩:=hxx;subst hr;refine dh h4 fun _ s5 hxx=>?_
   obtain⟨v,H5,I5,r5,y5,st5,fr5⟩:=hxx;obtain⟨gy,rx⟩:=hyl v H5 y5;have I5':=I5.pinned (fpY fr5) (T.obj _ _ st5);cases qs:sg t.ds[i] (List.replicate xs.length none++ρ) with
   | none=>rw[qs] at hrest;cases hrest
   | some ρ1=>
   rw[qs] at hrest;dsimp only at hrest;refine dh (hg C _ s5 _ H5 v u (fun σ6 H6=>im X.K θ' H6 σ6 ρ1∧H6=H5) I5' r5 ⟨_,θ',M',t.ds[i],dn'.go gy,gy.wr,rx,ρ1,qs,fun σ6 d6=>⟨d6,rfl⟩⟩) fun _ s6 hxx=>?_
   obtain⟨σ6,H6,I6,hdY,eH6⟩:=hxx;subst eH6;cases qc:gc ρ1 M' with
   | bad=>rw[qc] at hrest;cases hrest
   | err c Mx=>rw[qc] at hrest;cases hrest
   | ok b Mb=>
    refine dh (hct _ s6 _ H6 (fun b' H7=>b'=b∧∃θ7,Go X.K θ' H6 θ7 H7 Mb) I6 ⟨_,θ',M',hdY,gy.wr,?_⟩) fun ok s7 ⟨H7,I7,eb,θ7,g7⟩=>?_
    ·rw[qc];exact fun θ7 H7 g7=>⟨rfl,θ7,g7⟩
    subst eb;have fpk:∀{s8:Shared} {σ8:L2.St} {H8:Hp},L2.Inv (aP X scope xs R fp s2 H2 C) ([(acc,gq its na)]++my fp s5.heap) σ8 H8 s8→(∀b∈fp,H8 b=none)∧(∀b∈fp,∀o,s5.heap.get? b=some o→s8.heap.get? b=some o)∧s8.heap.get? acc=some (gq its na)∧H8 acc=none:=fun {s8 σ8 H8} I8=>by
     have pa:=I8.pin (acc,gq its na) (mem_append_right _ (mem_append_left _ (by simp)));refine⟨fun b hb=>?_,fun b hb o e=>(I8.pin (b,o) (mem_append_right _ (mem_append_right _ (iz hb e)))).1,pa.1,pa.2.1⟩;obtain⟨o,e,d⟩:=T.obj _ _ st5 b hb;exact(I8.pin (b,o) (mem_append_right _ (mem_append_right _ (iz hb e)))).2.1
    cases ok with
    | false=>
     rw[if_neg Bool.false_ne_true];rw[qc] at hrest;obtain⟨k1,k2,k3,k4⟩:=fpk I7;exact⟨t.ds.length-(i+1),by omega,i+1,σ6,H7,θ7,Mb,ds,rest,vs,its,na,rfl,hlt,I7.unpinned,own.back qs (hdY.go g7),T.keep _ _ _ st5 k2,k1,g'.trans (gy.trans g7),rd'.go (gy.trans g7),rv',hrest,hes⟩
    | true=>
     rw[if_pos rfl];rw[qc] at hrest;have hrest:(match ge ρ1 Mb with
      | .ok e M2=>(bp t xs.length sg gc ge (t.ds.drop (i+1)) ρ M2).bind fun es M3=>.ok (e::es) M3
      | _=>.bad)=bw.ok rest Mend:=hrest
     cases qe:ge ρ1 Mb with
     | bad=>rw[qe] at hrest;cases hrest
     | err c Mx=>rw[qe] at hrest;cases hrest
     | ok dv Mv=>
      rw[qe] at hrest;have hrest:((bp t xs.length sg gc ge (t.ds.drop (i+1)) ρ Mv).bind fun es M3=>bw.ok (dv::es) M3)=bw.ok rest Mend:=hrest;refine dh (he C _ s7 _ H7 (fun w H8=>∃θ8,Go X.K θ7 H7 θ8 H8 Mv∧et X.K θ8 H8 dv w) I7 ⟨_,θ7,Mb,hdY.go g7,g7.wr,?_⟩) fun uv s8 ⟨w,H8,I8,rw8,θ8,g8,rd8⟩=>?_
      ·rw[qe];exact fun w θ8 H8 g8 rd8=>⟨θ8,g8,rd8⟩
      obtain⟨k1,k2,k3,k4⟩:=fpk I8;cases qr:bp t xs.length sg gc ge (t.ds.drop (i+1)) ρ Mv with
      | bad=>rw[qr] at hrest;cases hrest
      | err c Mx=>rw[qr] at hrest;cases hrest
      | ok rest' Mr=>
       rw[qr] at hrest;have hrest:bw.ok (dv::rest') Mr=bw.ok rest Mend:=hrest;cases hrest;have hsz:its.length<sizeLine:=by
        have e2:(ds++dv::rest').length≤sizeLine:=by rw[hes];exact hlen
        rw[length_append,length_cons,av rd',rv'.length] at e2;omega
       refine call_meets F.slot_list_append ⟨_,k3,rfl⟩ F.entry_list_append (F.args_list_append_2 _ _) (PySem.list_append acc its.toArray na uv (by rw[size_toArray];omega)) ⟨k3,?_⟩;have qup:=PySem.IsL.update k3 (fun a=>a.push uv);have eup:(its.toArray.push uv)=(its++[uv]).toArray:=by simp
       have keepb:∀b o,b≠acc→s8.heap.get? b=some o→(s8.heap.update acc (Obj.mapSeq fun a=>a.push uv)).get? b=some o:=fun b o hb e=>(Heap.get?_update_other s8.heap _ (Ne.symm hb)).trans e
       have I9:L2.Inv (aP X scope xs R fp s2 H2 C) [] σ6 H8 {s8 with heap:=s8.heap.update acc (Obj.mapSeq fun a=>a.push uv),toks:=s8.toks}:=by
        refine Inv.turned (it:=acc) (I8.pins_of (pins':=[]) fun p hp=>absurd hp (by simp)) keepb k4 hDC (.inr (Nat.le_of_eq hAd)) (fun y c e z=>?_) fun p hp=>absurd (show p∈([]:List (Addr×Obj)) from hp) (by simp)
        obtain⟨v',o,ho,hdd⟩:=I2.cell y c (cJ S I2 e);exact nW (Heap.lt_size ho) hAd z
       obtain⟨n',eq'⟩:∃n',(s8.heap.update acc (Obj.mapSeq fun a=>a.push uv)).get? acc=some (gq (its++[uv]) n'):=by
        have q2:=qup;rw[eup] at q2;exact⟨_,q2⟩
       exact⟨t.ds.length-(i+1),by omega,i+1,σ6,H8,θ8,Mv,ds++[dv],rest',vs++[w],its++[uv],n',rfl,hlt,pin0 I9 eq' k4,own.back qs (hdY.go (g7.trans g8)),T.keep _ _ _ st5 (fun b hb o e=>keepb b o (nW (hfl b hb) hAd) (k2 b hb o e)),k1,g'.trans (gy.trans (g7.trans g8)),eo (rd'.go (gy.trans (g7.trans g8))) ⟨w,[],rfl,rd8,rfl⟩,rv'.append (.cons rw8 .nil),qr,by rw[←hes];simp⟩
  ·have e:i=t.ds.length:=by omega
   subst e;rw[drop_length,bp,if_pos hok] at hrest;cases hrest;have hes:ds=es:=by rw[←hes];simp
   subst hes;refine dh (T.done (aP X scope xs R fp s2 H2 C) rfl rfl rfl hc _ _ s' _ H' _ I' (fpY fr') st' (hst (Nat.le_refl _))) fun r s4 hxx=>?_
   obtain⟨hr,I4⟩:=hxx;subst hr;have pa:=I4.pin (acc,gq its na) (mem_append_right _ (by simp));have e4:s4.heap.get? acc=some (gq its na):=pa.1;have n4:H' acc=none:=pa.2.1;have lv:vs.length≤sizeLine:=by rw[←av rd'];exact hlen
   obtain⟨mC,hnC,_⟩:=I4.loc;have hHC:H' C=none:=I4.free;have tX:Un (lP X.stack) fp H2 H' s2.heap s4.heap:=I4.base;have neA:∀{b:Addr} {o:Obj},s2.heap.get? b=some o→b≠acc:=fun {b o} e=>nW (Heap.lt_size e) hAd
   have neH:∀{b:Addr} {u:HO},H' b=some u→b≠acc:=fun {b u} e z=>by rw[z,n4] at e;cases e
   have un4:Un (lP X.stack) fp H2 (cN H' acc (.lst vs)) s2.heap s4.heap:=by
    refine⟨tX.keep,tX.slot,fun b o e n hx=>?_,tX.there,fun b xs e=>?_,fun b o u e=>?_,fun b ps e=>?_⟩
    ·rw[ax (neA e)];exact tX.free b o e n hx
    ·have z:=tX.tups b xs e;rw[ax (neH z)];exact z
    ·have z:=tX.frzs b o u e;rw[ax (neH z)];exact z
    ·obtain⟨more,z⟩:=tX.tbls b ps e;exact⟨more,by rw[ax (neH z)];exact z⟩
   have hok4:k6 X.prog X.w (cN H' acc (.lst vs)) s4.heap:=fun b u e=>by
    by_cases hb:b=acc
    ·subst hb;rw[cH] at e;cases e;exact⟨lv,its,na,rv',e4⟩
    ·rw[ax hb] at e;exact(I4.hok b u e).stay (fun c v _ q=>q) (fun c q=>by rw[ax (neH q)];exact q) fun c xs q=>by rw[ax (neH q)];exact q
   have IX:L2.Inv X ag σ (cN H' acc (.lst vs)) s4:=I2.call' (ch:=fp) I4.os un4 hok4 I4.bare fun b hb=>⟨(f2 b hb).2.2.2.1,(f2 b hb).2.1,(f2 b hb).2.2.2.2.1,(f2 b hb).2.2.2.2.2⟩
   refine fin acc C s4 H' θ' vs mC IX hnC (I2.fpOk hCs ?_) g' n4 rd';rw[ax (Ne.symm hDC)];exact hHC
 exact codeAny_compStart_list (loop _ rfl) (T.self _ 0 _ _ _ (T.keep 0 _ _ st2 fun b hb o e=>old b o e) (loop _ rfl))
end
section
variable {X:Cx}{scope:Scope}{xs:List Str}{tg:Expr}{sg:GG}{x:Str}{px:Pos}{R:List Str}{elt iter:Expr}{ifs:List Expr}{pos:Pos}{gi:GI}{gc:GT}{ge:GE}
def BY (mk:List D→au→bw D):Prop:=∀(X:Cx) (θ:List Addr) (H:Hp) (Q:VK) (ds:List D) (M:au) (vs:List V),bg X θ H Q (mk ds M)→Wr X.K θ H M→bI X.K θ H ds vs→vs.length≤sizeLine∧∀p,H p=none→Q (.ref p) (cN H p (.lst vs))
theorem vm:BY aV:=fun X θ H Q ds M vs h hw r=>bg.lst h hw r
theorem v5:BY fM:=fun X θ H Q ds M vs h hw r=>bg.mut h hw r
theorem B1 {mk:List D→au→bw D}(hm:mk=aV∨mk=fM){X:Cx}{θ:List Addr}{H:Hp}{Q:VK}{ds:List D}{M:au}(h:bg X θ H Q (mk ds M)):ds.length≤sizeLine:=by
 rcases hm with e|e <;> subst e
 ·unfold aV at h;split at h
  ·assumption
  ·exact h.elim
 ·unfold fM at h;split at h
  ·assumption
  ·exact h.elim
theorem D3 {mk:List D→au→bw D}(hm:mk=aV∨mk=fM):BY mk:=by
 rcases hm with e|e <;> subst e
 ·exact vm
 ·exact v5
def lx (X:Cx)(scope:Scope)(xs:List Str)(R:List Str)(ifs:List Expr)(gc:GT):Prop:=∀fp s2 H2 C,∃cond,(forIn (m:=Sem) ifs true fun c r=>if r=true then do let ok ←isTrue c (aP X scope xs R fp s2 H2 C).env (eval c (aP X scope xs R fp s2 H2 C).env);pure (ForInStep.yield ok) else pure (ForInStep.yield r))=cond∧
   ∀(ag:List (Addr×Obj)) (s:Shared) (σ:L2.St) (H:Hp) (Q:Bool→Hp→Prop),L2.Inv (aP X scope xs R fp s2 H2 C) ag σ H s→tT (aP X scope xs R fp s2 H2 C) gc σ H Q→wpAny (model X.prog X.w) X.A cond (TP (aP X scope xs R fp s2 H2 C) ag σ Q) (fun _ _=>False) s
theorem uT:lx X scope xs R [] ce:=fun fp s2 H2 C=>⟨_,qy,fun ag s σ H Q I ⟨ρ,θ,M,hd,hw,h⟩=>wpAny_pure ⟨H,I,h θ H (.refl hw)⟩⟩
theorem jp {t:nE}{n:Nat}{sg:GG}{gc:GT}{ge:GE}{ρ:bU}{c:Str}{M':au}:∀(ds:List D) (M:au),bp t n sg gc ge ds ρ M=.err c M'→False
 | [],M,h=>by
  unfold bp at h;split at h <;> cases h
 | d::r,M,h=>by
  unfold bp at h;split at h
  ·split at h
   ·cases h
   ·split at h
    ·rename_i M1 q1;split at h
     ·rename_i e M2 q2;cases q:bp t n sg gc ge r ρ M2 with
      | ok es M3=>rw[q] at h;cases h
      | err c2 M3=>exact jp r M2 q
      | bad=>rw[q] at h;cases h
     ·cases h
    ·rename_i M1 q1;exact jp r M1 h
    ·cases h
  ·cases h
theorem o4 {mk:List D→au→bw D}(hS:eJ scope X.env.kindOf xs R X.N=true)(hc:X.calm=true)(hm:mk=aV∨mk=fM)(hi:PI X tg iter (tI X gi))(own:pW xs.length sg)(hg:∀fp s H C,PG (aP X scope xs R fp s H C) tg (tG (aP X scope xs R fp s H C) sg))(hts:lx X scope xs R ifs gc)
  (he:∀fp s H C,PE (aP X scope xs R fp s H C) elt (tE (aP X scope xs R fp s H C) ge))
  (hs:∀x,foldedSetIterable iter X.env x=pure x:=by intro _;rfl):PE X (.ListComp elt [⟨tg,iter,ifs,0⟩] scope pos) (tE X (fJ gi xs.length sg gc ge mk)):=by
 have S:=cA.of hS;intro ag s σ H Q I h;obtain⟨ρ,θ,M,hd,hw,h⟩:=h;rw[eval_ListComp];refine wpAny_comprehension_free (use:=none) rfl hs (oC (S.cells I)) S.kind S.lnames ?_;refine dh (hi ag s σ H (fun J H2=>∃t M1 θ1,gi ρ M=.ok t M1∧Go X.K θ H θ1 H2 M1∧zc X.K J θ1 H2 t) I ⟨ρ,θ,M,hd,hw,?_⟩) fun v s1 h1=>dh h1 fun itv s2 h2=>?_
 ·cases q:gi ρ M with
  | ok t M1=>exact fun J θ1 H1 g1 hJ=>⟨t,M1,θ1,rfl,g1,hJ⟩
  | err c M1=>unfold fJ at h;rw[q] at h;exact h
  | bad=>unfold fJ at h;rw[q] at h;exact h
 obtain⟨it,fp,tn,J,H2,rfl,I2,T,st2,f2,t,M1,θ1,eg,g1,hJ⟩:=h2;unfold fJ at h;rw[eg] at h;have h:bg X θ H Q ((bp t xs.length sg gc ge t.ds ρ M1).bind mk):=h;cases q:bp t xs.length sg gc ge t.ds ρ M1 with
 | bad=>rw[q] at h;exact h.elim
 | err c Mx=>exact(jp _ _ q).elim
 | ok es Mend=>
  rw[q] at h;have h:bg X θ H Q (mk es Mend):=h;refine qt (RR:=fun acc C=>compPost (model X.prog X.w) X.A X.xe none (EP X ag σ Q) acc C) S hc I2 T st2 f2 g1.wr (hd.go g1) hJ q (B1 hm h) (fun C=>hts fp s2 H2 C) own (fun C=>hg fp s2 H2 C) (fun C=>he fp s2 H2 C) ?_;intro acc C s' H' θ' vs m IX hnC fC g' na rd;refine⟨m,hnC,fun h' sb=>?_⟩;have I3:L2.Inv X ag σ (cN H' acc (.lst vs)) {s' with heap:=h',toks:=s'.toks}:=IX.turned (it:=C) (fun b o hb e=>(sb.2 b hb).trans e) fC.1 fC.2.1 fC.2.2.2.1 fC.2.2.2.2.1 fC.2.2.2.2.2;exact⟨.ref acc,_,I3,rfl,(D3 hm X θ' H' Q es Mend vs (bg.go (g1.trans g') h) g'.wr rd).2 acc na⟩
theorem yL {px:Pos}(hS:eJ scope X.env.kindOf [x] R X.N=true)(fp:List Addr)(s:Shared)(H:Hp)(C:Addr):PG (aP X scope [x] R fp s H C) (.Name x px) (tG (aP X scope [x] R fp s H C) (fQ 0)):=
 have S:=cA.of hS
 ot (X:=aP X scope [x] R fp s H C) S.nd rfl (.inl (lookup_relabel_local (S.own x (by simp)))) (.inr (lookup_relabel_local (S.own x (by simp))))
theorem xq (mk:List D→au→bw D):bv gi gc ge mk=fJ gi 1 (fQ 0) gc ge mk:=by
 funext ρ M;unfold bv fJ;simp only[oZ]
theorem yl {mk:List D→au→bw D}(hS:eJ scope X.env.kindOf [x] R X.N=true)(hc:X.calm=true)(hm:mk=aV∨mk=fM)(hi:PI X (.Name x px) iter (tI X gi))(hts:lx X scope [x] R ifs gc)
  (he:∀fp s H C,PE (aP X scope [x] R fp s H C) elt (tE (aP X scope [x] R fp s H C) ge))
  (hs:∀x,foldedSetIterable iter X.env x=pure x:=by intro _;rfl):PE X (.ListComp elt [⟨.Name x px,iter,ifs,0⟩] scope pos) (tE X (bv gi gc ge mk)):=by
 rw[xq];exact o4 (xs:=[x]) hS hc hm hi (xv (Nat.zero_lt_one)) (yL hS) hts he hs
end
def cO:List D→Option (List Bool)
 | []=>some []
 | .bl b::r=>(cO r).map (b::·)
 | _=>none
def dA:FD:=fun ds M=>match ds with
 | [d]=>match cq d M with
  | some xs=>match cO xs with
   | some bs=>.ok (.bl (bs.all id)) M
   | none=>.bad
  | none=>.bad
 | _=>.bad
theorem jr {K:W.Frag}{θ:List Addr}{H:Hp}:∀{ds:List D} {vs:List V} {us:List Value} {bs:List Bool},bI K θ H ds vs→bi vs us→cO ds=some bs→us=bs.map Value.bool
 | [],vs,us,bs,r,q,e=>by
  have e1:vs=[]:=r;subst e1;cases q;cases e;rfl
 | d::ds,vs,us,bs,r,q,e=>by
  obtain⟨v,rr,e1,h1,h2⟩:=r;subst e1;cases d with
  | bl b=>
   cases qb:cO ds with
   | none=>simp[cO,qb] at e
   | some bs'=>
    simp[cO,qb] at e;subst e;have e2:v=.bl b:=h1;subst e2;cases q with
    | cons q1 q2=>
     cases q1;rw[map_cons,jr h2 q2 qb]
  | _=>simp[cO] at e
theorem ug (bs:List Bool):(List.range bs.length).all (fun i=>bs.getD i false)=bs.all id:=by
 rw[Bool.eq_iff_iff];simp only[all_eq_true,mem_range,id];constructor
 ·intro h b hb;obtain⟨i,hi,e⟩:=mem_iff_getElem.mp hb;have:=h i hi;rw[getD_eq_getElem?_getD,getElem?_eq_getElem hi] at this;rw[←e];exact this
 ·intro h i hi;rw[getD_eq_getElem?_getD,getElem?_eq_getElem hi];exact h _ (getElem_mem hi)
section
variable {X:Cx}
theorem kS {prog:Program}{w:World}{A:Around}(bs:List Bool):TruthOf prog w A (fun i v=>((bs.map Value.bool).toArray)[i]?=some v) (fun i=>bs.getD i false):=fun i v s Q E hP hQ=>by
 have hP:(bs.map Value.bool)[i]?=some v:=by simpa using hP
 rw[getElem?_map] at hP;cases q:bs[i]? with
 | none=>rw[q] at hP;cases hP
 | some b=>
  rw[q] at hP;cases hP;have e:bs.getD i false=b:=by rw[getD_eq_getElem?_getD,q];rfl
  dsimp only at hQ;rw[e] at hQ;exact wpAny_truthy_bool hQ
theorem pY {ag:List (Addr×Obj)}{σ:L2.St}{H:Hp}{s:Shared}{d:D}{θ:List Addr}{M:au}{xs:List D}{bs:List Bool}{v:V}{u:Value}(hc:X.calm=true)(I:L2.Inv X ag σ H s)(hw:Wr X.K θ H M)(rv:et X.K θ H d v)(ru:RelV v u)(q:cq d M=some xs)(qb:cO xs=some bs){Q:Bool→Hp→Prop}{f:(Nat→Bool)→Nat→Bool}{E:Value→Shared→Prop}
  (h:∀h' tk,L2.Inv X ag σ H {s with heap:=h',toks:=tk}→Q (f (fun i=>bs.getD i false) bs.length) H) :
  wpAny (model X.prog X.w) X.A.in1 (pyIter u) (fun it s₂=>∃I fp wr n P St tr,it=.ref I∧Walks X.prog X.w X.A.in1 I fp wr n P St∧St 0 s₂.heap∧TruthOf X.prog X.w X.A.in1 P tr∧
   ∀h' tk,(∀b o,b∉wr→s₂.heap.get? b=some o→h'.get? b=some o)→EP X ag σ (fun v H=>∃b,v=.bl b∧Q b H) (.bool (f tr n)) {s₂ with heap:=h',toks:=tk}) E s:=by
 have hh:X.A.in1.handled=none:=I.ok.hd hc;obtain⟨a,vs,ea,sq,ra⟩:=n8 hw rv q;subst ea;cases ru;rcases sq with sq|sq
 ·obtain⟨its,r1,p,hz⟩:=I.list sq;have e:=jr ra r1 qb;subst e;have hlt:a<s.heap.objs.size:=by obtain⟨o,n,e,_⟩:=p;exact Heap.lt_size e
  refine wpAny_pyIter_list p.isList ⟨s.heap.objs.size,_,_,_,_,_,_,rfl,Walks.list hh s.heap.objs.size a (Nat.ne_of_lt hlt) _,⟨⟨_,Heap.get?_push_size _ rfl,rfl,rfl⟩,p.isList.push _⟩,kS bs,fun h' tk k=>?_⟩;have I':L2.Inv X ag σ H {s with heap:=h',toks:=tk}:=I.kept fun b o e=>k b o (by have:=Heap.lt_size e;simp;exact Nat.ne_of_lt this) (Heap.get?_push_of_some _ e)
  refine⟨.bl _,H,I',rfl,_,rfl,?_⟩;have:=h h' tk I';simpa using this
 ·obtain⟨its,r1,p,hz⟩:=I.tuple sq;have e:=jr ra r1 qb;subst e;have hlt:a<s.heap.objs.size:=by obtain⟨o,e,_⟩:=p;exact Heap.lt_size e
  have pt:s.heap.IsTuple a (bs.map Value.bool).toArray:=p;refine wpAny_pyIter_tuple pt ⟨s.heap.objs.size,_,_,_,_,_,_,rfl,Walks.tuple hh s.heap.objs.size a (Nat.ne_of_lt hlt) _,⟨⟨_,Heap.get?_push_size _ rfl,rfl,rfl⟩,?_⟩,kS bs,fun h' tk k=>?_⟩
  ·obtain⟨o,e,r⟩:=p;exact⟨o,Heap.get?_push_of_some _ e,r⟩
  have I':L2.Inv X ag σ H {s with heap:=h',toks:=tk}:=I.kept fun b o e=>k b o (by have:=Heap.lt_size e;simp;exact Nat.ne_of_lt this) (Heap.get?_push_of_some _ e)
  refine⟨.bl _,H,I',rfl,_,rfl,?_⟩;have:=h h' tk I';simpa using this
theorem Ar (hc:X.calm=true):dj X (.builtin "all") (rC X dA):=by
 intro ag s σ H xs us Q I r h;obtain⟨θ,M,ds,hw,rd,h⟩:=h;unfold dA at h;split at h
 ·rename_i d;obtain⟨v,e,rv⟩:=iZ rd;subst e;obtain⟨u,rfl,ru⟩:=lW r;split at h
  ·rename_i ys q;split at h
   ·rename_i bs qb;refine dh (call_all_walk (pY hc I hw rv ru q qb (Q:=fun b H=>Q (.bl b) H) (f:=fun tr n=>(List.range n).all tr) (fun h' tk I'=>?_))) fun u' s' ⟨v',H',I',r',b,eb,q'⟩=>⟨v',H',I',r',by rw[eb];exact q'⟩
    rw[ug];exact h _ θ H (.refl hw) rfl
   ·exact h.elim
  ·exact h.elim
 ·exact h.elim
def zr:D→Option String
 | .non=>some "NoneType"
 | .bl _=>some "bool"
 | .int _=>some "int"
 | .str _=>some "str"
 | .tup _=>some "tuple"
 | .lst _=>some "list"
 | .ro _=>some "list"
 | _=>none
def vO (d:D)(M:au):Option String:=match d with
 | .mr k=>match M[k]? with
  | some (.lst _)=>some "list"
  | _=>none
 | d=>zr d
def og (t T:String):Bool:=t==T||(t=="bool"&&T=="int")
def bO (T:String)(g:GE):GE:=fun ρ M=>(g ρ M).bind fun d M1=>match vO d M1 with
 | some t=>.ok (.bl (og t T)) M1
 | none=>.bad
def jU (T:String):Prop:=T="int"∨T="bool"∨T="str"∨T="tuple"∨T="list"
theorem eE (K:W.Frag){T:String}(hT:jU T):∀t∈["NoneType","bool","int","str","tuple","list"],W.kitOne K (.type t) (.type T)=some (og t T):=by
 intro t ht;simp only[mem_cons,mem_nil_iff,or_false] at ht;rcases hT with rfl|rfl|rfl|rfl|rfl <;> rcases ht with rfl|rfl|rfl|rfl|rfl|rfl <;> rfl
theorem Bc {T:String}(hT:jU T):dj X (.builtin "isinstance") (fun xs H Q=>∃θ M d v,Wr X.K θ H M∧et X.K θ H d v∧xs=[v,.ty T]∧bg X θ H Q (match vO d M with|some t=>.ok (.bl (og t T)) M|none=>.bad)):=by
 intro ag s σ H xs us Q I r h;obtain⟨θ,M,d,v,hw,rv,e,h⟩:=h;subst e;obtain⟨u,c,rfl,ru,rc⟩:=rj r;cases rc;have fin:∀t tk,vO d M=some t→EP X ag σ Q (.bool (og t T)) {s with toks:=tk}:=fun t tk e=>by
  rw[e] at h;exact⟨.bl _,H,I.tok _,rfl,h _ θ H (.refl hw) rfl⟩
 cases d with
 | non=>have e:v=.non:=rv;subst e;cases ru;exact W.kia_one W.kitx_none I.kIn True.intro (eE X.K hT "NoneType" (by simp)) (fun z=>nomatch z) fun tk=>fin _ tk rfl
 | bl b=>have e:v=.bl b:=rv;subst e;cases ru;exact W.kia_one W.kitx_bool I.kIn True.intro (eE X.K hT "bool" (by simp)) (fun z=>nomatch z) fun tk=>fin _ tk rfl
 | int i=>have e:v=.int i:=rv;subst e;obtain⟨t,rfl⟩:=ru;exact W.kia_one W.kitx_int I.kIn True.intro (eE X.K hT "int" (by simp)) (fun z=>nomatch z) fun tk=>fin _ tk rfl
 | str i=>have e:v=.str i:=rv;subst e;obtain⟨t,rfl⟩:=ru;exact W.kia_one W.kitx_str I.kIn True.intro (eE X.K hT "str" (by simp)) (fun z=>nomatch z) fun tk=>fin _ tk rfl
 | tup ds=>
  obtain⟨a,vs,e,ta,ra⟩:=rv;subst e;cases ru;obtain⟨its,_,⟨o,h1,h2,_⟩,_⟩:=I.tuple ta.sq;exact W.kia_one W.kitx_tuple I.kIn ⟨o,h1,h2⟩ (eE X.K hT "tuple" (by simp)) (fun z=>nomatch z) fun tk=>fin _ tk rfl
 | lst ds=>
  obtain⟨a,vs,e,ta,ra⟩:=rv;subst e;cases ru;obtain⟨its,_,⟨o,n,h1,h2,_⟩,_⟩:=I.list (ta.sq (K:=X.K));exact W.kia_one W.kitx_list I.kIn ⟨o,h1,h2⟩ (eE X.K hT "list" (by simp)) (fun z=>nomatch z) fun tk=>fin _ tk rfl
 | ro ds=>
  obtain⟨a,vs,e,ta,ra⟩:=rv;subst e;cases ru;obtain⟨its,_,⟨o,n,h1,h2,_⟩,_⟩:=I.list ta.sq;exact W.kia_one W.kitx_list I.kIn ⟨o,h1,h2⟩ (eE X.K hT "list" (by simp)) (fun z=>nomatch z) fun tk=>fin _ tk rfl
 | mr k=>
  obtain⟨a,e,ta⟩:=rv;subst e;cases ru;cases qm:M[k]? with
  | none=>simp only[vO,qm] at h;exact h.elim
  | some m=>
   cases m with
   | lst ys=>
    obtain⟨vs,hv,_⟩:=hw.at_ k a _ ta qm;obtain⟨its,_,⟨o,n,h1,h2,_⟩,_⟩:=I.list (X:=X) (xs:=vs) (.inl (.inl hv));exact W.kia_one W.kitx_list I.kIn ⟨o,h1,h2⟩ (eE X.K hT "list" (by simp)) (fun z=>nomatch z) fun tk=>fin _ tk (by simp only[vO,qm])
   | _=>simp only[vO,qm] at h;exact h.elim
 | exc c=>exact h.elim
 | any=>exact h.elim
theorem zM {T:String}{x:Str}{e:Expr}{p p2 pos:Pos}{g:GE}(hT:jU T)(hv:bootBuiltins x=some (.type T))(hg:Gl X x)(hm:X.mg x=none)(hgi:Gl X "isinstance")(hmi:X.mg "isinstance"=none)(he:PE X e (tE X g))
  (hn:x≠"__name__":=by decide) (hd:(x==("__debug__":Str))=false:=by decide) (hbi:bootBuiltins "isinstance"=some (.builtin "isinstance"):=by kernel_rfl) (hs:starEach [e,.Name x p2] X.env=(false,eval e X.env)::starEach [.Name x p2] X.env:=by rfl)
  (hs2:starEach [.Name x p2] X.env=(false,eval (.Name x p2) X.env)::starEach [] X.env:=by rfl) (hpl:(backTo pos (starEach [.Name x p2] X.env)).any (·.1)=false:=by rfl) :
  PE X (.Call (.Name "isinstance" p) [e,.Name x p2] [] pos) (tE X (bO T g)):=
 (j4 (Bc hT) hgi hmi hbi (eS he (eS (rK hg hm hv (v:=.ty T) rfl hn hd) iW hs2) hs) (by decide) (by decide) hs hpl).of fun σ H Q hxx=>by
  obtain⟨ρ,θ,M,hd,hw,h⟩:=hxx;refine cm hd hw (bg X θ H Q) (fun c M' h=>h) (fun h=>h) h fun d M1 v θ1 H1 g1 r1 h1=>?_
  exact⟨θ1,M1,d,v,g1.wr,r1,rfl,bg.go g1 h1⟩
end
def gk:D→Bool
 | .non=>true
 | .bl _=>true
 | .int _=>true
 | .str _=>true
 | _=>false
def yX:D→V
 | .non=>.non
 | .bl b=>.bl b
 | .int i=>.int i
 | .str x=>.str x
 | _=>.non
theorem n6 {K:W.Frag}{θ:List Addr}{H:Hp}{d:D}{v:V}(r:et K θ H d v)(f:gk d=true):v=yX d∧gZ v=true:=by
 cases d with
 | non=>have e:v=.non:=r;subst e;exact⟨rfl,rfl⟩
 | bl b=>have e:v=.bl b:=r;subst e;exact⟨rfl,rfl⟩
 | int b=>have e:v=.int b:=r;subst e;exact⟨rfl,rfl⟩
 | str b=>have e:v=.str b:=r;subst e;exact⟨rfl,rfl⟩
 | _=>cases f
theorem l8 {K:W.Frag}{θ:List Addr}{H:Hp}:∀{ds:List D} {vs:List V},bI K θ H ds vs→ds.all gk=true→vs=ds.map yX∧vs.all gZ=true
 | [],vs,r,f=>by have e:vs=[]:=r;subst e;exact⟨rfl,rfl⟩
 | d::ds,vs,r,f=>by
  obtain⟨v,rr,e,h1,h2⟩:=r;subst e;rw[all_cons,Bool.and_eq_true] at f;obtain⟨e1,f1⟩:=n6 h1 f.1;obtain⟨e2,f2⟩:=l8 h2 f.2;exact⟨by rw[map_cons,←e1,←e2],by rw[all_cons,f1,f2];rfl⟩
theorem rM {x y:D}(fx:gk x=true)(fy:gk y=true):rA (yX x) (yX y)=oB x y:=by
 cases x <;> first|exact ff fx|(cases y <;> first|exact ff fy|rfl)
section
variable {X:Cx}
def o0 (k:Nat)(x:D)(M:au):bw D:=match M[k]? with
 | some (.lst xs)=>if xs.length<sizeLine then .ok .non (M.set k (.lst (xs++[x]))) else .bad
 | _=>.bad
def jM (go ge:GE):GE:=fun ρ M=>(go ρ M).bind fun o M1=>match o with
 | .mr k=>match M1[k]? with
  | some (.lst _)=>(ge ρ M1).bind (o0 k)
  | _=>.bad
 | _=>.bad
theorem sU {o e:Expr}{go ge:GE}{apos cpos:Pos}(ho:PE X o (tE X go))(he:PE X e (tE X ge))
  (hbase:attributeBase o "append" X.env (eval o X.env)=eval o X.env:=by rfl)
  (hfew:((backTo cpos (starEach [e] X.env)).all (fun x=>!x.1)&&(backToKw cpos (keywordEach [] X.env)).all (fun x=>x.1.isSome)
   && decide ([e].length+([]:List Keyword).length+(if([]:List Keyword).isEmpty then 0 else 1)<30))=true:=by rfl)
  (hline:(apos.endLine==cpos.line)=true:=by rfl) (hs:starEach [e] X.env=(false,eval e X.env)::starEach [] X.env:=by rfl) (hplain:(backTo cpos (starEach [] X.env)).any (·.1)=false:=by rfl) :
  PE X (.Call (.Attribute o "append" apos) [e] [] cpos) (tE X (jM go ge)):=
 (vZ PySem.F.plainAttrs_list PySem.F.slot_list_append PySem.F.type_list_append tF ho (eS he iW hs) hbase hfew hline hs hplain).of fun σ H Q hxx=>by
  obtain⟨ρ,θ,M,hd,hw,h⟩:=hxx;refine cm hd hw (bg X θ H Q) (fun c M' h=>h) (fun h=>h) h fun d M1 v θ1 H1 g1 r1 h1=>?_
  have h2:=bg.go g1 h1;cases d with
  | mr k=>
   have h2:bg X θ1 H1 Q (match M1[k]? with|some (.lst _)=>(ge ρ M1).bind (o0 k)|_=>.bad):=h2;cases qm1:M1[k]? with
   | none=>rw[qm1] at h2;exact h2.elim
   | some m1=>
    cases m1 with
    | obj _ _=>rw[qm1] at h2;exact h2.elim
    | dK _=>rw[qm1] at h2;exact h2.elim
    | dT _=>rw[qm1] at h2;exact h2.elim
    | lst ys1=>
     rw[qm1] at h2;obtain⟨a1,ea1,ta1⟩:=id r1;obtain⟨vs1,hv1,_⟩:=g1.wr.at_ k a1 _ ta1 qm1;refine⟨by rw[ea1];exact .inl ⟨rfl,vs1,.inl (.inl hv1)⟩,?_⟩;refine cm (hd.go g1) g1.wr (bg X θ1 H1 Q) (fun c M' h=>h) (fun h=>h) h2 fun dx M2 vx θ2 H2 g2 r2 h3=>?_
     have h3:bg X θ1 H1 Q (match M2[k]? with|some (.lst xs)=>if xs.length<sizeLine then .ok .non (M2.set k (.lst (xs++[dx]))) else .bad|_=>.bad):=h3;obtain⟨a,ea,ta⟩:=r1.go g2;cases qm:M2[k]? with
     | none=>rw[qm] at h3;exact h3.elim
     | some m=>
      cases m with
      | obj _ _=>rw[qm] at h3;exact h3.elim
      | dK _=>rw[qm] at h3;exact h3.elim
      | dT _=>rw[qm] at h3;exact h3.elim
      | lst ys=>
       rw[qm] at h3;obtain⟨vs,hv,ra⟩:=g2.wr.at_ k a _ ta qm;have h3:bg X θ1 H1 Q (if ys.length<sizeLine then .ok .non (M2.set k (.lst (ys++[dx]))) else .bad):=h3;split at h3
       ·rename_i hl;have gs:=v6 (ds:=ys) g2.wr ta (eo ra (show bI X.K θ2 H2 [dx] [vx] from⟨vx,[],rfl,r2,rfl⟩));exact⟨a,vs,vx,ea,rfl,hv,by rw[←av ra];exact hl,h3 _ θ2 _ (g2.trans gs) rfl⟩
       ·exact h3.elim
  | _=>exact h2.elim
end
def bF (f:D→Option D):List D→Option (List D)
 | []=>some []
 | d::ds=>match f d,bF f ds with
  | some x,some xs=>some (x::xs)
  | _,_=>none
def frz (n:Nat)(M:au):Nat→D→Option D
 | 0,_=>none
 | f+1,d=>match d with
  | .mr k=>if k<n then some (.mr k) else match M[k]? with
   | some (.lst xs)=>(bF (frz n M f) xs).map .lst
   | _=>none
  | .tup xs=>(bF (frz n M f) xs).map .tup
  | .lst xs=>(bF (frz n M f) xs).map .lst
  | .ro xs=>(bF (frz n M f) xs).map .ro
  | d=>some d
def pQ (f:D→Option D):List (Str×D)→Option (List (Str×D))
 | []=>some []
 | (x,d)::r=>match f d,pQ f r with
  | some e,some r'=>some ((x,e)::r')
  | _,_=>none
def mW {κ:Type}(f:D→Option D):List (κ×D)→Option (List (κ×D))
 | []=>some []
 | (x,d)::r=>match f d,mW f r with
  | some e,some r'=>some ((x,e)::r')
  | _,_=>none
def eX (n:Nat)(M:au):List MO→Option (List MO)
 | []=>some []
 | .lst xs::r=>match bF (frz n M 30) xs,eX n M r with
  | some ys,some r'=>some (.lst ys::r')
  | _,_=>none
 | .obj c fs::r=>match pQ (frz n M 30) fs,eX n M r with
  | some gs,some r'=>some (.obj c gs::r')
  | _,_=>none
 | .dK fs::r=>match mW (frz n M 30) fs,eX n M r with
  | some gs,some r'=>some (.dK gs::r')
  | _,_=>none
 | .dT fs::r=>match mW (frz n M 30) fs,eX n M r with
  | some gs,some r'=>some (.dT gs::r')
  | _,_=>none
def ju (n:Nat)(o:bw D):bw D:=match o with
 | .ok d M=>if M.length=n then .ok d M else match frz n M 30 d,eX n M (M.take n) with
  | some d',some M'=>.ok d' M'
  | _,_=>.bad
 | .err c M=>if M.length=n then .err c M else match eX n M (M.take n) with
  | some M'=>.err c M'
  | none=>.bad
 | .bad=>.bad
section
variable {K:W.Frag}{θ more:List Addr}{H:Hp}{M:au}{n:Nat}
theorem fV {f:D→Option D}{θ':List Addr}:∀{ds es:List D} {vs:List V},bF f ds=some es→bI K θ' H ds vs→(∀d∈ds,∀e v,f d=some e→et K θ' H d v→et K θ H e v)→bI K θ H es vs
 | [],es,vs,h,r,k=>by cases h;exact r
 | d::ds,es,vs,h,r,k=>by
  obtain⟨v,rr,e,h1,h2⟩:=r;unfold bF at h;cases q1:f d with
  | none=>rw[q1] at h;cases h
  | some x=>
   cases q2:bF f ds with
   | none=>rw[q1,q2] at h;cases h
   | some xs=>
    rw[q1,q2] at h;cases h;exact⟨v,rr,e,k d mem_cons_self x v q1 h1,fV q2 h2 fun d' hd=>k d' (mem_cons_of_mem _ hd)⟩
theorem kP (hw:Wr K (θ++more) H M)(hn:θ.length=n):∀(f:Nat) (d e:D) (v:V),frz n M f d=some e→et K (θ++more) H d v→et K θ H e v
 | 0,d,e,v,h,r=>by cases h
 | f+1,d,e,v,h,r=>by
  have ih:=kP hw hn f;have sub:∀{a:Addr},a∉θ++more→a∉θ:=fun {a} z y=>z (mem_append_left _ y)
  cases d with
  | mr k=>
   obtain⟨a,ea,ta⟩:=r
   by_cases hk:k<n
   ·have h:(if k<n then some (D.mr k) else _)=some e:=h;rw[if_pos hk] at h;cases h;exact⟨a,ea,by rw[getElem?_append_left (by rw[hn];exact hk)] at ta;exact ta⟩
   ·have h:(if k<n then some (D.mr k) else match M[k]? with|some (.lst xs)=>(bF (frz n M f) xs).map .lst|_=>none)=some e:=h;rw[if_neg hk] at h;cases qm:M[k]? with
    | none=>rw[qm] at h;cases h
    | some m=>
     cases m with
     | lst xs=>
      rw[qm] at h;have h:(bF (frz n M f) xs).map D.lst=some e:=h;obtain⟨vs,hv,ra⟩:=hw.at_ k a _ ta qm;cases qo:bF (frz n M f) xs with
      | none=>rw[qo] at h;cases h
      | some ys=>
       rw[qo] at h;cases h;refine⟨a,vs,ea,⟨hv,fun z=>?_⟩,fV qo ra fun d _ e v=>ih d e v⟩;rw[getElem?_append_right (by omega)] at ta;have hm:=mem_of_getElem? ta;exact(nodup_append.mp hw.nd).2.2 a z a hm rfl
     | _=>rw[qm] at h;cases h
  | tup xs=>
   have h:(bF (frz n M f) xs).map D.tup=some e:=h;cases qo:bF (frz n M f) xs with
   | none=>rw[qo] at h;cases h
   | some ys=>
    rw[qo] at h;cases h;obtain⟨a,vs,ea,ta,ra⟩:=r;exact⟨a,vs,ea,⟨ta.1,sub ta.2⟩,fV qo ra fun d _ e v=>ih d e v⟩
  | lst xs=>
   have h:(bF (frz n M f) xs).map D.lst=some e:=h;cases qo:bF (frz n M f) xs with
   | none=>rw[qo] at h;cases h
   | some ys=>
    rw[qo] at h;cases h;obtain⟨a,vs,ea,ta,ra⟩:=r;exact⟨a,vs,ea,⟨ta.1,sub ta.2⟩,fV qo ra fun d _ e v=>ih d e v⟩
  | ro xs=>
   have h:(bF (frz n M f) xs).map D.ro=some e:=h;cases qo:bF (frz n M f) xs with
   | none=>rw[qo] at h;cases h
   | some ys=>
    rw[qo] at h;cases h;obtain⟨a,vs,ea,ta,ra⟩:=r;refine⟨a,vs,ea,?_,fV qo ra fun d _ e v=>ih d e v⟩;rcases ta with⟨t1,t2⟩|t
    ·exact .inl ⟨t1,sub t2⟩
    ·exact .inr t
  | non=>cases h;exact r
  | bl b=>cases h;exact r
  | int b=>cases h;exact r
  | str b=>cases h;exact r
  | exc c=>
   cases h;obtain⟨a,C,ea,kc,t1,t2⟩:=r;exact⟨a,C,ea,kc,t1,sub t2⟩
  | any=>cases h;exact r
theorem si {f:D→Option D}{θ':List Addr}:∀{fs gs:List (Str×D)} {vs:List (Str×V)},pQ f fs=some gs→lj K θ' H fs vs→(∀d e v,f d=some e→et K θ' H d v→et K θ H e v)→lj K θ H gs vs
 | [],gs,vs,h,r,k=>by cases h;exact r
 | (x,d)::fs,gs,vs,h,r,k=>by
  obtain⟨v,rr,e,h1,h2⟩:=r;unfold pQ at h;cases q1:f d with
  | none=>rw[q1] at h;cases h
  | some y=>
   cases q2:pQ f fs with
   | none=>rw[q1,q2] at h;cases h
   | some ys=>
    rw[q1,q2] at h;cases h;exact⟨v,rr,e,k d y v q1 h1,si q2 h2 k⟩
theorem nQ {κ:Type}{f:D→Option D}{θ':List Addr}:∀{fs gs:List (κ×D)} {vs:List (κ×V)},mW f fs=some gs→p0 K θ' H fs vs→(∀d e v,f d=some e→et K θ' H d v→et K θ H e v)→p0 K θ H gs vs
 | [],gs,vs,h,r,k=>by cases h;exact r
 | (x,d)::fs,gs,vs,h,r,k=>by
  obtain⟨v,rr,e,h1,h2⟩:=r;unfold mW at h;cases q1:f d with
  | none=>rw[q1] at h;cases h
  | some y=>
   cases q2:mW f fs with
   | none=>rw[q1,q2] at h;cases h
   | some ys=>
    rw[q1,q2] at h;cases h;exact⟨v,rr,e,k d y v q1 h1,nQ q2 h2 k⟩
theorem jY (hw:Wr K (θ++more) H M)(hn:θ.length=n):∀(l l':List MO),eX n M l=some l'→l'.length=l.length∧∀(i:Nat) m m' a,l[i]?=some m→l'[i]?=some m'→mT K (θ++more) H m a→mT K θ H m' a
 | [],l',h=>by cases h;exact⟨rfl,fun i m m' a e=>by simp at e⟩
 | .lst xs::r,l',h=>by
  unfold eX at h;cases q1:bF (frz n M 30) xs with
  | none=>rw[q1] at h;cases h
  | some ys=>
   cases q2:eX n M r with
   | none=>rw[q1,q2] at h;cases h
   | some r'=>
    rw[q1,q2] at h;cases h;obtain⟨hl,hr⟩:=jY hw hn r r' q2;refine⟨by rw[length_cons,length_cons,hl],fun i m m' a e1 e2 ok=>?_⟩;cases i with
    | zero=>
     have e1:some (MO.lst xs)=some m:=e1;have e2:some (MO.lst ys)=some m':=e2;cases e1;cases e2;obtain⟨vs,hv,ra⟩:=ok;exact⟨vs,hv,fV q1 ra fun d _ e v=>kP hw hn 30 d e v⟩
    | succ i=>exact hr i m m' a e1 e2 ok
 | .obj c fs::r,l',h=>by
  unfold eX at h;cases q1:pQ (frz n M 30) fs with
  | none=>rw[q1] at h;cases h
  | some gs=>
   cases q2:eX n M r with
   | none=>rw[q1,q2] at h;cases h
   | some r'=>
    rw[q1,q2] at h;cases h;obtain⟨hl,hr⟩:=jY hw hn r r' q2;refine⟨by rw[length_cons,length_cons,hl],fun i m m' a e1 e2 ok=>?_⟩;cases i with
    | zero=>
     have e1:some (MO.obj c fs)=some m:=e1;have e2:some (MO.obj c gs)=some m':=e2;cases e1;cases e2;obtain⟨C,dx,vs,kC,hv,ra⟩:=ok;exact⟨C,dx,vs,kC,hv,si q1 ra fun d e v=>kP hw hn 30 d e v⟩
    | succ i=>exact hr i m m' a e1 e2 ok
 | .dK fs::r,l',h=>by
  unfold eX at h;cases q1:mW (frz n M 30) fs with
  | none=>rw[q1] at h;cases h
  | some gs=>
   cases q2:eX n M r with
   | none=>rw[q1,q2] at h;cases h
   | some r'=>
    rw[q1,q2] at h;cases h;obtain⟨hl,hr⟩:=jY hw hn r r' q2;refine⟨by rw[length_cons,length_cons,hl],fun i m m' a e1 e2 ok=>?_⟩;cases i with
    | zero=>
     have e1:some (MO.dK fs)=some m:=e1;have e2:some (MO.dK gs)=some m':=e2;cases e1;cases e2;obtain⟨vs,hv,ra⟩:=ok;exact⟨vs,hv,nQ q1 ra fun d e v=>kP hw hn 30 d e v⟩
    | succ i=>exact hr i m m' a e1 e2 ok
 | .dT fs::r,l',h=>by
  unfold eX at h;cases q1:mW (frz n M 30) fs with
  | none=>rw[q1] at h;cases h
  | some gs=>
   cases q2:eX n M r with
   | none=>rw[q1,q2] at h;cases h
   | some r'=>
    rw[q1,q2] at h;cases h;obtain⟨hl,hr⟩:=jY hw hn r r' q2;refine⟨by rw[length_cons,length_cons,hl],fun i m m' a e1 e2 ok=>?_⟩;cases i with
    | zero=>
     have e1:some (MO.dT fs)=some m:=e1;have e2:some (MO.dT gs)=some m':=e2;cases e1;cases e2;obtain⟨vs,hv,ra⟩:=ok;exact⟨vs,hv,nQ q1 ra fun d e v=>kP hw hn 30 d e v⟩
    | succ i=>exact hr i m m' a e1 e2 ok
theorem wv {θ0:List Addr}{H0:Hp}{θ':List Addr}{H':Hp}{M' M2:au}{n:Nat}(hn:θ0.length=n)(g:Go K θ0 H0 θ' H' M')(h:eX n M' (M'.take n)=some M2):Go K θ0 H0 θ0 H' M2:=by
 obtain⟨m,em,hm⟩:=g.ext;have hw:=g.wr;rw[em] at hw;obtain⟨hl,hr⟩:=jY hw hn _ _ h;have hlen:n≤M'.length:=by rw[←g.wr.len,em,length_append];omega
 refine⟨⟨⟨[],by simp,fun _ z=>by cases z⟩,g.keep,g.tkeep⟩,by rw[hl,length_take];omega,(nodup_append.mp hw.nd).1,fun i a mo e1 e2=>?_,g.wr.tb⟩;have hi:i<n:=by rw[←hn];exact(List.getElem?_eq_some_iff.mp e1).1
 have hiM:i<M'.length:=by omega
 refine hr i M'[i] mo a (by rw[getElem?_take_of_lt hi];exact getElem?_eq_getElem hiM) e2 (hw.at_ i a _ ?_ (getElem?_eq_getElem hiM));rw[getElem?_append_left (by rw[hn];exact hi)];exact e1
end
theorem Bg {P:Program}{w:World}{K:W.Frag}{mg:Str→Option Value}{base:Heap}{k n:Nat}{f:Addr}{fd:FuncData}{ps:List Str}{F:FD}{CX:sH}(h:fE P w K mg base CX k f fd ps (nJ K n F)) :
  fE P w K mg base CX k f fd ps (nJ K n fun ds M=>ju M.length (F ds M)):=h.imp fun vs H Q E hxx=>by
 obtain⟨θ,M,ds,hl,r,hw,q⟩:=hxx;refine⟨θ,M,ds,hl,r,hw,?_⟩;have q:u6 K θ H Q E (ju M.length (F ds M)):=q;cases e:F ds M with
 | bad=>rw[e] at q;exact q
 | err c M1=>
  rw[e] at q;have q:u6 K θ H Q E (if M1.length=M.length then .err c M1 else match eX M.length M1 (M1.take M.length) with|some M'=>.err c M'|none=>.bad):=q;split at q
  ·exact q
  ·split at q
   ·rename_i M2 e2;exact fun C θ' H' a kC g=>q C θ H' a kC (wv hw.len g e2)
   ·exact q.elim
 | ok d M1=>
  rw[e] at q;have q:u6 K θ H Q E (if M1.length=M.length then .ok d M1 else match frz M.length M1 30 d,eX M.length M1 (M1.take M.length) with|some d',some M'=>.ok d' M'|_,_=>.bad):=q;split at q
  ·exact q
  ·split at q
   ·rename_i d' M2 e1 e2;intro v θ' H' g rd;refine q v θ H' (wv hw.len g e2) ?_;obtain⟨m,em,_⟩:=g.ext;have hw':=g.wr;rw[em] at hw' rd;exact kP hw' hw.len 30 d d' v e1 rd
   ·exact q.elim
structure Fn (K:W.Frag)(mg:Str→Option Value)(x:Str)(st:Stmt)(f:Addr)(fd:FuncData)(ps:List Str):Prop where
 F:Ay K x x st f fd
 m:mg x=some (.ref f)
 b:fO K fd ps []
section
variable {X:Cx}
theorem vv (i:Nat){x:Str}{pos:Pos}(hN:X.N[i]?=some x:=by rfl)(hv:CG X.env.scope x:=by first|exact Or.inl rfl|exact Or.inr (Or.inl rfl)|exact Or.inr (Or.inr rfl))(hd:(x==("__debug__":Str))=false:=by decide)
  (hcd:(x==("__classdict__":Str))=false:=by decide):PE X (.Name x pos) (tE X (ae i)):=B7 (AI hN hv hd hcd)
theorem ss (i:Nat){x:Str}{pos pos':Pos}{e:Expr}{g:GE}(hN:X.N.Nodup)(he:PE X e (tE X g))(hi:X.N[i]?=some x:=by rfl)(hx:wJ X.env.scope x:=by first|exact Or.inl rfl|exact Or.inr rfl)
  (hs:swapsWith e (some (.Name x pos')) pos.line X.env=pure false:=by rfl) (hf:X.fn x=true∨X.env.scope.names.lookup x=some .local:=by first|exact .inl rfl|exact .inr rfl) :
  PS X (.Assign [.Name x pos'] e pos) (tS X (aM i g)):=Ac hN hi hx he hs hf
theorem gg (i:Nat){x:Str}{pos:Pos}(hN:X.N.Nodup)(hi:X.N[i]?=some x:=by rfl)(hx:wJ X.env.scope x:=by first|exact Or.inl rfl|exact Or.inr rfl)(hf:X.fn x=true∨X.env.scope.names.lookup x=some .local:=by first|exact .inl rfl|exact .inr rfl):PG X (.Name x pos) (tG X (fQ i)):=ot hN hi hx hf
end
theorem AN {K:W.Frag}{F:FD}{H:Hp}{a:Addr}{ns:List Int}(tb:ki K H)(hS:kU K H a (ns.map V.int))(h:∃M',F [.ro (ns.map D.int)] []=.ok (.bl true) M'){E:XK}:nJ K 1 F [.ref a] H (fun v _=>v=.bl true) E:=by
 obtain⟨M',e⟩:=h;refine⟨[],[],[.ro (ns.map D.int)],rfl,⟨_,[],rfl,⟨a,ns.map V.int,rfl,?_,?_⟩,rfl⟩,⟨rfl,nodup_nil,fun i a m e=>by simp at e,tb⟩,?_⟩
 ·rcases hS with h|h
  ·exact .inl ⟨h,by simp⟩
  ·exact .inr h
 ·clear e
  induction ns with
  | nil=>exact rfl
  | cons n ns ih=>
   refine⟨.int n,ns.map V.int,rfl,rfl,?_⟩;have gen:∀l:List Int,bI K [] H (l.map D.int) (l.map V.int):=by
    intro l
    induction l with
    | nil=>exact rfl
    | cons m l ih=>exact⟨_,_,rfl,rfl,ih⟩
   exact gen ns
 ·rw[e];exact fun v θ' H' g r=>r
def dQ (t:GT)(b:GS):Nat→bU→au→bw Fl
 | 0,_,_=>.bad
 | n+1,ρ,M=>(t ρ M).bind fun c M1=>if c then(b ρ M1).bind fun f M2=>match f with
   | .nx ρ2=>dQ t b n ρ2 M2
   | .ct ρ2=>dQ t b n ρ2 M2
   | .bk ρ2=>.ok (.nx ρ2) M2
   | .rt d=>.ok (.rt d) M2
  else .ok (.nx ρ) M1
def mK (n:Nat)(t:GT)(b:GS):GS:=dQ t b n
theorem vd {X:Cx}{c:Expr}{body:List Stmt}{tc:GT}{gb:GS}{pos:Pos}{n:Nat}(hp:PassesOwn (model X.prog X.w) X.A X.env X.xe)(hc:PT X c (tT X tc))(hb:PSs X body (tS X gb)):PS X (.While c body [] pos) (tS X (mK n tc gb)):=
 (v8 hp hc hb).of fun D σ H hxx=>by
  obtain⟨ρ,θ,M,hd,hw,h⟩:=hxx;refine⟨fun m σ' H'=>∃ρ' θ' M',im X.K θ' H' σ' ρ'∧Wr X.K θ' H' M'∧dg X θ' H' D (dQ tc gb m ρ' M'),⟨n,ρ,θ,M,hd,hw,h⟩,?_⟩;rintro m σ' H' ⟨ρ',θ',M',hd',hw',h'⟩;cases m with
  | zero=>exact h'.elim
  | succ m=>
   have h':dg X θ' H' D ((tc ρ' M').bind _):=h';refine pO hd' hw' (dg X θ' H' D) (fun c M' h=>h) (fun h=>h) h' fun c M1 θ1 H1 g1 h1=>?_
   cases c with
   | false=>
    rw[if_neg Bool.false_ne_true];exact h1 σ' θ1 H1 g1 (hd'.go g1)
   | true=>
    rw[if_pos rfl];refine⟨fun σ2 H2=>∃ρ2 θ2 M2,im X.K θ2 H2 σ2 ρ2∧Wr X.K θ2 H2 M2∧dg X θ2 H2 D (dQ tc gb m ρ2 M2),fun σ2 H2 q=>⟨m,Nat.lt_succ_self _,q⟩,ρ',θ1,M1,hd'.go g1,g1.wr,?_⟩;have h2:=dg.go g1 h1;have h2:dg X θ1 H1 D ((gb ρ' M1).bind _):=h2;cases q:gb ρ' M1 with
    | bad=>rw[q] at h2;exact h2
    | err c M2=>rw[q] at h2;exact h2
    | ok f M2=>
     rw[q] at h2;cases f with
     | nx ρ2=>exact fun σ2 θ2 H2 g2 d2=>⟨ρ2,θ2,M2,d2,g2.wr,dg.go g2 h2⟩
     | ct ρ2=>exact fun σ2 θ2 H2 g2 d2=>⟨ρ2,θ2,M2,d2,g2.wr,dg.go g2 h2⟩
     | bk ρ2=>exact h2
     | rt d=>exact h2
theorem AO {P:Program}{w:World}{K:W.Frag}{mg:Str→Option Value}{base:Heap}{k n:Nat}{f:Addr}{fd:FuncData}{ps:List Str}{CX:sH}(hn:ps.length=n):fE P w K mg base CX k f fd ps (nJ K n fun _ _=>.bad):=
 ⟨rq hn,fun _ _ _ _ _ _ _ _ _ _ _ _ _ ⟨_,_,_,_,_,_,h⟩=>h.elim⟩
def bc:Expr→Bool
 | .Starred _ _=>false
 | _=>true
def cM (es:List Expr):Bool:=es.all bc
theorem sE {e:Expr}{es:List Expr}{env:Env}(h:bc e=true):starEach (e::es) env=(false,eval e env)::starEach es env:=by
 cases e <;> first|rfl|(simp[bc] at h)
theorem sS {pos:Pos}{env:Env}:∀{es:List Expr},cM es=true→(backTo pos (starEach es env)).any (·.1)=false
 | [],_=>rfl
 | e::es,h=>by
  unfold cM at h;rw[all_cons,Bool.and_eq_true] at h;have ih:=sS (pos:=pos) (env:=env) (es:=es) h.2;rw[sE h.1];unfold backTo at ih ⊢;rw[map_cons,any_cons,ih];rfl
section
variable {X:Cx}{e:Expr}{es:List Expr}{x:Str}{p pos:Pos}{k n:Nat}{f:Addr}{fd:FuncData}{ps:List Str}{F:FD}{ga:GA}{g:GE}{tg:Expr}
theorem EG {gr:GA}(ha:PE X e (tE X g))(hr:PA X es (tA X gr))(h:bc e=true:=by rfl):PA X (e::es) (tA X (aa g gr)):=xU ha hr (sE h)
theorem DG (Fn:fE X.prog X.w X.K X.mg X.base (jJ X.prog X.w) k f fd ps (nJ X.K n F))(hr:dm k X.A)(hg:Gl X x)(hm:X.mg x=some (.ref f))(hk:W.keepIn X.K (.ref f)=true)(hb:fO X.K fd ps [])
  (ha:PA X (e::es) (tA X ga)) (hdb:(x==("__debug__":Str))=false:=by decide) (h1:bc e=true:=by rfl) (h2:cM es=true:=by rfl) :
  PE X (.Call (.Name x p) (e::es) [] pos) (tE X (ah n F ga)):=yv Fn hr hg hm hk hb ha hdb (sE h1) (sS h2)
theorem CV {id:String}(hc:dj X (.builtin id) (rC X F))(hg:Gl X x)(hm:X.mg x=none)(hv:bootBuiltins x=some (.builtin id))(ha:PA X (e::es) (tA X ga))(hn:x≠"__name__":=by decide)(hdb:(x==("__debug__":Str))=false:=by decide)
  (h1:bc e=true:=by rfl) (h2:cM es=true:=by rfl):PE X (.Call (.Name x p) (e::es) [] pos) (tE X (aq F ga)):=vY hc hg hm hv ha hn hdb (sE h1) (sS h2)
theorem El {T:String}(hc:dj X (.type T) (rC X F))(hg:Gl X x)(hm:X.mg x=none)(hv:bootBuiltins x=some (.type T))(ha:PA X (e::es) (tA X ga))(hn:x≠"__name__":=by decide)(hdb:(x==("__debug__":Str))=false:=by decide)
  (h1:bc e=true:=by rfl) (h2:cM es=true:=by rfl):PE X (.Call (.Name x p) (e::es) [] pos) (tE X (aq F ga)):=sP hc hg hm hv ha hn hdb (sE h1) (sS h2)
theorem Cw {T:String}{p2:Pos}(hT:jU T)(hv:bootBuiltins x=some (.type T))(hg:Gl X x)(hm:X.mg x=none)(hgi:Gl X "isinstance")(hmi:X.mg "isinstance"=none)(he:PE X e (tE X g))
  (h1:bc e=true:=by rfl) (hn:x≠"__name__":=by decide) (hd:(x==("__debug__":Str))=false:=by decide):PE X (.Call (.Name "isinstance" p) [e,.Name x p2] [] pos) (tE X (bO T g)):=
 zM hT hv hg hm hgi hmi he hn hd boot_isinstance (sE h1) (sE rfl) (sS rfl)
theorem CO {a:Expr}(hg:Gl X "range")(hm:X.mg "range"=none)(ha:PA X [a] (tA X ga))(h1:bc a=true:=by rfl):PI X tg (.Call (.Name "range" p) [a] [] pos) (tI X (eA ga)):=sL hg hm ha (sE h1)
end
end DL
namespace DL
open PySem L2
theorem oE {j:Int}(h:-(2 ^ 62)≤j∧j<2 ^ 62)(M:au):uP [.int j] M=.ok ⟨aU 0 j.toNat,none⟩ M:=by
 unfold uP;exact if_pos h
theorem wq {n:Nat}(h:n≤1000000)(M:au):uP [.int (n:Int)] M=.ok ⟨aU 0 n,none⟩ M:=by
 have:=oE (j:=(n:Int)) (by omega) M;rw[this];rfl
theorem lZ {ds:List D}{M:au}:nE.ok ⟨ds,none⟩ M=true:=rfl
theorem gT {ds0:List D}{ge:GE}{ρ:bU}{P:au→Prop}{Q:D→Prop}:∀(ds:List D),(∀d∈ds,∀M,P M→∃e M',P M'∧Q e∧ge (some d::ρ) M=.ok e M')→∀M,P M→
  ∃es M',P M'∧es.length=ds.length∧(∀e∈es,Q e)∧gO ⟨ds0,none⟩ ce ge ds ρ M=.ok es M'
 | [],h,M,hM=>⟨[],M,hM,rfl,(fun e he=>by cases he),rfl⟩
 | d::ds,h,M,hM=>by
  obtain⟨e,M1,h1,q1,e1⟩:=h d List.mem_cons_self M hM;obtain⟨es,M2,h2,l2,q2,e2⟩:=gT (ds0:=ds0) ds (fun d' hd=>h d' (List.mem_cons_of_mem _ hd)) M1 h1;refine⟨e::es,M2,h2,by simp[l2],fun x hx=>?_,?_⟩
  ·rcases List.mem_cons.mp hx with z|z
   ·subst z;exact q1
   ·exact q2 x z
  ·simp[gO,lZ,ce,e1,e2]
theorem o8 {ds0:List D}{ge:GE}{ρ:bU}{f:D→D}{M:au}:∀(ds:List D),(∀d∈ds,ge (some d::ρ) M=.ok (f d) M)→gO ⟨ds0,none⟩ ce ge ds ρ M=.ok (ds.map f) M
 | [],h=>rfl
 | d::ds,h=>by
  have e1:=h d List.mem_cons_self;have e2:=o8 (ds0:=ds0) ds fun d' hd=>h d' (List.mem_cons_of_mem _ hd)
  simp[gO,lZ,ce,e1,e2]
theorem rR {ds0:List D}{s:GG}{body:GS}{W:bU→au→Prop}:∀(ds:List D),(∀d∈ds,∀ρ M,W ρ M→∃ρ1 ρ2 M2,s d ρ=some ρ1∧body ρ1 M=.ok (.nx ρ2) M2∧W ρ2 M2)→∀ρ M,W ρ M→
  ∃ρ' M',W ρ' M'∧dM ⟨ds0,none⟩ s body ds ρ M=.ok (.nx ρ') M'
 | [],h,ρ,M,hW=>⟨ρ,M,hW,rfl⟩
 | d::ds,h,ρ,M,hW=>by
  obtain⟨ρ1,ρ2,M2,e1,e2,h2⟩:=h d List.mem_cons_self ρ M hW;obtain⟨ρ',M',h3,e3⟩:=rR (ds0:=ds0) ds (fun d' hd=>h d' (List.mem_cons_of_mem _ hd)) ρ2 M2 h2;exact⟨ρ',M',h3,by simp[dM,lZ,e1,e2,e3]⟩
theorem bW (lo:Int)(n:Nat):(aU lo n).length=n:=by simp[aU]
theorem xg {ds:List D}{Q:Int→Prop}(h:∀d∈ds,∃k,d=.int k∧Q k):∃ks:List Int,ds=ks.map D.int∧∀k∈ks,Q k:=by
 induction ds with
 | nil=>exact⟨[],rfl,fun k hk=>by cases hk⟩
 | cons d ds ih=>
  obtain⟨k,e,q⟩:=h d List.mem_cons_self;obtain⟨ks,e2,q2⟩:=ih fun d' hd=>h d' (List.mem_cons_of_mem _ hd)
  refine⟨k::ks,by rw[e,e2];rfl,fun x hx=>?_⟩;rcases List.mem_cons.mp hx with z|z
  ·subst z;exact q
  ·exact q2 x z
theorem yM {ds:List D}{Q:List Int→Prop}(h:∀d∈ds,∃ks:List Int,d=.tup (ks.map D.int)∧Q ks):∃rs:List (List Int),ds=rs.map (fun r=>D.tup (r.map D.int))∧∀r∈rs,Q r:=by
 induction ds with
 | nil=>exact⟨[],rfl,fun k hk=>by cases hk⟩
 | cons d ds ih=>
  obtain⟨k,e,q⟩:=h d List.mem_cons_self;obtain⟨ks,e2,q2⟩:=ih fun d' hd=>h d' (List.mem_cons_of_mem _ hd)
  refine⟨k::ks,by rw[e,e2];rfl,fun x hx=>?_⟩;rcases List.mem_cons.mp hx with z|z
  ·subst z;exact q
  ·exact q2 x z
theorem bo {n:Nat}(h:n≤1000000):n≤sizeLine:=Nat.le_trans h (by rw[sizeLine_eq];decide)
theorem kW (n:Nat):∀ks:List Int,cw n (ks.map D.int)=true
 | []=>by cases n <;> rfl
 | k::ks=>Bool.and_eq_true_iff.mpr ⟨by cases n <;> rfl,kW n ks⟩
end DL
namespace DL
@[simp] theorem FI (i j:Int):oB (.int i) (.int j)=(i==j):=rfl
@[simp] theorem E3 (i j:Bool):oB (.bl i) (.bl j)=(i==j):=rfl
@[simp] theorem FL (i j:PySem.Str):oB (.str i) (.str j)=(i==j):=rfl
@[simp] theorem ER:oB .non .non=true:=rfl
@[simp] theorem Fq (i:Int):oB (.int i) .non=false:=rfl
@[simp] theorem EK (i:Int):oB .non (.int i)=false:=rfl
@[simp] theorem EM (xs ys:List D):oB (.tup xs) (.tup ys)=jz xs ys:=rfl
@[simp] theorem FC (xs ys:List D):oB (.lst xs) (.lst ys)=jz xs ys:=rfl
@[simp] theorem Ds:jz [] []=true:=rfl
@[simp] theorem ED (y:D) (ys:List D):jz [] (y::ys)=false:=rfl
@[simp] theorem Eu (y:D) (ys:List D):jz (y::ys) []=false:=rfl
@[simp] theorem Et (x y:D) (xs ys:List D):jz (x::xs) (y::ys)=(oB x y&&jz xs ys):=rfl
@[simp] theorem Cg (n:Nat) (i:Int):dI n (.int i)=true:=by cases n <;> rfl
@[simp] theorem DJ (n:Nat) (i:Bool):dI n (.bl i)=true:=by cases n <;> rfl
@[simp] theorem Ck (n:Nat):dI n .non=true:=by cases n <;> rfl
@[simp] theorem Ci (n:Nat) (x:PySem.Str):dI n (.str x)=PySem.PyData.strOk x:=by cases n <;> rfl
@[simp] theorem ub (n:Nat) (xs:List D):dI (n+1) (.tup xs)=cw n xs:=rfl
@[simp] theorem tN (n:Nat) (xs:List D):dI (n+1) (.lst xs)=cw n xs:=rfl
@[simp] theorem zj (xs:List D):dI 40 (.tup xs)=cw 39 xs:=ub 39 xs
@[simp] theorem zk (xs:List D):dI 40 (.lst xs)=cw 39 xs:=tN 39 xs
@[simp] theorem AW (n:Nat):cw n []=true:=by cases n <;> rfl
@[simp] theorem yY (n:Nat) (x:D) (xs:List D):cw n (x::xs)=(dI n x&&cw n xs):=by cases n <;> rfl
@[simp] theorem EF (i:Int) (M:au):now (.int i) M=.int i:=rfl
@[simp] theorem E2 (i:Bool) (M:au):now (.bl i) M=.bl i:=rfl
@[simp] theorem Ey (M:au):now .non M=.non:=rfl
@[simp] theorem Er (x:PySem.Str) (M:au):now (.str x) M=.str x:=rfl
@[simp] theorem EB (xs:List D) (M:au):now (.tup xs) M=.tup xs:=rfl
@[simp] theorem EC (xs:List D) (M:au):now (.lst xs) M=.lst xs:=rfl
end DL
namespace DL
open PySem PySem.Spec PyProof.Rows L2 PySem.W PySem.Builtin PySem.Builtin.ObjectAttr PySem.Builtin.Getset_descriptor List
structure jy (K:Frag)(C:Addr):Prop where
 cl:(clsIn K C).isSome=true
 ca:findIn K (.ref C) "__class__"=some (some (.builtin "object.__class__"))
 sp:specialIn K (.builtin "object.__class__") "__get__"=some (some (.builtin "getset_descriptor.__get__"))
 tk:takesIn K (.builtin "object.__class__")=some true
 ob:mroIn K C (.type "object")=some true
 ga:findIn K (.ref C) "__getattribute__"=some (some (.builtin "BaseException.__getattribute__"))
 gh:findIn K (.ref C) "__getattr__"=some none
 be:mroIn K C (.type "BaseException")=some true
def yh (a C:Addr)(h:Heap):Prop:=∃o,h.get? a=some o∧o.cls=.ref C
section
variable {prog:Program}{w:World}{A:Around}{E:Value→Shared→Prop}{K:Frag}{a C:Addr}{h:Heap}{g:Array GenState}{d:Drawn}{t:Nat}{os:OsState}
theorem yh.type {M:Model}(I:yh a C h):Looks M h (typeOf (.ref a)) (.ref C):=by
 obtain⟨o,e,c⟩:=I;exact c▸(Looks.ld e).andThen .now
theorem xF {R:Result→Shared→Prop}{tp:Value}(X:K.In h)(I:yh a C h)(k:jy K C)(hq:R (.ok (.ret (.ref C))) ⟨h,g,d,t,os⟩) :
  codeAny (model prog w) A (.call (.builtin "getset_descriptor.__get__") ⟨[.builtin "object.__class__",.ref a,tp],[]⟩) R ⟨h,g,d,t,os⟩:=by
 have L0:=I.type (M:=model prog w);have L1:=looks_mroIn (M:=model prog w) X k.ob;have go:=KF.slot_gs.check (model prog w) A.in1;refine codeAny_call_builtin KF.slot_gs.plain KF.entry_gs ?_;refine go _ _ _ _ _ _ KF.type_class (KF.args_gs _ _ _) ?_;unfold Builtin.«getset_descriptor.__get__» descrGet;rw[dga_obj];refine wpAny_bind (wpAny_pure ?_);unfold descrGetter descrCheckInstance descrNameAndClass isInstance;simp only[KF.owner_class]
 repeat lk
 refine⟨Code.quiet_builtin _ (by decide +kernel),codeAny_builtin KF.entry_class ?_⟩;unfold Builtin.«object.__class__» shownTypeOf
 repeat lk
 exact hq
theorem vC (X:K.In h)(I:yh a C h)(k:jy K C):Looks (model prog w) h (Builtin.ObjectAttr.find (.ref a) (.ref C) "__class__") (.bind (.builtin "getset_descriptor.__get__") (.builtin "object.__class__")):=by
 have L1:=looks_findIn (M:=model prog w) X k.ca;have L2:Looks (model prog w) h (Builtin.ObjectAttr.getOf (some (.builtin "object.__class__"))) (some (.builtin "getset_descriptor.__get__")):=looks_specialIn X k.sp;unfold Builtin.ObjectAttr.find;refine L1.andThen (L2.andThen ?_);have L3:=looks_takesIn (M:=model prog w) X k.tk;have L4:Looks (model prog w) h (Builtin.ObjectAttr.dataDescriptor? (some (.builtin "object.__class__")) (some (.builtin "getset_descriptor.__get__"))) (some (.builtin "getset_descriptor.__get__",.builtin "object.__class__")):=L3.andThen .now;exact L4.andThen (Looks.tag .now)
theorem tM {tk:Tok}{Q:PySem.Fin→Shared→Prop}(X:K.In h)(I:yh a C h)(k:jy K C)(hq:Q (.done (.ret (.ref C))) ⟨h,g,d,t,os⟩) :
  wpAny (model prog w) A (Builtin.«object.__getattribute__» ⟨[.ref a,.str "__class__" tk],[]⟩) Q E ⟨h,g,d,t,os⟩:=by
 unfold Builtin.«object.__getattribute__»;refine wpAny_bind (wpAny_pure ?_);refine wpAny_bind (wpAny_pure ?_);refine wpAny_bind (I.type.at ?_);refine wpAny_bind ((vC X I k).at ?_);show wpAny (model prog w) A (Builtin.ObjectAttr.bindTo _ _ _ _) Q E _;unfold Builtin.ObjectAttr.bindTo;refine wpAny_bind (wpAny_holding (wpAny_call (xF X I k ?_)));exact wpAny_pure hq
theorem zN {tk:Tok}{Q:Value→Shared→Prop}(X:K.In h)(I:yh a C h)(k:jy K C)(hq:Q (.ref C) ⟨h,g,d,t,os⟩):wpAny (model prog w) A (getAttrBy (.ref a) (.str "__class__" tk) false) Q E ⟨h,g,d,t,os⟩:=by
 have L0:=I.type (M:=model prog w);have L1:=looks_findIn (M:=model prog w) X k.ga;have L2:=looks_findIn (M:=model prog w) X k.gh;have hkind:builtinKind "BaseException.__getattribute__"=some .slot:=by decide +kernel
 have hcut:splitId "BaseException.__getattribute__"=some ("BaseException","__getattribute__"):=by decide +kernel
 have hargs:=F.args_bexc_ga (.ref a) (.str "__class__" tk);have LB:=looks_mroIn (M:=model prog w) X k.be;have chk:∀{A':Around} {E':Value→Shared→Prop} {Q':Unit→Shared→Prop},Q' () ⟨h,g,d,t,os⟩→wpAny (model prog w) A' (checkBuiltinCall "BaseException.__getattribute__" ⟨[.ref a,.str "__class__" tk],[]⟩) Q' E' ⟨h,g,d,t,os⟩:=fun hq'=>by
  simp only[checkBuiltinCall,hkind,hcut];refine wpAny_bind ?_;unfold isInstance;refine wpAny_bind (L0.at (LB.at ?_))
  repeat (first|wp_step)
  exact hq'
 have f3:=PySem.F.attr_ValueError.ga.bind (.ref a);unfold getAttrBy;refine wpAny_holding (wpAny_bind (L0.at (wpAny_bind (L1.at ?_))));show wpAny _ _ (getAttrByItsOwn _ _ _ _ _ _) _ _ _;unfold getAttrByItsOwn hookBefore;refine wpAny_bind ?_;rw[if_pos (show onTheHeap (Value.ref C)=true from rfl)];refine L2.at ?_;refine wpAny_bind (wpAny_attempt (wpAny_holding ?_));unfold callGetattribute;rw[if_neg (by simp)];unfold boundAndCalled;rw[f3];refine wpAny_bind (wpAny_pure ?_);refine wpAny_call (codeAny_call_builtin PySem.F.attr_ValueError.ga.plain F.entry_bexc_ga (chk (tM X I k ?_)));exact wpAny_pure hq
theorem ur {Q:Option Value→Shared→Prop}(X:K.In h)(I:yh a C h)(k:jy K C)(hq:Q (some (.ref C)) ⟨h,g,d,t+1,os⟩):wpAny (model prog w) A (getAttr? (.ref a) "__class__") Q E ⟨h,g,d,t,os⟩:=by
 unfold getAttr? getAttrBy?;refine wpAny_bind (wpAny_mkText ?_);refine wpAny_bind (wpAny_attempt (zN X I k ?_));exact wpAny_pure hq
theorem uW (k:jy K C):KitX K (.ref a) (.ref C) (yh a C) where
 ty:=fun M h _ I=>I.type
 it:=fun M h X I=>by
  have hc:=k.cl;obtain⟨cd,hc⟩:=Option.isSome_iff_exists.mp hc;unfold clsIn at hc;split at hc
  ·rename_i ho;intro A' Q' E' s' k' q;unfold isType loadHead;exact wpAny_bind (wpAny_loadPart (k' _ _ (X _ _ ho)) (wpAny_pure q))
  ·cases hc
 ne:=fun h tp dd its n sl X htp=>by
  refine Bool.eq_false_iff.mpr fun q=>?_
  obtain⟨cd,hc⟩:=Option.isSome_iff_exists.mp k.cl;have e:C=tp:=Value.ref.inj (beq_iff_eq.mp q);subst e;unfold clsIn at hc;split at hc
  ·rename_i ho;have z:=(X _ _ ho).symm.trans htp;cases z
  ·cases hc
 ca:=fun {prog w A E Q s} X I hq=>by
  obtain⟨h,g,d,t,os⟩:=s;exact ur X I k hq
end
end DL
namespace DL
open PySem PySem.Spec PyProof.Rows L2 List
abbrev C4:List Value:=[.type "ValueError",.type "Exception",.type "BaseException",.type "object"]
structure Ec (K:W.Frag)(mg:Str→Option Value)(c:Str)(C:Addr):Prop where
 at_:cI K c C
 m:mg c=some (.ref C)
 k:jy K C
 ex:W.excIn K C C4 "ValueError.__new__"=true
 ty:W.typeIn K (.ref C)=some (.type "type")
 sf:W.mroIn K C (.ref C)=some true
theorem zy {K:W.Frag}{h:Heap}{C:Addr}{bmB:List Value}{newId:String}(X:K.In h)(q:W.excIn K C bmB newId=true) :
  ∃bm N nm qn bs hdct sn sub ab col dd k0 k1 k2 k3 k5 mN,h.get? C=some (excClassObj nm qn C N bs bm hdct sn sub ab col dd k0 k1 k2 k3 k5 newId)∧h.Ns N mN∧mN "__init__"=none∧OwnTail h bmB bm:=by
 unfold W.excIn at q;split at q
 ·rename_i d1 cd s1 at1;split at q
  ·rename_i C2 rest j0 j1 j2 j3 nn j5 e1 e2;simp only[Bool.and_eq_true,beq_iff_eq,Bool.not_eq_true'] at q;obtain⟨⟨⟨⟨⟨r1,r2⟩,r3⟩,r4⟩,r5⟩,r6⟩:=q;subst r1;subst r2;cases cd with
   | mk c1 c2 c3 c4 c5 c6 c7 c8 c9 c10 c11=>
    dsimp only at e1 r3 r5 r6;subst e1;subst r3;have e3:s1=#[j0,j1,j2,j3,some (.builtin nn),j5]:=by
     cases s1 with
     | mk l=>
      have e4:l=_:=e2;rw[e4]
    subst e3;refine⟨rest,c4,c1,c5,c2,c6,c7,c8,c9,c10,d1,j0,j1,j2,j3,j5,h.nsMap c4,X _ _ at1,?_,W.nsMap_none_of_in X r5 r6,W.tail_of_in X r4⟩;exact Heap.Ns.of_isNs (W.isNs_of_in X r5)
  ·cases q
 ·cases q
def gP (c:Str)(g:GE):GS:=fun ρ M=>(g ρ M).bind fun _ M1=>.err c M1
theorem vA {X:Cx}{c:Str}{C:Addr}{e:Expr}{g:GE}{np cpos pos:Pos}(k:Ec X.K X.mg c C)(hc:X.calm=true)(hg:Gl X c)(he:PE X e (tE X g))(h1:bc e=true:=by rfl)(hd:(c==("__debug__":Str))=false:=by decide) :
  PS X (.Raise (some (.Call (.Name c np) [e] [] cpos)) none pos) (tS X (gP c g)):=by
 intro ag s σ H D I h;obtain⟨ρ,θ,M,hdn,hw,h⟩:=h;obtain⟨bm,N,nm,qn,bs,hdct,sn,sub,ab,col,dd,k0,k1,k2,k3,k5,mN,hC,hN,hni,T⟩:=zy I.ok.mod.kin k.ex;have hs:starEach [e] X.env=(false,eval e X.env)::starEach [] X.env:=sE h1;have hplain:(backTo cpos (starEach [e] X.env)).any (·.1)=false:=sS (by unfold cM;simp[h1]);refine wpAny_Raise_call_subT (C:=C) (nm:=nm) (q:=qn) (N:=N) (bs:=bs) (bm:=bm) (hdct:=hdct) (sn:=sn) (sub:=sub) (ab:=ab) (col:=col) (dd:=dd) (k0:=k0) (k1:=k1) (k2:=k2) (k3:=k3) (k5:=k5)
  PySem.F.excBase_ValueError (mN:=mN) (T.hasType PySem.F.excBase_ValueError.hasBase) (I.ok.hd hc) hplain hni (j7 I hg k.m ⟨rfl,?_⟩ hd)
 have hv:=eS he iW hs cpos ag s σ H (fun vs H1=>vs.length=1∧∃θ1 M1,Go X.K θ H θ1 H1 M1∧dN X θ1 H1 c M1) I (by
  refine cm hdn hw (dg X θ H D) (fun c M' h=>h) (fun h=>h) h fun d M1 v θ1 H1 g1 r1 h2=>?_
  exact⟨rfl,θ1,M1,g1,dN.go g1 h2⟩)
 rw[hs] at hv ⊢;refine Calls.evalArgs_plain (wpAny_mono hv (fun us s2 hq=>⟨rfl,?_⟩) fun _ _ y=>y);obtain⟨vs,H1,I1,rv,hl,θ1,M1,g1,ok⟩:=hq;refine⟨by show us.length≤sizeLine;rw[←rv.length,hl];exact Nat.le_trans (by decide:1≤1000000) (by rw[sizeLine_eq];decide),I1.bk _ _ hC,hN.keeps I1.bk,T.keeps I1.bk,fun h' e' hm=>?_⟩;exact ok C θ1 H1 e' _ k.at_ (.refl g1.wr) ⟨ag,σ,.inl ⟨s2.heap,us,I1,hm⟩⟩
section
variable {M:Model}{A:Around}{E:Value→Shared→Prop}{K:W.Frag}{a C G:Addr}{h:Heap}{g:Array GenState}{d:Drawn}{t:Nat}{os:OsState}
theorem oH (X:K.In h)(k:(W.clsIn K G).isSome=true):W.Looks M h (isType (.ref G)) true:=by
 obtain⟨cd,hc⟩:=Option.isSome_iff_exists.mp k;unfold W.clsIn at hc;split at hc
 ·rename_i ho;intro A' Q' E' s' k' q;unfold isType loadHead;exact wpAny_bind (wpAny_loadPart (k' _ _ (X _ _ ho)) (wpAny_pure q))
 ·cases hc
theorem pS {Q:Bool→Shared→Prop}{b:Bool}(X:K.In h)(I:yh a C h)(kG:jy K G)(tG:W.typeIn K (.ref G)=some (.type "type"))(hm:W.mroIn K C (.ref G)=some b)
  (hq:Q b ⟨h,g,d,t,os⟩):wpAny M A (excMatches (.ref a) (.ref G)) Q E ⟨h,g,d,t,os⟩:=by
 have L0:W.Looks M h (typeOf (.ref a)) (.ref C):=I.type;have L1:=W.looks_typeIn (M:=M) X tG;have L2:W.Looks M h (isSubtype (.type "type") (.type "tuple")) false:=W.Looks.of_pure tc_notTuple;have L3:=W.looks_mroIn (M:=M) X kG.be;have L4:=W.looks_mroIn (M:=M) X hm;have L5:W.Looks M h (isInstance (.ref G) (.type "tuple")) false:=L1.andThen L2;have L6:W.Looks M h (isType (.ref G)) true:=oH X kG.cl;unfold excMatches;refine wpAny_bind (L5.at ?_);simp only[Bool.false_eq_true,if_false];refine wpAny_bind (wpAny_pure ?_);simp only[forIn_cons,forIn_nil];unfold isExcClass;refine wpAny_bind (wpAny_bind (wpAny_bind (wpAny_bind (L6.at ?_))));simp only[if_true];refine L3.at ?_;simp only[Bool.not_true,Bool.false_eq_true,if_false];refine wpAny_pure ?_;refine wpAny_pure ?_;refine wpAny_bind (L0.at ?_);refine wpAny_bind (wpAny_bind (wpAny_bind (L4.at ?_)));cases b with
 | true=>
  simp only[if_true];exact wpAny_pure (wpAny_pure (wpAny_pure hq))
 | false=>
  simp only[Bool.false_eq_true,if_false];exact wpAny_pure (wpAny_pure (wpAny_pure hq))
end
section
variable {X:Cx}{ag:List (Addr×Obj)}{σ:L2.St}{H:Hp}{s:Shared}{B:Heap}{a C:Addr}{a0:Value}
theorem tP (I:L2.Inv X ag σ H s)(cov:Au X ag H B)(fl:Heap.FlyingW B X.stack a (.ref C) a0 s.heap)(hn:H a=none):L2.Inv X ag σ (cN H a (xH a C)) s:=by
 obtain⟨oe,vs,he,hcl,hd,_⟩:=fl.first;have hBa:B.get? a=none:=fl.2.1;have nfld:∀b o,s.heap.get? b=some o→(∀ws,o.data≠.fields ws)→b≠a:=fun b o e n z=>by
  subst z;rw[he] at e;cases e;exact n vs hd
 have nB:∀b o,B.get? b=some o→b≠a:=fun b o e z=>by rw[z,hBa] at e;cases e
 have nloc:X.env.locals≠a:=by
  obtain⟨m,⟨o,es,ep,ho,hdat,_⟩,_⟩:=I.loc;exact nfld _ o ho fun ws q=>by rw[hdat] at q;cases q
 have nold:∀b o,X.s₀.heap.get? b=some o→b∉X.ex→b≠a:=fun b o e nx=>by
  by_cases hf:b∈X.fs
  ·obtain⟨_,ob,e2,nf⟩:=I.funs.mem hf;exact nfld b ob e2 nf
  ·obtain⟨o',e'⟩:=cov.old b o e nx (lz I e hf);exact nB b o' e'
 refine⟨I.ok,I.os,I.bare,⟨I.base.keep,I.base.slot,fun b o e n nx=>?_,I.base.there,fun b xs e=>?_,fun b o u e=>?_,fun b ps e=>?_⟩,I.loc,I.cell,?_,fun x c e=>?_,fun p hp=>?_,fun b o e=>?_,I.len⟩
 ·rw[ax (nold b o e nx)];exact I.base.free b o e n nx
 ·have q:=I.base.tups b xs e;rw[ax (fun z=>by rw[z,hn] at q;cases q)];exact q
 ·have q:=I.base.frzs b o u e;rw[ax (fun z=>by rw[z,hn] at q;cases q)];exact q
 ·obtain⟨m,q⟩:=I.base.tbls b ps e;exact⟨m,by rw[ax (fun z=>by rw[z,hn] at q;cases q)];exact q⟩
 ·rw[ax nloc];exact I.free
 ·obtain⟨v,o,ho,hdat⟩:=I.cell x c e;rw[ax (nfld c o ho fun ws q=>by rw[hdat] at q;cases q)];exact I.freeC x c e
 ·obtain⟨e,n,ne,nf,d⟩:=I.pin p hp;obtain⟨o',e'⟩:=cov.pin p hp;exact⟨e,by rw[ax (nB _ _ e')];exact n,ne,nf,d⟩
 ·by_cases hb:b=a
  ·subst hb;rw[cH] at e;cases e;exact⟨⟨oe,he,hcl⟩,⟨oe,he⟩,fun h1 h2 ⟨o,e1,e2⟩ k=>⟨o,k o e1,e2⟩⟩
  ·rw[ax hb] at e;exact(I.hok b o e).stay (fun _ _ _ q=>q) (fun c q=>by rw[ax (fun z=>by rw[z,hn] at q;cases q)];exact q) fun c xs q=>by rw[ax (fun z=>by rw[z,hn] at q;cases q)];exact q
theorem jd {M:Model}{A:Around}{E:Value→Shared→Prop}{i:Nat}{n:Str}{pos:Pos}{Q:Unit→Shared→Prop}(I:L2.Inv X ag σ H s)(hN:X.N.Nodup)(hi:X.N[i]?=some n)(hl:X.env.kindOf n=some .local)
  (h:∀s',L2.Inv X ag (σ.set i none) H s'→Q () s'):wpAny M A (do bindName X.env n .none;unbindBehindTheSuite X.env n pos) Q E s:=by
 obtain⟨m,hn,lk⟩:=I.loc;have hcls:(X.env.scope.kind==.class||(X.env.scope.kind==.module&&X.env.locals != X.env.globals))=false:=by rw[I.ok.kind];rfl
 have hiσ:i<σ.length:=by rw[I.len];exact(List.getElem?_eq_some_iff.mp hi).1
 refine wpAny_nameGoes_keeps hl hn hcls fun h' v hn' hs=>h _ ?_
 have old:∀b o,X.s₀.heap.get? b=some o→b≠X.env.locals:=fun b o e=>Nat.ne_of_lt (Nat.lt_of_lt_of_le (Heap.lt_size e) I.ok.above)
 refine⟨I.ok,I.os,I.bare,⟨fun b o e n hb hx=>(hs.2 b (old b o e)).trans (I.base.keep b o e n hb hx),fun b o e n hb hx=>?_,I.base.free,fun b o e hx=>?_,I.base.tups,I.base.frzs,I.base.tbls⟩,⟨_,hn',fun j y v' e1 e2 e3=>?_⟩,fun y c e=>?_,I.free,I.freeC,fun p hp=>?_,fun b o e=>?_,?_⟩
 ·obtain⟨sl,e1⟩:=I.base.slot b o e n hb hx;exact⟨sl,(hs.2 b (old b o e)).trans e1⟩
 ·obtain⟨o',e1⟩:=I.base.there b o e hx;exact⟨o',(hs.2 b (old b o e)).trans e1⟩
 ·by_cases hj:j=i
  ·subst hj;rw[getElem?_set_self hiσ] at e2;cases e2
  ·rw[getElem?_set_ne (Ne.symm hj)] at e2;obtain⟨u',r',q⟩:=lk j y v' e1 e2 e3;refine⟨u',r',?_⟩;rcases q with⟨k,e⟩|⟨k,c,e,z⟩
   ·have ny:y≠n:=fun e=>hj (lI hN e1 (e▸hi))
    exact .inl ⟨k,by show(if y=n then v else m y)=some u';rw[if_neg ny];exact e⟩
   ·exact .inr ⟨k,c,e,z.sameBut hs (I.cne y c e)⟩
 ·obtain⟨w',z⟩:=I.cell y c e;exact⟨w',z.sameBut hs (I.cne y c e)⟩
 ·obtain⟨e,n,ne,nf,d⟩:=I.pin p hp;exact⟨(hs.2 p.1 ne).trans e,n,ne,nf,d⟩
 ·refine(I.hok b o e).stay (fun c w' hc q=>(hs.2 c ?_).trans q) (fun _ q=>q) fun _ _ q=>q
  rintro z;have hf:=I.free;rw[←z] at hf;rcases hc with hc|hc
  ·rw[←hc,hf] at e;cases e
  ·rw[hf] at hc;cases hc
 ·rw[length_set];exact I.len
theorem qC {M:Model}{A:Around}{E:Value→Shared→Prop}{env:Env}{outer:List Env}{L:Addr}{base h:Heap}{vs:List Value}{Q:Unit→Shared→Prop}
  (hfr:A.frames=some (env::outer)) (hf:env.frame=some L) (hkb:base.StaysIn h) (hl:h.FunFrames base (env::outer)) (m:Heap.MadeExcOf h s.heap a (.ref C) vs)
  (hQ:∀h' t,Heap.HeldW base (env::outer) a (.ref C) (.ref t) L h'→s.heap.UpToSlots h'→Q () {s with heap:=h'}):wpAny M A (noteFrame (.ref a) env) Q E s:=by
 obtain⟨t,he,htn,ht⟩:=m.there;have fresh:base.get? a=none:=by
  cases hq:base.get? a with
  | none=>rfl
  | some o'=>have z:=hkb a o' hq;rw[m.new] at z;cases z
 unfold noteFrame;simp only[hf];refine wpAny_bind (wpAny_field he rfl (x:=.none) rfl ?_);rw[if_neg (by decide)];refine wpAny_entryW (a0:=.ref t) hfr (hl.of_keeps fun b o hb _=>⟨o,m.keeps b o hb,rfl⟩) hf he (fun b o hb=>m.keeps b o (hkb b o hb)) fresh rfl (by show 1<6;decide) rfl fun h' hN=>?_
 obtain⟨x1,x2,x3,x4⟩:=hN;exact hQ h' t ⟨x1,fresh,x2,x3⟩ x4
end
def tX (i:Nat):Fl→Fl
 | .nx ρ=>.nx (ρ.set i none)
 | .bk ρ=>.bk (ρ.set i none)
 | .ct ρ=>.ct (ρ.set i none)
 | .rt d=>.rt d
def jP (i:Nat)(ok:Str→Bool)(gb gh:GS):GS:=fun ρ M=>match gb ρ M with
 | .err c M1=>if ok c then match gh ((List.replicate ρ.length none).set i (some (.exc c))) M1 with
   | .ok f M2=>.ok (tX i f) M2
   | _=>.bad
  else .bad
 | o=>o
abbrev l6 (X:Cx)(pn:List (Addr×Obj))(E:Value→Shared→Prop):Cx:={X with pn:=pn,xe:=E}
abbrev jG (X:Cx)(pn:List (Addr×Obj))(a:Addr):Cx:={X with A:=X.A.mark (some (.ref a)),calm:=false,pn:=pn,xe:=fun _ _=>False}
section
variable {X:Cx}{ag pins' pn:List (Addr×Obj)}{σ:L2.St}{H:Hp}{s:Shared}{E:Value→Shared→Prop}{a:Addr}
theorem BA (k:X.Ok):(l6 X pn E).Ok:=⟨k.mod,k.kind,k.glob,k.blt,k.above,k.inj,k.has,k.cab,k.hd,k.frames,k.stk,k.exf,k.bs,k.bsz,k.noex,k.exfs,k.funs,k.frf⟩
theorem xa (k:X.Ok):(jG X pn a).Ok:=⟨k.mod,k.kind,k.glob,k.blt,k.above,k.inj,k.has,k.cab,(fun z=>by cases z),k.frames,k.stk,k.exf,k.bs,k.bsz,k.noex,k.exfs,k.funs,k.frf⟩
theorem pN (k:(l6 X pn E).Ok):X.Ok:=⟨k.mod,k.kind,k.glob,k.blt,k.above,k.inj,k.has,k.cab,k.hd,k.frames,k.stk,k.exf,k.bs,k.bsz,k.noex,k.exfs,k.funs,k.frf⟩
theorem yg (I:L2.Inv X ag σ H s):L2.Inv (l6 X (X.pn++ag) E) [] σ H s:=⟨BA I.ok,I.os,I.bare,I.base,I.loc,I.cell,I.free,I.freeC,fun p hp=>I.pin p (by simpa using hp),I.hok,I.len⟩
theorem ji (I:L2.Inv (l6 X (X.pn++ag) E) pins' σ H s):L2.Inv X ag σ H s:=⟨pN I.ok,I.os,I.bare,I.base,I.loc,I.cell,I.free,I.freeC,fun p hp=>I.pin p (mem_append_left _ hp),I.hok,I.len⟩
theorem wj (I:L2.Inv (l6 X pn E) pins' σ H s):L2.Inv (jG X pn a) pins' σ H s:=⟨xa (pN I.ok),I.os,I.bare,I.base,I.loc,I.cell,I.free,I.freeC,I.pin,I.hok,I.len⟩
theorem hU (k:X.Ok)(I:L2.Inv (jG X (X.pn++ag) a) pins' σ H s):L2.Inv X ag σ H s:=⟨k,I.os,I.bare,I.base,I.loc,I.cell,I.free,I.freeC,fun p hp=>I.pin p (mem_append_left _ hp),I.hok,I.len⟩
end
theorem im.clear {K:W.Frag}{θ:List Addr}{H:Hp}{σ:L2.St}{ρ:bU}(h:im K θ H σ ρ)(i:Nat):im K θ H (σ.set i none) (ρ.set i none):=by
 refine⟨by rw[length_set,length_set];exact h.len,fun j d e=>?_⟩
 by_cases hj:j=i
 ·subst hj;have hl:j<ρ.length:=by have:=(List.getElem?_eq_some_iff.mp e).1;rw[length_set] at this;exact this
  rw[getElem?_set_self hl] at e;cases e
 ·rw[getElem?_set_ne (Ne.symm hj)] at e;obtain⟨u,e1,r1⟩:=h.at_ j d e;exact⟨u,by rw[getElem?_set_ne (Ne.symm hj)];exact e1,r1⟩
theorem wo {K:W.Frag}{θ:List Addr}{H:Hp}{σ:L2.St}{n i:Nat}{d:D}{v:V}(hl:σ.length=n)(r:et K θ H d v):im K θ H (σ.set i (some v)) ((List.replicate n none).set i (some d)):=by
 refine⟨by rw[length_set,length_set,length_replicate,hl],fun j d' e=>?_⟩
 by_cases hj:j=i
 ·subst hj;have hlt:j<n:=by have:=(List.getElem?_eq_some_iff.mp e).1;rw[length_set,length_replicate] at this;exact this
  rw[getElem?_set_self (by rw[length_replicate];exact hlt)] at e;have e':d=d':=by simpa using e
  subst e';exact⟨v,getElem?_set_self (by rw[hl];exact hlt),r⟩
 ·rw[getElem?_set_ne (Ne.symm hj),getElem?_replicate] at e;split at e <;> cases e
theorem BH {X:Cx}{G n:Str}{Ga:Addr}{i:Nat}{ok:Str→Bool}{gb gh:GS}{body suite:List Stmt}{b0:Stmt}{np hpos pos:Pos}(kG:Ec X.K X.mg G Ga)(hok:∀c C,ok c=true→cI X.K c C→W.mroIn X.K C (.ref Ga)=some true)
  (hg:Gl X G) (hst:X.stack=X.env::X.outer) (hf:X.env.frame=some X.env.locals) (hN:X.N.Nodup) (hi:X.N[i]?=some n) (hl:X.env.kindOf n=some .local) (hfn:X.fn n=true∨X.env.scope.names.lookup n=some .local)
  (hb:∀pn E,PSs (l6 X pn E) body (tS (l6 X pn E) gb)) (hh:∀pn a,PSs (jG X pn a) (b0::suite) (tS (jG X pn a) gh)) (hd:(G==("__debug__":Str))=false:=by decide) :
  PS X (.Try body [.ExceptHandler (some (.Name G np)) (some n) (b0::suite) hpos] [] [] pos) (tS X (jP i ok gb gh)):=by
 intro ag s σ H D I h;obtain⟨ρ,θ,M,hdn,hw,h⟩:=h;have fin:∀(f:Flow) (s1:Shared) (E:Value→Shared→Prop),SP (l6 X (X.pn++ag) E) [] D f s1→SP X ag D f s1:=fun f s1 E q=>by
  cases f with
  | next=>obtain⟨σ',H',I',q⟩:=q;exact⟨σ',H',ji I',q⟩
  | brk=>obtain⟨σ',H',I',q⟩:=q;exact⟨σ',H',ji I',q⟩
  | cont=>obtain⟨σ',H',I',q⟩:=q;exact⟨σ',H',ji I',q⟩
  | ret u=>obtain⟨v,σ',H',I',r,q⟩:=q;exact⟨v,σ',H',ji I',r,q⟩
 refine wpAny_Try_except ?_;obtain⟨E,hE⟩:∃E:Value→Shared→Prop,E=(fun e s₁=>wpAny (model X.prog X.w) X.A (noteFrame e X.env) (fun _ s₂=>wpAny (model X.prog X.w) X.A (setFlight e none) (fun _ s₃=>wpAny (model X.prog X.w) X.A (handleBy e X.env [.ExceptHandler (some (.Name G np)) (some n) (b0::suite) hpos]) (SP X ag D) X.xe s₃) X.xe s₂) X.xe s₁):=⟨_,rfl⟩;refine wpAny_mono (hb (X.pn++ag) E [] s σ H D (yg I) ⟨ρ,θ,M,hdn,hw,?_⟩) (fun f s1 q=>?_) fun e s₁ y=>by rw[hE] at y;exact y
 ·unfold jP at h;cases q:gb ρ M with
  | ok f M1=>rw[q] at h;cases f <;> exact h
  | bad=>rw[q] at h;exact h
  | err c M1=>
   rw[q] at h;have h:dg X θ H D (if ok c=true then(match gh ((List.replicate ρ.length none).set i (some (.exc c))) M1 with | .ok f M2=>.ok (tX i f) M2|_=>.bad) else .bad):=h
   by_cases hc:ok c=true
   ·rw[if_pos hc] at h;intro C θ1 H1 a s1 kC g1 fl;obtain⟨pins',σ',fl⟩:=fl;show E (.ref a) s1;rw[hE];have land:∀(B:Heap) (a0:Value) (s5:Shared),L2.Inv (l6 X (X.pn++ag) E) pins' σ' H1 s5→H1 a=none→
      Heap.FlyingW B X.stack a (.ref C) a0 s5.heap→Au (jG X (X.pn++ag) a) pins' H1 B→wpAny (model X.prog X.w) X.A (handleBy (.ref a) X.env [.ExceptHandler (some (.Name G np)) (some n) (b0::suite) hpos]) (SP X ag D) X.xe s5:=fun B a0 s5 I5 hn fl5 cov=>by
     have J5:L2.Inv (jG X (X.pn++ag) a) pins' σ' H1 s5:=wj I5;refine wpAny_handleBy_cons (codeAny_handlers_test (j7 (X:=jG X (X.pn++ag) a) J5 hg kG.m ?_ hd)) (by intro q;cases q);obtain⟨hp5,gg5,dd5,tt5,os5⟩:=s5;refine pS J5.kIn fl5.there kG.k kG.ty (hok c C hc kC) (codeAny_handlers_suite_as ?_);refine lands_againW fl5 fun h6 fl6 up6=>?_
     have J6:=iM J5 cov fl5.1 fl6.1 up6;have J7:=tP J6 cov fl6 hn;refine mw (X:=jG X (X.pn++ag) a) J7 hN hi (.inl hl) (v:=.ref a) rfl (fun s8 J8=>?_) hfn;have g7:Go X.K θ1 H1 θ1 (cN H1 a (xH a C)) M1:=eO g1.wr hn;have ra:et X.K θ1 (cN H1 a (xH a C)) (.exc c) (.ref a):=⟨a,C,rfl,kC,cH,g1.wr.fresh hn⟩;have hlen:σ'.length=ρ.length:=by rw[hdn.len,J7.len];exact I.len.symm
     refine wpAny_mono (hh (X.pn++ag) a pins' s8 _ _ {nx:=fun σ2 H2=>D.nx (σ2.set i none) H2,bk:=fun σ2 H2=>D.bk (σ2.set i none) H2,ct:=fun σ2 H2=>D.ct (σ2.set i none) H2,rt:=D.rt} J8 ⟨_,θ1,M1,wo hlen ra,g7.wr,?_⟩) (fun f s9 q9=>?_) fun _ _ z=>z.elim
     ·cases qg:gh ((List.replicate ρ.length none).set i (some (.exc c))) M1 with
      | bad=>rw[qg] at h;exact h
      | err c2 M2=>rw[qg] at h;exact h.elim
      | ok f M2=>
       rw[qg] at h;have gg:=g1.trans g7;cases f with
       | nx ρ2=>exact fun σ2 θ2 H2 g2 d2=>h (σ2.set i none) θ2 H2 (gg.trans g2) (d2.clear i)
       | bk ρ2=>exact fun σ2 θ2 H2 g2 d2=>h (σ2.set i none) θ2 H2 (gg.trans g2) (d2.clear i)
       | ct ρ2=>exact fun σ2 θ2 H2 g2 d2=>h (σ2.set i none) θ2 H2 (gg.trans g2) (d2.clear i)
       | rt d=>exact fun v θ2 H2 g2 r2=>h v θ2 H2 (gg.trans g2) r2
     ·cases f with
      | next=>
       obtain⟨σ9,H9,I9,q9⟩:=q9;exact jd (X:=jG X (X.pn++ag) a) I9 hN hi hl fun s' I'=>⟨_,H9,hU I.ok I',q9⟩
      | brk=>
       obtain⟨σ9,H9,I9,q9⟩:=q9;exact jd (X:=jG X (X.pn++ag) a) I9 hN hi hl fun s' I'=>⟨_,H9,hU I.ok I',q9⟩
      | cont=>
       obtain⟨σ9,H9,I9,q9⟩:=q9;exact jd (X:=jG X (X.pn++ag) a) I9 hN hi hl fun s' I'=>⟨_,H9,hU I.ok I',q9⟩
      | ret u=>
       obtain⟨v9,σ9,H9,I9,r9,q9⟩:=q9;exact jd (X:=jG X (X.pn++ag) a) I9 hN hi hl fun s' I'=>⟨v9,_,H9,hU I.ok I',r9,q9⟩
    have hfrm:X.A.frames=some (X.env::X.outer):=by rw[←hst];exact I.ok.frames
    rcases fl with⟨h0,vs,I0,m⟩|⟨I0,hn,B,a0,fl,cov⟩|⟨I0,hn,B,a0,L,hL,held,cov⟩
    ·have cov:=pk I0;have hid:∀b o,(W.hideAll h0 (lP X.stack)).get? b=some o→h0.get? b=some o:=fun b o q=>W.of_hideAll _ q
     have ff:h0.FunFrames (W.hideAll h0 (lP X.stack)) (X.env::X.outer):=by rw[←hst];exact kY I0
     refine qC hfrm hf hid ff m fun h4 t held4 up4=>?_
     refine wpAny_landsW held4 fun h5 fl5 up5=>?_
     have I1:=I0.kept (t':=s1.toks) (h':=s1.heap) m.keeps;have I5:=iM (s:=s1) (h':=h5) I1 cov (fun b o q=>m.keeps b o (hid b o q)) fl5.1 (up4.trans up5);have fl6:=fl5;rw[←hst] at fl6;exact land _ _ _ I5 (nk I0 m) fl6 ⟨cov.trk,cov.pin,cov.old⟩
    ·have fl:Heap.FlyingW B (X.env::X.outer) a (.ref C) a0 s1.heap:=by rw[←hst];exact fl
     refine wpAny_looks_onW hfrm hf fl fun h4 held4 up4=>?_
     refine wpAny_landsW held4 fun h5 fl5 up5=>?_
     have I5:=iM (s:=s1) (h':=h5) I0 cov fl.1 fl5.1 (up4.trans up5);have fl6:=fl5;rw[←hst] at fl6;exact land B a0 _ I5 hn fl6 ⟨cov.trk,cov.pin,cov.old⟩
    ·refine wpAny_noteFrame_againW hL held.2.2.2 ?_;refine wpAny_landsW held fun h5 fl5 up5=>?_
     have I5:=iM (s:=s1) (h':=h5) I0 cov held.1 fl5.1 up5;exact land B a0 _ I5 hn fl5 ⟨cov.trk,cov.pin,cov.old⟩
   ·rw[if_neg hc] at h;exact h.elim
 ·cases f with
  | next=>exact wpAny_execs_nil (fin .next s1 _ q)
  | brk=>exact fin .brk s1 _ q
  | cont=>exact fin .cont s1 _ q
  | ret u=>exact fin (.ret u) s1 _ q
section
variable {X:Cx}
theorem mD {x:V}:∀{xs:List V} {us:List Value},bi xs us→xs.all gZ=true→us.countP (Cj x)=xs.countP fun y=>rA y x
 | _,_,.nil,_=>rfl
 | y::xs,u::us,.cons r t,f=>by
  rw[all_cons,Bool.and_eq_true] at f;rw[countP_cons,countP_cons,p6 r f.1,mD t f.2]
theorem rL {x:V}:∀{xs:List V} {us:List Value},bi xs us→xs.all gZ=true→us.findIdx? (Cj x)=xs.findIdx? fun y=>rA y x
 | _,_,.nil,_=>rfl
 | y::xs,u::us,.cons r t,f=>by
  rw[all_cons,Bool.and_eq_true] at f;rw[findIdx?_cons,findIdx?_cons,p6 r f.1,rL t f.2]
def iI (d:D)(M:au):Option (List D):=match d with
 | .lst xs=>some xs
 | .ro xs=>some xs
 | .mr k=>match M[k]? with
  | some (.lst xs)=>some xs
  | _=>none
 | _=>none
theorem qA {K:W.Frag}{θ:List Addr}{H:Hp}{M:au}{d:D}{xs:List D}{v:V}(hw:Wr K θ H M)(r:et K θ H d v)(e:iI d M=some xs):∃a vs,v=.ref a∧kU K H a vs∧bI K θ H xs vs:=by
 cases d with
 | lst ys=>cases e;obtain⟨a,vs,ea,ta,ra⟩:=r;exact⟨a,vs,ea,ta.sq,ra⟩
 | ro ys=>cases e;obtain⟨a,vs,ea,ta,ra⟩:=r;exact⟨a,vs,ea,ta.sq,ra⟩
 | mr k=>
  obtain⟨a,ea,ta⟩:=r;have e:(match M[k]? with|some (.lst xs)=>some xs|_=>none)=some xs:=e;cases q:M[k]? with
  | none=>rw[q] at e;cases e
  | some m=>
   cases m with
   | lst ys=>
    rw[q] at e;cases e;obtain⟨vs,hv,ra⟩:=hw.at_ k a _ ta q;exact⟨a,vs,ea,.inl (.inl hv),ra⟩
   | _=>rw[q] at e;cases e
 | _=>cases e
def vg (K:W.Frag):V→List V→Hp→VK→Prop:=fun x vs H Q=>∃p xs y,x=.ref p∧vs=[y]∧kU K H p xs∧gZ y=true∧xs.all gZ=true∧Q (.int (xs.countP fun z=>rA z y)) H
theorem uU:FK X "list.count" (vg X.K):=by
 intro ag s σ H x vs v us Q I rx rv h;obtain⟨p,xs,y,rfl,rfl,hq,fy,fs,q⟩:=h;cases rx;obtain⟨u,rfl,ru⟩:=rv.one;obtain⟨its,r,⟨o,n,h1,h2,h3,h4⟩,hz⟩:=I.list hq;obtain⟨c,dd,dat,sl⟩:=o;have e1:c=.type "list":=h2;have e2:dat=.seq its.toArray n:=h4;subst e1;subst e2;refine call_meets F.slot_list_count ⟨_,h1,rfl⟩ F.entry_list_count (F.args_list_count_2 _ _) (SeqAt.list_countAt p its.toArray n dd sl u (Cj y)) ⟨h1,fun w hw=>lJ ru fy r fs w (by simpa using hw),?_⟩;refine⟨.int (xs.countP fun z=>rA z y),H,I.tok _,⟨s.toks,?_⟩,q⟩;rw[←mD r fs]
def vF (K:W.Frag):V→List V→Hp→VK→Prop:=fun x vs H Q=>∃p xs y j,x=.ref p∧vs=[y]∧kU K H p xs∧gZ y=true∧xs.all gZ=true∧(xs.findIdx? fun z=>rA z y)=some j∧Q (.int (j:Nat)) H
theorem vJ:FK X "list.index" (vF X.K):=by
 intro ag s σ H x vs v us Q I rx rv h;obtain⟨p,xs,y,j,rfl,rfl,hq,fy,fs,hj,q⟩:=h;cases rx;obtain⟨u,rfl,ru⟩:=rv.one;obtain⟨its,r,⟨o,n,h1,h2,h3,h4⟩,hz⟩:=I.list hq;obtain⟨c,dd,dat,sl⟩:=o;have e1:c=.type "list":=h2;have e2:dat=.seq its.toArray n:=h4;subst e1;subst e2;rw[←rL r fs] at hj;obtain⟨hlt,hhit,hno⟩:=findIdx?_eq_some_iff_getElem.mp hj;have hsz:j<its.toArray.size:=by simpa using hlt
 have hsmall:(j:Int)<2 ^ 63-1:=by
  have l1:=r.length;have l2:=js;omega
 refine call_meets F.slot_list_index ⟨_,h1,rfl⟩ F.entry_list_index (F.args_list_index_2 _ _) (SeqAt.list_indexAt p its.toArray n dd sl u (Cj y) j hsz hsmall (by simpa using hhit) (fun m hm hmj=>by have:=hno m hmj;simpa using this)) ⟨h1,fun w hw=>lJ ru fy r fs w (by simpa using hw),?_⟩;exact⟨.int j,H,I.tok _,⟨s.toks,rfl⟩,q⟩
def gE (F:List D→D→au→bw D)(go ge:GE):GE:=fun ρ M=>(go ρ M).bind fun o M1=>match iI o M1 with
 | some _=>(ge ρ M1).bind fun x M2=>match iI o M2 with
  | some xs=>F xs x M2
  | none=>.bad
 | none=>.bad
def iX (xs:List D)(x:D)(M:au):bw D:=if gk x&&xs.all gk then .ok (.int (xs.countP fun y=>oB y x)) M else .bad
def iU (xs:List D)(x:D)(M:au):bw D:=if gk x&&xs.all gk then(match xs.findIdx? fun y=>oB y x with|some j=>.ok (.int (j:Nat)) M|none=>.bad) else .bad
theorem l0 {x:D}:∀{ds:List D},gk x=true→ds.all gk=true→(ds.map yX).countP (fun z=>rA z (yX x))=ds.countP fun y=>oB y x
 | [],_,_=>rfl
 | d::ds,fx,f=>by
  rw[all_cons,Bool.and_eq_true] at f;rw[map_cons,countP_cons,countP_cons,l0 fx f.2,rM f.1 fx]
theorem rO {x:D}:∀{ds:List D},gk x=true→ds.all gk=true→(ds.map yX).findIdx? (fun z=>rA z (yX x))=ds.findIdx? fun y=>oB y x
 | [],_,_=>rfl
 | d::ds,fx,f=>by
  rw[all_cons,Bool.and_eq_true] at f;rw[map_cons,findIdx?_cons,findIdx?_cons,rO fx f.2,rM f.1 fx]
section
variable {o e:Expr}{go ge:GE}{apos cpos:Pos}
theorem rS {F:List D→D→au→bw D}{rr:V→List V→Hp→VK→Prop}{σ:L2.St}{H:Hp}{Q:VK}(hs:starEach [e] X.env=(false,eval e X.env)::starEach [] X.env)
  (hF:∀θ H M o x xs v y Q,Wr X.K θ H M→et X.K θ H o v→iI o M=some xs→et X.K θ H x y→bg X θ H Q (F xs x M)→rr v [y] H Q) (h:tE X (gE F go ge) σ H Q):FR X.K "list" rr (tE X go) (rE (tE X ge) AB) σ H Q:=by
 obtain⟨ρ,θ,M,hd,hw,h⟩:=h;refine cm hd hw (bg X θ H Q) (fun c M' h=>h) (fun h=>h) h fun d M1 v θ1 H1 g1 r1 h1=>?_
 have h2:=bg.go g1 h1;cases ql:iI d M1 with
 | none=>rw[ql] at h2;exact h2.elim
 | some xs0=>
  rw[ql] at h2;obtain⟨a,vs,ea,sq,ra⟩:=qA g1.wr r1 ql;refine⟨by rw[ea];exact .inl ⟨rfl,vs,sq⟩,?_⟩;refine cm (hd.go g1) g1.wr (bg X θ1 H1 Q) (fun c M' h=>h) (fun h=>h) h2 fun dx M2 vx θ2 H2 g2 r2 h3=>?_
  have h4:=bg.go g2 h3;cases ql2:iI d M2 with
  | none=>rw[ql2] at h4;exact h4.elim
  | some xs=>
   rw[ql2] at h4;exact hF θ2 H2 M2 d dx xs v vx Q g2.wr (r1.go g2) ql2 r2 h4
theorem v7 {θ:List Addr}{H:Hp}{M:au}{o x:D}{xs:List D}{v y:V}{Q:VK}(hw:Wr X.K θ H M)(r:et X.K θ H o v)(el:iI o M=some xs)(ry:et X.K θ H x y)(h:bg X θ H Q (iX xs x M)):vg X.K v [y] H Q:=by
 obtain⟨a,vs,ea,sq,ra⟩:=qA hw r el;unfold iX at h;split at h
 ·rename_i hc;rw[Bool.and_eq_true] at hc;obtain⟨e1,f1⟩:=n6 ry hc.1;obtain⟨e2,f2⟩:=l8 ra hc.2;refine⟨a,vs,y,ea,rfl,sq,f1,f2,?_⟩;rw[e1,e2,l0 hc.1 hc.2];exact h _ θ H (.refl hw) rfl
 ·exact h.elim
theorem uA {θ:List Addr}{H:Hp}{M:au}{o x:D}{xs:List D}{v y:V}{Q:VK}(hw:Wr X.K θ H M)(r:et X.K θ H o v)(el:iI o M=some xs)(ry:et X.K θ H x y)(h:bg X θ H Q (iU xs x M)):vF X.K v [y] H Q:=by
 obtain⟨a,vs,ea,sq,ra⟩:=qA hw r el;unfold iU at h;split at h
 ·rename_i hc;rw[Bool.and_eq_true] at hc;obtain⟨e1,f1⟩:=n6 ry hc.1;obtain⟨e2,f2⟩:=l8 ra hc.2;split at h
  ·rename_i j hj;exact⟨a,vs,y,j,ea,rfl,sq,f1,f2,by rw[e1,e2,rO hc.1 hc.2];exact hj,h _ θ H (.refl hw) rfl⟩
  ·exact h.elim
 ·exact h.elim
theorem qR {env:Env}(h:bc e=true):((backTo cpos (starEach [e] env)).all (fun x=>!x.1)&&(backToKw cpos (keywordEach [] env)).all (fun x=>x.1.isSome)
   && decide ([e].length+([]:List Keyword).length+(if([]:List Keyword).isEmpty then 0 else 1)<30))=true:=by
 rw[sE h];rfl
theorem uY (ho:PE X o (tE X go))(he:PE X e (tE X ge))(h1:bc e=true:=by rfl)(hbase:attributeBase o "count" X.env (eval o X.env)=eval o X.env:=by rfl)(hline:(apos.endLine==cpos.line)=true:=by rfl) :
  PE X (.Call (.Attribute o "count" apos) [e] [] cpos) (tE X (gE iX go ge)):=
 (vZ PySem.F.plainAttrs_list PySem.F.slot_list_count PySem.F.type_list_count uU ho (eS he iW (sE h1)) hbase (qR h1) hline (sE h1) rfl).of fun σ H Q h=>rS (sE h1) (fun θ H M o x xs v y Q=>v7) h
theorem uS (ho:PE X o (tE X go))(he:PE X e (tE X ge))(h1:bc e=true:=by rfl)(hbase:attributeBase o "index" X.env (eval o X.env)=eval o X.env:=by rfl)(hline:(apos.endLine==cpos.line)=true:=by rfl) :
  PE X (.Call (.Attribute o "index" apos) [e] [] cpos) (tE X (gE iU go ge)):=
 (vZ PySem.F.plainAttrs_list PySem.F.slot_list_index PySem.F.type_list_index vJ ho (eS he iW (sE h1)) hbase (qR h1) hline (sE h1) rfl).of fun σ H Q h=>rS (sE h1) (fun θ H M o x xs v y Q=>uA) h
end
def gp (ok:Str→Option Bool)(g:GE):GE:=fun ρ M=>(g ρ M).bind fun d M1=>match d with
 | .exc c=>match ok c with
  | some b=>.ok (.bl b) M1
  | none=>.bad
 | _=>.bad
theorem vU {c0:Value}{v0:V}{ok:Str→Option Bool}(r0:∀c,L2.RelV v0 c→c=c0)(hk:∀c b C,ok c=some b→cI X.K c C→jy X.K C∧W.kitOne X.K (.ref C) c0=some b) :
  dj X (.builtin "isinstance") (fun xs H Q=>∃θ M d v,Wr X.K θ H M∧et X.K θ H d v∧xs=[v,v0]∧bg X θ H Q (match d with | .exc c=>(match ok c with|some b=>.ok (.bl b) M|none=>.bad)|_=>.bad)):=by
 intro ag s σ H xs us Q I r h;obtain⟨θ,M,d,v,hw,rv,e,h⟩:=h;subst e;obtain⟨u,c,rfl,ru,rc⟩:=rj r;have ec:c=c0:=r0 c rc;subst ec;cases d with
 | exc c=>
  obtain⟨a,C,ea,kC,t,na⟩:=rv;subst ea;cases ru;cases q:ok c with
  | none=>simp only[q] at h;exact h.elim
  | some b=>
   simp only[q] at h;obtain⟨kx,e1⟩:=hk c b C q kC;obtain⟨p,_,_⟩:=I.hok a _ t;exact W.kia_one (uW kx) I.kIn p e1 (fun z=>nomatch z) fun tk=>⟨.bl b,H,I.tok _,rfl,h _ θ H (.refl hw) rfl⟩
 | _=>exact h.elim
def oO (l:List (Str×Bool))(c:Str):Option Bool:=l.lookup c
theorem vz {K:W.Frag}{l:List (Str×Bool)}{c0:Value}(h:∀p∈l,∃C,cI K p.1 C∧jy K C∧W.kitOne K (.ref C) c0=some p.2):∀c b C,oO l c=some b→cI K c C→jy K C∧W.kitOne K (.ref C) c0=some b:=fun c b C e kC=>by
 obtain⟨C',k1,k2,k3⟩:=h (c,b) (PySem.mem_of_lookup e);have:=k1.inj kC;subst this;exact⟨k2,k3⟩
theorem yk {K:W.Frag}{mg:Str→Option Value}{g:Str}{C G:Addr}{b:Bool}(kG:Ec K mg g G)(hm:W.mroIn K C (.ref G)=some b):W.kitOne K (.ref C) (.ref G)=some b:=by
 unfold W.kitOne;split
 ·rename_i q;have e:C=G:=Value.ref.inj (beq_iff_eq.mp q);subst e;rw[kG.sf] at hm;exact hm
 ·show(if((W.clsIn K G).isSome&&W.typeIn K (.ref G)==some (.type "type"))=true then W.subIn K (.ref C) (.ref G) else none)=some b;rw[if_pos (by rw[kG.k.cl,kG.ty];rfl)];exact hm
theorem uq {K:W.Frag}{T:String}{C:Addr}{b:Bool}(hT:W.kitMeta T=true)(hm:W.mroIn K C (.type T)=some b):W.kitOne K (.ref C) (.type T)=some b:=by
 unfold W.kitOne;rw[if_neg (by intro q;cases beq_iff_eq.mp q)];show(if W.kitMeta T=true then W.subIn K (.ref C) (.type T) else none)=some b;rw[if_pos hT];exact hm
section
variable {e:Expr}{g:GE}{p p2 pos:Pos}{x:Str}{ok:Str→Option Bool}
theorem uM {v0:V}{σ:L2.St}{H:Hp}{Q:VK}(h:tE X (gp ok g) σ H Q):EA (fun xs H Q=>∃θ M d v,Wr X.K θ H M∧et X.K θ H d v∧xs=[v,v0]∧bg X θ H Q (match d with | .exc c=>(match ok c with|some b=>.ok (.bl b) M|none=>.bad)|_=>.bad)) (rE (tE X g) (rE (tC v0) AB)) σ H Q:=by
 obtain⟨ρ,θ,M,hd,hw,h⟩:=h;refine cm hd hw (bg X θ H Q) (fun c M' h=>h) (fun h=>h) h fun d M1 v θ1 H1 g1 r1 h1=>?_
 exact⟨θ1,M1,d,v,g1.wr,r1,rfl,bg.go g1 h1⟩
theorem zw {G:Addr}(hm:X.mg x=some (.ref G))(hk:∀c b C,ok c=some b→cI X.K c C→jy X.K C∧W.kitOne X.K (.ref C) (.ref G)=some b)(hg:Gl X x)(hgi:Gl X "isinstance")(hmi:X.mg "isinstance"=none)(he:PE X e (tE X g))
  (h1:bc e=true:=by rfl) (hd:(x==("__debug__":Str))=false:=by decide):PE X (.Call (.Name "isinstance" p) [e,.Name x p2] [] pos) (tE X (gp ok g)):=
 (j4 (vU (v0:=.ref G) (fun c z=>z) hk) hgi hmi boot_isinstance (eS he (eS (yf hg hm (v:=.ref G) rfl hd) iW (sE rfl)) (sE h1)) (by decide) (by decide) (sE h1) (sS rfl)).of fun σ H Q h=>uM h
theorem yB {T:String}(hv:bootBuiltins x=some (.type T))(hm:X.mg x=none)(hk:∀c b C,ok c=some b→cI X.K c C→jy X.K C∧W.kitOne X.K (.ref C) (.type T)=some b)(hg:Gl X x)(hgi:Gl X "isinstance")(hmi:X.mg "isinstance"=none)(he:PE X e (tE X g))
  (h1:bc e=true:=by rfl) (hn:x≠"__name__":=by decide) (hd:(x==("__debug__":Str))=false:=by decide):PE X (.Call (.Name "isinstance" p) [e,.Name x p2] [] pos) (tE X (gp ok g)):=
 (j4 (vU (v0:=.ty T) (fun c z=>z) hk) hgi hmi boot_isinstance (eS he (eS (rK hg hm hv (v:=.ty T) rfl hn hd) iW (sE rfl)) (sE h1)) (by decide) (by decide) (sE h1) (sS rfl)).of fun σ H Q h=>uM h
end
theorem F3 {K:W.Frag}{l:List Str}{Ga:Addr}(h:∀c∈l,∃C,cI K c C∧W.mroIn K C (.ref Ga)=some true):∀c C,l.contains c=true→cI K c C→W.mroIn K C (.ref Ga)=some true:=fun c C e kC=>by
 obtain⟨C',k1,k2⟩:=h c (contains_iff_mem.mp e);have:=k1.inj kC;subst this;exact k2
end
end DL
namespace DL
open PySem L2
theorem Eh {P:Program}{w:World}{H:Hp}{s:Shared}{e:Value}{s':Shared}(z:jJ P w [] H s (fun _ _ _=>False) e s'):False:=by
 obtain⟨_,_,_,_,_,_,_,_,_,_,_,_,_,_,h⟩:=z;exact h
end DL
namespace DL
open PySem PySem.Spec PyProof.Rows L2 List
section
variable {K:W.Frag}{θ:List Addr}{H:Hp}{M:au}
def iK (f:Str)(d:D):List (Str×D)→List (Str×D)
 | []=>[(f,d)]
 | (g,x)::r=>if g=f then(g,d)::r else(g,x)::iK f d r
theorem ut:∀{fs:List (Str×D)} {vs:List (Str×V)},lj K θ H fs vs→fs.length=vs.length
 | [],vs,h=>by cases (show vs=[] from h);rfl
 | (g,x)::fs,vs,h=>by
  obtain⟨v,r,rfl,h1,h2⟩:=h;rw[length_cons,length_cons,ut h2]
theorem vB {f:Str}{d:D}{v:V}(hd:et K θ H d v):∀{fs:List (Str×D)} {vs:List (Str×V)},lj K θ H fs vs→lj K θ H (iK f d fs) (iq f v vs)
 | [],vs,h=>by cases (show vs=[] from h);exact⟨v,[],rfl,hd,rfl⟩
 | (g,x)::fs,vs,h=>by
  obtain⟨u,r,rfl,h1,h2⟩:=h;show lj K θ H (if g=f then(g,d)::fs else(g,x)::iK f d fs) (if g=f then(g,v)::r else(g,u)::iq f v r)
  by_cases q:g=f
  ·rw[if_pos q,if_pos q];exact⟨v,r,rfl,hd,h2⟩
  ·rw[if_neg q,if_neg q];exact⟨u,_,rfl,h1,vB hd h2⟩
theorem yy {i:Nat}{a C dx:Addr}{c f:Str}{fs:List (Str×D)}{vs:List (Str×V)}{d:D}{v:V}(w:Wr K θ H M)(hi:θ[i]?=some a)(k:cI K c C)(r:lj K θ H fs vs)(hd:et K θ H d v) :
  Go K θ H θ (cN H a (.ins C dx (iq f v vs))) (M.set i (.obj c (iK f d fs))):=
 rH w hi ⟨C,dx,_,k,cH,kE (oJ w hi) (vB hd r)⟩
theorem yt {x dx C:Addr}{c:Str}(w:Wr K θ H M)(hx:H x=none)(hdx:H dx=none)(ne:dx≠x)(k:cI K c C):Go K θ H (θ++[x]) (cN (cN H dx (.own x)) x (.ins C dx [])) (M++[.obj c []]):=by
 have np:=w.fresh hx;have hx':∀b u,H b=some u→b≠x∧b≠dx:=fun b u h=>⟨bE h hx,bE h hdx⟩
 have g:Grow θ H (θ++[x]) (cN (cN H dx (.own x)) x (.ins C dx [])):=⟨⟨[x],rfl,fun a ha=>by rw[mem_singleton.mp ha];exact hx⟩,fun b u h _ _=>by rw[ax (hx' b u h).1,ax (hx' b u h).2];exact h,fun b ps h=>⟨ps,by rw[ax (hx' b _ h).1,ax (hx' b _ h).2];exact h⟩⟩;refine⟨g,by rw[length_append,length_append,w.len];rfl,?_,fun i a m h1 h2=>?_,(w.tb.new hdx).new (by rw[ax (Ne.symm ne)];exact hx)⟩
 ·rw[nodup_append];exact⟨w.nd,by simp,fun y hy z hz e=>np (by rw[mem_singleton.mp hz] at e;rw[←e];exact hy)⟩
 ·by_cases hi:i<θ.length
  ·rw[getElem?_append_left hi] at h1;rw[getElem?_append_left (by rw[←w.len];exact hi)] at h2;have hm:=mem_of_getElem? h1;have ha:a≠x:=fun e=>np (by rw[←e];exact hm)
   have ha2:a≠dx:=fun e=>w.fresh hdx (by rw[←e];exact hm)
   exact(w.at_ i a m h1 h2).grow g (by rw[ax ha,ax ha2])
  ·have hi':i=θ.length:=by
    have:=(List.getElem?_eq_some_iff.mp h1).1;rw[length_append,length_singleton] at this;omega
   subst hi';rw[getElem?_append_right (Nat.le_refl _)] at h1;rw[getElem?_append_right (by rw[w.len];exact Nat.le_refl _)] at h2;simp only[Nat.sub_self,w.len,getElem?_cons_zero,Option.some.injEq] at h1 h2;subst h1;subst h2;exact⟨C,dx,[],k,cH,rfl⟩
end
structure Kc (K:W.Frag)(mg:Str→Option Value)(c:Str)(C:Addr):Prop where
 at_:cI K c C
 m:mg c=some (.ref C)
 cl:E8 K C
def j6 (c:Str)(o:D)(M:au):Option (Nat×List (Str×D)):=match o with
 | .mr k=>match M[k]? with
  | some (.obj c' fs)=>if c'=c then some (k,fs) else none
  | _=>none
 | _=>none
theorem zX {K:W.Frag}{θ:List Addr}{H:Hp}{M:au}{c:Str}{C:Addr}{o:D}{v:V}{k:Nat}{fs:List (Str×D)}(hw:Wr K θ H M)(kC:cI K c C)(r:et K θ H o v)(e:j6 c o M=some (k,fs)) :
  ∃a dx vs,v=.ref a∧θ[k]?=some a∧H a=some (.ins C dx vs)∧lj K θ H fs vs∧M[k]?=some (.obj c fs):=by
 cases o with
 | mr j=>
  obtain⟨a,ea,ta⟩:=r;have e:(match M[j]? with|some (.obj c' fs)=>if c'=c then some (j,fs) else none|_=>none)=some (k,fs):=e;cases q:M[j]? with
  | none=>rw[q] at e;cases e
  | some m=>
   cases m with
   | lst ys=>rw[q] at e;cases e
   | dK _=>rw[q] at e;cases e
   | dT _=>rw[q] at e;cases e
   | obj c' gs=>
    rw[q] at e;have e:(if c'=c then some (j,gs) else none)=some (k,fs):=e
    by_cases hc:c'=c
    ·rw[if_pos hc] at e;cases e;subst hc;obtain⟨C',dx,vs,kC',hv,rf⟩:=hw.at_ _ a _ ta q;have:=kC'.inj kC;subst this;exact⟨a,dx,vs,ea,ta,hv,rf,q⟩
    ·rw[if_neg hc] at e;cases e
 | _=>cases e
section
variable {X:Cx}{c f:Str}{C:Addr}{o e value:Expr}{g go gv:GE}{pos pos' apos p:Pos}
def B9 (c f:Str)(g:GE):GE:=fun ρ M=>(g ρ M).bind fun o M1=>match j6 c o M1 with
 | some (_,fs)=>match fs.lookup f with
  | some d=>.ok d M1
  | none=>.bad
 | none=>.bad
def p9 (c f:Str)(o y:D)(M:au):bw Unit:=match j6 c o M with
 | some (k,fs)=>if fs.length<1000 then .ok () (M.set k (.obj c (iK f y fs))) else .bad
 | none=>.bad
def iH (c f:Str)(go gv:GE):GS:=fun ρ M=>(gv ρ M).bind fun y M1=>(go ρ M1).bind fun o M2=>(p9 c f o y M2).bind fun _ M3=>.ok (.nx ρ) M3
theorem By (k:Kc X.K X.mg c C)(n:jH X.K C f)(ho:PE X o (tE X go))(hv:PE X value (tE X gv))(hs:swapsWith value (some (.Attribute o f pos')) pos.line X.env=pure false:=by rfl):PS X (.Assign [.Attribute o f pos'] value pos) (tS X (iH c f go gv)):=
 (zU ho hv hs).of fun D σ H hxx=>by
  obtain⟨ρ,θ,M,hd,hw,h⟩:=hxx;refine cm hd hw (dg X θ H D) (fun c M' h=>h) (fun h=>h) h fun y M1 vy θ1 H1 g1 r1 h1=>?_
  refine cm (hd.go g1) g1.wr (dg X θ1 H1 D) (fun c M' h=>h) (fun h=>h) (h1.go g1) fun d M2 v θ2 H2 g2 r2 h2=>?_
  have h3:=h2.go g2;unfold p9 at h3;cases q:j6 c d M2 with
  | none=>simp only[q] at h3;exact h3.elim
  | some p=>
   obtain⟨j,fs⟩:=p;simp only[q] at h3
   by_cases hl:fs.length<1000
   ·simp only[if_pos hl] at h3;obtain⟨a,dx,vs,ea,ta,hv,rf,_⟩:=zX g2.wr k.at_ r2 q;have gs:=yy (f:=f) (dx:=dx) g2.wr ta k.at_ rf (r1.go g2);exact⟨a,C,dx,vs,ea,hv,k.cl,n,by rw[←ut rf];exact hl,h3 σ θ2 _ gs (((hd.go g1).go g2).go gs)⟩
   ·simp only[if_neg hl] at h3;exact h3.elim
def eB (c:Str)(n:Nat)(F:FD)(ga:GA):GE:=fun ρ M=>(ga ρ M).bind fun ds M1=>if ds.length+1=n then(F (.mr M1.length::ds) (M1++[.obj c []])).bind fun d M2=>match d with
  | .non=>.ok (.mr M1.length) M2
  | _=>.bad
 else .bad
theorem yD {n:Nat}{F:FD}{ga:GA}{σ:L2.St}{H:Hp}{Q:VK}(k:cI X.K c C)(h:tE X (eB c n F ga) σ H Q):zo C (nJ X.K n F) [] (BG X) (tA X ga) σ H Q:=by
 obtain⟨ρ,θ,M,hd,hw,h⟩:=h;refine jT hd hw (bg X θ H Q) (fun c M' h=>h) (fun h=>h) h fun ds M1 us θ1 H1 g1 r1 h1=>?_
 intro x dx hx hdx ne;have h2:=bg.go g1 h1
 by_cases hn:ds.length+1=n
 ·simp only[if_pos hn] at h2;have gm:=yt (C:=C) g1.wr hx hdx ne k;have rx:et X.K (θ1++[x]) (cN (cN H1 dx (.own x)) x (.ins C dx [])) (.mr M1.length) (.ref x):=pj g1.wr;refine⟨θ1++[x],M1++[.obj c []],.mr M1.length::ds,hn,⟨.ref x,us++[],rfl,rx,by rw[append_nil];exact r1.go gm⟩,gm.wr,?_⟩;have h3:=bg.go gm h2;cases qf:F (.mr M1.length::ds) (M1++[.obj c []]) with
  | bad=>rw[qf] at h3;exact h3
  | err c2 M3=>rw[qf] at h3;exact sr h3
  | ok d2 M3=>
   rw[qf] at h3;intro v θ2 H2 g2 r2;cases d2 with
   | non=>exact⟨r2,h3 _ θ2 H2 g2 (rx.go g2)⟩
   | _=>exact h3.elim
 ·simp only[if_neg hn] at h2;exact h2.elim
section
variable {x:Str}{k n:Nat}{fa:Addr}{fd:FuncData}{ps:List Str}{F:FD}{ga:GA}{es:List Expr}
theorem xK (kc:Kc X.K X.mg x C)(Mc:Mk X.K C fa)(Fn:fE X.prog X.w X.K X.mg X.base (jJ X.prog X.w) k fa fd ps (nJ X.K n F))(hr:dm (k+1) X.A)(hg:Gl X x)(hb:fO X.K fd ps [])(ha:PA X (e::es) (tA X ga))
  (hdb:(x==("__debug__":Str))=false:=by decide) (h1:bc e=true:=by rfl) (h2:cM es=true:=by rfl):PE X (.Call (.Name x p) (e::es) [] pos) (tE X (eB x n F ga)):=
 (xT Mc Fn hr hg kc.m hb .nil k8 ha hdb (sE h1) (sS h2)).of fun σ H Q h=>yD kc.at_ h
end
end
end DL
namespace DL
open PySem PySem.Spec PyProof.Rows L2 List
section
variable {prog:Program}{w:World}{A:Around}{E:Value→Shared→Prop}{s:Shared}
theorem mq {I a:Addr}{k:Nat}{its:Array Value}{x:Value}{Q:Value→Shared→Prop}(st:s.heap.IsTupleIter I a k)(ta:s.heap.IsTuple a its)(hx:its[k]?=some x)
  (q:∀h',h'.IsTupleIter I a (k+1)→Heap.SameBut I s.heap h'→Q x {s with heap:=h'}):wpAny (model prog w) A (Builtin.SmallTypes.nextOf (.ref I)) Q E s:=by
 obtain⟨u,hu,uc,ud⟩:=id st;obtain⟨oa,hoa,_,na,da⟩:=ta;unfold Builtin.SmallTypes.nextOf;refine wpAny_bind (wpAny_callSpecial?_slot (name:=Str.ofString "__next__") st.typeIs F.slot_tuple_iterator_next (wpAny_call_entry F.slot_tuple_iterator_next st.typeIs F.entry_tuple_iterator_next ?_ (F.args_tuple_iterator_next_1 _)));show wpAny _ _ (field (.ref I) 0 >>= _) _ _ s;refine wpAny_bind (wpAny_field hu ud (x:=.ref a) rfl ?_);show wpAny _ _ (if(Value.ref a==Value.none)=true then _ else _) _ _ s;rw[if_neg (show¬((Value.ref a==Value.none)=true) from Bool.false_ne_true)];show wpAny _ _ (field (.ref I) 1 >>= _) _ _ s;refine wpAny_bind (wpAny_field hu ud (x:=.int k 0) rfl ?_);show wpAny _ _ (seqItems? (.ref a) >>= _) _ _ s;refine wpAny_bind (wpAny_seqItems hoa da ?_);simp only[Int.toNat_natCast,hx];refine wpAny_bind (wpAny_setField hu ud (by simp) (wpAny_pure ⟨x,rfl,wpAny_pure (q _ ?_ (Heap.SameBut.update ..))⟩));exact⟨_,Heap.get?_update_self _ hu (Obj.isFreed_of_fields (Obj.data_mapFields ud _)),(Obj.cls_mapFields ..).trans uc,by rw[Obj.data_mapFields ud];simp[rawInt]⟩
theorem lS {I a:Addr}{k:Nat}{its:Array Value}{Q:Value→Shared→Prop}(hh:A.handled=none)(st:s.heap.IsTupleIter I a k)(ta:s.heap.IsTuple a its)(hx:its[k]?=none)
  (q:∀h' e,Heap.ExtBut I s.heap h'→(∃o,h'.get? e=some o∧o.cls=.type "StopIteration")→E (.ref e) {s with heap:=h'}):wpAny (model prog w) A (Builtin.SmallTypes.nextOf (.ref I)) Q E s:=by
 obtain⟨u,hu,uc,ud⟩:=id st;obtain⟨oa,hoa,_,na,da⟩:=ta;unfold Builtin.SmallTypes.nextOf;refine wpAny_bind (wpAny_callSpecial?_slot (name:=Str.ofString "__next__") st.typeIs F.slot_tuple_iterator_next (wpAny_call_entry F.slot_tuple_iterator_next st.typeIs F.entry_tuple_iterator_next ?_ (F.args_tuple_iterator_next_1 _)));show wpAny _ _ (field (.ref I) 0 >>= _) _ _ s;refine wpAny_bind (wpAny_field hu ud (x:=.ref a) rfl ?_);show wpAny _ _ (if(Value.ref a==Value.none)=true then _ else _) _ _ s;rw[if_neg (show¬((Value.ref a==Value.none)=true) from Bool.false_ne_true)];show wpAny _ _ (field (.ref I) 1 >>= _) _ _ s;refine wpAny_bind (wpAny_field hu ud (x:=.int k 0) rfl ?_);show wpAny _ _ (seqItems? (.ref a) >>= _) _ _ s;refine wpAny_bind (wpAny_seqItems hoa da ?_);simp only[Int.toNat_natCast,hx];refine wpAny_bind (wpAny_rule (wpAny_bind (wpAny_setField hu ud (by simp) ?_)));show wpAny _ _ (newExc (.type "StopIteration") [] >>= _) _ _ _;refine wpAny_bind ?_;simp only[newExc,newTuple];refine wpAny_bind (wpAny_newObj_type ?_ (by size_fits));refine wpAny_bind (m:=firstArgMember _ _) (wpAny_of_eq (a:=Value.none) (by first|rfl|(simp only[firstArgMember];rfl)) ?_);refine wpAny_newObj_type ?_ (by size_fits);simp only[raiseNew];refine wpAny_bind (wpAny_handled ?_)
 first|rw[show A.in1.handled=none from hh]|rw[hh]
 exact wpAny_bind (wpAny_pure (wpAny_throw (q _ _ (((Heap.SameBut.update ..).extBut.push _).push _) ⟨_,Heap.get?_push_size _ rfl,rfl⟩)))
end
open AutoSeq1 (wpAny_loadPart') in
section
variable {X:Cx}{ag:List (Addr×Obj)}{σ:L2.St}{H:Hp}{s:Shared}
theorem nX {ch:List Addr}{a:Addr}{o:HO}{h':Heap}{t':Nat}(I:L2.Inv X ag σ H s)(hf:∀b∈ch,lw X ag H b)(k:∀b u,b∉ch→s.heap.get? b=some u→h'.get? b=some u)
  (hp:s.heap.objs.size≤a) (new:eZ X.prog X.w (cN H a o) h' a o):L2.Inv X ag σ (cN H a o) {s with heap:=h',toks:=t'}:=by
 have hn:H a=none:=I.hok.fresh hp;have ne:∀{b:Addr} {u:HO},H b=some u→b≠a:=fun {b u} e z=>by rw[z,hn] at e;cases e
 have nch:∀b u,H b=some u→b∉ch:=fun b u e z=>by rw[(hf b z).1] at e;cases e
 refine I.step (g':=s.gens) (d':=s.drawn) (ch:=ch) (fun b hb=>⟨(hf b hb).2.2.2.1,(hf b hb).2.1,(hf b hb).2.2.2.2.1,(hf b hb).2.2.2.2.2⟩) (fun b u _ _ hc e _=>k b u hc e) (fun b u _ _ hc e _=>⟨u.slots,k b u hc e⟩)
  (fun b u _ e n=>by rw[ax (Nat.ne_of_lt (Nat.lt_of_lt_of_le (Heap.lt_size e) hp))];exact n) (fun b u hc e=>⟨u,k b u hc e⟩) (fun b xs e=>by rw[ax (ne e)];exact e) (fun b u v e=>by rw[ax (ne e)];exact e)
  (fun b ps e=>⟨#[],by rw[ax (ne e),e];simp⟩) (fun m hm=>?_) (fun b u e=>?_) I.bare
 ·obtain⟨u,es,ep,ho,r⟩:=hm;exact⟨u,es,ep,k _ u (fun z=>(hf _ z).2.1 rfl) ho,r⟩
 ·by_cases hb:b=a
  ·subst hb;rw[cH] at e;cases e;exact new
  ·rw[ax hb] at e;refine(I.hok b u e).stay (fun c v hc q=>k c v ?_ q) (fun c q=>by rw[ax (ne q)];exact q) fun c xs q=>by rw[ax (ne q)];exact q
   rcases hc with z|z
   ·rw[z];exact nch b u e
   ·exact nch c _ z
theorem tV {ch:List Addr}{h':Heap}{t':Nat}(I:L2.Inv X ag σ H s)(hf:∀b∈ch,lw X ag H b)(k:∀b u,b∉ch→s.heap.get? b=some u→h'.get? b=some u):L2.Inv X ag σ H {s with heap:=h',toks:=t'}:=by
 have nch:∀b u,H b=some u→b∉ch:=fun b u e z=>by rw[(hf b z).1] at e;cases e
 refine I.step (g':=s.gens) (d':=s.drawn) (ch:=ch) (fun b hb=>⟨(hf b hb).2.2.2.1,(hf b hb).2.1,(hf b hb).2.2.2.2.1,(hf b hb).2.2.2.2.2⟩) (fun b u _ _ hc e _=>k b u hc e) (fun b u _ _ hc e _=>⟨u.slots,k b u hc e⟩)
  (fun b u _ e n=>n) (fun b u hc e=>⟨u,k b u hc e⟩) (fun b xs e=>e) (fun b u v e=>e) (fun b ps e=>⟨#[],by rw[e];simp⟩) (fun m hm=>?_) (fun b u e=>?_) I.bare
 ·obtain⟨u,es,ep,ho,r⟩:=hm;exact⟨u,es,ep,k _ u (fun z=>(hf _ z).2.1 rfl) ho,r⟩
 ·refine(I.hok b u e).stay (fun c v hc q=>k c v ?_ q) (fun c q=>q) fun c xs q=>q
  rcases hc with z|z
  ·rw[z];exact nch b u e
  ·exact nch c _ z
end
end DL
namespace DL
open PySem PySem.Spec PyProof.Rows L2 List
def H0 (K:W.Frag)(a:Addr)(so:Obj)(xs:List V)(ts:List Addr)(bm:Addr)(ob:Obj):Hp:=fun b=>
 if b=a then(if K.lookup a=none then some (.frz so (.lst xs)) else none) else if b∈ts then some (.tbl #[]) else if b=bm then some (FU ob) else none
structure Fd (K:W.Frag)(x:Str)(c P:Addr):Prop where
 mem:x∈fY
 tab:W.tabIn K x=some (c,P)
 uniq:∀y,y∈fY→y≠x→∀c2,W.tabIn K y≠some (c2,P)
 hd:∃o vs file tf flags tg inF text tt,K.lookup c=some o∧o.cls=.type "code"∧o.data=.fields vs∧vs[11]?=some (.ref P)∧vs.getD 11 .none=.ref P∧vs.getD 18 .none=.str file tf∧
  vs.getD 7 .none=.int flags tg∧vs.getD 9 .none=.bool inF∧vs.getD 10 .none=.int text tt∧c≠P
end DL
namespace DL
open PySem PySem.Spec PyProof.Rows L2 List
section
open PySem.SeqAt
open PySem.AutoSeq1 (wpAny_loadPart')
open PySem.MeetsSeq PySem.MeetsSeq2 PySem.MeetsSeq3
end
end DL
namespace DL
open PySem PySem.Spec PyProof.Rows L2 List
end DL
namespace DL
open PySem PySem.Spec PyProof.Rows L2 List
section
open Builtin Builtin.Str
end
end DL
namespace DL
open PySem PySem.Spec PyProof.Rows L2 List
structure QE (X:Cx)(e:Expr)(g:GE):Prop where
 h:PE X e (tE X g)
structure QT (X:Cx)(e:Expr)(g:GT):Prop where
 h:PT X e (tT X g)
structure QW (X:Cx)(e:Expr)(g:GT):Prop where
 h:PW X e (tT X g)
structure QA (X:Cx)(es:List Expr)(g:GA):Prop where
 h:PA X es (tA X g)
structure QS (X:Cx)(st:Stmt)(g:GS):Prop where
 h:PS X st (tS X g)
structure QB (X:Cx)(st:List Stmt)(g:GS):Prop where
 h:PSs X st (tS X g)
structure QI (X:Cx)(tg e:Expr)(g:GI):Prop where
 h:PI X tg e (tI X g)
structure QG (X:Cx)(tg:Expr)(s:GG):Prop where
 h:PG X tg (tG X s)
structure DY (X:Cx)(tgs:List Expr)(is:List Nat):Prop where
 h:xm X tgs (Eb X is)
structure QP (X:Cx)(e:Option Expr)(g:GO):Prop where
 h:PO X e (tO X g)
structure Q2 (X:Cx)(f:Value→Value→Sem Value)(F:F2):Prop where
 h:gz X f (rD X F)
structure QC (X:Cx)(f:Value)(F:FD):Prop where
 h:dj X f (rC X F)
structure Ce (X:Cx)(scope:Scope)(xs:List Str)(R:List Str)(ifs:List Expr)(gc:GT):Prop where
 h:lx X scope xs R ifs gc
structure QO (n:Nat)(sg:GG):Prop where
 h:pW n sg
section
variable {X:Cx}{e a b c o i:Expr}{es rest:List Expr}{x:Str}{p p2 pos pos':Pos}{g ga gb gc go gi ge:GE}{ta tb:GT}{gA:GA}
theorem DW:Q2 X (binaryOp .Add) aW:=⟨Aw⟩
theorem BX:Q2 X (binaryOp .Add) nU:=⟨xR⟩
theorem C1:Q2 X (binaryOp .Sub) gR:=⟨AY⟩
theorem D9:Q2 X (binaryOp .Mult) eY:=⟨BL⟩
theorem A5:Q2 X (binaryOp .FloorDiv) dO:=⟨wN⟩
theorem DZ:Q2 X (binaryOp .Mod) gS:=⟨z9⟩
theorem CA:Q2 X (binaryOp .Pow) li:=⟨zF⟩
theorem E9:Q2 X (compareOp .Lt) ni:=⟨Ed⟩
theorem FH:Q2 X (compareOp .LtE) jb:=⟨DE⟩
theorem Fc:Q2 X (compareOp .Gt) jV:=⟨C7⟩
theorem Fv:Q2 X (compareOp .GtE) xt:=⟨Ej⟩
theorem FE {k:Nat}(hr:dm k X.A):Q2 X (compareOp .Eq) (aR false):=⟨DM hr.units⟩
theorem EN {k:Nat}(hr:dm k X.A):Q2 X (compareOp .NotEq) (aR true):=⟨De hr.units⟩
theorem EY:Q2 X (compareOp .Is) (fB false):=⟨Dk⟩
theorem xl:Q2 X (compareOp .IsNot) (fB true):=⟨vq⟩
theorem CP:QC X (.builtin "len") aJ:=⟨BS⟩
theorem Dd (hc:X.calm=true:=by rfl):QC X (.builtin "min") nS:=⟨zG hc⟩
theorem DV (hc:X.calm=true:=by rfl):QC X (.builtin "max") oV:=⟨Bh hc⟩
theorem Em (hc:X.calm=true:=by rfl):QC X (.builtin "all") dA:=⟨Ar hc⟩
theorem Cr:QC X (.type "int") mO:=⟨A2⟩
theorem Bb:QC X (.type "list") jm:=⟨yd⟩
theorem xp:QC X (.type "tuple") cZ:=⟨vS⟩
theorem qv (i:Nat){x:Str}{pos:Pos}(hN:X.N[i]?=some x:=by rfl)(hv:CG X.env.scope x:=by first|exact Or.inl rfl|exact Or.inr (Or.inl rfl)|exact Or.inr (Or.inr rfl))(hd:(x==("__debug__":Str))=false:=by decide)
  (hcd:(x==("__classdict__":Str))=false:=by decide):QE X (.Name x pos) (ae i):=⟨vv i hN hv hd hcd⟩
theorem AH {i:Int}{j pos}:QE X (.Constant (.int i) j pos) (gC (.int i)):=⟨Aa⟩
theorem DX {b j pos}:QE X (.Constant (.bool b) j pos) (gC (.bl b)):=⟨Dw⟩
theorem B4 {j pos}:QE X (.Constant .none j pos) (gC .non):=⟨zD⟩
theorem A4 {x j pos}:QE X (.Constant (.str x) j pos) (gC (.str x)):=⟨BD⟩
theorem zz (h:QE X a g):QE X (.UnaryOp .USub a pos) (eI g):=⟨BQ h.h⟩
theorem BU (h:QE X a g):QE X (.UnaryOp .Not a pos) (om (aH g)):=⟨Br h.h⟩
theorem CT {op:Operator}{f:F2}(ho:Q2 X (binaryOp op) f)(ha:QE X a ga)(hb:QE X b gb):QE X (.BinOp a op b pos) (g2 f ga gb):=⟨Du ho.h ha.h hb.h⟩
def zI:CmpOp→Bool
 | .In=>false
 | .NotIn=>false
 | _=>true
theorem nG {op:CmpOp}{b:Expr}(h:zI op=true):behindInMarks op b=false:=by
 cases op <;> first|exact BM _|(cases h)
theorem zS {op:CmpOp}{f:F2}(ho:Q2 X (compareOp op) f)(ha:QE X a ga)(hb:QE X b gb)(hm:zI op=true:=by rfl):QE X (.Compare a [op] [b] pos) (g2 f ga gb):=⟨BF ho.h ha.h hb.h (nG hm)⟩
theorem Ak {op:CmpOp}{f:F2}(ho:Q2 X (compareOp op) f)(ha:QE X a ga)(hb:QE X b gb)(hm:zI op=true:=by rfl):QT X (.Compare a [op] [b] pos) (aH (g2 f ga gb)):=⟨z7 ho.h ha.h hb.h (nG hm)⟩
theorem wz {op op':CmpOp}{f f':F2}(ho:Q2 X (compareOp op) f)(ho':Q2 X (compareOp op') f')(ha:QE X a ga)(hb:QE X b gb)(hc:QE X c gc)(hm:lastMarks [op,op'] [b,c]=false:=by with_unfolding_all rfl):QE X (.Compare a [op,op'] [b,c] pos) (lB f f' ga gb gc):=⟨wn ho.h ho'.h ha.h hb.h hc.h hm⟩
theorem uD {op op':CmpOp}{f f':F2}(ho:Q2 X (compareOp op) f)(ho':Q2 X (compareOp op') f')(ha:QE X a ga)(hb:QE X b gb)(hc:QE X c gc)(hm:lastMarks [op,op'] [b,c]=false:=by with_unfolding_all rfl):QT X (.Compare a [op,op'] [b,c] pos) (aH (lB f f' ga gb gc)):=⟨uJ ho.h ho'.h ha.h hb.h hc.h hm⟩
theorem Bz {op}(h:QE X a g):QE X (.BoolOp op [a] pos) g:=⟨zC h.h⟩
theorem zP (ha:QE X a ga)(hb:QE X (.BoolOp .And (b::rest) pos) gb):QE X (.BoolOp .And (a::b::rest) pos) (du ga gb):=⟨Bn ha.h hb.h⟩
theorem DR (ha:QE X a ga)(hb:QE X (.BoolOp .Or (b::rest) pos) gb):QE X (.BoolOp .Or (a::b::rest) pos) (zm ga gb):=⟨DB ha.h hb.h⟩
theorem xS (ha:QT X a ta):QW X (.BoolOp .And [a] pos) ta:=⟨wO ha.h⟩
theorem z0 (ha:QT X a ta):QW X (.BoolOp .Or [a] pos) ta:=⟨zV ha.h⟩
theorem BJ (ha:QT X a ta)(hb:QW X (.BoolOp .And (b::rest) pos) tb):QW X (.BoolOp .And (a::b::rest) pos) (bK ta tb):=⟨AK ha.h hb.h⟩
theorem Dm (ha:QT X a ta)(hb:QW X (.BoolOp .Or (b::rest) pos) tb):QW X (.BoolOp .Or (a::b::rest) pos) (bY ta tb):=⟨CL ha.h hb.h⟩
theorem Dq (h:QW X a ta):QT X a ta:=⟨PW.pt h.h⟩
theorem BN (h:QT X a ta):QT X (.UnaryOp .Not a pos) (aN ta):=⟨Ab h.h⟩
theorem AT (h:QE X a g)(he:∀whole,isTrue a X.env whole=(do let v ←whole;standAt a.pos;holding [v] (truthy v)):=by intro _;rfl):QT X a (bf g):=⟨Bp h.h he⟩
theorem B5:QA X [] af:=⟨A1⟩
theorem Fi {gr:GA}(ha:QE X e g)(hr:QA X es gr)(h:bc e=true:=by rfl):QA X (e::es) (aa g gr):=⟨EG ha.h hr.h h⟩
theorem A9 {x1}(h:QA X es gA):QE X (.Tuple es x1 pos) (aI gA):=⟨Ai h.h⟩
theorem AU (h:QA X es gA):QE X (.List es pos) (cX gA):=⟨Bm h.h⟩
theorem zJ (h:QA X es gA):QE X (.List es pos) (i6 gA):=⟨Bo h.h⟩
theorem yI:QP X none aT:=⟨xV⟩
theorem xw (h:QE X e g):QP X (some e) (bR g):=⟨wX h.h⟩
theorem we {lo hi:Option Expr}{gl gh:GO}(he:QE X e g)(hl:QP X lo gl)(hh:QP X hi gh):QE X (.Subscript e (.Slice lo hi none p2) pos) (jh g gl gh):=⟨v3 he.h hl.h hh.h⟩
theorem Dl (ha:QE X a ga)(hb:QE X b gb)(hs:ol b:=by intro _ _;rfl):QE X (.Subscript a b pos) (g2 aK ga gb):=⟨CD ha.h hb.h hs⟩
section
variable {apos cpos:Pos}{k n:Nat}{f:Addr}{fd:FuncData}{ps:List Str}{F:FD}{T:String}{id:String}
theorem uj (ho:QE X o go)(he:QE X e ge)(h1:bc e=true:=by rfl)(hbase:attributeBase o "append" X.env (eval o X.env)=eval o X.env:=by rfl)(hline:(apos.endLine==cpos.line)=true:=by rfl):QE X (.Call (.Attribute o "append" apos) [e] [] cpos) (jM go ge):=⟨sU ho.h he.h hbase (qR h1) hline (sE h1) rfl⟩
theorem vp (ho:QE X o go)(he:QE X e ge)(h1:bc e=true:=by rfl)(hbase:attributeBase o "count" X.env (eval o X.env)=eval o X.env:=by rfl)(hline:(apos.endLine==cpos.line)=true:=by rfl):QE X (.Call (.Attribute o "count" apos) [e] [] cpos) (gE iX go ge):=⟨uY ho.h he.h h1 hbase hline⟩
theorem wf (ho:QE X o go)(he:QE X e ge)(h1:bc e=true:=by rfl)(hbase:attributeBase o "index" X.env (eval o X.env)=eval o X.env:=by rfl)(hline:(apos.endLine==cpos.line)=true:=by rfl):QE X (.Call (.Attribute o "index" apos) [e] [] cpos) (gE iU go ge):=⟨uS ho.h he.h h1 hbase hline⟩
theorem CW (Fn:fE X.prog X.w X.K X.mg X.base (jJ X.prog X.w) k f fd ps (nJ X.K n F))(hr:dm k X.A)(hg:Gl X x)(hm:X.mg x=some (.ref f))(hk:W.keepIn X.K (.ref f)=true)(hb:fO X.K fd ps [])(ha:QA X (e::es) gA)
  (hdb:(x==("__debug__":Str))=false:=by decide) (h1:bc e=true:=by rfl) (h2:cM es=true:=by rfl):QE X (.Call (.Name x p) (e::es) [] pos) (ah n F gA):=⟨DG Fn hr hg hm hk hb ha.h hdb h1 h2⟩
theorem DD (hc:QC X (.builtin id) F)(hg:Gl X x)(hm:X.mg x=none)(hv:bootBuiltins x=some (.builtin id))(ha:QA X (e::es) gA)(hn:x≠"__name__":=by decide)(hdb:(x==("__debug__":Str))=false:=by decide)
  (h1:bc e=true:=by rfl) (h2:cM es=true:=by rfl):QE X (.Call (.Name x p) (e::es) [] pos) (aq F gA):=⟨CV hc.h hg hm hv ha.h hn hdb h1 h2⟩
theorem DU (hc:QC X (.type T) F)(hg:Gl X x)(hm:X.mg x=none)(hv:bootBuiltins x=some (.type T))(ha:QA X (e::es) gA)(hn:x≠"__name__":=by decide)(hdb:(x==("__debug__":Str))=false:=by decide)
  (h1:bc e=true:=by rfl) (h2:cM es=true:=by rfl):QE X (.Call (.Name x p) (e::es) [] pos) (aq F gA):=⟨El hc.h hg hm hv ha.h hn hdb h1 h2⟩
theorem Cu (hT:jU T)(hv:bootBuiltins x=some (.type T))(hg:Gl X x)(hm:X.mg x=none)(hgi:Gl X "isinstance")(hmi:X.mg "isinstance"=none)(he:QE X e g)
  (h1:bc e=true:=by rfl) (hn:x≠"__name__":=by decide) (hd:(x==("__debug__":Str))=false:=by decide):QE X (.Call (.Name "isinstance" p) [e,.Name x p2] [] pos) (bO T g):=⟨Cw hT hv hg hm hgi hmi he.h h1 hn hd⟩
theorem AL {G:Addr}{ok:Str→Option Bool}(hm:X.mg x=some (.ref G))(hk:∀c b C,ok c=some b→cI X.K c C→jy X.K C∧W.kitOne X.K (.ref C) (.ref G)=some b)(hg:Gl X x)(hgi:Gl X "isinstance")(hmi:X.mg "isinstance"=none)(he:QE X e g)
  (h1:bc e=true:=by rfl) (hd:(x==("__debug__":Str))=false:=by decide):QE X (.Call (.Name "isinstance" p) [e,.Name x p2] [] pos) (gp ok g):=⟨zw hm hk hg hgi hmi he.h h1 hd⟩
theorem xb {ok:Str→Option Bool}(hv:bootBuiltins x=some (.type T))(hm:X.mg x=none)(hk:∀c b C,ok c=some b→cI X.K c C→jy X.K C∧W.kitOne X.K (.ref C) (.type T)=some b)(hg:Gl X x)(hgi:Gl X "isinstance")(hmi:X.mg "isinstance"=none)(he:QE X e g)
  (h1:bc e=true:=by rfl) (hn:x≠"__name__":=by decide) (hd:(x==("__debug__":Str))=false:=by decide):QE X (.Call (.Name "isinstance" p) [e,.Name x p2] [] pos) (gp ok g):=⟨yB hv hm hk hg hgi hmi he.h h1 hn hd⟩
end
theorem DP {tg:Expr}(hg:Gl X "range")(hm:X.mg "range"=none)(ha:QA X [a] gA)(h1:bc a=true:=by rfl):QI X tg (.Call (.Name "range" p) [a] [] pos) (eA gA):=⟨CO hg hm ha.h h1⟩
theorem Am {tg:Expr}(h:QE X e g):QI X tg e (cS g):=⟨B2 h.h⟩
section
variable {scope:Scope}{R:List Str}{iter elt:Expr}{ifs:List Expr}{gI:GI}{gC:GT}{px:Pos}{mk:List D→au→bw D}
theorem tD {xs:List Str}:Ce X scope xs R [] ce:=⟨uT⟩
theorem wZ (hS:eJ scope X.env.kindOf [x] R X.N=true)(hm:mk=aV∨mk=fM)(hi:QI X (.Name x px) iter gI)(hts:Ce X scope [x] R ifs gC)(he:∀fp s H C,QE (aP X scope [x] R fp s H C) elt ge)
  (hc:X.calm=true:=by rfl) (hs:∀x,foldedSetIterable iter X.env x=pure x:=by intro _;rfl):QE X (.ListComp elt [⟨.Name x px,iter,ifs,0⟩] scope pos) (bv gI gC ge mk):=⟨yl hS hc hm hi.h hts.h (fun fp s H C=>(he fp s H C).h) hs⟩
theorem zE (n:Nat){is:List Nat}(h:is.all (fun i=>decide (i<n))=true:=by rfl):QO n (fF is):=⟨wV h⟩
theorem nu {xs:List Str}{fp:List Addr}{s:Shared}{H:Hp}{C:Addr}{y:Str}(hS:eJ scope X.env.kindOf xs R X.N=true)(h:y∈xs):(aP X scope xs R fp s H C).env.scope.names.lookup y=some .local:=lookup_relabel_local ((cA.of hS).own y h)
theorem F1 {xs:List Str}{fp:List Addr}{s:Shared}{H:Hp}{C:Addr}{y:Str}(i:Nat)(hS:eJ scope X.env.kindOf xs R X.N=true)(hi:(xs++R)[i]?=some y:=by rfl)(hx:y∈xs:=by simp):QG (aP X scope xs R fp s H C) (.Name y pos) (fQ i):=
 ⟨ot (X:=aP X scope xs R fp s H C) (cA.of hS).nd hi (.inl (nu hS hx)) (.inr (nu hS hx))⟩
theorem uI {tg:Expr}{sg:GG}(xs:List Str)(hS:eJ scope X.env.kindOf xs R X.N=true)(hm:mk=aV∨mk=fM)(own:QO xs.length sg)(hi:QI X tg iter gI)(hg:∀fp s H C,QG (aP X scope xs R fp s H C) tg sg)(hts:Ce X scope xs R ifs gC)(he:∀fp s H C,QE (aP X scope xs R fp s H C) elt ge)
  (hc:X.calm=true:=by rfl) (hs:∀x,foldedSetIterable iter X.env x=pure x:=by intro _;rfl):QE X (.ListComp elt [⟨tg,iter,ifs,0⟩] scope pos) (fJ gI xs.length sg gC ge mk):=⟨o4 hS hc hm hi.h own.h (fun fp s H C=>(hg fp s H C).h) hts.h (fun fp s H C=>(he fp s H C).h) hs⟩
end
def ie:Expr→Bool
 | .ListComp ..=>false
 | .SetComp ..=>false
 | .DictComp ..=>false
 | _=>true
theorem iN {t:Option Expr}{l:Nat}{env:Env}(h:ie e=true):swapsWith e t l env=pure false:=by
 cases e <;> first|rfl|exact ff h
section
variable {st:Stmt}{stmts:List Stmt}{t u:GS}
theorem AQ:QB X [] aB:=⟨zY⟩
theorem xM (h1:QS X st t)(h2:QB X stmts u):QB X (st::stmts) (ao t u):=⟨yn h1.h h2.h⟩
theorem A6 (h1:QS X st t):QB X [st] t:=⟨z8 h1.h⟩
theorem Bs (i:Nat){x:Str}(hN:X.N.Nodup)(he:QE X e g)(hi:X.N[i]?=some x:=by rfl)(hx:wJ X.env.scope x:=by first|exact Or.inl rfl|exact Or.inr rfl)(hs:ie e=true:=by rfl)(hf:X.fn x=true∨X.env.scope.names.lookup x=some .local:=by first|exact .inl rfl|exact .inr rfl) :
  QS X (.Assign [.Name x pos'] e pos) (aM i g):=⟨ss i hN he.h hi hx (iN hs) hf⟩
theorem Bk (he:QE X e g):QS X (.Return (some e) pos) (az g):=⟨Bt he.h⟩
theorem xi (he:QE X e g)(hs:ie e=true:=by rfl):QS X (.Expr e pos) (eP g):=⟨wW he.h (iN hs)⟩
theorem CZ {a b:List Stmt}{tc:GT}(hc:QT X c tc)(ha:QB X a t)(hb:QB X b u):QS X (.If c a b pos) (cD tc t u):=⟨DI hc.h ha.h hb.h⟩
theorem qn (i:Nat){x:Str}(hN:X.N.Nodup)(hi:X.N[i]?=some x:=by rfl)(hx:wJ X.env.scope x:=by first|exact Or.inl rfl|exact Or.inr rfl)(hf:X.fn x=true∨X.env.scope.names.lookup x=some .local:=by first|exact .inl rfl|exact .inr rfl):QG X (.Name x pos) (fQ i):=⟨gg i hN hi hx hf⟩
theorem xE:DY X [] []:=⟨xY⟩
theorem DA {i:Nat}{is:List Nat}(h1:QG X e (fQ i))(h2:DY X es is)(hs:(assignEach (e::es) X.env).map (·.2)=assign e X.env::(assignEach es X.env).map (·.2):=by rfl):DY X (e::es) (i::is):=⟨uQ h1.h h2.h hs⟩
theorem zx {is:List Nat}{k n:Nat}(h:DY X es is)(hc:X.calm=true:=by rfl)(hl:is.length=n:=by rfl)(hn:(assignEach es X.env).length=n:=by rfl)(hst:(assignEach es X.env).findIdx? (·.1)=none:=by rfl):QG X (.Tuple es k pos) (fF is):=⟨A7 hc h.h hl hn hst⟩
theorem zO {tg:Expr}{s:GG}(he:QE X e g)(hg:QG X tg s)(hs:ie e=true:=by rfl)(hw:swappedStores [tg] e X.env=pure none:=by rfl)(h1:(assignEach [tg] X.env).map (·.2)=[assign tg X.env]:=by rfl):QS X (.Assign [tg] e pos) (g6 s g):=⟨Av he.h hg.h (iN hs) hw h1⟩
theorem A3 {ip:Pos}(he:QE X e g)(ho:QE X o go)(hi:QE X i gi)
  (ha:∀v,assign (.Subscript o i ip) X.env v=(do
   let ov ←holding [v] (eval o X.env)
   let iv ←holding [v,ov] (eval i X.env)
   standAt ip
   holding [v,ov,iv] (setItem ov iv v)
   release [v,ov,iv] []):=by intro _;rfl)
  (hs:ie e=true:=by rfl) (hw:swappedStores [.Subscript o i ip] e X.env=pure none:=by rfl):QS X (.Assign [.Subscript o i ip] e pos) (jj go gi g):=⟨BK he.h ho.h hi.h ha (by unfold swapsWithSole;exact iN hs) hw rfl⟩
theorem Ax {tg iter:Expr}{body:List Stmt}{gI:GI}{sg:GG}{gB:GS}(hp:PassesOwn (model X.prog X.w) X.A X.env X.xe)(hi:QI X tg iter gI)(hg:QG X tg sg)(hb:QB X body gB)(hc:X.calm=true:=by rfl)(hs:∀x,foldedSetIterable iter X.env x=pure x:=by intro _;rfl) :
  QS X (.For tg iter body [] pos) (kJ gI sg gB):=⟨AJ hp hc hi.h hg.h hb.h hs⟩
theorem vK {body:List Stmt}{tc:GT}{gB:GS}{n:Nat}(hp:PassesOwn (model X.prog X.w) X.A X.env X.xe)(hc:QT X c tc)(hb:QB X body gB):QS X (.While c body [] pos) (mK n tc gB):=⟨vd hp hc.h hb.h⟩
theorem uL {x:Str}{C:Addr}{np cpos:Pos}(k:Ec X.K X.mg x C)(hg:Gl X x)(he:QE X e g)(hc:X.calm=true:=by rfl)(h1:bc e=true:=by rfl)(hd:(x==("__debug__":Str))=false:=by decide):QS X (.Raise (some (.Call (.Name x np) [e] [] cpos)) none pos) (gP x g):=⟨vA k hc hg he.h h1 hd⟩
theorem zT {G n:Str}{Ga:Addr}{i:Nat}{ok:Str→Bool}{gB gh:GS}{body suite:List Stmt}{b0:Stmt}{np hpos:Pos}(kG:Ec X.K X.mg G Ga)(hok:∀c C,ok c=true→cI X.K c C→W.mroIn X.K C (.ref Ga)=some true)(hN:X.N.Nodup)
  (hb:∀pn E,QB (l6 X pn E) body gB) (hh:∀pn a,QB (jG X pn a) (b0::suite) gh)
  (hg:Gl X G:=by rfl) (hst:X.stack=X.env::X.outer:=by rfl) (hf:X.env.frame=some X.env.locals:=by rfl) (hi:X.N[i]?=some n:=by rfl) (hl:X.env.kindOf n=some .local:=by rfl) (hfn:X.fn n=true∨X.env.scope.names.lookup n=some .local:=by first|exact .inl rfl|exact .inr rfl)
  (hd:(G==("__debug__":Str))=false:=by decide):QS X (.Try body [.ExceptHandler (some (.Name G np)) (some n) (b0::suite) hpos] [] [] pos) (jP i ok gB gh):=⟨BH kG hok hg hst hf hN hi hl hfn (fun pn E=>(hb pn E).h) (fun pn a=>(hh pn a).h) hd⟩
end
end
section
variable {X:Cx}{c f m:Str}{C:Addr}{o e value:Expr}{es:List Expr}{g go gv:GE}{gA:GA}{pos pos' apos p:Pos}{k n:Nat}{fa:Addr}{fd:FuncData}{ps:List Str}{F:FD}{pl:Sem Bool}
theorem BE (kc:Kc X.K X.mg c C)(na:jH X.K C f)(ho:QE X o go)(hv:QE X value gv)(hs:ie value=true:=by rfl):QS X (.Assign [.Attribute o f pos'] value pos) (iH c f go gv):=⟨By kc na ho.h hv.h (iN hs)⟩
theorem yK (kc:Kc X.K X.mg c C)(Mc:Mk X.K C fa)(Fn:fE X.prog X.w X.K X.mg X.base (jJ X.prog X.w) k fa fd ps (nJ X.K n F))(hr:dm (k+1) X.A)(hg:Gl X c)(hb:fO X.K fd ps [])(ha:QA X (e::es) gA)
  (hdb:(c==("__debug__":Str))=false:=by decide) (h1:bc e=true:=by rfl) (h2:cM es=true:=by rfl):QE X (.Call (.Name c p) (e::es) [] pos) (eB c n F gA):=⟨xK kc Mc Fn hr hg hb ha.h hdb h1 h2⟩
end
structure Mf (K:W.Frag)(C:Addr)(x qual:Str)(st:Stmt)(f:Addr)(fd:FuncData)(ps:List Str):Prop where
 F:Ay K x qual st f fd
 me:Cz K C x f
 b:fO K fd ps []
theorem Az {P:Program}{w:World}{K:W.Frag}{mg:Str→Option Value}{base:Heap}{x qual:Str}{st:Stmt}{f:Addr}{fd:FuncData}{N ps:List Str}{k n:Nat}{g:GS}(F:Ay K x qual st f fd)(S:iB N ps (bn st))(hn:ps.length=n)
  (hbody:∀(cdv:Value) (A:Around) (outer:List Env) (s:Shared) (H:Hp) (E:XK),dm k (A.deeper (envOfC qual (bn st) s.heap.objs.size f cdv))→QB (jv (jJ P w) P w K mg base N qual (bn st) f cdv A outer s H E) (dG st) g) :
  fE P w K mg base (jJ P w) (k+1) f fd ps (nJ K n (bB (N.length-n) g)):=Fp F S hn fun cdv A outer s H E hr=>(hbody cdv A outer s H E hr).h
theorem zL {l:W.OpenLaw}{n k:Nat}{q:Program}{loose:List Str}{XP:(Str→Option Value)→Heap→Prop}{YP:World→Heap→Prop}{d:DefRec}{K:Params→W.Frag}{x:Str}{F:FD}
  (hn:l.most=some n) (hn2:n≤sizeLine) (hdf:d.params.defaults=[]) (hr:dm k callerA) (hY:∀(w:World) (h:Heap),YP w h→(K w.params).In h)
  (hF:∀(w:World) (mg:Str→Option Value) (fa:Addr) (h:Heap),(K w.params).In h→h.Ns mainGlobals mg→mg d.name=some (.ref fa)→
   ∃fd:FuncData,(∀(s:Shared) (u:Value),BindsTo s fd ⟨[u],[]⟩ [(x,u)])∧∀base:Heap,(K w.params).In base→base.Ns mainGlobals mg→fE l.prog w (K w.params) mg base (jJ l.prog w) k fa fd [x] (nJ (K w.params) 1 F))
  (h1:∀w:World,W.nsIn (K w.params) mainGlobals "ink_shown"=some none) (h2:∀w:World,W.nsIn (K w.params) mainGlobals "table_within"=some none)
  (h3:∀w:World,W.nsIn (K w.params) mainGlobals "slots_given"=some none) (h4:∀w:World,W.nsIn (K w.params) mainGlobals "cast_on_slots"=some none)
  (ht:∀ns:List Int,ns.length≤n→∃M',F [.ro (ns.map D.int)] []=.ok (.bl true) M') :
  W.WalkO q loose XP YP l.row.toRowW d [] (fun f vs=>PySem.call f vs):=
 L2.walk_of (CX:=fun w=>jJ l.prog w) (sp:=fun w=>nJ (K w.params) 1 F) hn hn2 hdf hr hY hF (fun w H a ns hl _ hS=>AN (.no fun y hy=>by
  simp only[fY,mem_cons,not_mem_nil,or_false] at hy;rcases hy with rfl|rfl|rfl|rfl
  ·exact h1 w
  ·exact h2 w
  ·exact h3 w
  ·exact h4 w) hS (ht ns hl)) fun w H s e s' z=>Eh z
end DL
namespace PySem
end PySem
namespace L2
open PySem PySem.Spec PyProof.Rows List
end L2
namespace DL
open PySem PySem.Spec PyProof.Rows L2 List
end DL
namespace L2
open PySem PySem.Spec PyProof.Rows List
end L2
namespace DL
open PySem PySem.Spec PyProof.Rows L2 List
end DL
namespace L2
open PySem PySem.Spec PyProof.Rows List
end L2
namespace DL
open PySem PySem.Spec PyProof.Rows L2 List
theorem ba {N ps:List Str}{sc:Scope}(h1:sc.kind=.function:=by rfl)(h2:sc.isCoroutine=false:=by rfl)(h3:sc.isGenerator=false:=by rfl)(h4:N.Nodup:=by decide +kernel)(h5:N.take ps.length=ps:=by rfl)
  (h6:∀x∈ps,sc.names.lookup x=some .local∨sc.names.lookup x=some .cell:=by decide +kernel) (h7:∀y∈sc.names,y.2≠.free:=by decide +kernel):iB N ps sc:=⟨h1,h2,h3,h4,h5,h6,h7⟩
section
variable {X:Cx}{e:Expr}{es:List Expr}{x:Str}{p pos:Pos}{gA:GA}{k k' n:Nat}{f:Addr}{fd:FuncData}{ps:List Str}{F:FD}{st:Stmt}{id:String}{T:String}
theorem CI (hc:QC X (.builtin id) F)(hm:X.mg x=none)(hv:bootBuiltins x=some (.builtin id))(ha:QA X (e::es) gA)(hg:Gl X x:=by rfl)(hn:x≠"__name__":=by decide)(hdb:(x==("__debug__":Str))=false:=by decide)
  (h1:bc e=true:=by rfl) (h2:cM es=true:=by rfl):QE X (.Call (.Name x p) (e::es) [] pos) (aq F gA):=DD hc hg hm hv ha hn hdb h1 h2
end
def FF (K:W.Frag)(mg:Str→Option Value)(x:Str)(st:Stmt)(ps:List Str):Prop:=∃f fd,Fn K mg x st f fd ps
def KC (K:W.Frag)(mg:Str→Option Value)(c:Str)(C:Addr):Prop:=Kc K mg c C∧W.makesIn K C=true∧W.keepIn K (.ref C)=true
def MF (K:W.Frag)(mg:Str→Option Value)(c m q:Str)(st:Stmt)(ps:List Str):Prop:=∃C f fd,KC K mg c C∧Mf K C m q st f fd ps
def LF (K:W.Frag)(mg:Str→Option Value)(x:Str)(st:Stmt)(ps:List Str):Prop:=∃f fd c P,Fn K mg x st f fd ps∧W.nsIn K mainGlobals x=some (some (.ref f))∧Fd K x c P
def NA (K:W.Frag)(mg:Str→Option Value)(c f:Str):Prop:=∃C,KC K mg c C∧jH K C f
def EX (K:W.Frag)(mg:Str→Option Value)(x:Str):Prop:=∃C,Ec K mg x C
def IX (K:W.Frag)(mg:Str→Option Value)(x:Str)(tab:List (Str×Bool)):Prop:=∃G,Ec K mg x G∧∀p∈tab,∃C,Ec K mg p.1 C∧W.mroIn K C (.ref G)=some p.2
def IB (K:W.Frag)(mg:Str→Option Value)(x:String)(tab:List (Str×Bool)):Prop:=∀p∈tab,∃C,Ec K mg p.1 C∧W.mroIn K C (.type x)=some p.2
def Ls {α:Type}(P:α→Prop)(l:List α):Prop:=∀t∈l,P t
section
variable {α β γ:Type}{P:α→Prop}{l:List α}{a:α}
theorem Ls.nil:Ls P []:=fun _ h=>by cases h
theorem Ls.cons (h:P a)(t:Ls P l):Ls P (a::l):=fun x hx=>by
 rcases mem_cons.mp hx with e|e
 ·rw[e];exact h
 ·exact t x e
end
structure RN (l c:Nat)(xs R:List Str):Prop
theorem rn (l c:Nat)(xs R:List Str):RN l c xs R:=⟨⟩
def Ok (P:Program)(w:World)(K:W.Frag)(mg:Str→Option Value)(base:Heap)(x:Str)(k n:Nat)(F:FD):Prop:=
 ∃f fd ps,fE P w K mg base (jJ P w) k f fd ps (nJ K n F)∧mg x=some (.ref f)∧W.keepIn K (.ref f)=true∧fO K fd ps []
def Om (P:Program)(w:World)(K:W.Frag)(mg:Str→Option Value)(base:Heap)(c m:Str)(k n:Nat)(F:FD):Prop:=
 ∃C f fd ps,fE P w K mg base (jJ P w) k f fd ps (nJ K n F)∧KC K mg c C∧Cz K C m f∧fO K fd ps []
section
variable {P:Program}{w:World}{K:W.Frag}{mg:Str→Option Value}{base:Heap}{x c m q:Str}{st:Stmt}{N ps:List Str}{k n:Nat}{g:GS}{F:FD}
theorem nP (h:Ok P w K mg base x k n F):Ok P w K mg base x k n fun ds M=>ju M.length (F ds M):=by
 obtain⟨f,fd,ps,h1,h2,h3,h4⟩:=h;exact⟨f,fd,ps,Bg h1,h2,h3,h4⟩
theorem B3 (T:FF K mg x st ps)(hn:ps.length=n:=by rfl):Ok P w K mg base x k n fun _ _=>.bad:=by
 obtain⟨f,fd,T⟩:=T;exact⟨f,fd,ps,AO hn,T.m,T.F.kp,T.b⟩
theorem b9 (T:FF K mg x st ps)(N:List Str)(S:iB N ps (bn st))(hn:ps.length=n)
  (hb:∀(f:Addr) (cdv:Value) (A:Around) (outer:List Env) (s:Shared) (H:Hp) (E:XK),N.Nodup→dm k (A.deeper (envOfC x (bn st) s.heap.objs.size f cdv))→QB (jv (jJ P w) P w K mg base N x (bn st) f cdv A outer s H E) (dG st) g) :
  Ok P w K mg base x (k+1) n (bB (N.length-n) g):=by
 obtain⟨f,fd,T⟩:=T;exact⟨f,fd,ps,Az T.F S hn fun cdv A outer s H E hr=>hb f cdv A outer s H E S.nd hr,T.m,T.F.kp,T.b⟩
theorem D4 (T:MF K mg c m q st ps)(N:List Str)(S:iB N ps (bn st))(hn:ps.length=n)
  (hb:∀(f:Addr) (cdv:Value) (A:Around) (outer:List Env) (s:Shared) (H:Hp) (E:XK),N.Nodup→dm k (A.deeper (envOfC q (bn st) s.heap.objs.size f cdv))→QB (jv (jJ P w) P w K mg base N q (bn st) f cdv A outer s H E) (dG st) g) :
  Om P w K mg base c m (k+1) n (bB (N.length-n) g):=by
 obtain⟨C,f,fd,kC,T⟩:=T;exact⟨C,f,fd,ps,Az T.F S hn fun cdv A outer s H E hr=>hb f cdv A outer s H E S.nd hr,kC,T.me,T.b⟩
end
section
variable {X:Cx}{e a o value:Expr}{es:List Expr}{x c m f:Str}{p p2 pos apos pos':Pos}{gA:GA}{g go gv:GE}{k k' n:Nat}{F:FD}{tab:List (Str×Bool)}{bs:List Str}
theorem Cy (h:Ok X.prog X.w X.K X.mg X.base x k n F)(hr:dm k' X.A)(ha:QA X (e::es) gA)(hk:k≤k':=by first|decide|omega)(hg:Gl X x:=by rfl)
  (hdb:(x==("__debug__":Str))=false:=by decide) (h1:bc e=true:=by rfl) (h2:cM es=true:=by rfl):QE X (.Call (.Name x p) (e::es) [] pos) (ah n F gA):=by
 obtain⟨f,fd,ps,h1',h2',h3,h4⟩:=h;exact CW h1' (hr.mono hk) hg h2' h3 h4 ha hdb h1 h2
theorem vT (h:Om X.prog X.w X.K X.mg X.base c "__init__" k n F)(hr:dm k' X.A)(ha:QA X (e::es) gA)(hk:k+1≤k':=by first|decide|omega)(hg:Gl X c:=by rfl)
  (hdb:(c==("__debug__":Str))=false:=by decide) (h1:bc e=true:=by rfl) (h2:cM es=true:=by rfl):QE X (.Call (.Name c p) (e::es) [] pos) (eB c n F gA):=by
 obtain⟨C,f,fd,ps,a1,a2,a3,a4⟩:=h;exact yK a2.1 ⟨a2.2.1,a3.at_,a3.fn,a2.2.2⟩ a1 (hr.mono hk) hg a4 ha hdb h1 h2
theorem yH (h:NA X.K X.mg c f)(ho:QE X o go)(hv:QE X value gv)(hs:ie value=true:=by rfl):QS X (.Assign [.Attribute o f pos'] value pos) (iH c f go gv):=by
 obtain⟨C,h1,h2⟩:=h;exact BE h1.1 h2 ho hv hs
theorem sR {np cpos:Pos}(h:EX X.K X.mg x)(he:QE X e g)(hg:Gl X x:=by rfl)(hc:X.calm=true:=by rfl)(h1:bc e=true:=by rfl)(hd:(x==("__debug__":Str))=false:=by decide):QS X (.Raise (some (.Call (.Name x np) [e] [] cpos)) none pos) (gP x g):=by
 obtain⟨C,h⟩:=h;exact uL h hg he hc h1 hd
theorem xy (h:IX X.K X.mg x tab)(hmi:X.mg "isinstance"=none)(he:QE X e g)(hg:Gl X x:=by rfl)(hgi:Gl X "isinstance":=by rfl)
  (h1:bc e=true:=by rfl) (hd:(x==("__debug__":Str))=false:=by decide):QE X (.Call (.Name "isinstance" p) [e,.Name x p2] [] pos) (gp (oO tab) g):=by
 obtain⟨G,h,t⟩:=h;exact AL h.m (vz fun p hp=>(t p hp).elim fun C q=>⟨C,q.1.at_,q.1.k,yk h q.2⟩) hg hgi hmi he h1 hd
theorem vW {T:String}(h:IB X.K X.mg T tab)(hm:X.mg x=none)(hmi:X.mg "isinstance"=none)(he:QE X e g)(hT:W.kitMeta T=true)(hv:bootBuiltins x=some (.type T))(hg:Gl X x:=by rfl)(hgi:Gl X "isinstance":=by rfl)
  (h1:bc e=true:=by rfl) (hn:x≠"__name__":=by decide) (hd:(x==("__debug__":Str))=false:=by decide):QE X (.Call (.Name "isinstance" p) [e,.Name x p2] [] pos) (gp (oO tab) g):=
 xb hv hm (vz fun p hp=>(h p hp).elim fun C q=>⟨C,q.1.at_,q.1.k,uq hT q.2⟩) hg hgi hmi he h1 hn hd
theorem yi {l:List Str}{G n:Str}{i:Nat}{gB gh:GS}{body suite:List Stmt}{b0:Stmt}{np hpos:Pos}(h:IX X.K X.mg G tab)(hN:X.N.Nodup)
  (hb:∀pn E,QB (l6 X pn E) body gB) (hh:∀pn a,QB (jG X pn a) (b0::suite) gh) (hl:tab=l.map (·,true):=by rfl)
  (hg:Gl X G:=by rfl) (hst:X.stack=X.env::X.outer:=by rfl) (hf:X.env.frame=some X.env.locals:=by rfl) (hi:X.N[i]?=some n:=by rfl) (hl:X.env.kindOf n=some .local:=by rfl) (hfn:X.fn n=true∨X.env.scope.names.lookup n=some .local:=by first|exact .inl rfl|exact .inr rfl)
  (hd:(G==("__debug__":Str))=false:=by decide):QS X (.Try body [.ExceptHandler (some (.Name G np)) (some n) (b0::suite) hpos] [] [] pos) (jP i (List.contains l) gB gh):=by
 obtain⟨C,h,t⟩:=h;refine zT h (F3 (l:=l) fun c hc=>?_) hN hb hh hg hst hf hi hl hfn hd;subst tab;obtain⟨D,q1,q2⟩:=t (c,true) (mem_map.mpr ⟨c,hc,rfl⟩);exact⟨D,q1.at_,q2⟩
end
section
variable {X:Cx}{x:Str}{pos px:Pos}{ge:GE}{scope:Scope}{xs R:List Str}{iter elt tg:Expr}{ifs:List Expr}{gI:GI}{gC:GT}{sg:GG}{mk:List D→au→bw D}{j:Nat}{y:Str}{py spos:Pos}{n:Nat}
theorem wg (hS:eJ scope X.env.kindOf [x] X.N X.N=true)(hm:mk=aV∨mk=fM)(hi:QI X (.Name x px) iter gI)(hts:Ce X scope [x] X.N ifs gC)(he:∀fp s H C,QE (aP X scope [x] X.N fp s H C) elt ge)
  (hc:X.calm=true:=by rfl) (hs:∀x,foldedSetIterable iter X.env x=pure x:=by intro _;rfl):QE X (.ListComp elt [⟨.Name x px,iter,ifs,0⟩] scope pos) (bv gI gC ge mk):=wZ hS hm hi hts he hc hs
theorem tR (_:RN pos.line pos.col xs R)(hS:eJ scope X.env.kindOf xs R X.N=true)(hm:mk=aV∨mk=fM)(own:QO xs.length sg)(hi:QI X tg iter gI)(hg:∀fp s H C,QG (aP X scope xs R fp s H C) tg sg)(hts:Ce X scope xs R ifs gC)(he:∀fp s H C,QE (aP X scope xs R fp s H C) elt ge)
  (hn:xs.length=n:=by rfl) (hc:X.calm=true:=by rfl) (hs:∀x,foldedSetIterable iter X.env x=pure x:=by intro _;rfl):QE X (.ListComp elt [⟨tg,iter,ifs,0⟩] scope pos) (fJ gI n sg gC ge mk):=hn▸uI xs hS hm own hi hg hts he hc hs
end
structure Tx (tab:List (Str×Stmt×List Str))(mtab:List (Str×Str×Str×Stmt×List Str))(ls:List (Str×Stmt×List Str))(zs es:List Str)(rs:List (Str×List (Str×Bool)))(vt:List (Str×Bool))(nas:List (Str×Str))(cs:List (Str×Str))(ci:List (Str×Int))
  (P:Program) (w:World) (K:W.Frag) (mg:Str→Option Value) (base:Heap):Prop where
 f:Ls (fun t=>FF K mg t.1 t.2.1 t.2.2) tab
 m:Ls (fun t=>MF K mg t.1 t.2.1 t.2.2.1 t.2.2.2.1 t.2.2.2.2) mtab
 l:Ls (fun t=>LF K mg t.1 t.2.1 t.2.2) ls
 z:∀x∈zs,mg x=none
 e:∀x∈es,EX K mg x
 r:Ls (fun t=>IX K mg t.1 t.2) rs
 b:IB K mg "ValueError" vt
 a:∀t∈nas,NA K mg t.1 t.2
 s:Ls (fun t=>∃tk,mg t.1=some (.str t.2 tk)) cs
 i:Ls (fun t=>∃tk,mg t.1=some (.int t.2 tk)) ci
theorem yZ {K:W.Frag}{mg:Str→Option Value}{l:List (Str×Str)}(h:∀t∈l,NA K mg t.1 t.2)(c f:Str)(e:(c,f)∈l:=by decide +kernel):NA K mg c f:=h (c,f) e
theorem qW {K:W.Frag}{mg:Str→Option Value}{l:List (Str×List (Str×Bool))}{x:Str}{t:List (Str×Bool)}(h:Ls (fun t=>IX K mg t.1 t.2) l)(e:l.lookup x=some t):IX K mg x t:=by
 refine h (x,t) ?_
 induction l with
 | nil=>cases e
 | cons p l ih=>
  obtain⟨y,u⟩:=p;rw[lookup_cons] at e;split at e
  ·rename_i q;cases e;rw[eq_of_beq q];exact .head _
  ·exact .tail _ (ih (fun t ht=>h t (.tail _ ht)) e)
section
variable {K:W.Frag}{mg:Str→Option Value}{x c m q:Str}{st:Stmt}{ps:List Str}{l:List (Str×Stmt×List Str)}{l':List (Str×Str×Str×Stmt×List Str)}
theorem bZ (h:Ls (fun t=>FF K mg t.1 t.2.1 t.2.2) l)(i:Nat)(e:l[i]?=some (x,st,ps):=by rfl):FF K mg x st ps:=h _ (mem_of_getElem? e)
theorem DC (h:Ls (fun t=>MF K mg t.1 t.2.1 t.2.2.1 t.2.2.2.1 t.2.2.2.2) l')(i:Nat)(e:l'[i]?=some (c,m,q,st,ps):=by rfl):MF K mg c m q st ps:=h _ (mem_of_getElem? e)
end
section
variable {K:W.Frag}{h:Heap}{mg:Str→Option Value}{x c m q f':Str}{st:Stmt}{ps:List Str}{f C G:Addr}{oc kV dc pm cd ct:Value}{od an:Option Addr}{sl:Array (Option Value)}
theorem C9 (X:K.In h)(Gm:h.Ns mainGlobals mg)(a:W.nsIn K mainGlobals x=some (some (.ref f)))(l:K.lookup f=some ⟨oc,od,.func (W.fnOf x x (fR st) (dG st) (bn st) .none kV dc pm an cd ct),sl⟩)(c:W.codeIn K cd x=true)(k:W.keepIn K (.ref f)=true)
  (b:∀(kV doc pm:Value) (an:Option Addr) (cdv ct:Value) (us:List Value),us.length=ps.length→bindArgs (W.fnOf x x (fR st) (dG st) (bn st) .none kV doc pm an cdv ct) ⟨us,[]⟩=pure (ps.zip us)):FF K mg x st ps:=
 ⟨f,_,oy (st:=st) l c k,W.mg_of X Gm a,(oy (st:=st) l c k).binds b⟩
theorem DT (X:K.In h)(Gm:h.Ns mainGlobals mg)(q:W.nsIn K mainGlobals c=some (some (.ref C)))(pg:W.plainGet K C Str.empty=true)(hd:W.hasDictIn K C=true)(po:W.plainOver K C=true)(sa:W.findIn K (.ref C) "__setattr__"=some (some (.builtin "object.__setattr__")))
  (mi:W.makesIn K C=true) (kp:W.keepIn K (.ref C)=true):KC K mg c C:=⟨⟨q,W.mg_of X Gm q,pg,hd,po,sa⟩,mi,kp⟩
theorem Eg (kC:KC K mg c C)(a:W.findIn K (.ref C) m=some (some (.ref f)))(l:K.lookup f=some ⟨oc,od,.func (W.fnOf m q (fR st) (dG st) (bn st) .none kV dc pm an cd ct),sl⟩)(cc:W.codeIn K cd q=true)(k:W.keepIn K (.ref f)=true)(n:W.isFn K (.ref f)=true)
  (b:∀(kV doc pm:Value) (an:Option Addr) (cdv ct:Value) (us:List Value),us.length=ps.length→bindArgs (W.fnOf m q (fR st) (dG st) (bn st) .none kV doc pm an cdv ct) ⟨us,[]⟩=pure (ps.zip us)):MF K mg c m q st ps:=
 ⟨C,f,_,kC,oy (st:=st) l cc k,⟨a,n,k⟩,(oy (st:=st) l cc k).binds b⟩
theorem DS (kC:KC K mg c C)(a:W.findIn K (.ref C) f'=some none):NA K mg c f':=⟨C,kC,a⟩
theorem CH (X:K.In h)(Gm:h.Ns mainGlobals mg)(q:W.nsIn K mainGlobals x=some (some (.ref C)))(cl:W.isClsIn K C=true)(ca:W.findIn K (.ref C) "__class__"=some (some (.builtin "object.__class__")))(sp:W.specialIn K (.builtin "object.__class__") "__get__"=some (some (.builtin "getset_descriptor.__get__")))(tk:W.takesIn K (.builtin "object.__class__")=some true)
  (ob:W.mroIn K C (.type "object")=some true) (ga:W.findIn K (.ref C) "__getattribute__"=some (some (.builtin "BaseException.__getattribute__"))) (gh:W.findIn K (.ref C) "__getattr__"=some none) (be:W.mroIn K C (.type "BaseException")=some true)
  (ex:W.excIn K C C4 "ValueError.__new__"=true) (ty:W.typeIn K (.ref C)=some (.type "type")) (sf:W.mroIn K C (.ref C)=some true):Ec K mg x C:=⟨q,W.mg_of X Gm q,⟨cl,ca,sp,tk,ob,ga,gh,be⟩,ex,ty,sf⟩
theorem DK (h:Ec K mg x C):EX K mg x:=⟨C,h⟩
theorem Cv {tab:List (Str×Bool)}(h:Ec K mg x G)(t:Ls (fun p=>∃C,Ec K mg p.1 C∧W.mroIn K C (.ref G)=some p.2) tab):IX K mg x tab:=⟨G,h,t⟩
theorem Di {T:Value}{b:Bool}(h:Ec K mg x C)(e:W.mroIn K C T=some b):∃C,Ec K mg x C∧W.mroIn K C T=some b:=⟨C,h,e⟩
theorem Fw (X:K.In h)(Gm:h.Ns mainGlobals mg)(e:W.nsIn K mainGlobals x=some none):mg x=none:=W.mg_none_of X Gm e
theorem Dn {u:Tok→Value}{tk:Tok}(X:K.In h)(Gm:h.Ns mainGlobals mg)(e:W.nsIn K mainGlobals x=some (some (u tk))):∃tk,mg x=some (u tk):=⟨tk,W.mg_of X Gm e⟩
end
section
variable {P:List Value→Prop}
theorem FX (h:∀a b,P [a,b])(us:List Value)(hl:us.length=2):P us:=by
 match us,hl with
 | [a,b],_=>exact h a b
end
theorem Bd {l:W.OpenLaw}{w:World}{K:W.Frag}{mg:Str→Option Value}{fa:Addr}{st:Stmt}{k:Nat}{F:FD}(hfa:mg "law"=some (.ref fa))(L:FF K mg "law" st ["script"])
  (h:∀(base:Heap) (f:Addr) (fd:FuncData),Fn K mg "law" st f fd ["script"]→fE l.prog w K mg base (jJ l.prog w) k f fd ["script"] (nJ K 1 F))
  (hb:∀(kV doc pm:Value) (an:Option Addr) (cdv ct:Value) (v:Value),bindArgs (W.fnOf "law" "law" (fR st) (dG st) (bn st) .none kV doc pm an cdv ct) ⟨[v],[]⟩=pure [(("script":Str),v)]) :
  ∃fd:FuncData,(∀(s:Shared) (v:Value),BindsTo s fd ⟨[v],[]⟩ [("script",v)])∧∀base:Heap,K.In base→base.Ns mainGlobals mg→fE l.prog w K mg base (jJ l.prog w) k fa fd ["script"] (nJ K 1 F):=by
 obtain⟨f,fd,L⟩:=L;have e:=hfa.symm.trans L.m;cases e;refine⟨fd,fun s v=>?_,fun base _ _=>h base _ fd L⟩;obtain⟨oc,od,kV,doc,pm,an,cdv,ct,osl,rfl,lk,hcd⟩:=L.F.ex;exact .of_eq (hb kV doc pm an cdv ct v)
end DL
namespace DL
open PySem PySem.Spec PyProof.Rows PySem.W L2 List
section
variable {key:Nat→Int}{N:Nat}{s:Shared}{cmp:Nat→Nat→(Bool→Shared→Prop)→Shared→Prop}
def kp (key:Nat→Int)(p:Array Nat)(k:Nat):Int:=key (p.getD k 0)
def up (key:Nat→Int)(p:Array Nat)(n:Nat):Prop:=∀k,k+1<n→kp key p k≤kp key p (k+1)
def down (key:Nat→Int)(p:Array Nat)(n:Nat):Prop:=∀k,k+1<n→kp key p (k+1)≤kp key p k
end
section
def rank (zs:List (List Int))(z:List Int):Int:=(zs.countP fun y=>HT.lexLt y z:Nat)
end
end DL
namespace DL
open PySem PySem.Spec PyProof.Rows L2 List
end DL
namespace DL
open PySem PySem.Spec PyProof.Rows PySem.W L2 List
end DL
namespace DL
open PySem PySem.Spec PyProof.Rows L2 List
section
variable {prog:Program}{w:World}{A:Around}{E:Value→Shared→Prop}{s:Shared}{z TI TO i1 i2 l1 l2:Addr}{k1 k2:Nat}{xs ys:Array Value}{x y a b:Value}
structure sF (h:Heap)(z TI TO i1 i2 l1 l2:Addr)(k:Nat):Prop where
 z:IsZip h z TI TO .none
 ti:IsPair h TI (.ref i1) (.ref i2)
 to:∃a b,IsPair h TO a b
 i1:h.IsTupleIter i1 l1 k
 i2:h.IsTupleIter i2 l2 k
theorem um {Q:Value→Shared→Prop}{k:Nat}(D:ZipApart z TI TO i1 i2 l1 l2)(t:sF s.heap z TI TO i1 i2 l1 l2 k)(hl1:s.heap.IsTuple l1 xs)(hl2:s.heap.IsTuple l2 ys)(hx:xs[k]?=some x)(hy:ys[k]?=some y)
  (hQ:∀h',IsZip h' z TI TO (rawInt s.heap.objs.size)→IsPair h' TO x y→h'.IsTupleIter i1 l1 (k+1)→h'.IsTupleIter i2 l2 (k+1)→IsPair h' s.heap.objs.size x y→h'.objs.size=s.heap.objs.size+1→
   (∀c o,c∉[z,TO,i1,i2]→s.heap.get? c=some o→h'.get? c=some o)→Q (.ref s.heap.objs.size) {s with heap:=h'}) :
  wpAny (model prog w) A (Builtin.«zip.__next__» ⟨[.ref z],[]⟩) (fun fin s'=>∃v,fin=.done (.ret v)∧Q v s') E s:=by
 obtain⟨hz,hTI,⟨a,b,hTO⟩,h1,h2⟩:=t;show wpAny _ _ (field (.ref z) 2 >>= _) _ _ _;refine wpAny_bind (wpAny_field hz rfl (x:=.bool false) rfl ?_);show wpAny _ _ (field (.ref z) 3 >>= _) _ _ _;refine wpAny_bind (wpAny_field hz rfl (x:=.ref TI) rfl (wpAny_bind (wpAny_seqItems hTI rfl ?_)));show wpAny _ _ (Builtin.SmallTypes.ownedTupleIsFree (.ref z) >>= _) _ _ _;refine wpAny_bind ?_;unfold Builtin.SmallTypes.ownedTupleIsFree;refine wpAny_bind (wpAny_field hz rfl (x:=.none) rfl (wpAny_pure ?_));simp only[if_true];refine wpAny_bind (wpAny_rule (wpAny_bind (wpAny_field hz rfl (x:=.ref TO) rfl (wpAny_bind (wpAny_setField_rec hz (by simp) fun ha za sa=>?_)))));have za:IsZip ha z TI TO .ellipsis:=za;refine wpAny_bind ?_;simp only[List.zipIdx_cons,List.zipIdx_nil,forIn_cons,forIn_nil];refine wpAny_bind (wpAny_bind (wpAny_onRaise ?_));show wpAny _ _ (Builtin.SmallTypes.nextOf (.ref i1) >>= _) _ _ _;refine wpAny_bind (mq (h1.at fun o e=>sa.extBut _ o D.i1z e) (hl1.extBut sa.extBut D.l1z) hx fun hb ib sb=>wpAny_pure ?_);have tb:IsPair hb TO a b:=sb.extBut _ _ D.TOi1 (sa.extBut _ _ D.TOz hTO);refine wpAny_bind (wpAny_seqItems tb rfl (wpAny_bind (wpAny_updateSeq_pair tb fun hc tc sc=>?_)));have tc:IsPair hc TO x b:=tc;refine wpAny_bind (wpAny_letGo (wpAny_pure (wpAny_bind (wpAny_bind (wpAny_onRaise ?_)))));show wpAny _ _ (Builtin.SmallTypes.nextOf (.ref i2) >>= _) _ _ _;refine wpAny_bind (mq (h2.at fun o e=>sc.extBut _ o D.TOi2.symm (sb.extBut _ o D.i12.symm (sa.extBut _ o D.i2z e))) (((hl2.extBut sa.extBut D.l2z).extBut sb.extBut D.l2i1).extBut sc.extBut D.l2TO) hy fun hd id sd=>wpAny_pure ?_);have td:IsPair hd TO x b:=sd.extBut _ _ D.TOi2 tc;refine wpAny_bind (wpAny_seqItems td rfl (wpAny_bind (wpAny_updateSeq_pair td fun he te se=>?_)));have te:IsPair he TO x y:=te;refine wpAny_bind (wpAny_letGo (wpAny_pure (wpAny_pure (wpAny_bind (wpAny_seqItems te rfl (wpAny_bind (wpAny_newTuple ?_)))))));have hsz:he.objs.size=s.heap.objs.size:=by rw[se.1,sd.1,sc.1,sb.1,sa.1]
 have ze:IsZip he z TI TO .ellipsis:=se.extBut _ _ D.TOz.symm (sd.extBut _ _ D.i2z.symm (sc.extBut _ _ D.TOz.symm (sb.extBut _ _ D.i1z.symm za)));have ke:∀c o,c∉[z,TO,i1,i2]→s.heap.get? c=some o→he.get? c=some o:=fun c o hc e=>by
  have c1:c≠z:=fun q=>hc (by simp[q])
  have c2:c≠TO:=fun q=>hc (by simp[q])
  have c3:c≠i1:=fun q=>hc (by simp[q])
  have c4:c≠i2:=fun q=>hc (by simp[q])
  exact se.extBut _ _ c2 (sd.extBut _ _ c4 (sc.extBut _ _ c2 (sb.extBut _ _ c3 (sa.extBut _ _ c1 e))))
 have ie1:he.IsTupleIter i1 l1 (k+1):=ib.at fun o e=>se.extBut _ o D.TOi1.symm (sd.extBut _ o D.i12 (sc.extBut _ o D.TOi1.symm e))
 have ie2:he.IsTupleIter i2 l2 (k+1):=id.at fun o e=>se.extBut _ o D.TOi2.symm e
 have zlt:z<he.objs.size:=Heap.lt_size ze;show wpAny _ _ (Builtin.SmallTypes.ownedTupleHandOut (.ref z) (.ref he.objs.size) >>= _) _ _ _;refine wpAny_bind ?_;unfold Builtin.SmallTypes.ownedTupleHandOut;have zf:IsZip (he.push {cls:=.type "tuple",data:=.seq #[x,y]}) z TI TO .ellipsis:=Heap.get?_push_of_some _ ze;refine wpAny_bind (wpAny_setField_rec zf (by simp) fun hg zg sg=>?_);have zg:IsZip hg z TI TO (rawInt he.objs.size):=zg;refine wpAny_setField_rec zg (by simp) fun hh zh sh=>?_
 have zh:IsZip hh z TI TO (rawInt he.objs.size):=zh;have up:∀c o,c≠z→he.get? c=some o→hh.get? c=some o:=fun c o c1 e=>sh.extBut _ _ c1 (sg.extBut _ _ c1 (Heap.get?_push_of_some _ e))
 have th:IsPair hh he.objs.size x y:=sh.extBut _ _ (Nat.ne_of_gt zlt) (sg.extBut _ _ (Nat.ne_of_gt zlt) (Heap.get?_push_size _ rfl));have lh:hh.objs.size=he.objs.size+1:=by rw[sh.1,sg.1,Heap.size_push]
 rw[hsz] at zh th lh;refine wpAny_pure ⟨_,rfl,?_⟩;show Q (.ref he.objs.size) _;rw[hsz];exact hQ hh zh (up _ _ D.TOz te) (ie1.at fun o e=>up _ o D.i1z e) (ie2.at fun o e=>up _ o D.i2z e) th lh fun c o hc e=>up c o (fun q=>hc (by simp[q])) (ke c o hc e)
theorem uG {Q:PySem.Fin→Shared→Prop}{k:Nat}(hh:A.handled=none)(D:ZipApart z TI TO i1 i2 l1 l2)(t:sF s.heap z TI TO i1 i2 l1 l2 k)(hl1:s.heap.IsTuple l1 xs)(hx:xs[k]?=none)
  (hE:∀h' e,(∀c o,c∉[z,TO,i1,i2]→s.heap.get? c=some o→h'.get? c=some o)→(∃o,h'.get? e=some o∧o.cls=.type "StopIteration")→E (.ref e) {s with heap:=h'}) :
  wpAny (model prog w) A (Builtin.«zip.__next__» ⟨[.ref z],[]⟩) Q E s:=by
 obtain⟨hz,hTI,⟨a,b,hTO⟩,h1,h2⟩:=t;show wpAny _ _ (field (.ref z) 2 >>= _) _ _ _;refine wpAny_bind (wpAny_field hz rfl (x:=.bool false) rfl ?_);show wpAny _ _ (field (.ref z) 3 >>= _) _ _ _;refine wpAny_bind (wpAny_field hz rfl (x:=.ref TI) rfl (wpAny_bind (wpAny_seqItems hTI rfl ?_)));show wpAny _ _ (Builtin.SmallTypes.ownedTupleIsFree (.ref z) >>= _) _ _ _;refine wpAny_bind ?_;unfold Builtin.SmallTypes.ownedTupleIsFree;refine wpAny_bind (wpAny_field hz rfl (x:=.none) rfl (wpAny_pure ?_));simp only[if_true];refine wpAny_bind (wpAny_rule (wpAny_bind (wpAny_field hz rfl (x:=.ref TO) rfl (wpAny_bind (wpAny_setField_rec hz (by simp) fun ha za sa=>?_)))));have za:IsZip ha z TI TO .ellipsis:=za;refine wpAny_bind ?_;simp only[List.zipIdx_cons,List.zipIdx_nil,forIn_cons,forIn_nil];refine wpAny_bind (wpAny_bind (wpAny_onRaise ?_));show wpAny _ _ (Builtin.SmallTypes.nextOf (.ref i1) >>= _) _ _ _;refine wpAny_bind (lS hh (h1.at fun o e=>sa.extBut _ o D.i1z e) (hl1.extBut sa.extBut D.l1z) hx fun hb e sb he=>?_);obtain⟨oe,hoe,hce⟩:=he;have zb:IsZip hb z TI TO .ellipsis:=sb _ _ D.i1z.symm za;have ez:e≠z:=fun q=>by rw[q,zb] at hoe;cases hoe;simp at hce
 exact wpAny_setField_rec zb (by simp) fun hc _ sc=>hE hc e (fun c o hx q=>sc.extBut _ _ (fun p=>hx (by simp[p])) (sb _ _ (fun p=>hx (by simp[p])) (sa.extBut _ _ (fun p=>hx (by simp[p])) q))) ⟨oe,sc.extBut _ _ ez hoe,hce⟩
theorem sV {Q:Option Value→Shared→Prop}{k:Nat}(D:ZipApart z TI TO i1 i2 l1 l2)(t:sF s.heap z TI TO i1 i2 l1 l2 k)(hl1:s.heap.IsTuple l1 xs)(hl2:s.heap.IsTuple l2 ys)(hx:xs[k]?=some x)(hy:ys[k]?=some y)
  (hQ:∀h',IsZip h' z TI TO (rawInt s.heap.objs.size)→IsPair h' TO x y→h'.IsTupleIter i1 l1 (k+1)→h'.IsTupleIter i2 l2 (k+1)→IsPair h' s.heap.objs.size x y→h'.objs.size=s.heap.objs.size+1→
   (∀c o,c∉[z,TO,i1,i2]→s.heap.get? c=some o→h'.get? c=some o)→Q (some (.ref s.heap.objs.size)) {s with heap:=h'}):wpAny (model prog w) A (pyNext (.ref z)) Q E s:=by
 have hT:s.TypeIs (.ref z) "zip":=⟨_,t.z,rfl⟩;unfold pyNext;exact wpAny_bind (wpAny_attempt (wpAny_callSpecial?_slot (name:=Str.ofString "__next__") hT PySem.F.slot_zip_next (wpAny_call_entry PySem.F.slot_zip_next hT PySem.F.entry_zip_next (um D t hl1 hl2 hx hy fun h' b1 b2 b3 b4 b5 b6 b7=>wpAny_pure (hQ h' b1 b2 b3 b4 b5 b6 b7)) (PySem.F.args_zip_next_1 _))))
theorem sM {Q:Option Value→Shared→Prop}{k:Nat}(hh:A.handled=none)(D:ZipApart z TI TO i1 i2 l1 l2)(t:sF s.heap z TI TO i1 i2 l1 l2 k)(hl1:s.heap.IsTuple l1 xs)(hx:xs[k]?=none)
  (hQ:∀h',(∀c o,c∉[z,TO,i1,i2]→s.heap.get? c=some o→h'.get? c=some o)→Q none {s with heap:=h'}):wpAny (model prog w) A (pyNext (.ref z)) Q E s:=by
 have hT:s.TypeIs (.ref z) "zip":=⟨_,t.z,rfl⟩;unfold pyNext;refine wpAny_bind (wpAny_attempt (wpAny_callSpecial?_slot (name:=Str.ofString "__next__") hT PySem.F.slot_zip_next (wpAny_call_entry PySem.F.slot_zip_next hT PySem.F.entry_zip_next (uG hh D t hl1 hx fun h' e hk he=>?_) (PySem.F.args_zip_next_1 _))));obtain⟨o,ho,hc⟩:=he;exact wpAny_bind (wpAny_isInstance (T:="StopIteration") (b:=true) ⟨o,ho,hc⟩ isSubtype_stop (wpAny_pure (hQ _ hk)))
end
def j8 (l:Addr):Obj:={cls:=.type "tuple_iterator",data:=.fields #[.ref l,.int 0 0]}
def tj (a b:Value):Obj:={cls:=.type "tuple",data:=.seq #[a,b]}
def FQ (a b:Addr):Obj:={cls:=.type "zip",data:=.fields #[.none,.bool false,.bool false,.ref a,.ref b]}
def zH (h:Heap)(l1 l2:Addr):Heap:=((((h.push (j8 l1)).push (j8 l2)).push (tj (.ref h.objs.size) (.ref (h.push (j8 l1)).objs.size))).push (tj .none .none)).push (FQ ((h.push (j8 l1)).push (j8 l2)).objs.size (((h.push (j8 l1)).push (j8 l2)).push (tj (.ref h.objs.size) (.ref (h.push (j8 l1)).objs.size))).objs.size)
theorem pd (l1 l2:Addr)(xs ys:Array Value) :
  Meets (Builtin.«zip.__new__» ⟨[.type "zip",.ref l1,.ref l2],[]⟩) (fun _ R s=>s.heap.IsTuple l1 xs∧s.heap.IsTuple l2 ys∧
   R (.ok (.ret (.ref ((((s.heap.push (j8 l1)).push (j8 l2)).push (tj (.ref s.heap.objs.size) (.ref (s.heap.push (j8 l1)).objs.size))).push (tj .none .none)).objs.size))) {s with heap:=zH s.heap l1 l2}):=
 .of_wp fun prog w A R s h=>by
  obtain⟨hp,g,d,tk,os⟩:=s;obtain⟨hl1,hl2,h⟩:=h;have hsub:=sub_zip;have T1:Heap.IsTuple (Shared.heap ⟨hp,g,d,tk,os⟩) l1 xs:=hl1;have T2:Heap.IsTuple (Shared.heap ⟨hp.push {cls:=.type "tuple_iterator",data:=.fields #[.ref l1,.int 0 0]},g,d,tk,os⟩) l2 ys:=by
   obtain⟨o,ho,r⟩:=hl2;exact⟨o,Heap.get?_push_of_some _ ho,r⟩
  wp_walk using wpAny_pyIter_tuple T1,wpAny_pyIter_tuple T2
  exact⟨_,rfl,h⟩
theorem nL {prog:Program}{w:World}{A:Around}{E:Value→Shared→Prop}{s:Shared}{l1 l2:Addr}{xs ys:Array Value}{Q:Value→Shared→Prop}(hl1:s.heap.IsTuple l1 xs)(hl2:s.heap.IsTuple l2 ys)
  (q:∀h',sF h' (s.heap.objs.size+4) (s.heap.objs.size+2) (s.heap.objs.size+3) s.heap.objs.size (s.heap.objs.size+1) l1 l2 0→(∀b o,s.heap.get? b=some o→h'.get? b=some o)→Q (.ref (s.heap.objs.size+4)) {s with heap:=h'}) :
  wpAny (model prog w) A (call (.type "zip") [.ref l1,.ref l2]) Q E s:=by
 refine callType_new PySem.F.called_zip (by decide) (PySem.F.typeCall_zip_2 _ _) (PySem.F.newCall_zip_2 _ _) (fun obj=>PySem.F.args_object_init_3 obj _ _) PySem.F.entry_zip_new (pd l1 l2 xs ys) ⟨hl1,hl2,?_⟩;show _∧_;have z1:(s.heap.push (j8 l1)).objs.size=s.heap.objs.size+1:=Heap.size_push ..;have z2:((s.heap.push (j8 l1)).push (j8 l2)).objs.size=s.heap.objs.size+2:=by rw[Heap.size_push,z1]
 unfold zH;rw[z1,z2];have z3:(((s.heap.push (j8 l1)).push (j8 l2)).push (tj (.ref s.heap.objs.size) (.ref (s.heap.objs.size+1)))).objs.size=s.heap.objs.size+3:=by rw[Heap.size_push,z2]
 rw[z3];have z4:((((s.heap.push (j8 l1)).push (j8 l2)).push (tj (.ref s.heap.objs.size) (.ref (s.heap.objs.size+1)))).push (tj .none .none)).objs.size=s.heap.objs.size+4:=by rw[Heap.size_push,z3]
 rw[z4];have g1:(s.heap.push (j8 l1)).get? s.heap.objs.size=some (j8 l1):=Heap.get?_push_size _ rfl;have g2:=Heap.get?_push_size (s.heap.push (j8 l1)) (o:=j8 l2) rfl;rw[z1] at g2;have g3:=Heap.get?_push_size ((s.heap.push (j8 l1)).push (j8 l2)) (o:=tj (.ref s.heap.objs.size) (.ref (s.heap.objs.size+1))) rfl;rw[z2] at g3;have g4:=Heap.get?_push_size (((s.heap.push (j8 l1)).push (j8 l2)).push (tj (.ref s.heap.objs.size) (.ref (s.heap.objs.size+1)))) (o:=tj .none .none) rfl;rw[z3] at g4;have g5:=Heap.get?_push_size ((((s.heap.push (j8 l1)).push (j8 l2)).push (tj (.ref s.heap.objs.size) (.ref (s.heap.objs.size+1)))).push (tj .none .none)) (o:=FQ (s.heap.objs.size+2) (s.heap.objs.size+3)) rfl;rw[z4] at g5;refine⟨⟨_,g5,rfl⟩,q _ ⟨g5,Heap.get?_push_of_some _ (Heap.get?_push_of_some _ g3),⟨_,_,Heap.get?_push_of_some _ g4⟩,⟨_,Heap.get?_push_of_some _ (Heap.get?_push_of_some _ (Heap.get?_push_of_some _ (Heap.get?_push_of_some _ g1))),rfl,rfl⟩,⟨_,Heap.get?_push_of_some _ (Heap.get?_push_of_some _ (Heap.get?_push_of_some _ g2)),rfl,rfl⟩⟩ fun b o e=>Heap.get?_push_of_some _ (Heap.get?_push_of_some _ (Heap.get?_push_of_some _ (Heap.get?_push_of_some _ (Heap.get?_push_of_some _ e))))⟩
def EZ (K:W.Frag)(a b:Addr):It:=
 ⟨fun i H=>∃xs ys x y,j9 K H a xs∧j9 K H b ys∧xs[i]?=some x∧ys[i]?=some y,
  fun i H v H'=>∃p x y,H p=none∧H'=cN H p (.tup [x,y])∧v=.ref p∧(∀xs,j9 K H a xs→xs[i]?=some x)∧∀ys,j9 K H b ys→ys[i]?=some y,
  fun i H=>∃xs,j9 K H a xs∧xs.length≤i⟩
theorem vM {P:Program}{w:World}{K:W.Frag}{es:List Expr}{kt:Nat}{pos:Pos}{z TI TO i1 i2 a b:Addr}(D:ZipApart z TI TO i1 i2 a b) :
  sW P w K (.Tuple es kt pos) (EZ K a b) [z,TO,i1,i2,TI] z (fun i h=>sF h z TI TO i1 i2 a b i) where
 mem:=by simp
 obj:=fun i h st c hc=>by
  obtain⟨hz,hTI,⟨x,y,hTO⟩,⟨o1,e1,_,d1⟩,⟨o2,e2,_,d2⟩⟩:=st;simp only[mem_cons,not_mem_nil,or_false] at hc;rcases hc with rfl|rfl|rfl|rfl|rfl
  ·exact⟨_,hz,fun v q=>by cases q⟩
  ·exact⟨_,hTO,fun v q=>by cases q⟩
  ·exact⟨o1,e1,fun v q=>by rw[d1] at q;cases q⟩
  ·exact⟨o2,e2,fun v q=>by rw[d2] at q;cases q⟩
  ·exact⟨_,hTI,fun v q=>by cases q⟩
 keep:=fun i h h' st k=>by
  obtain⟨hz,hTI,⟨x,y,hTO⟩,h1,h2⟩:=st;exact⟨k z (by simp) _ hz,k TI (by simp) _ hTI,⟨x,y,k TO (by simp) _ hTO⟩,h1.at fun o e=>k i1 (by simp) o e,h2.at fun o e=>k i2 (by simp) o e⟩
 item:=by
  intro X hP hw hK hc i ag s σ H E I hf st hg;subst hP hw hK;obtain⟨xs,ys,x,y,hq1,hq2,hx,hy⟩:=hg;obtain⟨its1,rv1,p1,_⟩:=I.tuple hq1;obtain⟨its2,rv2,p2,_⟩:=I.tuple hq2;obtain⟨u1,hu1,ru1⟩:=rv1.get hx;obtain⟨u2,hu2,ru2⟩:=rv2.get hy;have p1:s.heap.IsTuple a its1.toArray:=p1;have p2:s.heap.IsTuple b its2.toArray:=p2;refine sV D st p1 p2 (x:=u1) (y:=u2) (by simpa using hu1) (by simpa using hu2) fun h' hz ht h1 h2 hT hsz hk=>⟨_,rfl,wpAny_letOwnedTupleGo_zip hz fun h3 hz3 hs3=>?_⟩
  have hs3:Heap.SameBut z h' h3:=hs3;have zlt:z<s.heap.objs.size:=Heap.lt_size st.z;have fr:H s.heap.objs.size=none:=I.hok.fresh (Nat.le_refl _);have hT3:h3.get? s.heap.objs.size=some {cls:=.type "tuple",data:=.seq #[u1,u2]}:=(hs3.2 _ (Nat.ne_of_gt zlt)).trans hT;have k3:∀c o,c∉[z,TO,i1,i2]→s.heap.get? c=some o→h3.get? c=some o:=fun c o hc e=>(hs3.2 c (fun q=>hc (by simp[q]))).trans (hk c o hc e)
  have new:eZ X.prog X.w (cN H s.heap.objs.size (.tup [x,y])) h3 s.heap.objs.size (.tup [x,y]):=
   ⟨Nat.le_trans (by decide:2≤1000) (by rw[sizeLine_eq];decide),[u1,u2],.cons ru1 (.cons ru2 .nil),⟨_,hT3,rfl,_,rfl⟩⟩
  have I3:=nX (t':=s.toks) I hf (fun c o hc e=>k3 c o (fun q=>hc (by simp only[mem_cons,not_mem_nil,or_false] at q ⊢;rcases q with q|q|q|q <;> simp[q])) e) (Nat.le_refl _) new;refine⟨.ref s.heap.objs.size,_,I3,rfl,⟨_,x,y,fr,rfl,rfl,fun zs h=>by rw[I.tuple_inj h hq1];exact hx,fun zs h=>by rw[I.tuple_inj h hq2];exact hy⟩,⟨hz3,?_,⟨u1,u2,(hs3.2 _ D.TOz).trans ht⟩,h1.at fun o e=>(hs3.2 _ D.i1z).trans e,h2.at fun o e=>(hs3.2 _ D.i2z).trans e⟩,fun c hc=>?_⟩
  ·exact k3 TI _ (by simp[D.TIz,D.TITO,D.TIi1,D.TIi2]) st.ti
  ·have lt:c<s.heap.objs.size:=by
    obtain⟨hz,hTI,⟨x,y,hTO⟩,⟨o1,e1,_,d1⟩,⟨o2,e2,_,d2⟩⟩:=st;have hc2:=hc;simp only[mem_cons,not_mem_nil,or_false] at hc2;rcases hc2 with q|q|q|q|q <;> rw[q]
    ·exact Heap.lt_size hz
    ·exact Heap.lt_size hTO
    ·exact Heap.lt_size e1
    ·exact Heap.lt_size e2
    ·exact Heap.lt_size hTI
   rw[ax (Nat.ne_of_lt lt)];exact(hf c hc).1
 done:=by
  intro X hP hw hK hc i ag s σ H E I hf st hg;subst hP hw hK;obtain⟨xs,hq1,hx⟩:=hg;obtain⟨its1,rv1,p1,_⟩:=I.tuple hq1;have p1:s.heap.IsTuple a its1.toArray:=p1;have hl:=rv1.length;refine sM (I.ok.hd hc) D st p1 (by simp;omega) fun h' hk=>⟨rfl,tV (t':=s.toks) I hf fun c o hc e=>hk c o (fun q=>hc (by simp only[mem_cons,not_mem_nil,or_false] at q ⊢;rcases q with q|q|q|q <;> simp[q])) e⟩
 self:=fun _ _ _ _ _ st h=>wpAny_pyIter_zip st.z h
theorem BV {X:Cx}{es:List Expr}{kt:Nat}{tp:Pos}{l r:Expr}{tl:TA}{p pos:Pos}(hg:Gl X "zip")(hm:X.mg "zip"=none)(hv:bootBuiltins "zip"=some (.type "zip"))(hl:PA X [l,r] tl)(hs:starEach [l,r] X.env=(false,eval l X.env)::starEach [r] X.env:=by rfl)(hp:(backTo pos (starEach [r] X.env)).any (·.1)=false:=by rfl) :
  PI X (.Tuple es kt tp) (.Call (.Name "zip" p) [l,r] [] pos) (fun σ H R=>tl σ H fun xs H1=>∃a b,xs=[.ref a,.ref b]∧(∃xs,j9 X.K H1 a xs)∧(∃ys,j9 X.K H1 b ys)∧R (EZ X.K a b) H1):=by
 intro ag s σ H R I h;refine Call_ (mE I hg hm hv (PyProof.Rows.callWith_type1 (dh (hl pos ag s σ H _ I h) fun us s1 hxx=>?_) hs hp));obtain⟨vs,H1,I1,r1,a,b,e,⟨xs,hq1⟩,⟨ys,hq2⟩,q⟩:=hxx;subst e;cases r1 with
 | cons ra rr=>
  cases rr with
  | cons rb rr=>
   cases rr;rw[show _=Value.ref a from ra,show _=Value.ref b from rb];obtain⟨its1,rv1,p1,_⟩:=I1.tuple hq1;obtain⟨its2,rv2,p2,_⟩:=I1.tuple hq2;have p1:s1.heap.IsTuple a its1.toArray:=p1;have p2:s1.heap.IsTuple b its2.toArray:=p2;refine nL p1 p2 fun h' zt hk=>wpAny_pyIter_zip zt.z ⟨_,[s1.heap.objs.size+4,s1.heap.objs.size+3,s1.heap.objs.size,s1.heap.objs.size+1,s1.heap.objs.size+2],_,_,H1,rfl,I1.kept (t':=s1.toks) hk,vM (zipApart_new (by obtain⟨o,e,_⟩:=p1;exact Heap.lt_size e) (by obtain⟨o,e,_⟩:=p2;exact Heap.lt_size e)),zt,fun c hc=>?_,q⟩
   have hb:s1.heap.objs.size≤c:=by
    simp only[mem_cons,not_mem_nil,or_false] at hc;rcases hc with q|q|q|q|q <;> rw[q] <;> omega
   exact I1.fpOk hb (I1.hok.fresh hb)
def mU (xs ys:List D):List D:=xs.zipWith (fun x y=>D.tup [x,y]) ys
theorem uN {xs ys:List D}{i:Nat}{d:D}(h:(mU xs ys)[i]?=some d):∃x y,xs[i]?=some x∧ys[i]?=some y∧d=.tup [x,y]:=by
 unfold mU at h;rw[getElem?_zipWith] at h;cases q:xs[i]? with
 | none=>rw[q] at h;cases h
 | some x=>
  cases q2:ys[i]? with
  | none=>rw[q,q2] at h;cases h
  | some y=>rw[q,q2] at h;exact⟨x,y,rfl,rfl,(Option.some.inj h).symm⟩
def su (ds:List D)(M:au):bw nE:=match ds with
 | [.tup xs,.tup ys]=>if xs.length=ys.length then .ok ⟨mU xs ys,none⟩ M else .bad
 | _=>.bad
theorem wa (ds:List D)(M:au):su ds M=.bad∨∃xs ys,ds=[.tup xs,.tup ys]∧xs.length=ys.length∧su ds M=.ok ⟨mU xs ys,none⟩ M:=by
 match ds with
 | []=>exact .inl rfl
 | [x]=>cases x <;> exact .inl rfl
 | _::_::_::_=>exact .inl (by unfold su;split <;> first|rfl|(rename_i h;cases h))
 | [x,y]=>
  cases x with
  | tup xs=>
   cases y with
   | tup ys=>
    by_cases h:xs.length=ys.length
    ·exact .inr ⟨xs,ys,rfl,h,if_pos h⟩
    ·exact .inl (if_neg h)
   | _=>exact .inl rfl
  | _=>exact .inl rfl
def uK (g:GA):GI:=fun ρ M=>(g ρ M).bind su
theorem yp {K:W.Frag}{θ:List Addr}{H:Hp}{a b:Addr}{xs ys:List D}{vs us:List V}(ta:∀θ1 H1,Grow θ H θ1 H1→j9 K H1 a vs)(tb:∀θ1 H1,Grow θ H θ1 H1→j9 K H1 b us)(hl:xs.length=ys.length)(r1:bI K θ H xs vs)(r2:bI K θ H ys us):zc K (EZ K a b) θ H ⟨mU xs ys,none⟩:=by
 intro θ1 H1 M1 g _ i;have t1:=ta θ1 H1 g.toGrow;have t2:=tb θ1 H1 g.toGrow;have r1:=r1.go g;have r2:=r2.go g;refine⟨fun d e=>?_,fun h=>⟨vs,t1,by
  have h:(mU xs ys).length≤i:=h;unfold mU at h;rw[List.length_zipWith,←hl,Nat.min_self,av r1] at h;exact h⟩⟩
 obtain⟨x,y,ex,ey,ed⟩:=uN e;obtain⟨v,ev,rv⟩:=fH r1 ex;obtain⟨u,eu,ru⟩:=fH r2 ey;refine⟨⟨vs,us,v,u,t1,t2,ev,eu⟩,fun x' H2 q=>?_⟩;obtain⟨p,x2,y2,np,eH,exr,h1,h2⟩:=q;have e1:=h1 vs t1;rw[ev] at e1;cases e1;have e2:=h2 us t2;rw[eu] at e2;cases e2;subst eH exr ed;exact⟨eO g.wr np,io (ds:=[x,y]) g.wr np ⟨_,_,rfl,rv,_,_,rfl,ru,rfl⟩⟩
theorem BB {X:Cx}{es:List Expr}{kt:Nat}{tp:Pos}{l r:Expr}{g:GA}{p pos:Pos}(hg:Gl X "zip")(hm:X.mg "zip"=none)(hv:bootBuiltins "zip"=some (.type "zip"))(hl:PA X [l,r] (tA X g))(hs:starEach [l,r] X.env=(false,eval l X.env)::starEach [r] X.env:=by rfl)(hp:(backTo pos (starEach [r] X.env)).any (·.1)=false:=by rfl) :
  PI X (.Tuple es kt tp) (.Call (.Name "zip" p) [l,r] [] pos) (tI X (uK g)):=by
 intro ag s σ H R I h;refine BV hg hm hv hl hs hp ag s σ H R I ?_;obtain⟨ρ,θ,M,hd,hw,h⟩:=h;refine jT hd hw (u7 X θ H R) (fun c M' h=>h) (fun h=>h) h fun ds M1 vs θ1 H1 g1 r1 h1=>?_
 rcases wa ds M1 with e|⟨xs,ys,rfl,hl,e⟩
 ·rw[e] at h1;exact h1.elim
 rw[e] at h1;obtain⟨v,rr,ev,⟨a,us,e2,ta,rs⟩,v2,rr2,ev2,⟨b,FX,e3,tb,rs2⟩,rr3⟩:=r1;have rr3:rr2=[]:=rr3;subst rr3 ev2 e2 e3;exact⟨a,b,ev,⟨us,ta.sq⟩,⟨FX,tb.sq⟩,h1 _ θ1 H1 g1 (yp (fun θ2 H2 g2=>(ta.grow g2).sq) (fun θ2 H2 g2=>(tb.grow g2).sq) hl rs rs2)⟩
section
variable {X:Cx}{k:Nat}{o i e a b:Expr}{go gi ge:GE}{gA:GA}{pos p:Pos}
theorem Ap {es:List Expr}{kt:Nat}{tp:Pos}(hg:Gl X "zip")(hm:X.mg "zip"=none)(hv:bootBuiltins "zip"=some (.type "zip"))(ha:QA X [a,b] gA)(h1:bc a=true:=by rfl)(h2:cM [b]=true:=by rfl):QI X (.Tuple es kt tp) (.Call (.Name "zip" p) [a,b] [] pos) (uK gA):=⟨BB hg hm hv ha.h (sE h1) (sS h2)⟩
end
end DL
namespace DL
open PySem L2
def bL:Nat→D→Bool
 | 0,_=>false
 | f+1,d=>match d with
  | .mr _=>false
  | .tup xs=>xs.all (bL f)
  | .lst xs=>xs.all (bL f)
  | .ro xs=>xs.all (bL f)
  | _=>true
theorem bX {f:D→Option D}:∀{xs:List D},(∀x∈xs,f x=some x)→bF f xs=some xs
 | [],_=>rfl
 | x::xs,h=>by
  unfold bF;rw[h x List.mem_cons_self,bX fun y hy=>h y (List.mem_cons_of_mem _ hy)]
theorem eK {n:Nat}{M:au}:∀(f:Nat) (d:D),bL f d=true→frz n M f d=some d
 | 0,d,h=>by cases h
 | f+1,d,h=>by
  cases d with
  | mr k=>cases h
  | tup xs=>
   have h:xs.all (bL f)=true:=h;show(bF (frz n M f) xs).map D.tup=_;rw[bX fun x hx=>eK f x (List.all_eq_true.mp h x hx)];rfl
  | lst xs=>
   have h:xs.all (bL f)=true:=h;show(bF (frz n M f) xs).map D.lst=_;rw[bX fun x hx=>eK f x (List.all_eq_true.mp h x hx)];rfl
  | ro xs=>
   have h:xs.all (bL f)=true:=h;show(bF (frz n M f) xs).map D.ro=_;rw[bX fun x hx=>eK f x (List.all_eq_true.mp h x hx)];rfl
  | _=>rfl
def nq:MO→Bool
 | .lst xs=>xs.all (bL 30)
 | .obj _ fs=>fs.all fun p=>bL 30 p.2
 | .dK fs=>fs.all fun p=>bL 30 p.2
 | .dT fs=>fs.all fun p=>bL 30 p.2
theorem hR {κ:Type}{f:D→Option D}:∀{fs:List (κ×D)},(∀p∈fs,f p.2=some p.2)→mW f fs=some fs
 | [],_=>rfl
 | (x,d)::fs,h=>by
  unfold mW;rw[h (x,d) List.mem_cons_self,hR fun y hy=>h y (List.mem_cons_of_mem _ hy)]
theorem kO {f:D→Option D}:∀{fs:List (Str×D)},(∀p∈fs,f p.2=some p.2)→pQ f fs=some fs
 | [],_=>rfl
 | (x,d)::fs,h=>by
  unfold pQ;rw[h (x,d) List.mem_cons_self,kO fun y hy=>h y (List.mem_cons_of_mem _ hy)]
theorem gW {n:Nat}{M:au}:∀{l:List MO},l.all nq=true→eX n M l=some l
 | [],_=>rfl
 | .lst xs::r,h=>by
  rw[List.all_cons,Bool.and_eq_true] at h;unfold eX;rw[gW h.2];have h1:xs.all (bL 30)=true:=h.1;rw[bX fun x hx=>eK 30 x (List.all_eq_true.mp h1 x hx)]
 | .obj c fs::r,h=>by
  rw[List.all_cons,Bool.and_eq_true] at h;unfold eX;rw[gW h.2];have h1:(fs.all fun p=>bL 30 p.2)=true:=h.1;rw[kO fun p hp=>eK 30 p.2 (List.all_eq_true.mp h1 p hp)]
 | .dK fs::r,h=>by
  rw[List.all_cons,Bool.and_eq_true] at h;unfold eX;rw[gW h.2];have h1:(fs.all fun p=>bL 30 p.2)=true:=h.1;rw[hR fun p hp=>eK 30 p.2 (List.all_eq_true.mp h1 p hp)]
 | .dT fs::r,h=>by
  rw[List.all_cons,Bool.and_eq_true] at h;unfold eX;rw[gW h.2];have h1:(fs.all fun p=>bL 30 p.2)=true:=h.1;rw[hR fun p hp=>eK 30 p.2 (List.all_eq_true.mp h1 p hp)]
@[simp] theorem Cm (f:Nat) (i:Int):bL (f+1) (.int i)=true:=rfl
@[simp] theorem DH (f:Nat) (i:Bool):bL (f+1) (.bl i)=true:=rfl
@[simp] theorem Cf (f:Nat):bL (f+1) .non=true:=rfl
@[simp] theorem Cd (f:Nat) (x:Str):bL (f+1) (.str x)=true:=rfl
theorem Co (f:Nat)(xs:List D):bL (f+1) (.tup xs)=xs.all (bL f):=rfl
theorem sQ (f:Nat)(xs:List D):bL (f+1) (.lst xs)=xs.all (bL f):=rfl
theorem sI (f:Nat)(l:List Int):(l.map D.int).all (bL (f+1))=true:=by
 rw[List.all_map];exact List.all_eq_true.mpr fun x _=>rfl
theorem yE {α:Type}(xs:List α)(x:α):kT (xs++[x]) (-1)=some x:=by
 unfold kT wK;have h:-((xs++[x]).length:Int)≤-1:=by simp;omega
 rw[if_neg (by decide),if_pos h];have e:(-1+((xs++[x]).length:Int)).toNat=xs.length:=by simp;omega
 rw[e];simp
theorem vQ {t:GT}{b:GS}{n:Nat}{ρ ρ2:bU}{M M1 M2:au}(h1:t ρ M=.ok true M1)(h2:b ρ M1=.ok (.nx ρ2) M2):dQ t b (n+1) ρ M=dQ t b n ρ2 M2:=by
 rw[dQ,h1,ak,if_pos rfl,h2,ak]
theorem jx {t:GT}{b:GS}{n:Nat}{ρ:bU}{M M1:au}(h1:t ρ M=.ok false M1):dQ t b (n+1) ρ M=.ok (.nx ρ) M1:=by
 rw[dQ,h1,ak,if_neg Bool.false_ne_true]
theorem xh {M:au}{xs:List D}(hx:xs.all (bL 29)=true)(hM:M.all nq=true):ju M.length (.ok (.mr M.length) (M++[.lst xs]))=.ok (.lst xs) M:=by
 have f1:=gW (n:=M.length) (M:=M++[.lst xs]) hM;have f2:frz M.length (M++[.lst xs]) 30 (.mr M.length)=some (.lst xs):=by
  have o:bF (frz M.length (M++[.lst xs]) 29) xs=some xs:=bX fun x h=>eK 29 x (List.all_eq_true.mp hx x h)
  show(if M.length<M.length then some (D.mr M.length) else match (M++[MO.lst xs])[M.length]? with|some (MO.lst ys)=>(bF (frz M.length (M++[MO.lst xs]) 29) ys).map D.lst|_=>none)=_;rw[if_neg (Nat.lt_irrefl _)];simp;rw[o]
 show(if(M++[MO.lst xs]).length=M.length then bw.ok (D.mr M.length) (M++[MO.lst xs]) else match frz M.length (M++[MO.lst xs]) 30 (.mr M.length),eX M.length (M++[MO.lst xs]) ((M++[MO.lst xs]).take M.length) with|some d',some M'=>.ok d' M'|_,_=>.bad)=_;rw[if_neg (by simp),List.take_left,f1,f2]
end DL
namespace DL
open PySem L2
theorem am {a b:GS}{ρ ρ1:bU}{M M1:au}(h:a ρ M=.ok (.nx ρ1) M1):ao a b ρ M=b ρ1 M1:=by
 unfold ao;rw[h];rfl
theorem ay {a b:GS}{ρ:bU}{d:D}{M M1:au}(h:a ρ M=.ok (.rt d) M1):ao a b ρ M=.ok (.rt d) M1:=by
 unfold ao;rw[h];rfl
theorem CN {a b:GS}{ρ:bU}{c:Str}{M M1:au}(h:a ρ M=.err c M1):ao a b ρ M=.err c M1:=by
 unfold ao;rw[h];rfl
theorem aQ {t:GT}{a b:GS}{ρ:bU}{M M1:au}(h:t ρ M=.ok true M1):cD t a b ρ M=a ρ M1:=by
 unfold cD;rw[h,ak,if_pos rfl]
theorem cb {t:GT}{a b:GS}{ρ:bU}{M M1:au}(h:t ρ M=.ok false M1):cD t a b ρ M=b ρ M1:=by
 unfold cD;rw[h,ak,if_neg Bool.false_ne_true]
theorem aO {i:Nat}{g:GE}{ρ:bU}{M M1:au}{d:D}(h:g ρ M=.ok d M1):aM i g ρ M=.ok (.nx (ρ.set i (some d))) M1:=by
 unfold aM;rw[h,ak]
theorem lC {g:GE}{ρ:bU}{M M1:au}{d:D}(h:g ρ M=.ok d M1):eP g ρ M=.ok (.nx ρ) M1:=by
 unfold eP;rw[h,ak]
theorem bA {g:GE}{ρ:bU}{M M1:au}{d:D}(h:g ρ M=.ok d M1):az g ρ M=.ok (.rt d) M1:=by
 unfold az;rw[h,ak]
theorem bG {a b:GE}{ρ:bU}{M:au}{x y:Bool}(ha:a ρ M=.ok (.bl x) M)(hb:x=true→b ρ M=.ok (.bl y) M):du a b ρ M=.ok (.bl (x&&y)) M:=by
 unfold du;rw[ha,ak];cases x with
 | true=>exact hb rfl
 | false=>rfl
theorem yV {a b:GE}{ρ:bU}{M:au}{x y:Bool}(ha:a ρ M=.ok (.bl x) M)(hb:x=false→b ρ M=.ok (.bl y) M):zm a b ρ M=.ok (.bl (x||y)) M:=by
 unfold zm;rw[ha,ak];cases x with
 | true=>rfl
 | false=>exact hb rfl
theorem bq {a b:GT}{ρ:bU}{M:au}{x y:Bool}(ha:a ρ M=.ok x M)(hb:x=true→b ρ M=.ok y M):bK a b ρ M=.ok (x&&y) M:=by
 unfold bK;rw[ha,ak];cases x with
 | true=>exact hb rfl
 | false=>rfl
theorem aF {a b:GT}{ρ:bU}{M:au}{x y:Bool}(ha:a ρ M=.ok x M)(hb:x=false→b ρ M=.ok y M):bY a b ρ M=.ok (x||y) M:=by
 unfold bY;rw[ha,ak];cases x with
 | true=>rfl
 | false=>exact hb rfl
theorem ap {a:GT}{ρ:bU}{M:au}{x:Bool}(ha:a ρ M=.ok x M):aN a ρ M=.ok (!x) M:=by
 unfold aN;rw[ha,ak]
theorem aw {a:GE}{ρ:bU}{M M1:au}{x:Bool}(ha:a ρ M=.ok (.bl x) M1):bf a ρ M=.ok x M1:=by
 unfold bf;rw[ha,ak];rfl
theorem aC {a:GE}{ρ:bU}{M M1:au}{x:Bool}(ha:a ρ M=.ok (.bl x) M1):aH a ρ M=.ok x M1:=by
 unfold aH;rw[ha,ak];rfl
theorem aj {f:F2}{a b:GE}{ρ:bU}{M M1 M2:au}{x y:D}{o:bw D}(ha:a ρ M=.ok x M1)(hb:b ρ M1=.ok y M2)(h:f x y M2=o):g2 f a b ρ M=o:=by
 unfold g2;rw[ha,ak,hb,ak,h]
theorem jD {F:FD}{a:GE}{ρ:bU}{M M1:au}{x:D}{o:bw D}(ha:a ρ M=.ok x M1)(h:F [x] M1=o):aq F (aa a af) ρ M=o:=by
 unfold aq aa af;rw[ha,ak,ak,ak,h]
theorem cx {F:FD}{a:GE}{ρ:bU}{M M1:au}{x:D}{o:bw D}(ha:a ρ M=.ok x M1)(h:F [x] M1=o):ah 1 F (aa a af) ρ M=o:=by
 unfold ah aa af;rw[ha,ak,ak,ak,if_pos (show [x].length=1 from rfl),h]
theorem bH {F:FD}{a b:GE}{ρ:bU}{M M1 M2:au}{x y:D}{o:bw D}(ha:a ρ M=.ok x M1)(hb:b ρ M1=.ok y M2)(h:F [x,y] M2=o):ah 2 F (aa a (aa b af)) ρ M=o:=by
 unfold ah aa af;rw[ha,ak,hb,ak,ak,ak,ak,if_pos (show [x,y].length=2 from rfl),h]
theorem bV {F:FD}{a b c:GE}{ρ:bU}{M M1 M2 M3:au}{x y z:D}{o:bw D}(ha:a ρ M=.ok x M1)(hb:b ρ M1=.ok y M2)(hc:c ρ M2=.ok z M3)(h:F [x,y,z] M3=o):ah 3 F (aa a (aa b (aa c af))) ρ M=o:=by
 unfold ah aa af;rw[ha,ak,hb,ak,hc,ak,ak,ak,ak,ak,if_pos (show [x,y,z].length=3 from rfl),h]
theorem wH {p:D→Bool}:∀xs:List D,cO (xs.map fun d=>D.bl (p d))=some (xs.map p)
 | []=>rfl
 | x::xs=>by
  show(cO (xs.map fun d=>D.bl (p d))).map (p x::·)=_;rw[wH xs];rfl
theorem cW {gi:GI}{ge:GE}{ρ:bU}{M:au}{xs:List D}{p:D→Bool}(hi:gi ρ M=.ok ⟨xs,none⟩ M)(hl:xs.length≤100000)(h:∀x∈xs,ge (some x::ρ) M=.ok (.bl (p x)) M) :
  aq dA (aa (bv gi ce ge aV) af) ρ M=.ok (.bl (xs.all p)) M:=by
 have c:=o8 (ds0:=xs) (ge:=ge) (ρ:=ρ) (f:=fun d=>D.bl (p d)) (M:=M) xs h;have l1:(xs.map fun d=>D.bl (p d)).length≤sizeLine:=by rw[List.length_map];exact bo (by omega)
 refine jD (x:=.lst (xs.map fun d=>D.bl (p d))) (M1:=M) ?_ ?_
 ·unfold bv;rw[hi,ak];dsimp only;rw[c,ak];unfold aV;rw[if_pos l1]
 ·show(match cq (.lst (xs.map fun d=>D.bl (p d))) M with|some xs=>(match cO xs with|some bs=>bw.ok (D.bl (bs.all id)) M|none=>.bad)|none=>.bad)=_;show(match cO (xs.map fun d=>D.bl (p d)) with|some bs=>bw.ok (D.bl (bs.all id)) M|none=>.bad)=_;rw[wH];dsimp only;rw[List.all_map];rfl
theorem dY {i:Nat}{ρ:bU}{M:au}{xs:List D}(h:ρ[i]?=some (some (.tup xs))):cS (ae i) ρ M=.ok ⟨xs,none⟩ M:=by
 unfold cS ae;rw[h];rfl
theorem fX (a b:Int)(M:au):aR false (.int a) (.int b) M=.ok (.bl (decide (a=b))) M:=by
 show bw.ok (D.bl ((a==b) != false)) M=_
 by_cases q:a=b <;> simp[q]
theorem fb (a b:Int)(M:au):aR true (.int a) (.int b) M=.ok (.bl (!decide (a=b))) M:=by
 show bw.ok (D.bl ((a==b) != true)) M=_
 by_cases q:a=b <;> simp[q]
theorem sv (M:au)(E:List D):(M++[MO.lst E])[M.length]?=some (.lst E):=by simp
theorem Ao (M:au)(E E':List D):(M++[MO.lst E]).set M.length (.lst E')=M++[MO.lst E']:=by simp
theorem Bl {M:au}{E:List D}{d:D}(h:E.length<1000000):o0 M.length d (M++[MO.lst E])=.ok .non (M++[MO.lst (E++[d])]):=by
 have l:E.length<sizeLine:=Nat.lt_of_lt_of_le h (by rw[sizeLine_eq];decide);unfold o0;rw[sv];dsimp only;rw[if_pos l,Ao]
theorem Bx {go ge:GE}{ρ:bU}{M:au}{E:List D}{d:D}(h1:go ρ (M++[MO.lst E])=.ok (.mr M.length) (M++[MO.lst E]))(h2:ge ρ (M++[MO.lst E])=.ok d (M++[MO.lst E]))(h:E.length<1000000) :
  jM go ge ρ (M++[MO.lst E])=.ok .non (M++[MO.lst (E++[d])]):=by
 unfold jM;rw[h1,ak];dsimp only;rw[sv];dsimp only;rw[h2,ak,Bl h]
theorem ku {xs:List D}{k:Nat}{d:D}{M:au}(h:xs[k]?=some d):aK (.lst xs) (.int k) M=.ok d M:=by
 have a:=gM (xs:=xs) (j:=k) h;unfold aK cq;dsimp only;rw[a]
theorem a9 {xs:List D}{k:Nat}{d:D}{M:au}(h:xs[k]?=some d):aK (.tup xs) (.int k) M=.ok d M:=by
 have a:=gM (xs:=xs) (j:=k) h;unfold aK cq;dsimp only;rw[a]
theorem qZ {ρ:bU}{M:au}:i6 af ρ M=.ok (.mr M.length) (M++[.lst []]):=by
 show(if([]:List D).length≤sizeLine then bw.ok (D.mr M.length) (M++[.lst []]) else .bad)=_;rw[if_pos (show([]:List D).length≤sizeLine from Nat.zero_le _)]
theorem dq {ga:GA}{ρ:bU}{M M1:au}{ds:List D}(h:ga ρ M=.ok ds M1)(hl:ds.length≤100000:=by exact Nat.le_of_ble_eq_true rfl):aI ga ρ M=.ok (.tup ds) M1:=by
 have:ds.length≤sizeLine:=bo (by omega);unfold aI;rw[h,ak];unfold lO;rw[if_pos this]
theorem gj {ga:GA}{ρ:bU}{M M1:au}{ds:List D}(h:ga ρ M=.ok ds M1)(hl:ds.length≤100000:=by exact Nat.le_of_ble_eq_true rfl):cX ga ρ M=.ok (.lst ds) M1:=by
 have:ds.length≤sizeLine:=bo (by omega);unfold cX;rw[h,ak];unfold aV;rw[if_pos this]
theorem aG {g:GE}{r:GA}{ρ:bU}{M M1 M2:au}{d:D}{ds:List D}(h:g ρ M=.ok d M1)(hr:r ρ M1=.ok ds M2):aa g r ρ M=.ok (d::ds) M2:=by
 unfold aa;rw[h,ak,hr,ak]
theorem wD {go ge:GE}{ρ:bU}{M M1:au}{k:Nat}{E E1:List D}{d:D}(h1:go ρ M=.ok (.mr k) M)(h2:M[k]?=some (.lst E))(h3:ge ρ M=.ok d M1)(h4:M1[k]?=some (.lst E1))(h:E1.length<1000000) :
  jM go ge ρ M=.ok .non (M1.set k (.lst (E1++[d]))):=by
 have l:E1.length<sizeLine:=Nat.lt_of_lt_of_le h (by rw[sizeLine_eq];decide);unfold jM;rw[h1,ak];dsimp only;rw[h2];dsimp only;rw[h3,ak];unfold o0;rw[h4];dsimp only;rw[if_pos l]
theorem gG {ga:GA}{ρ:bU}{M M1:au}{n:Nat}(h:ga ρ M=.ok [.int (n:Int)] M1)(hn:n≤1000000):eA ga ρ M=.ok ⟨aU 0 n,none⟩ M1:=by
 unfold eA;rw[h,ak,wq hn]
theorem lV {gi:GI}{sg:GG}{b:GS}{ρ:bU}{M M1:au}{t:nE}{o:bw Fl}(h:gi ρ M=.ok t M1)(e:dM t sg b t.ds ρ M1=o):kJ gi sg b ρ M=o:=by
 unfold kJ;rw[h,ak,e]
theorem Ah {i j:Int}(h0:-1000000≤i)(h1:i≤1000000)(M:au):eY (.int i) (.int j) M=.ok (.int (i*j)) M:=by
 have a:-(2 ^ 64:Int)<i:=Int.lt_of_lt_of_le (by decide) h0;have b:i<(2 ^ 64:Int):=Int.lt_of_le_of_lt h1 (by decide);unfold eY;dsimp only;rw[if_pos (.inl ⟨a,b⟩)]
theorem oF {i j:Int}(h0:0<j)(h1:j≤1000000)(M:au):dO (.int i) (.int j) M=.ok (.int (i / j)) M:=by
 have h2:j.natAbs<2 ^ 20:=by omega
 have h3:j.natAbs≠0:=by omega
 have h4:=(Nat.log2_lt h3).mpr h2;unfold dO;dsimp only;rw[if_pos ⟨h0,by omega⟩]
theorem xn {d:D}(h:dI 40 d=true)(hs:oB d d=true)(hm:∀M,now d M=d)(M:au):aR true d d M=.ok (.bl false) M:=by
 unfold aR;rw[hm,h,hs];rfl
end DL
namespace DL
open PySem L2
def fK (n:Nat):Nat→D→Bool
 | 0,_=>false
 | f+1,d=>match d with
  | .mr k=>decide (k<n)
  | .tup xs=>xs.all (fK n f)
  | .lst xs=>xs.all (fK n f)
  | .ro xs=>xs.all (fK n f)
  | _=>true
theorem iA {n:Nat}{M:au}:∀(f:Nat) (d:D),fK n f d=true→frz n M f d=some d
 | 0,d,h=>by cases h
 | f+1,d,h=>by
  cases d with
  | mr k=>
   have h:decide (k<n)=true:=h;show(if k<n then some (D.mr k) else _)=_;rw[if_pos (of_decide_eq_true h)]
  | tup xs=>
   have h:xs.all (fK n f)=true:=h;show(bF (frz n M f) xs).map D.tup=_;rw[bX fun x hx=>iA f x (List.all_eq_true.mp h x hx)];rfl
  | lst xs=>
   have h:xs.all (fK n f)=true:=h;show(bF (frz n M f) xs).map D.lst=_;rw[bX fun x hx=>iA f x (List.all_eq_true.mp h x hx)];rfl
  | ro xs=>
   have h:xs.all (fK n f)=true:=h;show(bF (frz n M f) xs).map D.ro=_;rw[bX fun x hx=>iA f x (List.all_eq_true.mp h x hx)];rfl
  | _=>rfl
theorem fW {n:Nat}:∀(f:Nat) (d:D),bL f d=true→fK n f d=true
 | 0,d,h=>by cases h
 | f+1,d,h=>by
  cases d with
  | mr k=>cases h
  | tup xs=>exact List.all_eq_true.mpr fun x hx=>fW f x (List.all_eq_true.mp (show xs.all (bL f)=true from h) x hx)
  | lst xs=>exact List.all_eq_true.mpr fun x hx=>fW f x (List.all_eq_true.mp (show xs.all (bL f)=true from h) x hx)
  | ro xs=>exact List.all_eq_true.mpr fun x hx=>fW f x (List.all_eq_true.mp (show xs.all (bL f)=true from h) x hx)
  | _=>rfl
theorem gd {n m:Nat}(hn:n≤m):∀(f:Nat) (d:D),fK n f d=true→fK m f d=true
 | 0,d,h=>by cases h
 | f+1,d,h=>by
  cases d with
  | mr k=>exact decide_eq_true (Nat.lt_of_lt_of_le (of_decide_eq_true (show decide (k<n)=true from h)) hn)
  | tup xs=>exact List.all_eq_true.mpr fun x hx=>gd hn f x (List.all_eq_true.mp (show xs.all (fK n f)=true from h) x hx)
  | lst xs=>exact List.all_eq_true.mpr fun x hx=>gd hn f x (List.all_eq_true.mp (show xs.all (fK n f)=true from h) x hx)
  | ro xs=>exact List.all_eq_true.mpr fun x hx=>gd hn f x (List.all_eq_true.mp (show xs.all (fK n f)=true from h) x hx)
  | _=>rfl
def vR (n:Nat):MO→Bool
 | .lst xs=>xs.all (fK n 30)
 | .obj _ fs=>fs.all fun p=>fK n 30 p.2
 | .dK fs=>fs.all fun p=>fK n 30 p.2
 | .dT fs=>fs.all fun p=>fK n 30 p.2
theorem sN {n m:Nat}(hn:n≤m){o:MO}(h:vR n o=true):vR m o=true:=by
 cases o with
 | lst xs=>exact List.all_eq_true.mpr fun x hx=>gd hn 30 x (List.all_eq_true.mp (show xs.all (fK n 30)=true from h) x hx)
 | obj c fs=>exact List.all_eq_true.mpr fun x hx=>gd hn 30 x.2 (List.all_eq_true.mp (show(fs.all fun p=>fK n 30 p.2)=true from h) x hx)
 | dK fs=>exact List.all_eq_true.mpr fun x hx=>gd hn 30 x.2 (List.all_eq_true.mp (show(fs.all fun p=>fK n 30 p.2)=true from h) x hx)
 | dT fs=>exact List.all_eq_true.mpr fun x hx=>gd hn 30 x.2 (List.all_eq_true.mp (show(fs.all fun p=>fK n 30 p.2)=true from h) x hx)
theorem sA {n:Nat}{o:MO}(h:nq o=true):vR n o=true:=by
 cases o with
 | lst xs=>exact List.all_eq_true.mpr fun x hx=>fW 30 x (List.all_eq_true.mp (show xs.all (bL 30)=true from h) x hx)
 | obj c fs=>exact List.all_eq_true.mpr fun x hx=>fW 30 x.2 (List.all_eq_true.mp (show(fs.all fun p=>bL 30 p.2)=true from h) x hx)
 | dK fs=>exact List.all_eq_true.mpr fun x hx=>fW 30 x.2 (List.all_eq_true.mp (show(fs.all fun p=>bL 30 p.2)=true from h) x hx)
 | dT fs=>exact List.all_eq_true.mpr fun x hx=>fW 30 x.2 (List.all_eq_true.mp (show(fs.all fun p=>bL 30 p.2)=true from h) x hx)
theorem iO {n:Nat}{M:au}:∀{l:List MO},l.all (vR n)=true→eX n M l=some l
 | [],_=>rfl
 | .lst xs::r,h=>by
  rw[List.all_cons,Bool.and_eq_true] at h;unfold eX;rw[iO h.2];have h1:xs.all (fK n 30)=true:=h.1;rw[bX fun x hx=>iA 30 x (List.all_eq_true.mp h1 x hx)]
 | .obj c fs::r,h=>by
  rw[List.all_cons,Bool.and_eq_true] at h;unfold eX;rw[iO h.2];have h1:(fs.all fun p=>fK n 30 p.2)=true:=h.1;rw[kO fun p hp=>iA 30 p.2 (List.all_eq_true.mp h1 p hp)]
 | .dK fs::r,h=>by
  rw[List.all_cons,Bool.and_eq_true] at h;unfold eX;rw[iO h.2];have h1:(fs.all fun p=>fK n 30 p.2)=true:=h.1;rw[hR fun p hp=>iA 30 p.2 (List.all_eq_true.mp h1 p hp)]
 | .dT fs::r,h=>by
  rw[List.all_cons,Bool.and_eq_true] at h;unfold eX;rw[iO h.2];have h1:(fs.all fun p=>fK n 30 p.2)=true:=h.1;rw[hR fun p hp=>iA 30 p.2 (List.all_eq_true.mp h1 p hp)]
def lH (M:au):Prop:=M.all (vR M.length)=true
theorem lH.pure {M:au}(h:M.all nq=true):lH M:=List.all_eq_true.mpr fun x hx=>sA (List.all_eq_true.mp h x hx)
theorem lA {d:D}{M E:au}(hd:bL 30 d=true)(hM:lH M):ju M.length (.ok d (M++E))=.ok d M:=by
 unfold ju
 by_cases h:(M++E).length=M.length
 ·have:E=[]:=by
   rw[List.length_append] at h;exact List.length_eq_zero_iff.mp (by omega)
  subst this;simp
 ·simp only[if_neg h];rw[List.take_left,eK 30 d hd,iO hM]
theorem Ag {c:Str}{k:Nat}{fs:List (Str×D)}{M:au}(h:M[k]?=some (.obj c fs)):j6 c (.mr k) M=some (k,fs):=by
 unfold j6;dsimp only;rw[h];dsimp only;rw[if_pos rfl]
theorem wL {c f:Str}{k:Nat}{fs:List (Str×D)}{y:D}{M:au}(hM:M[k]?=some (.obj c fs))(hl:fs.length<1000):p9 c f (.mr k) y M=.ok () (M.set k (.obj c (iK f y fs))):=by
 unfold p9;rw[Ag hM];dsimp only;rw[if_pos hl]
theorem n5 {go gv:GE}{ρ:bU}{M M1:au}{k:Nat}{c f:Str}{fs:List (Str×D)}{y:D}(hv:gv ρ M=.ok y M1)(ho:go ρ M1=.ok (.mr k) M1)(hM:M1[k]?=some (.obj c fs))(hl:fs.length<1000) :
  iH c f go gv ρ M=.ok (.nx ρ) (M1.set k (.obj c (iK f y fs))):=by
 unfold iH;rw[hv,ak,ho,ak,wL hM hl,ak]
end DL
namespace Hd
open PySem PySem.W PySem.Calls PyProof.Rows
def topRunT (tb:String→Option Builtin)(p:Program)(w:World)(n0:Nat)(ann:Option Value):Nat→SharedT→Thread→Option SharedT
 | 0,_,_=>none
 | n+1,s,t=>match through t with
  | true=>some s
  | false=>match stepOk n0 ann t with
   | false=>none
   | true=>match stepT (denote tb) p w s t with
    | some (s',t')=>topRunT tb p w n0 ann n s' t'
    | none=>none
theorem nl {tb:String→Option Builtin}{p:Program}{w:World}{n0:Nat}{ann:Option Value}:∀{n:Nat} {s s':SharedT} {t:Thread},topRunT tb p w n0 ann n s t=some s'→topRun tb p w n0 ann n s.abs t=some s'.abs
 | 0,_,_,_,h=>by cases h
 | n+1,s,s',t,h=>by
  unfold topRunT at h;unfold topRun;cases he:through t with
  | true=>rw[he] at h;cases h;rfl
  | false=>
   rw[he] at h;cases hk:stepOk n0 ann t with
   | false=>rw[hk] at h;cases h
   | true=>
    rw[hk] at h;cases hs:stepT (denote tb) p w s t with
    | none=>rw[hs] at h;cases h
    | some r=>obtain⟨s2,t2⟩:=r;rw[hs] at h;rw[stepT_spec hs];exact nl h
def grow:List Obj→BT→Nat→BT
 | [],t,_=>t
 | o::r,t,n=>grow r (t.ins n o) (n+1)
def zi:List Obj→BT→Nat→Bool
 | [],_,_=>true
 | o::r,t,n=>((t.ins n o).get n).isSome&&zi r (t.ins n o) (n+1)
theorem pV (life:Life):∀(l:List Obj) (t:BT) (n:Nat),zi l t n=true→absHeap (grow l t n) (n+l.length) life=⟨(absHeap t n life).objs++l.toArray,life⟩
 | [],t,n,_=>by simp[grow,absHeap]
 | o::r,t,n,h=>by
  obtain⟨h1,h2⟩:=Bool.and_eq_true_iff.mp h;have e:=pV life r (t.ins n o) (n+1) h2;have e2:absHeap (t.ins n o) (n+1) life=(absHeap t n life).push o:=absHeap_ins h1;show absHeap (grow r (t.ins n o) (n+1)) (n+(r.length+1)) life=_;rw[show n+(r.length+1)=n+1+r.length by omega,e,e2];simp[Heap.push]
theorem qU {p q:Program}{loose:List Str}{Xt:Shared→Bool}{A:Type}{Yf:Shared→A}{Ya:World→A}{N:Nat}{g0:Bool}{H:Params→Heap}{gs:Array GenState}{d:Drawn}{k:Nat}{m:Nat}{ann:Option Value}{T:Params→BT}{lf:Life}
  (open_:∀w:World,(fencedOpening treeTable p w N).map (fun s=>(s.heap,s.gens,s.drawn,s.toks))=some (H w.params,gs,d,k))
  (size:∀w:World,((H w.params).isNs mainGlobals&&gs.size==0,(H w.params).objs.size,(H w.params).nsMap mainGlobals "__annotations__")=(true,m,ann))
  (tree:∀P,H P=absHeap (T P) m lf)
  (run:∀(w:World) (os:OsState),(topRunT treeTable p w m ann N ⟨T w.params,m,lf,gs,d,k,os⟩ (topStub p)).map (fun s=>
    ((staticsOk (importedModules p.main.body) (H w.params) s.abs.heap&&namesBound p s.abs.heap&&gensDone s.abs&&laidKept (H w.params) s.abs.heap),
    openSeen q loose (importedModules p.main.body) Xt g0 s.abs,Yf s.abs))=some (true,openGood q loose,Ya w)):LeftO p q loose Xt Yf Ya N g0:=fun w=>by
 obtain⟨⟨h,gs',d',k',os⟩,e,e'⟩:=Option.map_eq_some_iff.mp (open_ w);obtain⟨rfl,rfl,rfl,rfl⟩:h=H w.params∧gs'=gs∧d'=d∧k'=k:=by simpa using e'
 obtain⟨z1,z2,z3⟩:_∧_∧_:=by simpa only[Prod.mk.injEq] using size w
 obtain⟨s,r1,r2⟩:=Option.map_eq_some_iff.mp (run w os);obtain⟨l1,l2,l3⟩:_∧_∧_:=by simpa only[Prod.mk.injEq] using r2
 have r:=nl r1;have ea:SharedT.abs ⟨T w.params,m,lf,gs',d',k',os⟩=⟨H w.params,gs',d',k',os⟩:=by rw[tree];rfl
 rw[ea] at r;have t:topFrom treeTable p w N ⟨H w.params,gs',d',k',os⟩=some s.abs:=by
  unfold topFrom;dsimp only;rw[z1,z2,z3,r];show(match staticsOk (importedModules p.main.body) (H w.params) s.abs.heap&&namesBound p s.abs.heap&&gensDone s.abs&&laidKept (H w.params) s.abs.heap with|true=>_|false=>_)=_;rw[l1]
 unfold openEnds;rw[e];show(topFrom treeTable p w N _).map _=_;rw[t];exact congrArg some (Prod.ext l2 l3)
noncomputable def bootT (P:Params):BT:=grow (boot_heap P).objs.toList .nil 0
lay_quick Hd.topRunT W.topStub
theorem tU (P:Params):boot_heap P=absHeap (bootT P) 11 {}:=by
 have h:=pV {} (boot_heap P).objs.toList .nil 0 (by kernel_rfl);exact h.symm
noncomputable def RT (p:Program) (w:World) (N:Nat) (os:OsState):Option SharedT:=topRunT treeTable p w 11 (some (Value.ref 6)) N ⟨bootT w.params,11,{},Array.mk [],boot_drawn,boot_toks,os⟩ (topStub p)
noncomputable def pA (p:Program) (P:Params) (s:Shared):Bool:=staticsOk (importedModules p.main.body) (boot_heap P) s.heap&&namesBound p s.heap&&gensDone s&&laidKept (boot_heap P) s.heap
def pB (q:Program)(mods:List Str)(Xt:Shared→Bool)(s:Shared):Bool:=(s.heap.keysOk (looseW q []) ((recsOf q).map (·.name)) ((litsOf q).map (·.1)) ((clssOf q (looseW q [])).map (·.name))&&s.heap.accountedOkI mods&&s.heap.isNs mainGlobals&&s.heap.isNs builtinsNs&&tablesOk q s.heap&&Xt s&&(if true then s.gens.size==0 else !leftWithCleanup s.gens))&&tabsOk q s
def pC (q:Program)(s:Shared):=(seen ((recsOf q).map (·.name)) (ownsOf q) [] {s with gens:=#[]},s.heap.bltView,wideSeen q s)
def pD (q:Program)(s:Shared):=(pinSeenD q (drecsOf q) s,plainSeenE q (looseW q []) s,plainSeenD q [] s,clsSeenW q [] s)
lay_quick Hd.pB
lay_quick Hd.pC
lay_quick Hd.pD
theorem oA {α A B:Type}{x:Option α}{f:α→A}{g:α→B}{a:A}{b:B}(h1:x.map f=some a)(h2:x.map g=some b):x.map (fun s=>(f s,g s))=some (a,b):=by
 cases x with
 | none=>cases h1
 | some s=>exact congrArg some (Prod.ext (Option.some.inj h1) (Option.some.inj h2))
theorem qK {p q:Program}{Xt:Shared→Bool}{A:Type}{Yf:Shared→A}{Ya:World→A}{N:Nat}
  (open_:∀w:World,(fencedOpening treeTable p w N).map (fun s=>(s.heap,s.gens,s.drawn,s.toks))=some (boot_heap w.params,Array.mk [],boot_drawn,boot_toks))
  (size:∀w:World,((boot_heap w.params).isNs mainGlobals&&(Array.mk ([]:List GenState)).size==0,(boot_heap w.params).objs.size,(boot_heap w.params).nsMap mainGlobals "__annotations__")=(true,11,some (Value.ref 6)))
  (r1:∀(w:World) (os:OsState),(RT p w N os).map (fun s=>pA p w.params s.abs&&pB q (importedModules p.main.body) Xt s.abs)=some true)
  (r2:∀(w:World) (os:OsState),(RT p w N os).map (fun s=>pC q s.abs)=some (expectedOf q,bltViewBooted,wideGood q))
  (r3:∀(w:World) (os:OsState),(RT p w N os).map (fun s=>pD q s.abs)=some (pinGoodD (drecsOf q),plainGoodE q (looseW q []),plainGoodD q [],clsGoodW q []))
  (r4:∀(w:World) (os:OsState),(RT p w N os).map (fun s=>Yf s.abs)=some (Ya w)):LeftO p q [] Xt Yf Ya N true:=
 qU open_ size tU fun w os=>by
  show(RT p w N os).map _=_;have h:=oA (oA (r1 w os) (r2 w os)) (oA (r3 w os) (r4 w os));cases e:RT p w N os with
  | none=>rw[e] at h;cases h
  | some s=>
   rw[e] at h;obtain⟨h1,h2⟩:=Prod.mk.inj (Option.some.inj h);obtain⟨h1,h3⟩:=Prod.mk.inj h1;obtain⟨h4,h5⟩:=Prod.mk.inj h2;obtain⟨a,b⟩:=Bool.and_eq_true_iff.mp h1;obtain⟨b,c⟩:=Bool.and_eq_true_iff.mp b;obtain⟨c1,c2⟩:=Prod.mk.inj h3;obtain⟨c2,c3⟩:=Prod.mk.inj c2;obtain⟨d1,d2⟩:=Prod.mk.inj h4;obtain⟨d2,d3⟩:=Prod.mk.inj d2;obtain⟨d3,d4⟩:=Prod.mk.inj d3;exact congrArg some (Prod.ext a (Prod.ext (Prod.ext c1 (Prod.ext c2 (Prod.ext b (Prod.ext c (Prod.ext d1 (Prod.ext d2 (Prod.ext d3 (Prod.ext c3 d4)))))))) h5))
def lk (s:SharedT)(a:Nat):Option Obj:=match Nat.blt a s.n with
 | true=>(match s.tree.get a with
  | some o=>alive o
  | none=>none)
 | false=>none
theorem Ee {s:SharedT}{a:Nat}{o:Obj}(h:lk s a=some o):s.abs.heap.get? a=some o:=by
 unfold lk at h;cases b:Nat.blt a s.n with
 | false=>rw[b] at h;cases h
 | true=>
  rw[b] at h;cases g:s.tree.get a with
  | none=>rw[g] at h;cases h
  | some x=>rw[g] at h;exact(abs_get (Nat.blt_eq.mp b) g).trans h
theorem wk {s:SharedT}{β:Type}{f:β→Obj}:∀{as:List Nat} {l:List β},as.map (lk s)=l.map (fun p=>some (f p))→as.map s.abs.heap.get?=l.map (fun p=>some (f p))
 | [],[],_=>rfl
 | [],_::_,h=>by cases h
 | _::_,[],h=>by cases h
 | a::as,p::l,h=>by
  obtain⟨x,y⟩:=List.cons.inj h;show s.abs.heap.get? a::as.map s.abs.heap.get?=_;rw[Ee x,wk y];rfl
theorem left_k {p q:Program}{Xt:Shared→Bool}{N:Nat}{K:Params→Frag}{as:List Addr}{e:∀P,as=(K P).map (·.1)}
  (open_:∀w:World,(fencedOpening treeTable p w N).map (fun s=>(s.heap,s.gens,s.drawn,s.toks))=some (boot_heap w.params,Array.mk [],boot_drawn,boot_toks))
  (size:∀w:World,((boot_heap w.params).isNs mainGlobals&&(Array.mk ([]:List GenState)).size==0,(boot_heap w.params).objs.size,(boot_heap w.params).nsMap mainGlobals "__annotations__")=(true,11,some (Value.ref 6)))
  (r1:∀(w:World) (os:OsState),(RT p w N os).map (fun s=>pA p w.params s.abs&&pB q (importedModules p.main.body) Xt s.abs)=some true)
  (r2:∀(w:World) (os:OsState),(RT p w N os).map (fun s=>pC q s.abs)=some (expectedOf q,bltViewBooted,wideGood q))
  (r3:∀(w:World) (os:OsState),(RT p w N os).map (fun s=>pD q s.abs)=some (pinGoodD (drecsOf q),plainGoodE q (looseW q []),plainGoodD q [],clsGoodW q []))
  (r4:∀(w:World) (os:OsState),(RT p w N os).map (fun s=>as.map (lk s))=some ((K w.params).map (fun p=>some p.2))) :
  LeftO p q [] Xt (kHook K as e).obs (kHook K as e).val N true:=
 qK open_ size r1 r2 r3 fun w os=>by
  obtain⟨s,h1,h2⟩:=Option.map_eq_some_iff.mp (r4 w os);rw[h1];exact congrArg some (wk h2)
end Hd
namespace K29
open PySem PySem.Spec PyProof.Rows L2 DL List
noncomputable def top (i:Nat):Stmt:=PySem.Challenge.pw_glowrow_k29_what_is_a_film.main.body.getD i (.Pass ⟨0,0,0,0⟩)
noncomputable abbrev yS:Stmt:=top 80
noncomputable abbrev TX:=Tx (("_law_draw",top 55,["tape","many"])::("_law_size",top 56,["tape","most"])::("_law_frame",top 57,["tape","most"])::("_law_inks",top 58,["tape","wide","thin"])::("_law_inked",top 59,["tape","most"])::("_law_far",top 60,["tape","size"])::("_law_mover",top 61,["tape","frame","shapes"])::("_law_stand",top 62,["tape","frame","movers_most"])::("_law_way",top 74,["tape","at"])::("_law_film",top 75,["tape","most"])::("_law_whole",top 68,["thing","low","high"])::("_law_is_frame",top 69,["thing"])::("_law_are_rows",top 70,["thing","most"])::("_law_is_mover",top 71,["thing","book"])::("_law_is_stand",top 72,["thing"])::("_law_is_path",top 77,["thing"])::("_law_is_film",top 76,["thing"])::("is_whole",top 14,["thing"])::("is_within",top 15,["thing","low","high"])::("is_frame",top 17,["thing"])::("is_ink",top 19,["thing"])::("is_ink_row",top 20,["thing"])::("is_ink_block",top 21,["thing","most"])::("is_shape",top 22,["thing"])::("is_book",top 28,["thing"])::("is_shape_number",top 29,["book","thing"])::("is_place_pair",top 27,["thing"])::("is_rank",top 26,["thing"])::("is_turn",top 23,["thing"])::("is_mover",top 30,["book","thing"])::("are_movers",top 31,["book","thing"])::("is_hue",top 25,["thing"])::("are_pots",top 32,["thing"])::("is_stand",top 33,["thing"])::("places_of",top 43,["pair"])::("is_path",top 40,["thing"])::("is_pair_for",top 41,["mover","thing"])::("is_film",top 42,["thing"])::("_law_path",top 65,["tape","thing"])::("_law_got",top 66,["thing","path"])::("_law_put",top 64,["thing","path","other"])::("_law_any",top 63,["tape"])::("_law_spoilt",top 67,["tape","thing"])::("_law_film_spoilt",top 79,["tape","film"])::("_law_word",top 73,["error"])::("_law_made",top 78,["thing"])::[])
 (("Past","__init__","Past.__init__",rp (top 52) 0,["self","now"])::("Reel","__init__","Reel.__init__",rp (top 53) 0,["self","film"])::[])
 []
 ("ValueError"::"all"::"bool"::"int"::"isinstance"::"len"::"list"::"max"::"min"::"range"::"tuple"::"zip"::[]) ["NoFilm"]
 (("Clash",[("NoFilm",false)])::("GlowError",[("NoFilm",true)])::("NoDeed",[("NoFilm",false)])::("NoFilm",[("NoFilm",true)])::("NoFrame",[("NoFilm",false)])::("NoRow",[("NoFilm",false)])::("NoScore",[("NoFilm",false)])::("NoStand",[("NoFilm",false)])::("NoText",[("NoFilm",false)])::("NoTick",[("NoFilm",false)])::("Over",[("NoFilm",false)])::[]) [("NoFilm",true)]
 (("Past","earlier")::("Past","now")::("Reel","past")::[]) [] []
set_option hygiene false
local macro_rules | `(tactic| walk_at "o") => `(tactic| first | with_reducible exact DW | with_reducible exact BX | with_reducible exact C1 | with_reducible exact D9 | with_reducible exact A5 | with_reducible exact DZ | with_reducible exact CA | with_reducible exact E9 | with_reducible exact FH | with_reducible exact Fc | with_reducible exact Fv | with_reducible exact EY | with_reducible exact xl | with_reducible exact q_in | with_reducible exact q_notin | with_reducible exact q_mulT | with_reducible exact q_inA | ((with_reducible show Q2 _ _ (dIn _)); first | exact q_din hr | exact q_dnotin hr) | ((with_reducible show Q2 _ (compareOp .Eq) _); exact FE hr) | exact EN hr)
local macro_rules | `(tactic| walk_at "c") => `(tactic| first | ((with_reducible refine Em ?_); rfl) | ((with_reducible refine Cr)) | ((with_reducible refine q_lenT)) | ((with_reducible refine CP)) | ((with_reducible refine q_listT ?_); rfl) | ((with_reducible refine q_listM)) | ((with_reducible refine Bb)) | ((with_reducible refine DV ?_); rfl) | ((with_reducible refine Dd ?_); rfl) | ((with_reducible refine xp)))
local macro_rules | `(tactic| walk_at "b") => `(tactic| with_reducible first | exact Boot.«ValueError» | exact Boot.«all» | exact Boot.«bool» | exact Boot.«int» | exact Boot.«isinstance» | exact Boot.«len» | exact Boot.«list» | exact Boot.«max» | exact Boot.«min» | exact Boot.«range» | exact Boot.«tuple» | exact Boot.«zip»)
local macro_rules | `(tactic| walk_at "E") => `(tactic| first
  | ((with_reducible show QE _ _ (ae _));exact qv _)
  | ((with_reducible show QE _ _ (gC _));first|exact AH|exact A4|exact B4|exact DX)
  | ((with_reducible show QE _ _ (g2 dGet _ _));refine qe_dget hr ?_ ?_)
  | ((with_reducible show QE _ _ (g2 aK _ _));refine Dl ?_ ?_)
  | ((with_reducible show QE _ _ (g2 _ _ _));first|refine CT (by walk_at "o") ?_ ?_|refine zS (by walk_at "o") ?_ ?_|refine qe_cmpI (by walk_at "o") ?_ ?_)
  | ((with_reducible show QE _ _ (ah _ _ _));refine Cy (by assumption) hr ?_)
  | ((with_reducible show QE _ _ (aI _));refine A9 ?_)
  | ((with_reducible show QE _ _ (bO _ _));refine Cu (by first|exact .inl rfl|exact .inr (.inl rfl)|exact .inr (.inr (.inl rfl))|exact .inr (.inr (.inr (.inl rfl)))|exact .inr (.inr (.inr (.inr rfl)))) (by walk_at "b") (by rfl) (T.z _ (by decide +kernel)) (by rfl) (T.z _ (by decide +kernel)) ?_)
  | ((with_reducible show QE _ _ (aq _ _));first|refine CI (by walk_at "c") (T.z _ (by decide +kernel)) (by walk_at "b") ?_|refine DU (by walk_at "c") (by rfl) (T.z _ (by decide +kernel)) (by walk_at "b") ?_)
  | ((with_reducible show QE _ _ (cX _));refine AU ?_)
  | ((with_reducible show QE _ _ (i6 _));refine zJ ?_)
  | ((with_reducible show QE _ _ (eI _));refine zz ?_)
  | ((with_reducible show QE _ _ (om _));refine BU ?_)
  | ((with_reducible show QE _ _ (lB _ _ _ _ _));refine wz (by walk_at "o") (by walk_at "o") ?_ ?_ ?_)
  | ((with_reducible show QE _ _ (jh _ _ _));refine we ?_ ?_ ?_)
  | ((with_reducible show QE _ _ (bv _ _ _ _));first|refine qe_compR (by assumption) (by kernel_rfl) (by first|exact .inl rfl|exact .inr rfl) ?_ ?_ ?_|refine wg (by kernel_rfl) (by first|exact .inl rfl|exact .inr rfl) ?_ ?_ ?_)
  | ((with_reducible show QE _ _ (fJ _ _ _ _ _ _));refine tR (by assumption) (by kernel_rfl) (by first|exact .inl rfl|exact .inr rfl) ?_ ?_ ?_ ?_ ?_)
  | ((with_reducible show QE _ _ (eB _ _ _ af));refine qe_make0A (by assumption) hr)
  | ((with_reducible show QE _ _ (eB _ _ _ _));refine vT (by assumption) hr ?_)
  | ((with_reducible show QE _ _ (jM _ _));refine uj ?_ ?_)
  | ((with_reducible show QE _ _ (gE indexG _ _));refine qe_indexG hr ?_ ?_)
  | ((with_reducible show QE _ _ (gE _ _ _));first|refine vp ?_ ?_|refine wf ?_ ?_)
  | ((with_reducible show QE _ _ (gp _ _));first|refine xy (qW T.r rfl) (T.z _ (by decide +kernel)) ?_|refine vW T.b (T.z _ (by decide +kernel)) (T.z _ (by decide +kernel)) ?_ (by kernel_rfl) (by walk_at "b")))
local macro_rules | `(tactic| walk_at "S") => `(tactic| first
  | ((with_reducible show QS _ _ (az _));refine Bk ?_)
  | ((with_reducible show QS _ _ (cD _ _ _));refine CZ ?_ ?_ ?_)
  | ((with_reducible show QS _ _ (aM _ (bv _ _ _ _)));first|refine qs_setCompR (by assumption) (by kernel_rfl) (by first|exact .inl rfl|exact .inr rfl) nd ?_ ?_ ?_|refine qs_setCompN (by kernel_rfl) (by first|exact .inl rfl|exact .inr rfl) nd ?_ ?_ ?_|refine qs_setC _ nd ?_)
  | ((with_reducible show QS _ _ (aM _ (fJ _ _ _ _ _ _)));first|refine qs_setCompTR (by assumption) (by kernel_rfl) (by first|exact .inl rfl|exact .inr rfl) ?_ nd ?_ ?_ ?_ ?_|refine qs_setC _ nd ?_)
  | ((with_reducible show QS _ _ (aM _ _));refine Bs _ nd ?_)
  | ((with_reducible show QS _ _ (g6 _ _));refine zO ?_ ?_)
  | ((with_reducible show QS _ _ (kJ _ _ _));refine Ax PassesOwn.leaving ?_ ?_ ?_)
  | ((with_reducible show QS _ _ (eP _));refine xi ?_)
  | ((with_reducible show QS _ _ (jj _ _ _));refine A3 ?_ ?_ ?_)
  | ((with_reducible show QS _ _ (aB));first|exact qs_pass|exact qs_doc)
  | ((with_reducible show QS _ _ (mK _ _ _));refine vK PassesOwn.leaving ?_ ?_)
  | ((with_reducible show QS _ _ (gP _ _));refine sR (T.e _ (by decide +kernel)) ?_)
  | ((with_reducible show QS _ _ (jP _ _ _ _));refine yi (qW T.r rfl) nd ?_ ?_)
  | ((with_reducible show QS _ _ (iH _ _ _ _));first|refine yH (yZ T.a _ _) ?_ ?_|refine qs_fldCA (yZ T.a _ _) ?_ ?_))
local macro_rules | `(tactic| walk_at "Q") => `(tactic| first
  | ((with_reducible show QE _ _ _);first|walk_at "E"|refine Bz ?_|refine zP ?_ ?_|refine DR ?_ ?_|refine qe_fstr1 ?_)
  | ((with_reducible show QA _ _ _);first|exact B5|refine Fi ?_ ?_)
  | ((with_reducible show QT _ _ _);first
  | ((with_reducible show QT _ _ (aH (lB _ _ _ _ _)));refine uD (by walk_at "o") (by walk_at "o") ?_ ?_ ?_)
  | ((with_reducible show QT _ _ (aH _));first|refine Ak (by walk_at "o") ?_ ?_|refine qt_cmpI (by walk_at "o") ?_ ?_)
  | ((with_reducible show QT _ _ (aN _));refine BN ?_)
  | ((with_reducible show QT _ _ (bf _));refine AT ?_)
  | ((with_reducible show QT _ _ (bK _ _));refine Dq ?_)
  | ((with_reducible show QT _ _ (bY _ _));refine Dq ?_))
  | ((with_reducible show QB _ _ _);first|exact AQ|refine A6 ?_|refine xM ?_ ?_)
  | ((with_reducible show QS _ _ _);walk_at "S")
  | ((with_reducible show QW _ _ _);first|refine BJ ?_ ?_|refine Dm ?_ ?_|refine xS ?_|refine z0 ?_)
  | ((with_reducible show QI _ _ _ _);first|((with_reducible show QI _ _ _ (eA _));refine DP (by rfl) (T.z _ (by decide +kernel)) ?_)|((with_reducible show QI _ _ _ (gRng2 _));refine qi_r2 (by rfl) (T.z _ (by decide +kernel)) ?_)|((with_reducible show QI _ _ _ (gEnum _));refine qi_enum (by rfl) (T.z _ (by decide +kernel)) (by walk_at "b") ?_)|((with_reducible show QI _ _ _ (uK _));refine Ap (by rfl) (T.z _ (by decide +kernel)) (by walk_at "b") ?_)|refine Am ?_)
  | ((with_reducible show QG _ _ _);first|exact qn _ nd|exact F1 _ (by kernel_rfl)|refine zx ?_|refine qg_tupG ?_)
  | ((with_reducible show DY _ _ _);first|exact xE|refine DA ?_ ?_)
  | ((with_reducible show QGG _ _ _);first|exact qgg_nil|refine qgg_c ?_ ?_)
  | ((with_reducible show QP _ _ _);first|exact yI|refine xw ?_)
  | ((with_reducible show Ce _ _ _ _ _ _);first|exact tD|refine q_onetest ?_)
  | ((with_reducible show QO _ _);first|exact qo_one _ _|exact zE _|refine qo_tupG ?_)
  | ((with_reducible show QOs _ _);first|exact qos_nil|refine qos_c ?_ ?_)
  | ((with_reducible show QF _ _ _);first|exact qf_nil|refine qf_c ?_ ?_)
  | ((with_reducible show QD _ _ _ _ _);first|exact qd_nil|refine qd_c ?_)
  | intro _)
section
variable {P:Program}{w:World}{K:W.Frag}{mg:Str→Option Value}{base:Heap}
noncomputable def gD:GS:=(ao (aM 2 (gC (.int 2305843009213693951))) (ao (cD (aH (g2 ni (g2 aK (ae 0) (gC (.int 2))) (ae 1))) (ao (aM 3 (gC (.int 0))) (ao (cD (aH (g2 jV (aq aJ (aa (g2 aK (ae 0) (gC (.int 0))) af)) (gC (.int 0)))) (aM 3 (g2 aK (g2 aK (ae 0) (gC (.int 0))) (g2 gS (g2 aK (ae 0) (gC (.int 1))) (aq aJ (aa (g2 aK (ae 0) (gC (.int 0))) af))))) aB) (ao (cD (bY (aH (g2 xt (g2 aK (ae 0) (gC (.int 1))) (aq aJ (aa (g2 aK (ae 0) (gC (.int 0))) af)))) (aH (g2 ni (ae 3) (g2 li (gC (.int 10)) (gC (.int 18)))))) (ao (aM 3 (g2 gS (g2 aW (ae 3) (g2 eY (gC (.int 1000003)) (g2 aK (ae 0) (gC (.int 1))))) (ae 2))) (ao (aM 3 (g2 gS (g2 aW (g2 aW (g2 eY (ae 3) (ae 3)) (g2 eY (gC (.int 1181783497276652981)) (ae 3))) (gC (.int 2049848353892358983))) (ae 2))) (aM 3 (g2 gS (g2 aW (g2 eY (ae 3) (ae 3)) (gC (.int 1442695040888963407))) (ae 2))))) aB) (ao (jj (ae 0) (gC (.int 1)) (g2 aW (g2 aK (ae 0) (gC (.int 1))) (gC (.int 1)))) (jj (ae 0) (gC (.int 2)) (ae 3)))))) aB) (ao (aM 4 (g2 gS (g2 aK (ae 0) (gC (.int 2))) (ae 1))) (ao (jj (ae 0) (gC (.int 2)) (g2 dO (g2 aK (ae 0) (gC (.int 2))) (ae 1))) (az (ae 4))))))
noncomputable def ai:FD:=bB 3 gD
theorem aZ (T:TX P w K mg base):Ok P w K mg base "_law_draw" 1 2 ai:=b9 (bZ T.f 0 rfl) ["tape","many","prime","cell","found"] ba rfl fun f _ A _ s H E nd hr=>by delta gD;repeat' walk_at "Q"
noncomputable def i5:GS:=(az (g2 aW (gC (.int 1)) (g2 aK (cX (aa (ah 2 ai (aa (ae 0) (aa (aq nS (aa (ae 1) (aa (gC (.int 6)) af))) af))) (aa (ah 2 ai (aa (ae 0) (aa (ae 1) af))) (aa (g2 gR (ae 1) (gC (.int 1))) af)))) (g2 dO (g2 eY (ah 2 ai (aa (ae 0) (aa (gC (.int 8)) af))) (gC (.int 3))) (gC (.int 10))))))
noncomputable def dk:FD:=bB 0 i5
theorem jL (T:TX P w K mg base):Ok P w K mg base "_law_size" 2 2 dk:=b9 (bZ T.f 1 rfl) ["tape","most"] ba rfl fun f _ A _ s H E nd hr=>by have:=aZ T;delta i5;repeat' walk_at "Q"
noncomputable def hZ:GS:=(ao (aM 2 (g2 aK (cX (aa (gC (.int 0)) (aa (ah 2 ai (aa (ae 0) (aa (gC (.int 21)) af))) af))) (ah 2 ai (aa (ae 0) (aa (gC (.int 2)) af))))) (az (aI (aa (ah 2 dk (aa (ae 0) (aa (ae 1) af))) (aa (ah 2 dk (aa (ae 0) (aa (ae 1) af))) (aa (ae 2) (aa (ah 2 ai (aa (ae 0) (aa (gC (.int 13)) af))) af)))))))
noncomputable def fT:FD:=bB 1 hZ
theorem mR (T:TX P w K mg base):Ok P w K mg base "_law_frame" 3 2 fT:=b9 (bZ T.f 2 rfl) ["tape","most","gap"] ba rfl fun f _ A _ s H E nd hr=>by have:=aZ T;have:=jL T;delta hZ;repeat' walk_at "Q"
noncomputable def eR:GE:=(g2 eY (ah 2 ai (aa (ae 1) (aa (gC (.int 16)) af))) (aq mO (aa (g2 jV (ah 2 ai (aa (ae 1) (aa (ae 3) af))) (gC (.int 0))) af)))
noncomputable def iQ:GS:=(az (aq cZ (aa (bv (eA (aa (ae 1) af)) ce eR aV) af)))
noncomputable def gL:FD:=bB 0 iQ
theorem oi (T:TX P w K mg base):Ok P w K mg base "_law_inks" 2 3 gL:=b9 (bZ T.f 3 rfl) ["tape","wide","thin"] ba rfl fun f _ A _ s H E nd hr=>by have:=aZ T;delta iQ eR;repeat' walk_at "Q"
noncomputable def fz:GE:=(ah 3 gL (aa (ae 1) (aa (ae 3) (aa (ae 4) af))))
noncomputable def h9:GS:=(ao (aM 2 (ah 2 dk (aa (ae 0) (aa (ae 1) af)))) (ao (aM 3 (g2 aW (gC (.int 1)) (ah 2 ai (aa (ae 0) (aa (gC (.int 4)) af))))) (az (aq cZ (aa (bv (eA (aa (ah 2 dk (aa (ae 0) (aa (ae 1) af))) af)) ce fz aV) af)))))
noncomputable def eN:FD:=bB 2 h9
theorem mS (T:TX P w K mg base):Ok P w K mg base "_law_inked" 3 2 eN:=b9 (bZ T.f 4 rfl) ["tape","most","wide","thin"] ba rfl fun f _ A _ s H E nd hr=>by have:=aZ T;have:=jL T;have:=oi T;delta h9 fz;repeat' walk_at "Q"
noncomputable def jt:GS:=(az (g2 aK (cX (aa (g2 gR (ah 2 ai (aa (ae 0) (aa (g2 aW (ae 1) (gC (.int 16))) af))) (gC (.int 8))) (aa (g2 gR (ah 2 ai (aa (ae 0) (aa (gC (.int 2001)) af))) (gC (.int 1000))) af))) (g2 dO (ah 2 ai (aa (ae 0) (aa (gC (.int 8)) af))) (gC (.int 7)))))
noncomputable def bN:FD:=bB 0 jt
theorem kZ (T:TX P w K mg base):Ok P w K mg base "_law_far" 2 2 bN:=b9 (bZ T.f 5 rfl) ["tape","size"] ba rfl fun f _ A _ s H E nd hr=>by have:=aZ T;delta jt;repeat' walk_at "Q"
noncomputable def cj:GS:=(ao (aM 3 (gC .non)) (ao (cD (bK (aH (g2 jV (ae 2) (gC (.int 0)))) (aH (g2 jV (ah 2 ai (aa (ae 0) (aa (gC (.int 8)) af))) (gC (.int 0))))) (aM 3 (ah 2 ai (aa (ae 0) (aa (ae 2) af)))) aB) (az (aI (aa (ae 3) (aa (ah 2 bN (aa (ae 0) (aa (g2 aK (ae 1) (gC (.int 0))) af))) (aa (ah 2 bN (aa (ae 0) (aa (g2 aK (ae 1) (gC (.int 1))) af))) (aa (ah 2 ai (aa (ae 0) (aa (gC (.int 4)) af))) (aa (ah 2 ai (aa (ae 0) (aa (gC (.int 4)) af))) af)))))))))
noncomputable def ig:FD:=bB 1 cj
theorem mY (T:TX P w K mg base):Ok P w K mg base "_law_mover" 3 3 ig:=b9 (bZ T.f 6 rfl) ["tape","frame","shapes","shape"] ba rfl fun f _ A _ s H E nd hr=>by have:=aZ T;have:=kZ T;delta cj;repeat' walk_at "Q"
noncomputable def fo:GE:=(ah 2 eN (aa (ae 1) (aa (gC (.int 8)) af)))
noncomputable def fq:GE:=(ah 3 ig (aa (ae 1) (aa (ae 2) (aa (aq aJ (aa (ae 7) af)) af))))
noncomputable def ft:GE:=(ah 2 ai (aa (ae 1) (aa (gC (.int 64)) af)))
noncomputable def fP:GS:=(ao (aM 3 (ah 2 eN (aa (ae 0) (aa (gC (.int 16)) af)))) (ao (aM 4 (aI (aa (ah 2 bN (aa (ae 0) (aa (gC (.int 9)) af))) (aa (ah 2 bN (aa (ae 0) (aa (gC (.int 9)) af))) af)))) (ao (aM 5 (g2 aK (cX (aa (ah 2 ai (aa (ae 0) (aa (gC (.int 4)) af))) (aa (ah 2 ai (aa (ae 0) (aa (gC (.int 9)) af))) af))) (g2 dO (ah 2 ai (aa (ae 0) (aa (gC (.int 4)) af))) (gC (.int 3))))) (ao (aM 6 (aq cZ (aa (bv (eA (aa (ae 5) af)) ce fo aV) af))) (ao (aM 7 (aq cZ (aa (bv (eA (aa (ah 2 ai (aa (ae 0) (aa (g2 aW (ae 2) (gC (.int 1))) af))) af)) ce fq aV) af))) (az (aI (aa (ae 3) (aa (ae 4) (aa (ae 6) (aa (ae 7) (aa (aq cZ (aa (bv (eA (aa (gC (.int 16)) af)) ce ft aV) af)) af))))))))))))
noncomputable def hX:FD:=bB 5 fP
theorem mQ (T:TX P w K mg base):Ok P w K mg base "_law_stand" 4 3 hX:=b9 (bZ T.f 7 rfl) ["tape","frame","movers_most","floor","shift","shapes","book","movers"] ba rfl fun f _ A _ s H E nd hr=>by have:=aZ T;have:=mS T;have:=kZ T;have:=mY T;delta fP fo fq ft;repeat' walk_at "Q"
noncomputable def hV:GS:=(ao (aM 2 (g2 aK (cX (aa (ah 2 ai (aa (ae 0) (aa (gC (.int 13)) af))) (aa (gC (.int 12)) (aa (ah 2 ai (aa (ae 0) (aa (gC (.int 4)) af))) af)))) (ah 2 ai (aa (ae 0) (aa (gC (.int 3)) af))))) (ao (aM 3 (g2 gR (ae 1) (ah 2 ai (aa (ae 0) (aa (g2 aW (ae 2) (gC (.int 1))) af))))) (ao (aM 4 (g2 aK (cX (aa (g2 gR (ah 2 ai (aa (ae 0) (aa (gC (.int 25)) af))) (gC (.int 12))) (aa (g2 gR (ah 2 ai (aa (ae 0) (aa (gC (.int 5)) af))) (gC (.int 2))) af))) (ah 2 ai (aa (ae 0) (aa (gC (.int 2)) af))))) (az (aI (aa (ae 3) (aa (g2 aW (ae 3) (ae 2)) (aa (ae 1) (aa (ae 4) af)))))))))
noncomputable def fc:FD:=bB 3 hV
theorem pp (T:TX P w K mg base):Ok P w K mg base "_law_way" 2 2 fc:=b9 (bZ T.f 8 rfl) ["tape","at","span","low","step"] ba rfl fun f _ A _ s H E nd hr=>by have:=aZ T;delta hV;repeat' walk_at "Q"
noncomputable def cL:GS:=(ao (aM 7 (aq oV (aa (eI (gC (.int 880))) (aa (aq nS (aa (gC (.int 880)) (aa (ae 7) af))) af)))) (ao (aM 8 (aq oV (aa (eI (gC (.int 880))) (aa (aq nS (aa (gC (.int 880)) (aa (ae 8) af))) af)))) (ao (eP (jM (ae 5) (aI (aa (ae 6) (aa (ae 7) (aa (ae 8) (aa (ae 9) (aa (ae 10) af)))))))) (eP (jM (ae 4) (g2 aK (cX (aa (aI (aa (ah 2 fc (aa (ae 0) (aa (ae 7) af))) (aa (ah 2 fc (aa (ae 0) (aa (ae 8) af))) af))) (aa (gC .non) af))) (g2 dO (ah 2 ai (aa (ae 0) (aa (gC (.int 4)) af))) (gC (.int 3)))))))))
noncomputable def fD:GS:=(ao (aM 2 (ah 2 fT (aa (ae 0) (aa (ae 1) af)))) (ao (aM 3 (ah 3 hX (aa (ae 0) (aa (ae 2) (aa (g2 aK (cX (aa (gC (.int 4)) (aa (gC (.int 12)) af))) (g2 dO (ah 2 ai (aa (ae 0) (aa (gC (.int 4)) af))) (gC (.int 3)))) af))))) (ao (aM 4 (i6 af)) (ao (aM 5 (i6 af)) (ao (kJ (cS (g2 aK (ae 3) (gC (.int 3)))) (fF [6,7,8,9,10]) cL) (az (aI (aa (ae 2) (aa (g2 aW (jh (ae 3) aT (bR (gC (.int 3)))) (aI (aa (aq cZ (aa (ae 5) af)) (aa (g2 aK (ae 3) (gC (.int 4))) af)))) (aa (aq cZ (aa (ae 4) af)) af))))))))))
noncomputable def iV:FD:=fun ds M=>ju M.length (bB 9 fD ds M)
theorem nM (T:TX P w K mg base):Ok P w K mg base "_law_film" 5 2 iV:=nP (F:=bB 9 fD) <| b9 (bZ T.f 9 rfl) ["tape","most","frame","stand","paths","movers","shape","x","y","rank","turn"] ba rfl fun f _ A _ s H E nd hr=>by have:=aZ T;have:=mR T;have:=mQ T;have:=pp T;delta fD cL;repeat' walk_at "Q"
noncomputable def iy:GS:=(az (du (bO "int" (ae 0)) (du (om (aH (bO "bool" (ae 0)))) (du (g2 jb (ae 1) (ae 0)) (g2 jb (ae 0) (ae 2))))))
noncomputable def aE:FD:=bB 0 iy
theorem dL (T:TX P w K mg base):Ok P w K mg base "_law_whole" 1 3 aE:=b9 (bZ T.f 10 rfl) ["thing","low","high"] ba rfl fun f _ A _ s H E nd hr=>by delta iy;repeat' walk_at "Q"
noncomputable def dE:GE:=(ah 3 aE (aa (g2 aK (ae 1) (ae 0)) (aa (g2 aK (g2 aK (ae 2) (ae 0)) (gC (.int 0))) (aa (g2 aK (g2 aK (ae 2) (ae 0)) (gC (.int 1))) af))))
noncomputable def dW:GS:=(ao (cD (bY (aN (bf (bO "tuple" (ae 0)))) (aH (g2 (aR true) (aq aJ (aa (ae 0) af)) (gC (.int 4))))) (az (gC (.bl false))) aB) (ao (aM 1 (cX (aa (aI (aa (gC (.int 1)) (aa (gC (.int 40)) af))) (aa (aI (aa (gC (.int 1)) (aa (gC (.int 40)) af))) (aa (aI (aa (gC (.int 0)) (aa (gC (.int 20)) af))) (aa (aI (aa (gC (.int 0)) (aa (gC (.int 12)) af))) af)))))) (az (aq dA (aa (bv (eA (aa (gC (.int 4)) af)) ce dE aV) af)))))
noncomputable def dR:FD:=bB 1 dW
theorem kd (T:TX P w K mg base):Ok P w K mg base "_law_is_frame" 2 1 dR:=b9 (bZ T.f 11 rfl) ["thing","bounds"] ba rfl fun f _ A _ s H E nd hr=>by have:=dL T;delta dW dE;repeat' walk_at "Q"
noncomputable def dr:GE:=(bO "tuple" (ae 0))
noncomputable def dH:GE:=(g2 (aR false) (aq aJ (aa (ae 0) af)) (ae 3))
noncomputable def dB:GE:=(ah 3 aE (aa (ae 0) (aa (gC (.int 0)) (aa (gC (.int 15)) af))))
noncomputable def dC:GE:=(aq dA (aa (bv (cS (ae 0)) ce dB aV) af))
noncomputable def dX:GS:=(ao (cD (bY (aN (bf (bO "tuple" (ae 0)))) (aN (aH (lB jb jb (gC (.int 1)) (aq aJ (aa (ae 0) af)) (ae 1))))) (az (gC (.bl false))) aB) (ao (cD (aN (bf (aq dA (aa (bv (cS (ae 0)) ce dr aV) af)))) (az (gC (.bl false))) aB) (ao (aM 2 (aq aJ (aa (g2 aK (ae 0) (gC (.int 0))) af))) (ao (cD (bY (aN (aH (lB jb jb (gC (.int 1)) (ae 2) (ae 1)))) (aN (bf (aq dA (aa (bv (cS (ae 0)) ce dH aV) af))))) (az (gC (.bl false))) aB) (az (aq dA (aa (bv (cS (ae 0)) ce dC aV) af)))))))
noncomputable def cQ:FD:=bB 1 dX
theorem kM (T:TX P w K mg base):Ok P w K mg base "_law_are_rows" 2 2 cQ:=b9 (bZ T.f 12 rfl) ["thing","most","wide"] ba rfl fun f _ A _ s H E nd hr=>by have:=dL T;delta dX dr dH dB dC;repeat' walk_at "Q"
noncomputable def dS:GS:=(ao (cD (bY (aN (bf (bO "tuple" (ae 0)))) (aH (g2 (aR true) (aq aJ (aa (ae 0) af)) (gC (.int 5))))) (az (gC (.bl false))) aB) (ao (cD (bK (aH (g2 (fB true) (g2 aK (ae 0) (gC (.int 0))) (gC .non))) (aN (bf (ah 3 aE (aa (g2 aK (ae 0) (gC (.int 0))) (aa (gC (.int 0)) (aa (g2 gR (aq aJ (aa (ae 1) af)) (gC (.int 1))) af))))))) (az (gC (.bl false))) aB) (ao (cD (bY (aN (bf (ah 3 aE (aa (g2 aK (ae 0) (gC (.int 1))) (aa (eI (gC (.int 1000))) (aa (gC (.int 1000)) af)))))) (aN (bf (ah 3 aE (aa (g2 aK (ae 0) (gC (.int 2))) (aa (eI (gC (.int 1000))) (aa (gC (.int 1000)) af))))))) (az (gC (.bl false))) aB) (az (du (ah 3 aE (aa (g2 aK (ae 0) (gC (.int 3))) (aa (gC (.int 0)) (aa (gC (.int 3)) af)))) (ah 3 aE (aa (g2 aK (ae 0) (gC (.int 4))) (aa (gC (.int 0)) (aa (gC (.int 3)) af)))))))))
noncomputable def fL:FD:=bB 0 dS
theorem kK (T:TX P w K mg base):Ok P w K mg base "_law_is_mover" 2 2 fL:=b9 (bZ T.f 13 rfl) ["thing","book"] ba rfl fun f _ A _ s H E nd hr=>by have:=dL T;delta dS;repeat' walk_at "Q"
noncomputable def cE:GE:=(bO "tuple" (ae 0))
noncomputable def cF:GE:=(ah 3 aE (aa (ae 0) (aa (eI (gC (.int 1000))) (aa (gC (.int 1000)) af))))
noncomputable def cC:GE:=(ah 2 cQ (aa (ae 0) (aa (gC (.int 8)) af)))
noncomputable def cG:GE:=(ah 3 aE (aa (ae 0) (aa (gC (.int 0)) (aa (gC (.int 63)) af))))
noncomputable def cB:GE:=(ah 2 fL (aa (ae 0) (aa (g2 aK (ae 1) (gC (.int 2))) af)))
noncomputable def d7:GS:=(ao (cD (bY (aN (bf (bO "tuple" (ae 0)))) (bY (aH (g2 (aR true) (aq aJ (aa (ae 0) af)) (gC (.int 5)))) (aN (bf (ah 2 cQ (aa (g2 aK (ae 0) (gC (.int 0))) (aa (gC (.int 16)) af))))))) (az (gC (.bl false))) aB) (ao (cD (bY (aN (bf (aq dA (aa (bv (cS (jh (ae 0) (bR (gC (.int 1))) aT)) ce cE aV) af)))) (bY (aH (g2 (aR true) (aq aJ (aa (g2 aK (ae 0) (gC (.int 1))) af)) (gC (.int 2)))) (aH (g2 jV (aq aJ (aa (g2 aK (ae 0) (gC (.int 2))) af)) (gC (.int 8)))))) (az (gC (.bl false))) aB) (ao (cD (aN (bf (aq dA (aa (bv (cS (g2 aK (ae 0) (gC (.int 1)))) ce cF aV) af)))) (az (gC (.bl false))) aB) (ao (cD (bY (aN (bf (aq dA (aa (bv (cS (g2 aK (ae 0) (gC (.int 2)))) ce cC aV) af)))) (bY (aH (g2 jV (aq aJ (aa (g2 aK (ae 0) (gC (.int 3))) af)) (gC (.int 12)))) (aH (g2 (aR true) (aq aJ (aa (g2 aK (ae 0) (gC (.int 4))) af)) (gC (.int 16)))))) (az (gC (.bl false))) aB) (ao (cD (aN (bf (aq dA (aa (bv (cS (g2 aK (ae 0) (gC (.int 4)))) ce cG aV) af)))) (az (gC (.bl false))) aB) (az (aq dA (aa (bv (cS (g2 aK (ae 0) (gC (.int 3)))) ce cB aV) af))))))))
noncomputable def dZ:FD:=bB 0 d7
theorem kn (T:TX P w K mg base):Ok P w K mg base "_law_is_stand" 3 1 dZ:=b9 (bZ T.f 14 rfl) ["thing"] ba rfl fun f _ A _ s H E nd hr=>by have:=dL T;have:=kM T;have:=kK T;delta d7 cE cF cC cG cB;repeat' walk_at "Q"
noncomputable def eQ:GS:=(ao (cD (bY (aN (bf (bO "tuple" (ae 0)))) (bY (aH (g2 (aR true) (aq aJ (aa (ae 0) af)) (gC (.int 4)))) (aN (bf (ah 3 aE (aa (g2 aK (ae 0) (gC (.int 0))) (aa (eI (gC (.int 900))) (aa (gC (.int 900)) af)))))))) (az (gC (.bl false))) aB) (ao (cD (bY (aN (bf (ah 3 aE (aa (g2 aK (ae 0) (gC (.int 1))) (aa (g2 aK (ae 0) (gC (.int 0))) (aa (g2 aW (g2 aK (ae 0) (gC (.int 0))) (gC (.int 12))) af)))))) (aN (bf (ah 3 aE (aa (g2 aK (ae 0) (gC (.int 2))) (aa (g2 aK (ae 0) (gC (.int 0))) (aa (g2 aK (ae 0) (gC (.int 1))) af))))))) (az (gC (.bl false))) aB) (az (ah 3 aE (aa (g2 aK (ae 0) (gC (.int 3))) (aa (eI (gC (.int 12))) (aa (gC (.int 12)) af)))))))
noncomputable def gw:FD:=bB 0 eQ
theorem lq (T:TX P w K mg base):Ok P w K mg base "_law_is_path" 2 1 gw:=b9 (bZ T.f 15 rfl) ["thing"] ba rfl fun f _ A _ s H E nd hr=>by have:=dL T;delta eQ;repeat' walk_at "Q"
noncomputable def cg:GS:=(cD (bY (aN (bf (ah 1 gw (aa (g2 aK (ae 3) (ae 4)) af)))) (aH (g2 (aR true) (g2 aK (g2 aK (ae 3) (ae 4)) (gC (.int 2))) (g2 aK (g2 aK (ae 1) (ae 2)) (g2 aW (gC (.int 1)) (ae 4)))))) (az (gC (.bl false))) aB)
noncomputable def cR:GS:=(ao (aM 3 (g2 aK (g2 aK (ae 0) (gC (.int 2))) (ae 2))) (ao (cD (bK (aH (g2 (fB true) (ae 3) (gC .non))) (bY (aN (bf (bO "tuple" (ae 3)))) (aH (g2 (aR true) (aq aJ (aa (ae 3) af)) (gC (.int 2)))))) (az (gC (.bl false))) aB) (kJ (eA (aa (g2 eY (gC (.int 2)) (aq mO (aa (g2 (fB true) (ae 3) (gC .non)) af))) af)) (fQ 4) cg)))
noncomputable def eU:GS:=(ao (cD (bY (aN (bf (bO "tuple" (ae 0)))) (bY (aH (g2 (aR true) (aq aJ (aa (ae 0) af)) (gC (.int 3)))) (bY (aN (bf (ah 1 dR (aa (g2 aK (ae 0) (gC (.int 0))) af)))) (aN (bf (ah 1 dZ (aa (g2 aK (ae 0) (gC (.int 1))) af))))))) (az (gC (.bl false))) aB) (ao (aM 1 (g2 aK (g2 aK (ae 0) (gC (.int 1))) (gC (.int 3)))) (ao (cD (bY (aN (bf (bO "tuple" (g2 aK (ae 0) (gC (.int 2)))))) (aH (g2 (aR true) (aq aJ (aa (g2 aK (ae 0) (gC (.int 2))) af)) (aq aJ (aa (ae 1) af))))) (az (gC (.bl false))) aB) (ao (kJ (eA (aa (aq aJ (aa (ae 1) af)) af)) (fQ 2) cR) (az (gC (.bl true)))))))
noncomputable def eM:FD:=bB 4 eU
theorem lr (T:TX P w K mg base):Ok P w K mg base "_law_is_film" 4 1 eM:=b9 (bZ T.f 16 rfl) ["thing","movers","k","pair","side"] ba rfl fun f _ A _ s H E nd hr=>by have:=kd T;have:=kn T;have:=lq T;delta eU cg cR;repeat' walk_at "Q"
noncomputable def lU:GS:=(az (du (bO "int" (ae 0)) (om (aH (bO "bool" (ae 0))))))
noncomputable def jw:FD:=bB 0 lU
theorem pU (T:TX P w K mg base):Ok P w K mg base "is_whole" 1 1 jw:=b9 (bZ T.f 17 rfl) ["thing"] ba rfl fun f _ A _ s H E nd hr=>by delta lU;repeat' walk_at "Q"
noncomputable def gH:GS:=(az (du (ah 1 jw (aa (ae 0) af)) (lB jb jb (ae 1) (ae 0) (ae 2))))
noncomputable def aY:FD:=bB 0 gH
theorem cp (T:TX P w K mg base):Ok P w K mg base "is_within" 2 3 aY:=b9 (bZ T.f 18 rfl) ["thing","low","high"] ba rfl fun f _ A _ s H E nd hr=>by have:=pU T;delta gH;repeat' walk_at "Q"
noncomputable def ij:GS:=(ao (cD (bY (aN (bf (bO "tuple" (ae 0)))) (aH (g2 (aR true) (aq aJ (aa (ae 0) af)) (gC (.int 4))))) (az (gC (.bl false))) aB) (ao (g6 (fF [1,2,3,4]) (ae 0)) (az (du (ah 3 aY (aa (ae 1) (aa (gC (.int 1)) (aa (gC (.int 40)) af)))) (du (ah 3 aY (aa (ae 2) (aa (gC (.int 1)) (aa (gC (.int 40)) af)))) (du (ah 3 aY (aa (ae 3) (aa (gC (.int 0)) (aa (gC (.int 20)) af)))) (ah 3 aY (aa (ae 4) (aa (gC (.int 0)) (aa (gC (.int 12)) af))))))))))
noncomputable def iE:FD:=bB 4 ij
theorem pc (T:TX P w K mg base):Ok P w K mg base "is_frame" 3 1 iE:=b9 (bZ T.f 19 rfl) ["thing","wide","high","gap","most"] ba rfl fun f _ A _ s H E nd hr=>by have:=cp T;delta ij;repeat' walk_at "Q"
noncomputable def oR:GS:=(az (ah 3 aY (aa (ae 0) (aa (gC (.int 0)) (aa (gC (.int 15)) af)))))
noncomputable def lX:FD:=bB 0 oR
theorem uf (T:TX P w K mg base):Ok P w K mg base "is_ink" 3 1 lX:=b9 (bZ T.f 20 rfl) ["thing"] ba rfl fun f _ A _ s H E nd hr=>by have:=cp T;delta oR;repeat' walk_at "Q"
noncomputable def fA:GE:=(ah 1 lX (aa (ae 0) af))
noncomputable def fU:GS:=(az (du (bO "tuple" (ae 0)) (aq dA (aa (bv (cS (ae 0)) ce fA aV) af))))
noncomputable def h8:FD:=bB 0 fU
theorem mV (T:TX P w K mg base):Ok P w K mg base "is_ink_row" 4 1 h8:=b9 (bZ T.f 21 rfl) ["thing"] ba rfl fun f _ A _ s H E nd hr=>by have:=uf T;delta fU fA;repeat' walk_at "Q"
noncomputable def eh:GE:=(ah 1 h8 (aa (ae 0) af))
noncomputable def cT:GE:=(g2 (aR false) (aq aJ (aa (ae 0) af)) (ae 3))
noncomputable def eT:GS:=(ao (cD (bY (aN (bf (bO "tuple" (ae 0)))) (aN (aH (lB jb jb (gC (.int 1)) (aq aJ (aa (ae 0) af)) (ae 1))))) (az (gC (.bl false))) aB) (ao (cD (aN (bf (aq dA (aa (bv (cS (ae 0)) ce eh aV) af)))) (az (gC (.bl false))) aB) (ao (aM 2 (aq aJ (aa (g2 aK (ae 0) (gC (.int 0))) af))) (az (du (lB jb jb (gC (.int 1)) (ae 2) (ae 1)) (aq dA (aa (bv (cS (ae 0)) ce cT aV) af)))))))
noncomputable def eL:FD:=bB 1 eT
theorem iJ (T:TX P w K mg base):Ok P w K mg base "is_ink_block" 5 2 eL:=b9 (bZ T.f 22 rfl) ["thing","most","length"] ba rfl fun f _ A _ s H E nd hr=>by have:=mV T;delta eT eh cT;repeat' walk_at "Q"
noncomputable def iC:GS:=(az (ah 2 eL (aa (ae 0) (aa (gC (.int 8)) af))))
noncomputable def jq:FD:=bB 0 iC
theorem pz (T:TX P w K mg base):Ok P w K mg base "is_shape" 6 1 jq:=b9 (bZ T.f 23 rfl) ["thing"] ba rfl fun f _ A _ s H E nd hr=>by have:=iJ T;delta iC;repeat' walk_at "Q"
noncomputable def iu:GE:=(ah 1 jq (aa (ae 0) af))
noncomputable def jf:GS:=(az (du (bO "tuple" (ae 0)) (du (g2 jb (aq aJ (aa (ae 0) af)) (gC (.int 8))) (aq dA (aa (bv (cS (ae 0)) ce iu aV) af)))))
noncomputable def kH:FD:=bB 0 jf
theorem qa (T:TX P w K mg base):Ok P w K mg base "is_book" 7 1 kH:=b9 (bZ T.f 24 rfl) ["thing"] ba rfl fun f _ A _ s H E nd hr=>by have:=pz T;delta jf iu;repeat' walk_at "Q"
noncomputable def de:GS:=(az (zm (g2 (fB false) (ae 1) (gC .non)) (ah 3 aY (aa (ae 1) (aa (gC (.int 0)) (aa (g2 gR (aq aJ (aa (ae 0) af)) (gC (.int 1))) af))))))
noncomputable def eV:FD:=bB 0 de
theorem jo (T:TX P w K mg base):Ok P w K mg base "is_shape_number" 3 2 eV:=b9 (bZ T.f 25 rfl) ["book","thing"] ba rfl fun f _ A _ s H E nd hr=>by have:=cp T;delta de;repeat' walk_at "Q"
noncomputable def gY:GE:=(ah 3 aY (aa (ae 0) (aa (eI (gC (.int 1000))) (aa (gC (.int 1000)) af))))
noncomputable def cU:GS:=(az (du (bO "tuple" (ae 0)) (du (g2 (aR false) (aq aJ (aa (ae 0) af)) (gC (.int 2))) (aq dA (aa (bv (cS (ae 0)) ce gY aV) af)))))
noncomputable def cf:FD:=bB 0 cU
theorem gX (T:TX P w K mg base):Ok P w K mg base "is_place_pair" 3 1 cf:=b9 (bZ T.f 26 rfl) ["thing"] ba rfl fun f _ A _ s H E nd hr=>by have:=cp T;delta cU gY;repeat' walk_at "Q"
noncomputable def nF:GS:=(az (ah 3 aY (aa (ae 0) (aa (gC (.int 0)) (aa (gC (.int 3)) af)))))
noncomputable def kq:FD:=bB 0 nF
theorem qO (T:TX P w K mg base):Ok P w K mg base "is_rank" 3 1 kq:=b9 (bZ T.f 27 rfl) ["thing"] ba rfl fun f _ A _ s H E nd hr=>by have:=cp T;delta nF;repeat' walk_at "Q"
noncomputable def nh:GS:=(az (ah 3 aY (aa (ae 0) (aa (gC (.int 0)) (aa (gC (.int 3)) af)))))
noncomputable def kz:FD:=bB 0 nh
theorem qV (T:TX P w K mg base):Ok P w K mg base "is_turn" 3 1 kz:=b9 (bZ T.f 28 rfl) ["thing"] ba rfl fun f _ A _ s H E nd hr=>by have:=cp T;delta nh;repeat' walk_at "Q"
noncomputable def iF:GS:=(ao (cD (bY (aN (bf (bO "tuple" (ae 1)))) (aH (g2 (aR true) (aq aJ (aa (ae 1) af)) (gC (.int 5))))) (az (gC (.bl false))) aB) (ao (g6 (fF [2,3,4,5,6]) (ae 1)) (az (du (ah 2 eV (aa (ae 0) (aa (ae 2) af))) (du (ah 1 cf (aa (aI (aa (ae 3) (aa (ae 4) af))) af)) (du (ah 1 kq (aa (ae 5) af)) (ah 1 kz (aa (ae 6) af))))))))
noncomputable def jF:FD:=bB 5 iF
theorem pR (T:TX P w K mg base):Ok P w K mg base "is_mover" 4 2 jF:=b9 (bZ T.f 29 rfl) ["book","thing","shape","x","y","rank","turn"] ba rfl fun f _ A _ s H E nd hr=>by have:=jo T;have:=gX T;have:=qO T;have:=qV T;delta iF;repeat' walk_at "Q"
noncomputable def fj:GE:=(ah 2 jF (aa (ae 1) (aa (ae 0) af)))
noncomputable def fS:GS:=(az (du (bO "tuple" (ae 1)) (du (g2 jb (aq aJ (aa (ae 1) af)) (gC (.int 12))) (aq dA (aa (bv (cS (ae 1)) ce fj aV) af)))))
noncomputable def ir:FD:=bB 0 fS
theorem mZ (T:TX P w K mg base):Ok P w K mg base "are_movers" 5 2 ir:=b9 (bZ T.f 30 rfl) ["book","thing"] ba rfl fun f _ A _ s H E nd hr=>by have:=pR T;delta fS fj;repeat' walk_at "Q"
noncomputable def pv:GS:=(az (ah 3 aY (aa (ae 0) (aa (gC (.int 0)) (aa (gC (.int 63)) af)))))
noncomputable def mh:FD:=bB 0 pv
theorem ua (T:TX P w K mg base):Ok P w K mg base "is_hue" 3 1 mh:=b9 (bZ T.f 31 rfl) ["thing"] ba rfl fun f _ A _ s H E nd hr=>by have:=cp T;delta pv;repeat' walk_at "Q"
noncomputable def gJ:GE:=(ah 1 mh (aa (ae 0) af))
noncomputable def iD:GS:=(az (du (bO "tuple" (ae 0)) (du (g2 (aR false) (aq aJ (aa (ae 0) af)) (gC (.int 16))) (aq dA (aa (bv (cS (ae 0)) ce gJ aV) af)))))
noncomputable def jB:FD:=bB 0 iD
theorem pf (T:TX P w K mg base):Ok P w K mg base "are_pots" 4 1 jB:=b9 (bZ T.f 32 rfl) ["thing"] ba rfl fun f _ A _ s H E nd hr=>by have:=ua T;delta iD gJ;repeat' walk_at "Q"
noncomputable def iw:GS:=(ao (cD (bY (aN (bf (bO "tuple" (ae 0)))) (aH (g2 (aR true) (aq aJ (aa (ae 0) af)) (gC (.int 5))))) (az (gC (.bl false))) aB) (ao (g6 (fF [1,2,3,4,5]) (ae 0)) (ao (cD (aN (bK (bf (ah 2 eL (aa (ae 1) (aa (gC (.int 16)) af)))) (bK (bf (ah 1 cf (aa (ae 2) af))) (bf (ah 1 jB (aa (ae 5) af)))))) (az (gC (.bl false))) aB) (az (du (ah 1 kH (aa (ae 3) af)) (ah 2 ir (aa (ae 3) (aa (ae 4) af))))))))
noncomputable def ia:FD:=bB 5 iw
theorem pr (T:TX P w K mg base):Ok P w K mg base "is_stand" 8 1 ia:=b9 (bZ T.f 33 rfl) ["thing","floor","shift","book","movers","pots"] ba rfl fun f _ A _ s H E nd hr=>by have:=iJ T;have:=qa T;have:=gX T;have:=mZ T;have:=pf T;delta iw;repeat' walk_at "Q"
noncomputable def gN:GS:=(ao (g6 (fF [1,2]) (ae 0)) (az (aI (aa (g2 aK (ae 1) (gC (.int 2))) (aa (g2 aK (ae 2) (gC (.int 2))) af)))))
noncomputable def iR:FD:=bB 2 gN
theorem oh (T:TX P w K mg base):Ok P w K mg base "places_of" 1 1 iR:=b9 (bZ T.f 34 rfl) ["pair","across","down"] ba rfl fun f _ A _ s H E nd hr=>by delta gN;repeat' walk_at "Q"
noncomputable def i9:GS:=(ao (cD (bY (aN (bf (bO "tuple" (ae 0)))) (aH (g2 (aR true) (aq aJ (aa (ae 0) af)) (gC (.int 4))))) (az (gC (.bl false))) aB) (ao (g6 (fF [1,2,3,4]) (ae 0)) (az (du (ah 3 aY (aa (ae 1) (aa (eI (gC (.int 900))) (aa (gC (.int 900)) af)))) (du (ah 3 aY (aa (ae 2) (aa (ae 1) (aa (g2 aW (ae 1) (gC (.int 12))) af)))) (du (ah 3 aY (aa (ae 3) (aa (ae 1) (aa (ae 2) af)))) (ah 3 aY (aa (ae 4) (aa (eI (gC (.int 12))) (aa (gC (.int 12)) af))))))))))
noncomputable def kL:FD:=bB 4 i9
theorem qP (T:TX P w K mg base):Ok P w K mg base "is_path" 3 1 kL:=b9 (bZ T.f 35 rfl) ["thing","low","high","at","step"] ba rfl fun f _ A _ s H E nd hr=>by have:=cp T;delta i9;repeat' walk_at "Q"
noncomputable def f9:GE:=(ah 1 kL (aa (ae 0) af))
noncomputable def fi:GS:=(ao (cD (aH (g2 (fB false) (ae 1) (gC .non))) (az (gC (.bl true))) aB) (ao (cD (bY (aN (bf (bO "tuple" (ae 1)))) (bY (aH (g2 (aR true) (aq aJ (aa (ae 1) af)) (gC (.int 2)))) (aN (bf (aq dA (aa (bv (cS (ae 1)) ce f9 aV) af)))))) (az (gC (.bl false))) aB) (az (g2 (aR false) (jh (ae 0) (bR (gC (.int 1))) (bR (gC (.int 3)))) (ah 1 iR (aa (ae 1) af))))))
noncomputable def fm:FD:=bB 0 fi
theorem lY (T:TX P w K mg base):Ok P w K mg base "is_pair_for" 4 2 fm:=b9 (bZ T.f 36 rfl) ["mover","thing"] ba rfl fun f _ A _ s H E nd hr=>by have:=oh T;have:=qP T;delta fi f9;repeat' walk_at "Q"
noncomputable def jn:GE:=(ah 2 fm (aa (ae 0) (aa (ae 1) af)))
noncomputable def jg:GS:=(ao (cD (bY (aN (bf (bO "tuple" (ae 0)))) (aH (g2 (aR true) (aq aJ (aa (ae 0) af)) (gC (.int 3))))) (az (gC (.bl false))) aB) (ao (g6 (fF [1,2,3]) (ae 0)) (ao (cD (aN (bK (bf (ah 1 iE (aa (ae 1) af))) (bK (bf (ah 1 ia (aa (ae 2) af))) (bf (bO "tuple" (ae 3)))))) (az (gC (.bl false))) aB) (ao (aM 4 (g2 aK (ae 2) (gC (.int 3)))) (ao (cD (aH (g2 (aR true) (aq aJ (aa (ae 3) af)) (aq aJ (aa (ae 4) af)))) (az (gC (.bl false))) aB) (az (aq dA (aa (fJ (uK (aa (ae 4) (aa (ae 3) af))) 2 (fF [0,1]) ce jn aV) af))))))))
noncomputable def fh:FD:=bB 4 jg
theorem l5 (T:TX P w K mg base):Ok P w K mg base "is_film" 9 1 fh:=b9 (bZ T.f 37 rfl) ["thing","frame","stand","paths","movers"] ba rfl fun f _ A _ s H E nd hr=>by have:=pc T;have:=pr T;have:=lY T;have:=rn 147 15 ["mover","pair"] ["thing","frame","stand","paths","movers"];delta jg jn;repeat' walk_at "Q"
noncomputable def dD:GS:=(ao (eP (jM (ae 2) (ah 2 ai (aa (ae 0) (aa (aq aJ (aa (ae 1) af)) af))))) (aM 1 (g2 aK (ae 1) (g2 aK (ae 2) (eI (gC (.int 1)))))))
noncomputable def bj:GT:=(bK (bf (bO "tuple" (ae 1))) (bK (aH (g2 jV (aq aJ (aa (ae 1) af)) (gC (.int 0)))) (aH (g2 jV (ah 2 ai (aa (ae 0) (aa (gC (.int 8)) af))) (gC (.int 0))))))
noncomputable def fI:GS:=(ao (aM 2 (i6 af)) (ao (mK 5000 bj dD) (az (ae 2))))
noncomputable def eG:FD:=fun ds M=>ju M.length (bB 1 fI ds M)
theorem oN (T:TX P w K mg base):Ok P w K mg base "_law_path" 2 2 eG:=nP (F:=bB 1 fI) <| b9 (bZ T.f 38 rfl) ["tape","thing","path"] ba rfl fun f _ A _ s H E nd hr=>by have:=aZ T;delta fI dD bj;repeat' walk_at "Q"
noncomputable def gK:GS:=(aM 0 (g2 aK (ae 0) (ae 2)))
noncomputable def jI:GS:=(ao (kJ (cS (ae 1)) (fQ 2) gK) (az (ae 0)))
noncomputable def fg:FD:=bB 1 jI
theorem oQ (T:TX P w K mg base):Ok P w K mg base "_law_got" 1 2 fg:=b9 (bZ T.f 39 rfl) ["thing","path","step"] ba rfl fun f _ A _ s H E nd hr=>by delta jI gK;repeat' walk_at "Q"
noncomputable def fZ (F:FD):GS:=(ao (cD (aH (g2 (aR false) (ae 1) (cX af))) (az (ae 2)) aB) (ao (aM 3 (g2 aK (ae 1) (gC (.int 0)))) (ao (aM 4 (ah 3 F (aa (g2 aK (ae 0) (ae 3)) (aa (jh (ae 1) (bR (gC (.int 1))) aT) (aa (ae 2) af))))) (az (g2 aW (g2 aW (jh (ae 0) aT (bR (ae 3))) (aI (aa (ae 4) af))) (jh (ae 0) (bR (g2 aW (ae 3) (gC (.int 1)))) aT))))))
noncomputable def bh:Nat→FD
 | 0=>fun _ _=>.bad
 | n+1=>bB 2 (fZ (bh n))
theorem lc (T:TX P w K mg base):∀n:Nat,Ok P w K mg base "_law_put" (n+1) 3 (bh n)
 | 0=>B3 (bZ T.f 40 rfl)
 | n+1=>by
  have e:n+1+1=n+1+1:=by omega
  rw[e];have:=lc T n;exact b9 (bZ T.f 40 rfl) ["thing","path","other","at","inner"] ba rfl fun f _ A _ s H E nd hr=>by delta fZ;repeat' walk_at "Q"
noncomputable def jC:GS:=(ao (aM 1 (cX (aa (gC .non) (aa (gC (.bl true)) (aa (gC (.bl false)) (aa (eI (gC (.int 1))) (aa (gC (.int 0)) (aa (gC (.int 1)) (aa (gC (.int 16)) (aa (gC (.int 64)) (aa (gC (.int 40)) (aa (gC (.int 41)) (aa (gC (.int 1001)) (aa (eI (gC (.int 1001))) (aa (gC (.int 13)) (aa (gC (.str "")) (aa (gC (.str "shift")) (aa (gC (.str "pot")) (aa (cX af) (aa (aI af) af)))))))))))))))))))) (ao (aM 1 (g2 aW (ae 1) (cX (aa (aI (aa (gC (.int 0)) af)) (aa (aI (aa (gC (.int 0)) (aa (gC (.int 0)) af))) (aa (cX (aa (gC (.int 0)) (aa (gC (.int 0)) af))) af)))))) (ao (aM 1 (g2 aW (ae 1) (cX (aa (aI (aa (aI (aa (gC (.int 0)) af)) af)) (aa (aI (aa (aI (aa (gC (.int 0)) (aa (gC (.int 1)) af))) (aa (aI (aa (gC (.int 1)) af)) af))) (aa (aI (aa (gC (.int 1)) (aa (gC (.int 2)) (aa (gC (.int 3)) (aa (gC (.int 4)) (aa (gC (.int 5)) af)))))) (aa (aI (aa (gC (.str "move")) (aa (gC (.int 0)) (aa (gC (.int 0)) (aa (gC (.int 0)) af))))) (aa (aI (aa (aI (aa (gC (.int 1)) (aa (gC (.bl true)) af))) af)) (aa (cX (aa (cX (aa (gC (.int 0)) af)) af)) (aa (gC (.int 8)) (aa (gC (.int 3)) (aa (gC (.int 4)) (aa (gC (.str "0")) (aa (gC (.int 12)) af)))))))))))))) (az (g2 aK (g2 aW (ae 1) (cX (aa (ah 2 ai (aa (ae 0) (aa (g2 li (gC (.int 10)) (gC (.int 30))) af))) (aa (g2 gR (gC (.int 0)) (ah 2 ai (aa (ae 0) (aa (g2 li (gC (.int 10)) (gC (.int 30))) af)))) af)))) (ah 2 ai (aa (ae 0) (aa (gC (.int 34)) af))))))))
noncomputable def en:FD:=bB 1 jC
theorem k9 (T:TX P w K mg base):Ok P w K mg base "_law_any" 2 1 en:=b9 (bZ T.f 41 rfl) ["tape","some"] ba rfl fun f _ A _ s H E nd hr=>by have:=aZ T;delta jC;repeat' walk_at "Q"
noncomputable def fu:GS:=(ao (aM 2 (ah 2 eG (aa (ae 0) (aa (ae 1) af)))) (ao (aM 3 (ah 2 fg (aa (ae 1) (aa (ae 2) af)))) (ao (aM 4 (ah 2 ai (aa (ae 0) (aa (gC (.int 5)) af)))) (ao (cD (bK (bf (bO "tuple" (ae 3))) (aH (g2 (aR false) (ae 4) (gC (.int 1))))) (az (ah 3 (bh 20) (aa (ae 1) (aa (ae 2) (aa (aq jm (aa (ae 3) af)) af))))) aB) (ao (cD (bK (bf (bO "tuple" (ae 3))) (aH (g2 (aR false) (ae 4) (gC (.int 2))))) (az (ah 3 (bh 20) (aa (ae 1) (aa (ae 2) (aa (jh (ae 3) aT (bR (eI (gC (.int 1))))) af))))) aB) (ao (cD (bK (bf (bO "tuple" (ae 3))) (bK (aH (g2 (aR false) (ae 4) (gC (.int 3)))) (aH (g2 jV (aq aJ (aa (ae 3) af)) (gC (.int 0)))))) (az (ah 3 (bh 20) (aa (ae 1) (aa (ae 2) (aa (g2 aW (ae 3) (jh (ae 3) aT (bR (gC (.int 1))))) af))))) aB) (ao (cD (bK (aH (g2 (aR false) (ae 4) (gC (.int 4)))) (bf (bO "int" (ae 3)))) (az (ah 3 (bh 20) (aa (ae 1) (aa (ae 2) (aa (g2 aW (ae 3) (g2 aK (cX (aa (gC (.int 1)) (aa (eI (gC (.int 1))) (aa (gC (.int 64)) (aa (gC (.int 1000)) af))))) (ah 2 ai (aa (ae 0) (aa (gC (.int 4)) af))))) af))))) aB) (az (ah 3 (bh 20) (aa (ae 1) (aa (ae 2) (aa (ah 1 en (aa (ae 0) af)) af))))))))))))
noncomputable def cr:FD:=bB 3 fu
theorem mJ (T:TX P w K mg base):Ok P w K mg base "_law_spoilt" 22 2 cr:=b9 (bZ T.f 42 rfl) ["tape","thing","path","here","way"] ba rfl fun f _ A _ s H E nd hr=>by have:=aZ T;have:=oN T;have:=oQ T;have:=lc T 20;have:=k9 T;delta fu;repeat' walk_at "Q"
noncomputable def cK:GS:=(ao (g6 (fF [2,3,4]) (ae 1)) (ao (aM 5 (ah 2 ai (aa (ae 0) (aa (gC (.int 6)) af)))) (ao (aM 6 (ah 2 ai (aa (ae 0) (aa (g2 aW (aq aJ (aa (ae 4) af)) (gC (.int 1))) af)))) (ao (cD (aH (g2 (aR false) (ae 5) (gC (.int 0)))) (az (aI (aa (ae 2) (aa (ae 3) (aa (g2 aW (jh (ae 4) aT (bR (ae 6))) (jh (ae 4) (bR (g2 aW (ae 6) (gC (.int 1)))) aT)) af))))) aB) (ao (cD (aH (g2 (aR false) (ae 5) (gC (.int 1)))) (az (aI (aa (ae 2) (aa (ae 3) (aa (g2 aW (g2 aW (jh (ae 4) aT (bR (ae 6))) (aI (aa (gC .non) af))) (jh (ae 4) (bR (ae 6)) aT)) af))))) aB) (ao (cD (bK (aH (g2 ni (ae 5) (gC (.int 4)))) (bK (aH (g2 ni (ae 6) (aq aJ (aa (ae 4) af)))) (aH (g2 (fB true) (g2 aK (ae 4) (ae 6)) (gC .non))))) (az (aI (aa (ae 2) (aa (ae 3) (aa (g2 aW (g2 aW (jh (ae 4) aT (bR (ae 6))) (aI (aa (ah 2 cr (aa (ae 0) (aa (g2 aK (ae 4) (ae 6)) af))) af))) (jh (ae 4) (bR (g2 aW (ae 6) (gC (.int 1)))) aT)) af))))) aB) (az (ah 2 cr (aa (ae 0) (aa (ae 1) af))))))))))
noncomputable def bM:FD:=bB 5 cK
theorem jl (T:TX P w K mg base):Ok P w K mg base "_law_film_spoilt" 23 2 bM:=b9 (bZ T.f 43 rfl) ["tape","film","frame","stand","paths","way","at"] ba rfl fun f _ A _ s H E nd hr=>by have:=aZ T;have:=mJ T;delta cK;repeat' walk_at "Q"
noncomputable def eC:GS:=(ao (aM 1 (i6 (aa (gp (oO [("NoFilm",false)]) (ae 0)) (aa (gp (oO [("NoFilm",false)]) (ae 0)) (aa (gp (oO [("NoFilm",false)]) (ae 0)) af))))) (ao (aM 1 (g2 nU (ae 1) (cX (aa (gp (oO [("NoFilm",false)]) (ae 0)) (aa (gp (oO [("NoFilm",false)]) (ae 0)) (aa (gp (oO [("NoFilm",false)]) (ae 0)) af)))))) (ao (aM 1 (g2 nU (ae 1) (cX (aa (gp (oO [("NoFilm",false)]) (ae 0)) (aa (gp (oO [("NoFilm",false)]) (ae 0)) (aa (gp (oO [("NoFilm",true)]) (ae 0)) af)))))) (ao (eP (jM (ae 1) (gp (oO [("NoFilm",false)]) (ae 0)))) (ao (cD (bY (aN (bf (gp (oO [("NoFilm",true)]) (ae 0)))) (aH (g2 (aR true) (gE iX (ae 1) (gC (.bl true))) (gC (.int 1))))) (az (aI (aa (gC (.str "another")) af))) aB) (ao (aM 2 (cX (aa (gC (.str "frame")) (aa (gC (.str "stand")) (aa (gC (.str "tick")) (aa (gC (.str "deed")) (aa (gC (.str "over")) (aa (gC (.str "score")) (aa (gC (.str "clash")) (aa (gC (.str "text")) (aa (gC (.str "film")) (aa (gC (.str "row")) af)))))))))))) (az (aI (aa (g2 aK (ae 2) (gE iU (ae 1) (gC (.bl true)))) af)))))))))
noncomputable def gF:FD:=fun ds M=>ju M.length (bB 2 eC ds M)
theorem oI (T:TX P w K mg base):Ok P w K mg base "_law_word" 1 1 gF:=nP (F:=bB 2 eC) <| b9 (bZ T.f 44 rfl) ["error","kinds","words"] ba rfl fun f _ A _ s H E nd hr=>by delta eC;repeat' walk_at "Q"
noncomputable def d9:GS:=(ao (iH "Past" "now" (ae 0) (ae 1)) (iH "Past" "earlier" (ae 0) (cX af)))
noncomputable def dU:FD:=bB 0 d9
theorem ka (T:TX P w K mg base):Om P w K mg base "Past" "__init__" 1 2 dU:=D4 (DC T.m 0 rfl) ["self","now"] ba rfl fun f _ A _ s H E nd hr=>by delta d9;repeat' walk_at "Q"
noncomputable def iG:GS:=(ao (cD (aN (bf (ah 1 fh (aa (ae 1) af)))) (gP "NoFilm" (gC (.str "that is no film"))) aB) (iH "Reel" "past" (ae 0) (eB "Past" 2 dU (aa (aI (aa (gC (.int 0)) (aa (ae 1) af))) af))))
noncomputable def bu:FD:=bB 0 iG
theorem kD (T:TX P w K mg base):Om P w K mg base "Reel" "__init__" 10 2 bu:=D4 (DC T.m 1 rfl) ["self","film"] ba rfl fun f _ A _ s H E nd hr=>by have:=l5 T;have:=ka T;delta iG;repeat' walk_at "Q"
noncomputable def fG:GS:=(ao (aM 1 (gC .non)) (ao (jP 2 (List.contains ["NoFilm"]) (eP (eB "Reel" 2 bu (aa (ae 0) af))) (aM 1 (ae 2))) (ao (cD (aH (g2 (fB false) (ae 1) (gC .non))) (az (aI (aa (gC (.str "made")) af))) aB) (az (ah 1 gF (aa (ae 1) af))))))
noncomputable def iP:FD:=fun ds M=>ju M.length (bB 2 fG ds M)
theorem nN (T:TX P w K mg base):Ok P w K mg base "_law_made" 12 1 iP:=nP (F:=bB 2 fG) <| b9 (bZ T.f 45 rfl) ["thing","error","e"] ba rfl fun f _ A _ s H E nd hr=>by have:=oI T;have:=kD T;delta fG;repeat' walk_at "Q"
noncomputable def oz:GS:=(ao (aM 3 (ah 2 iV (aa (ae 1) (aa (gC (.int 8)) af)))) (ao (aM 4 (ah 2 ai (aa (ae 1) (aa (gC (.int 8)) af)))) (ao (cD (aH (g2 jV (ae 4) (gC (.int 1)))) (aM 3 (ah 2 bM (aa (ae 1) (aa (ae 3) af)))) aB) (ao (cD (aH (g2 (aR false) (ae 4) (gC (.int 1)))) (aM 3 (ah 1 en (aa (ae 1) af))) aB) (ao (aM 5 (ah 1 eM (aa (ae 3) af))) (ao (aM 6 (ah 1 fh (aa (ae 3) af))) (ao (cD (bY (aN (bf (bO "bool" (ae 6)))) (aH (g2 (aR true) (ae 6) (ae 5)))) (az (gC (.bl false))) aB) (cD (aH (g2 (aR true) (ah 1 iP (aa (ae 3) af)) (g2 aK (cX (aa (aI (aa (gC (.str "film")) af)) (aa (aI (aa (gC (.str "made")) af)) af))) (aq mO (aa (ae 5) af))))) (az (gC (.bl false))) aB))))))))
noncomputable def rm:GS:=(ao (aM 1 (i6 (aa (aq jm (aa (ae 0) af)) (aa (gC (.int 0)) (aa (gC (.int 0)) af))))) (ao (kJ (eA (aa (gC (.int 8)) af)) (fQ 2) oz) (az (gC (.bl true)))))
noncomputable def rP:FD:=bB 6 rm
theorem Al (T:TX P w K mg base){f:Addr}{fd:FuncData}(F:Fn K mg "law" yS f fd ["script"]):fE P w K mg base (jJ P w) 24 f fd ["script"] (nJ K 1 rP):=Az F.F (N:=["script","tape","turn","thing","way","due","found"]) ba rfl fun _ A _ s H E hr=>by
 have nd:(["script","tape","turn","thing","way","due","found"]:List Str).Nodup:=by decide +kernel
 have:=aZ T;have:=nM T;have:=lr T;have:=l5 T;have:=k9 T;have:=jl T;have:=nN T;delta rm oz;repeat' walk_at "Q"
end
end K29
section
open PySem PySem.W PyProof.Rows
noncomputable abbrev K29.VV:Program:=(view PySem.Challenge.pw_glowrow_k29_what_is_a_film [0,2,3,4,5,6,7,8,9,10,11,12,14,15,17,19,20,21,22,23,25,26,27,28,29,30,31,32,33,34,35,36,37,38,40,41,42,43,44,45,46,47,48,49,51,52,53,55,56,57,58,59,60,61,62,63,64,65,66,67,68,69,70,71,72,73,74,75,76,77,78,79,80])
set_option maxHeartbeats 0 in
theorem K29.h1:∀(w:World) (os:OsState),(Hd.RT (OpenLaw.row PySem.Challenge.rw_glowrow_k29_what_is_a_film).prog w 9910 os).map (fun s=>Hd.pA (OpenLaw.row PySem.Challenge.rw_glowrow_k29_what_is_a_film).prog w.params s.abs&&Hd.pB K29.VV (importedModules (OpenLaw.row PySem.Challenge.rw_glowrow_k29_what_is_a_film).prog.main.body) (fun s=>xlAt K29.VV [] s&&recOk (RowW.records (OpenRow.toRowW (OpenLaw.row PySem.Challenge.rw_glowrow_k29_what_is_a_film))) s) s.abs)=some true:=by
 intro w os;unfold Hd.RT;rw[W.Fast.te15732481512506401174,W.Fast.te2530740449226627131,W.Fast.te13930993214811372802];kernel_rfl
set_option maxHeartbeats 0 in
theorem K29.h2:∀(w:World) (os:OsState),(Hd.RT (OpenLaw.row PySem.Challenge.rw_glowrow_k29_what_is_a_film).prog w 9910 os).map (fun s=>Hd.pC K29.VV s.abs)=some (expectedOf K29.VV,bltViewBooted,wideGood K29.VV):=by
 intro w os;unfold Hd.RT;rw[W.Fast.te15732481512506401174,W.Fast.te2530740449226627131,W.Fast.te7338995916957470747];kernel_rfl
set_option maxHeartbeats 0 in
theorem K29.h3:∀(w:World) (os:OsState),(Hd.RT (OpenLaw.row PySem.Challenge.rw_glowrow_k29_what_is_a_film).prog w 9910 os).map (fun s=>Hd.pD K29.VV s.abs)=some (pinGoodD (drecsOf K29.VV),plainGoodE K29.VV (looseW K29.VV []),plainGoodD K29.VV [],clsGoodW K29.VV []):=by
 intro w os;unfold Hd.RT;rw[W.Fast.te15732481512506401174,W.Fast.te2530740449226627131,W.Fast.te4913325751328045840];kernel_rfl
local macro_rules | `(tactic| o_head $H) => `(tactic| (
 refine holds_open (q:=K29.VV) (loose:=[]) (Xt:=(fun s=>xlAt K29.VV [] s&&recOk (RowW.records (OpenRow.toRowW (OpenLaw.row PySem.Challenge.rw_glowrow_k29_what_is_a_film))) s)) (XP:=XL K29.VV []) (Yf:=Hook.obs $H) (Ya:=Hook.val $H) (YP:=Hook.says $H) (N:=9910) ?hl (Hook.of $H) (Hook.keeps $H) (fun s e=>xl_of s (Bool.and_eq_true_iff.mp e).1) XL.keeps (by rfl) (by rfl) (by rfl) (fun s e=>recFacts_of (Bool.and_eq_true_iff.mp e).2) (by rfl) (by first|assumption|decide +kernel) (by decide +kernel) ⟨rfl,rfl,rfl,rfl,rfl,by decide +kernel⟩ ?hw ?hc;
 (case hl=>
  refine Hd.left_k (boot_open (by kernel_rfl) rfl (fun s=>by kernel_rfl)) (fun w=>by kernel_rfl) K29.h1 K29.h2 K29.h3 ?_;intro w os;unfold Hd.RT;rw[W.Fast.te15732481512506401174,W.Fast.te2530740449226627131];kernel_rfl)))
set_option hygiene false
local macro_rules | `(tactic| walk_at "us") => `(tactic| first | rfl | (exfalso; simp at hl; done) | (cases us with | nil => (first | rfl | cases hl) | cons _ us => walk_at "us"))
local macro_rules | `(tactic| walk_at "kc") => `(tactic| refine' DL.DT KX G ?y0 ?y1 ?y2 ?y3 ?y4 ?y5 ?y6; (case y0 => k_is); (case y1 => k_is); (case y2 => k_is); (case y3 => k_is); (case y4 => k_is); (case y5 => k_is); (case y6 => k_is))
local macro_rules | `(tactic| walk_at "ec") => `(tactic| refine' DL.CH KX G ?w0 ?w1 ?w2 ?w3 ?w4 ?w5 ?w6 ?w7 ?w8 ?w9 ?w10 ?w11; (case w0 => k_is); (case w1 => k_is); (case w2 => k_is); (case w3 => k_is); (case w4 => k_is); (case w5 => k_is); (case w6 => k_is); (case w7 => k_is); (case w8 => k_is); (case w9 => k_exc); (case w10 => k_is); (case w11 => k_is))
local macro_rules | `(tactic| walk_at "ff") => `(tactic| (refine' DL.C9 KX G ?x0 ?x1 ?x2 ?x3 ?x4; (case x0 => k_is); (case x1 => k_is); (case x2 => k_is); (case x3 => k_is); (case x4 => (intro _ _ _ _ _ _ us hl; walk_at "us"))))
local macro_rules | `(tactic| walk_at "mf") => `(tactic| (refine' DL.Eg ?x0 ?x1 ?x2 ?x3 ?x4 ?x5 ?x6; (case x0 => walk_at "kc"); (case x1 => k_is); (case x2 => k_is); (case x3 => k_is); (case x4 => k_is); (case x5 => k_is); (case x6 => (intro _ _ _ _ _ _ us hl; walk_at "us"))))
local macro_rules | `(tactic| walk_at "im") => `(tactic| (refine' DL.Di ?v0 ?v1; (case v0 => walk_at "ec"); (case v1 => k_is)))
set_option maxRecDepth 100000 in
set_option maxHeartbeats 0 in
theorem K29.pre (ht:∀ns:List Int,ns.length≤63→∃M',K29.rP [.ro (ns.map DL.D.int)] []=.ok (.bl true) M'):PySem.Challenge.rw_glowrow_k29_what_is_a_film.Holds:=by
 w_on;o_law;k_head;(case hw=>w_witness2)
 k_fill
 refine DL.zL (l:=PySem.Challenge.rw_glowrow_k29_what_is_a_film) (n:=63) (k:=24) (x:="script") (F:=K29.rP) rfl (by decide) rfl ⟨rfl,by decide,by decide⟩ (fun w h Y=>W.kIn_of Y) ?F ?t1 ?t2 ?t3 ?t4 ht
 case F=>
  intro w mg fa h KX G hmg;refine DL.Bd (st:=K29.yS) hmg ?L (fun base f fd L=>K29.Al ?TT L) (fun _ _ _ _ _ _ _=>rfl)
  (case TT=>
   refine DL.Tx.mk ?q0 ?q1 ?q2 ?q3 ?q4 ?q5 ?q6 ?q7 ?q8 ?q9
   (case q0=>((repeat (refine' DL.Ls.cons ?x ?_;(case x=>(walk_at "ff"))));exact DL.Ls.nil))
   (case q1=>((repeat (refine' DL.Ls.cons ?x ?_;(case x=>(walk_at "mf"))));exact DL.Ls.nil))
   (case q2=>((repeat (refine' DL.Ls.cons ?x ?_;(case x=>(walk_at "lf"))));exact DL.Ls.nil))
   (case q3=>((repeat (refine' DL.Ls.cons ?x ?_;(case x=>(refine' DL.Fw KX G ?x0;(case x0=>k_is)))));exact DL.Ls.nil))
   (case q4=>((repeat (refine' DL.Ls.cons ?x ?_;(case x=>(refine' DL.DK ?x0;(case x0=>walk_at "ec")))));exact DL.Ls.nil))
   (case q5=>((repeat (refine' DL.Ls.cons ?x ?_;(case x=>(refine' DL.Cv ?u0 ?u1;(case u0=>walk_at "ec");(case u1=>((repeat (refine' DL.Ls.cons ?u2 ?_;(case u2=>walk_at "im")));exact DL.Ls.nil))))));exact DL.Ls.nil))
   (case q6=>((repeat (refine' DL.Ls.cons ?x ?_;(case x=>(walk_at "im"))));exact DL.Ls.nil))
   (case q7=>((repeat (refine' DL.Ls.cons ?x ?_;(case x=>(refine' DL.DS ?x0 ?x1;(case x0=>walk_at "kc");(case x1=>k_is)))));exact DL.Ls.nil))
   (case q8=>((repeat (refine' DL.Ls.cons ?x ?_;(case x=>(refine' DL.Dn (u:=PySem.Value.str _) KX G ?x0;(case x0=>k_is)))));exact DL.Ls.nil))
   (case q9=>((repeat (refine' DL.Ls.cons ?x ?_;(case x=>(refine' DL.Dn (u:=PySem.Value.int _) KX G ?x0;(case x0=>k_is)))));exact DL.Ls.nil)))
  (case L=>walk_at "ff")
 case t1=>(intro w;k_is)
 case t2=>(intro w;k_is)
 case t3=>(intro w;k_is)
 case t4=>(intro w;k_is)
end
namespace K29
open PySem PySem.Spec PyProof.Rows L2 DL List
local macro_rules | `(tactic| simp_arith [$args,*] $[$loc]?) => `(tactic| first | (dsimp only [bw.bind, ao, aM, cD, az, jj, eP, aB, g6, ae, gC, DL.g2, ah, aq, aa, af, aH, Ea, bf, ye, bY, bK, aN, du, zm, om, aI, cX, i6, lO, aV, fM, eI, lB, bO, zr, og, aD, bB, m3, uk, aW, gR, eY, dO, gS, li, ni, jb, jV, xt, aK, cq, aJ, nS, oV, mO, jm, cZ, dA, cS, rY, eA, fQ, fF, jZ, bR, aT, jh, mH, gk, fB, Cp, ce, gP, gp, oO, gE, iX, iU, iI, o0, jM, nU, jP, tX, vO, pL, j6, B9, p9, iH, eB, iK, qX] $[$loc]?; simp [ao, aM, cD, az, jj, eP, aB, g6, ae, gC, DL.g2, ah, aq, aa, af, aH, Ea, bf, ye, bY, bK, aN, du, zm, om, aI, cX, i6, lO, aV, fM, eI, lB, bO, zr, og, aD, bB, m3, uk, aW, gR, eY, dO, gS, li, ni, jb, jV, xt, aK, cq, aJ, nS, oV, mO, jm, cZ, dA, cS, rY, eA, fQ, fF, jZ, bR, aT, jh, mH, gk, fB, Cp, ce, gP, gp, oO, gE, iX, iU, iI, o0, jM, nU, jP, tX, vO, pL, j6, B9, p9, iH, eB, iK, qX, $args,*] $[$loc]?) | simp [ao, aM, cD, az, jj, eP, aB, g6, ae, gC, DL.g2, ah, aq, aa, af, aH, Ea, bf, ye, bY, bK, aN, du, zm, om, aI, cX, i6, lO, aV, fM, eI, lB, bO, zr, og, aD, bB, m3, uk, aW, gR, eY, dO, gS, li, ni, jb, jV, xt, aK, cq, aJ, nS, oV, mO, jm, cZ, dA, cS, rY, eA, fQ, fF, jZ, bR, aT, jh, mH, gk, fB, Cp, ce, gP, gp, oO, gE, iX, iU, iI, o0, jM, nU, jP, tX, vO, pL, j6, B9, p9, iH, eB, iK, qX, $args,*] $[$loc]?)
noncomputable def tp (l:List Int)(i c:Int):MO:=.lst [.lst (l.map D.int),.int i,.int c]
noncomputable def bC (l:List Int)(rest:au)(M:au):Prop:=∃i c,0≤i∧M=tp l i c::rest
theorem uE {l:List Int}{k:Int}(h0:0≤k)(h1:k<l.length):∃v,kT (l.map D.int) k=some (.int v):=by
 obtain⟨n,rfl⟩:=Int.eq_ofNat_of_zero_le h0;have hn:n<l.length:=by omega
 exact⟨l[n],gM (by simp[hn])⟩
noncomputable def EU:GS:=ao (aM 4 (g2 gS (g2 aK (ae 0) (gC (.int 2))) (ae 1))) (ao (jj (ae 0) (gC (.int 2)) (g2 dO (g2 aK (ae 0) (gC (.int 2))) (ae 1))) (az (ae 4)))
noncomputable def EE:GS:=ao (aM 3 (g2 gS (g2 aW (ae 3) (g2 eY (gC (.int 1000003)) (g2 aK (ae 0) (gC (.int 1))))) (ae 2))) (ao (aM 3 (g2 gS (g2 aW (g2 aW (g2 eY (ae 3) (ae 3)) (g2 eY (gC (.int 1181783497276652981)) (ae 3))) (gC (.int 2049848353892358983))) (ae 2))) (aM 3 (g2 gS (g2 aW (g2 eY (ae 3) (ae 3)) (gC (.int 1442695040888963407))) (ae 2))))
noncomputable def EQ:GS:=cD (aH (g2 jV (aq aJ (aa (g2 aK (ae 0) (gC (.int 0))) af)) (gC (.int 0)))) (aM 3 (g2 aK (g2 aK (ae 0) (gC (.int 0))) (g2 gS (g2 aK (ae 0) (gC (.int 1))) (aq aJ (aa (g2 aK (ae 0) (gC (.int 0))) af))))) aB
noncomputable def FP:GT:=bY (aH (g2 xt (g2 aK (ae 0) (gC (.int 1))) (aq aJ (aa (g2 aK (ae 0) (gC (.int 0))) af)))) (aH (g2 ni (ae 3) (g2 li (gC (.int 10)) (gC (.int 18)))))
noncomputable def ET:GS:=ao (aM 3 (gC (.int 0))) (ao EQ (ao (cD FP EE aB) (ao (jj (ae 0) (gC (.int 1)) (g2 aW (g2 aK (ae 0) (gC (.int 1))) (gC (.int 1)))) (jj (ae 0) (gC (.int 2)) (ae 3)))))
theorem D5 (ρ:bU)(M:au):gD ρ M=ao (aM 2 (gC (.int 2305843009213693951))) (ao (cD (aH (g2 ni (g2 aK (ae 0) (gC (.int 2))) (ae 1))) ET aB) EU) ρ M:=rfl
theorem ow {i j:Int}(h:0<j)(M:au):gS (.int i) (.int j) M=.ok (.int (i % j)) M:=by
 unfold gS;dsimp only;rw[if_pos h]
theorem ly {i j:Int}(h:-18446744073709551616<i∧i<18446744073709551616)(M:au):eY (.int i) (.int j) M=.ok (.int (i*j)) M:=by
 unfold eY;dsimp only;rw[if_pos (.inl ⟨Int.lt_of_le_of_lt (by decide) h.1,Int.lt_of_lt_of_le h.2 (by decide)⟩)]
theorem oG {go gi g:GE}{ρ:bU}{M M1:au}{x:D}(h:g ρ M=.ok x M)(h2:(go ρ M).bind (fun o M2=>(gi ρ M2).bind fun i M3=>(uk o i x M3).bind fun _ M4=>.ok (Fl.nx ρ) M4)=.ok (Fl.nx ρ) M1):jj go gi g ρ M=.ok (.nx ρ) M1:=by
 unfold jj;rw[h,ak,h2]
theorem aS {l:List Int}{rest M:au}{many:Int}(hm:0<many)(hlog:many.natAbs.log2<9000)(h:bC l rest M) :
  ∃f M',0≤f∧f<many∧bC l rest M'∧ai [.mr 0,.int many] M=.ok (.int f) M':=by
 obtain⟨i,c,hi,rfl⟩:=h;have i0:∀(i c:Int) (x1 x2 x3 x4:Option D),g2 aK (ae 0) (gC (.int 0)) [some (.mr 0),x1,x2,x3,x4] (tp l i c::rest)=.ok (.lst (l.map D.int)) (tp l i c::rest):=fun _ _ _ _ _ _=>rfl
 have i1:∀(i c:Int) (x1 x2 x3 x4:Option D),g2 aK (ae 0) (gC (.int 1)) [some (.mr 0),x1,x2,x3,x4] (tp l i c::rest)=.ok (.int i) (tp l i c::rest):=fun _ _ _ _ _ _=>rfl
 have i2:∀(i c:Int) (x1 x2 x3 x4:Option D),g2 aK (ae 0) (gC (.int 2)) [some (.mr 0),x1,x2,x3,x4] (tp l i c::rest)=.ok (.int c) (tp l i c::rest):=fun _ _ _ _ _ _=>rfl
 have ln:∀(i c:Int) (x1 x2 x3 x4:Option D),aq aJ (aa (g2 aK (ae 0) (gC (.int 0))) af) [some (.mr 0),x1,x2,x3,x4] (tp l i c::rest)=.ok (.int (l.length:Int)) (tp l i c::rest):=fun i c x1 x2 x3 x4=>by
  refine jD (i0 i c x1 x2 x3 x4) ?_;show bw.ok (D.int ((l.map D.int).length:Int)) _=_;rw[length_map]
 have tail:∀(c i:Int) (x2 x3 x4:Option D),0≤i→∃f M',0≤f∧f<many∧bC l rest M'∧aD (EU [some (.mr 0),some (.int many),x2,x3,x4] (tp l i c::rest))=.ok (.int f) M':=fun c i x2 x3 x4 hi=>by
  refine⟨c % many,tp l i (c / many)::rest,Int.emod_nonneg _ (by omega),Int.emod_lt_of_pos _ hm,⟨i,c / many,hi,rfl⟩,?_⟩;unfold EU;rw[am (aO (aj (i2 i c (some (.int many)) x2 x3 x4) rfl (ow hm _)))];have fd:dO (.int c) (.int many) (tp l i c::rest)=.ok (.int (c / many)) (tp l i c::rest):=by
   unfold dO;dsimp only;rw[if_pos ⟨hm,hlog⟩]
  have k:jj (ae 0) (gC (.int 2)) (g2 dO (g2 aK (ae 0) (gC (.int 2))) (ae 1)) [some (.mr 0),some (.int many),x2,x3,some (.int (c % many))] (tp l i c::rest)=.ok (.nx [some (.mr 0),some (.int many),x2,x3,some (.int (c % many))]) (tp l i (c / many)::rest):=
   oG (aj (i2 i c (some (.int many)) x2 x3 _) rfl fd) rfl
  exact(congrArg aD (am k)).trans rfl
 show∃f M',_∧_∧_∧aD (gD [some (.mr 0),some (.int many),none,none,none] (tp l i c::rest))=_;rw[D5];have e0:∀b:GS,ao (aM 2 (gC (.int 2305843009213693951))) b [some (.mr 0),some (.int many),none,none,none] (tp l i c::rest)=b [some (.mr 0),some (.int many),some (.int 2305843009213693951),none,none] (tp l i c::rest):=fun b=>am rfl
 rw[e0];have tst:aH (g2 ni (g2 aK (ae 0) (gC (.int 2))) (ae 1)) [some (.mr 0),some (.int many),some (.int 2305843009213693951),none,none] (tp l i c::rest)=.ok (decide (c<many)) (tp l i c::rest):=aC (aj (i2 i c _ _ _ _) rfl rfl)
 by_cases h1:c<many
 ·rw[decide_eq_true h1] at tst;obtain⟨v,ev⟩:∃v:Int,EQ [some (.mr 0),some (.int many),some (.int 2305843009213693951),some (.int 0),none] (tp l i c::rest)=.ok (.nx [some (.mr 0),some (.int many),some (.int 2305843009213693951),some (.int v),none]) (tp l i c::rest):=by
   unfold EQ;have t0:aH (g2 jV (aq aJ (aa (g2 aK (ae 0) (gC (.int 0))) af)) (gC (.int 0))) [some (.mr 0),some (.int many),some (.int 2305843009213693951),some (.int 0),none] (tp l i c::rest)=.ok (decide ((l.length:Int)>0)) (tp l i c::rest):=aC (aj (ln i c _ _ _ _) rfl rfl)
   by_cases hl:(l.length:Int)>0
   ·rw[decide_eq_true hl] at t0;obtain⟨v,hv⟩:=uE (l:=l) (Int.emod_nonneg _ (by omega)) (Int.emod_lt_of_pos _ hl);refine⟨v,(aQ t0).trans (aO (aj (f:=aK) (i0 i c _ _ _ _) (aj (i1 i c _ _ _ _) (ln i c _ _ _ _) (ow hl _)) ?_))⟩;show(match kT (l.map D.int) (i % (l.length:Int)) with|some d=>bw.ok d (tp l i c::rest)|none=>.bad)=_;rw[hv]
   ·rw[decide_eq_false hl] at t0;exact⟨0,(cb t0).trans rfl⟩
  have bd:∀x:Int,-18446744073709551616<x % 2305843009213693951∧x % 2305843009213693951<18446744073709551616:=fun x=>by
   have h0:=Int.emod_nonneg x (show(2305843009213693951:Int)≠0 by decide);have h1:=Int.emod_lt_of_pos x (show(0:Int)<2305843009213693951 by decide);omega
  have md:∀x:Int,∀M,gS (.int x) (.int 2305843009213693951) M=.ok (.int (x % 2305843009213693951)) M:=fun x M=>ow (by decide) M
  obtain⟨u,eu⟩:∃u:Int,cD FP EE aB [some (.mr 0),some (.int many),some (.int 2305843009213693951),some (.int v),none] (tp l i c::rest)=.ok (.nx [some (.mr 0),some (.int many),some (.int 2305843009213693951),some (.int u),none]) (tp l i c::rest):=by
   have po:∀ρ,g2 li (gC (.int 10)) (gC (.int 18)) ρ (tp l i c::rest)=.ok (.int (10 ^ 18)) (tp l i c::rest):=fun ρ=>by
    refine aj rfl rfl ?_;unfold li;dsimp only;rw[if_pos (by decide)];rfl
   have to:=aF (aC (aj (f:=xt) (i1 i c (some (.int many)) (some (.int 2305843009213693951)) (some (.int v)) none) (ln i c _ _ _ _) rfl)) fun _=>aC (aj (f:=ni) (a:=ae 3) rfl (po _) rfl)
   generalize (decide (i≥(l.length:Int))||decide (v<10 ^ 18))=b at to;cases b with
   | false=>exact⟨v,(cb to).trans rfl⟩
   | true=>
    suffices hs:∃u:Int,EE [some (.mr 0),some (.int many),some (.int 2305843009213693951),some (.int v),none] (tp l i c::rest)=.ok (.nx [some (.mr 0),some (.int many),some (.int 2305843009213693951),some (.int u),none]) (tp l i c::rest) from hs.elim fun u e=>⟨u,(aQ to).trans e⟩
    unfold EE;rw[am (aO (aj (aj (f:=aW) (a:=ae 3) rfl (aj (f:=eY) (a:=gC (.int 1000003)) rfl (i1 i c _ _ _ _) (ly (by decide) _)) rfl) rfl (md _ _)))];generalize hz:(v+1000003*i) % 2305843009213693951=z;have bz:=hz▸bd (v+1000003*i);have k2:aM 3 (g2 gS (g2 aW (g2 aW (g2 eY (ae 3) (ae 3)) (g2 eY (gC (.int 1181783497276652981)) (ae 3))) (gC (.int 2049848353892358983))) (ae 2)) [some (.mr 0),some (.int many),some (.int 2305843009213693951),some (.int z),none] (tp l i c::rest)=.ok (.nx [some (.mr 0),some (.int many),some (.int 2305843009213693951),some (.int ((z*z+1181783497276652981*z+2049848353892358983) % 2305843009213693951)),none]) (tp l i c::rest):=
     aO (aj (aj (f:=aW) (aj (f:=aW) (aj (f:=eY) (a:=ae 3) rfl rfl (ly bz _)) (aj (f:=eY) (a:=gC (.int 1181783497276652981)) rfl rfl (ly (by decide) _)) rfl) rfl rfl) rfl (md _ _))
    refine Exists.imp (fun u e=>(am k2).trans e) ?_;generalize hy:(z*z+1181783497276652981*z+2049848353892358983) % 2305843009213693951=y;have byy:=hy▸bd (z*z+1181783497276652981*z+2049848353892358983);exact⟨_,aO (aj (aj (f:=aW) (aj (f:=eY) (a:=ae 3) rfl rfl (ly byy _)) rfl rfl) rfl (md _ _))⟩
  have kb:ET [some (.mr 0),some (.int many),some (.int 2305843009213693951),none,none] (tp l i c::rest)=.ok (.nx [some (.mr 0),some (.int many),some (.int 2305843009213693951),some (.int u),none]) (tp l (i+1) u::rest):=by
   unfold ET;have e3:∀b:GS,ao (aM 3 (gC (.int 0))) b [some (.mr 0),some (.int many),some (.int 2305843009213693951),none,none] (tp l i c::rest)=b [some (.mr 0),some (.int many),some (.int 2305843009213693951),some (.int 0),none] (tp l i c::rest):=fun b=>am rfl
   rw[e3,am ev,am eu];have k1:jj (ae 0) (gC (.int 1)) (g2 aW (g2 aK (ae 0) (gC (.int 1))) (gC (.int 1))) [some (.mr 0),some (.int many),some (.int 2305843009213693951),some (.int u),none] (tp l i c::rest)=.ok (.nx [some (.mr 0),some (.int many),some (.int 2305843009213693951),some (.int u),none]) (tp l (i+1) c::rest):=
    oG (aj (i1 i c _ _ _ _) rfl rfl) rfl
   rw[am k1];exact oG rfl rfl
  rw[am ((aQ tst).trans kb)];exact tail u (i+1) _ _ _ (by omega)
 ·rw[decide_eq_false h1] at tst;rw[am ((cb tst).trans rfl)];exact tail c i _ _ _ hi
theorem aA {x:Int}(h0:0<x)(h1:x≤1000000):x.natAbs.log2<9000:=by
 have h2:x.natAbs<2 ^ 20:=by omega
 have h3:x.natAbs≠0:=by omega
 have:=(Nat.log2_lt h3).mpr h2;omega
theorem lD {l:List Int}{rest M:au}{most:Int}(hm:1≤most)(hm2:most≤1000)(h:bC l rest M) :
  ∃f M',1≤f∧f≤most∧bC l rest M'∧dk [.mr 0,.int most] M=.ok (.int f) M':=by
 have lg:∀x:Int,0<x→x≤1000→x.natAbs.log2<9000:=fun x h0 h1=>by
  have h2:x.natAbs<2 ^ 10:=by omega
  have h3:x.natAbs≠0:=by omega
  have:=(Nat.log2_lt h3).mpr h2;omega
 have hmin:0<(if 6<most then 6 else most)∧(if 6<most then 6 else most)≤most∧(if 6<most then(6:Int) else most)≤1000:=by split <;> omega
 obtain⟨f1,M1,a1,b1,t1,e1⟩:=aS hmin.1 (lg _ hmin.1 hmin.2.2) h;obtain⟨f2,M2,a2,b2,t2,e2⟩:=aS (many:=most) (by omega) (lg _ (by omega) hm2) t1;obtain⟨f3,M3,a3,b3,t3,e3⟩:=aS (many:=8) (by decide) (lg _ (by decide) (by decide)) t2;have l3:(3:Nat)≤sizeLine:=bo (by decide);have hix:0≤f3*3 / 10∧f3*3 / 10<3:=by omega
 have c3:Nat.log2 10<9000:=by decide
 have c4:-18446744073709551616<f3∧f3<18446744073709551616:=by omega
 have pick:∃f,1≤f∧f≤most∧∃y,f=1+y∧kT [D.int f1,D.int f2,D.int (most-1)] (f3*3 / 10)=some (.int y):=by
  have:f3*3 / 10=0∨f3*3 / 10=1∨f3*3 / 10=2:=by omega
  rcases this with q|q|q <;> rw[q]
  ·exact⟨1+f1,by omega,by omega,f1,rfl,rfl⟩
  ·exact⟨1+f2,by omega,by omega,f2,rfl,rfl⟩
  ·exact⟨1+(most-1),by omega,by omega,most-1,rfl,rfl⟩
 obtain⟨f,hf1,hf2,y,ey,ha⟩:=pick;refine⟨f,M3,hf1,hf2,t3,?_⟩;unfold dk i5;simp_arith [e1,e2,e3,l3,c3,c4,ha,ey]
theorem xo {l:List Int}{rest M:au}{wide thin:Int}(hw:0≤wide)(hw2:wide≤1000)(ht:1≤thin)(ht2:thin≤1000)(h:bC l rest M) :
  ∃(ks:List Int) (M':au),(ks.length:Int)=wide∧(∀k∈ks,0≤k∧k≤15)∧bC l rest M'∧gL [.mr 0,.int wide,.int thin] M=.ok (.tup (ks.map D.int)) M':=by
 obtain⟨es,M',t',le,qe,ee⟩:=gT (ds0:=aU 0 wide.toNat) (ge:=eR) (ρ:=[some (.mr 0),some (.int wide),some (.int thin)])
  (P:=bC l rest) (Q:=fun e=>∃k,e=.int k∧0≤k∧k≤15) (aU 0 wide.toNat) (fun d hd M hM=>by
   obtain⟨f1,M1,a1,b1,t1,e1⟩:=aS (many:=16) (by decide) (aA (by decide) (by decide)) hM;obtain⟨f2,M2,a2,b2,t2,e2⟩:=aS (many:=thin) (by omega) (aA (by omega) (by omega)) t1;have c4:-18446744073709551616<f1∧f1<18446744073709551616:=by omega
   by_cases hz:0<f2
   ·exact⟨.int (f1*1),M2,t2,⟨_,rfl,by omega,by omega⟩,by simp_arith [eR,e1,e2,c4,hz]⟩
   ·exact⟨.int (f1*0),M2,t2,⟨_,rfl,by omega,by omega⟩,by simp_arith [eR,e1,e2,c4,hz]⟩) M h
 obtain⟨ks,ek,qk⟩:=xg qe;refine⟨ks,M',?_,qk,t',?_⟩
 ·have:ks.length=es.length:=by rw[ek];simp
  rw[bW] at le;omega
 ·have l3:es.length≤sizeLine:=by rw[le,bW];exact bo (by omega)
  have l4:ks.length≤sizeLine:=by rw[ek] at l3;simpa using l3
  have b1:=fun M=>oE (j:=wide) (by omega) M
  unfold gL iQ;simp_arith [bv,b1,ee,l4,ek]
theorem pK {l:List Int}{rest M:au}{most:Int}(hm:1≤most)(hm2:most≤1000)(h:bC l rest M) :
  ∃(rs:List (List Int)) (w:Nat) (M':au),1≤rs.length∧(rs.length:Int)≤most∧1≤w∧(w:Int)≤most∧(∀r∈rs,r.length=w∧∀k∈r,0≤k∧k≤15)∧bC l rest M'∧
   eN [.mr 0,.int most] M=.ok (.tup (rs.map fun r=>D.tup (r.map D.int))) M':=by
 obtain⟨wide,M1,w1,w2,t1,e1⟩:=lD hm hm2 h;obtain⟨f4,M2,a2,b2,t2,e2⟩:=aS (many:=4) (by decide) (aA (by decide) (by decide)) t1;obtain⟨high,M3,h1,h2,t3,e3⟩:=lD hm hm2 t2;obtain⟨es,M',t',le,qe,ee⟩:=gT (ds0:=aU 0 high.toNat) (ge:=fz) (ρ:=[some (.mr 0),some (.int most),some (.int wide),some (.int (1+f4))])
  (P:=bC l rest) (Q:=fun e=>∃ks:List Int,e=.tup (ks.map D.int)∧(ks.length:Int)=wide∧∀k∈ks,0≤k∧k≤15) (aU 0 high.toNat) (fun d hd M hM=>by
   obtain⟨ks,M1,lk,qk,t1,e1⟩:=xo (wide:=wide) (thin:=1+f4) (by omega) (by omega) (by omega) (by omega) hM;exact⟨_,M1,t1,⟨ks,rfl,lk,qk⟩,by simp_arith [fz,e1]⟩) M3 t3
 obtain⟨rs,er,qr⟩:=yM qe;refine⟨rs,wide.toNat,M',?_,?_,by omega,by omega,fun r hr=>⟨by have:=(qr r hr).1;omega,(qr r hr).2⟩,t',?_⟩
 ·have:rs.length=es.length:=by rw[er];simp
  rw[bW] at le;omega
 ·have:rs.length=es.length:=by rw[er];simp
  rw[bW] at le;omega
 ·have l3:es.length≤sizeLine:=by rw[le,bW];exact bo (by omega)
  have l4:rs.length≤sizeLine:=by rw[er] at l3;simpa using l3
  have b1:=fun M=>oE (j:=high) (by omega) M
  unfold eN h9;simp_arith [bv,b1,e1,e2,e3,ee,l4,er]
theorem uX {l:List Int}{rest M:au}{most:Int}(hm:1≤most)(hm2:most≤1000)(h:bC l rest M) :
  ∃(w hh g m:Int) (M':au),(1≤w∧w≤most)∧(1≤hh∧hh≤most)∧(0≤g∧g≤20)∧(0≤m∧m≤12)∧bC l rest M'∧fT [.mr 0,.int most] M=.ok (.tup [.int w,.int hh,.int g,.int m]) M':=by
 obtain⟨f1,M1,a1,b1,t1,e1⟩:=aS (many:=21) (by decide) (aA (by decide) (by decide)) h;obtain⟨f2,M2,a2,b2,t2,e2⟩:=aS (many:=2) (by decide) (aA (by decide) (by decide)) t1;obtain⟨w,M3,a3,b3,t3,e3⟩:=lD hm hm2 t2;obtain⟨hh,M4,a4,b4,t4,e4⟩:=lD hm hm2 t3;obtain⟨m,M5,a5,b5,t5,e5⟩:=aS (many:=13) (by decide) (aA (by decide) (by decide)) t4;have l3:(2:Nat)≤sizeLine:=bo (by decide);have l4:(4:Nat)≤sizeLine:=bo (by decide);have pick:∃g,0≤g∧g≤20∧kT [D.int 0,D.int f1] f2=some (.int g):=by
  have:f2=0∨f2=1:=by omega
  rcases this with q|q <;> rw[q]
  ·exact⟨0,by omega,by omega,rfl⟩
  ·exact⟨f1,by omega,by omega,rfl⟩
 obtain⟨g,g1,g2,ha⟩:=pick;refine⟨w,hh,g,m,M5,⟨a3,b3⟩,⟨a4,b4⟩,⟨g1,g2⟩,⟨a5,by omega⟩,t5,?_⟩;unfold fT hZ;simp_arith [e1,e2,e3,e4,e5,l3,l4,ha]
theorem oq {l:List Int}{rest M:au}{size:Int}(hm:0≤size)(hm2:size≤900)(h:bC l rest M) :
  ∃(f:Int) (M':au),(-1000≤f∧f≤1000)∧bC l rest M'∧bN [.mr 0,.int size] M=.ok (.int f) M':=by
 obtain⟨f1,M1,a1,b1,t1,e1⟩:=aS (many:=size+16) (by omega) (aA (by omega) (by omega)) h;obtain⟨f2,M2,a2,b2,t2,e2⟩:=aS (many:=2001) (by decide) (aA (by decide) (by decide)) t1;obtain⟨f3,M3,a3,b3,t3,e3⟩:=aS (many:=8) (by decide) (aA (by decide) (by decide)) t2;have l3:(2:Nat)≤sizeLine:=bo (by decide);have c3:Nat.log2 7<9000:=by decide
 have pick:∃g,-1000≤g∧g≤1000∧kT [D.int (f1-8),D.int (f2-1000)] (f3 / 7)=some (.int g):=by
  have:f3 / 7=0∨f3 / 7=1:=by omega
  rcases this with q|q <;> rw[q]
  ·exact⟨_,by omega,by omega,rfl⟩
  ·exact⟨_,by omega,by omega,rfl⟩
 obtain⟨g,g1,g2,ha⟩:=pick;refine⟨g,M3,⟨g1,g2⟩,t3,?_⟩;unfold bN jt;simp_arith [e1,e2,e3,l3,c3,ha]
structure Mv where
 shape:Option Nat
 x:Int
 y:Int
 rank:Int
 turn:Int
noncomputable def Mv.d (m:Mv):D:=.tup [match m.shape with|some k=>.int k|none=>.non,.int m.x,.int m.y,.int m.rank,.int m.turn]
structure sT (n:Nat)(m:Mv):Prop where
 s:∀k,m.shape=some k→k<n
 x:-1000≤m.x∧m.x≤1000
 y:-1000≤m.y∧m.y≤1000
 r:0≤m.rank∧m.rank≤3
 t:0≤m.turn∧m.turn≤3
theorem vL {a b:Int}{M:au}(h:b<a):jV (.int a) (.int b) M=.ok (.bl true) M:=by
 show bw.ok (D.bl (decide (a>b))) M=_;rw[decide_eq_true h]
theorem zu {a b:Int}{M:au}(h:¬b<a):jV (.int a) (.int b) M=.ok (.bl false) M:=by
 show bw.ok (D.bl (decide (a>b))) M=_;rw[decide_eq_false h]
theorem xG {a b:GT}{ρ:bU}{M M1:au}(ha:a ρ M=.ok false M1):bK a b ρ M=.ok false M1:=by
 unfold bK;rw[ha,ak];rfl
theorem oP {a b:GT}{ρ:bU}{M M1:au}{y:Bool}(ha:a ρ M=.ok true M)(hb:b ρ M=.ok y M1):bK a b ρ M=.ok y M1:=by
 unfold bK;rw[ha,ak];exact hb
theorem ox {gi:GI}{ge:GE}{ρ:bU}{ds es:List D}{M M1 M2:au}(hi:gi ρ M=.ok ⟨ds,none⟩ M1)(he:gO ⟨ds,none⟩ ce ge ds ρ M1=.ok es M2)(hl:es.length≤1000000):bv gi ce ge aV ρ M=.ok (.lst es) M2:=by
 unfold bv;rw[hi,ak];dsimp only;rw[he,ak];unfold aV;rw[if_pos (bo hl)]
theorem qM {w hh x y r t:Int}{more:List D}{d2 d3:D}{M M2 M3 M4 M5:au}(q1:bN [.mr 0,.int w] M=.ok (.int x) M2)(q2:bN [.mr 0,.int hh] M2=.ok (.int y) M3)(q3:ai [.mr 0,.int 4] M3=.ok (.int r) M4)(q4:ai [.mr 0,.int 4] M4=.ok (.int t) M5) :
  az (aI (aa (ae 3) (aa (ah 2 bN (aa (ae 0) (aa (g2 aK (ae 1) (gC (.int 0))) af))) (aa (ah 2 bN (aa (ae 0) (aa (g2 aK (ae 1) (gC (.int 1))) af))) (aa (ah 2 ai (aa (ae 0) (aa (gC (.int 4)) af))) (aa (ah 2 ai (aa (ae 0) (aa (gC (.int 4)) af))) af)))))) [some (.mr 0),some (.tup (.int w::.int hh::more)),some d2,some d3] M=.ok (.rt (.tup [d3,.int x,.int y,.int r,.int t])) M5:=
 bA (dq (aG rfl (aG (bH rfl (aj rfl rfl (a9 rfl)) q1) (aG (bH rfl (aj rfl rfl (a9 rfl)) q2) (aG (bH rfl rfl q3) (aG (bH rfl rfl q4) rfl))))))
theorem vD {l:List Int}{rest M:au}{w hh:Int}{more:List D}{n:Nat}(hw:0≤w∧w≤900)(hh2:0≤hh∧hh≤900)(hn:n≤1000)(h:bC l rest M) :
  ∃(m:Mv) (M':au),sT n m∧bC l rest M'∧ig [.mr 0,.tup (.int w::.int hh::more),.int n] M=.ok m.d M':=by
 have go:∀(s:Option Nat) (M:au),bC l rest M→(∀k,s=some k→k<n)→∃(m:Mv) (M':au),sT n m∧m.shape=s∧bC l rest M'∧
   ∃M2 M3 M4,bN [.mr 0,.int w] M=.ok (.int m.x) M2∧bN [.mr 0,.int hh] M2=.ok (.int m.y) M3∧ai [.mr 0,.int 4] M3=.ok (.int m.rank) M4∧ai [.mr 0,.int 4] M4=.ok (.int m.turn) M':=by
  intro s M h hs;obtain⟨x,M2,a2,t2,e2⟩:=oq hw.1 hw.2 h;obtain⟨y,M3,a3,t3,e3⟩:=oq hh2.1 hh2.2 t2;obtain⟨r,M4,a4,b4,t4,e4⟩:=aS (many:=4) (by decide) (aA (by decide) (by decide)) t3;obtain⟨t,M5,a5,b5,t5,e5⟩:=aS (many:=4) (by decide) (aA (by decide) (by decide)) t4;have r3:r≤3:=by omega
  have q3:t≤3:=by omega
  exact⟨⟨s,x,y,r,t⟩,M5,⟨hs,a2,a3,⟨a4,r3⟩,⟨a5,q3⟩⟩,rfl,t5,M2,M3,M4,e2,e3,e4,e5⟩
 by_cases h0:0<n
 ·obtain⟨f1,M1,a1,b1,t1,e1⟩:=aS (many:=8) (by decide) (aA (by decide) (by decide)) h;have h0':(0:Int)<n:=by omega
  by_cases hf:0<f1
  ·obtain⟨f2,M2,a2,b2,t2,e2⟩:=aS (many:=(n:Int)) (by omega) (aA (by omega) (by omega)) t1;obtain⟨k,rfl⟩:=Int.eq_ofNat_of_zero_le a2;obtain⟨m,M',ok,sm,t',M3,M4,M5,q1,q2,q3,q4⟩:=go (some k) M2 t2 (fun j hj=>by cases hj;omega);refine⟨m,M',ok,t',?_⟩;show aD (cj [some (.mr 0),some (.tup (.int w::.int hh::more)),some (.int n),none] M)=_;unfold cj;rw[am (aO rfl)];rw[am ((aQ (oP (aC (aj rfl rfl (vL (by omega)))) (aC (aj (bH rfl rfl e1) rfl (vL hf))))).trans (aO (bH rfl rfl e2)))];refine(congrArg aD (qM q1 q2 q3 q4)).trans ?_;unfold Mv.d;rw[sm];rfl
  ·obtain⟨m,M',ok,sm,t',M3,M4,M5,q1,q2,q3,q4⟩:=go none M1 t1 (fun j hj=>by cases hj);refine⟨m,M',ok,t',?_⟩;show aD (cj [some (.mr 0),some (.tup (.int w::.int hh::more)),some (.int n),none] M)=_;unfold cj;rw[am (aO rfl)];rw[am ((cb (oP (aC (aj rfl rfl (vL (by omega)))) (aC (aj (bH rfl rfl e1) rfl (zu hf))))).trans rfl)];refine(congrArg aD (qM q1 q2 q3 q4)).trans ?_;unfold Mv.d;rw[sm];rfl
 ·have h0':¬(0:Int)<n:=by omega
  obtain⟨m,M',ok,sm,t',M3,M4,M5,q1,q2,q3,q4⟩:=go none M h (fun j hj=>by cases hj);refine⟨m,M',ok,t',?_⟩;show aD (cj [some (.mr 0),some (.tup (.int w::.int hh::more)),some (.int n),none] M)=_;unfold cj;rw[am (aO rfl)];rw[am ((cb (xG (aC (aj rfl rfl (zu h0'))))).trans rfl)];refine(congrArg aD (qM q1 q2 q3 q4)).trans ?_;unfold Mv.d;rw[sm];rfl
theorem iS {α:Type}{f:α→D}{P:α→Prop}:∀{es:List D},(∀e∈es,∃a,e=f a∧P a)→∃as:List α,es=as.map f∧∀a∈as,P a
 | [],_=>⟨[],rfl,fun _ z=>by cases z⟩
 | e::es,h=>by
  obtain⟨a,ea,pa⟩:=h e (mem_cons_self ..);obtain⟨as,eas,pas⟩:=iS fun e' he=>h e' (mem_cons_of_mem _ he)
  refine⟨a::as,by rw[ea,eas];rfl,fun b hb=>?_⟩;rcases mem_cons.mp hb with q|q
  ·rw[q];exact pa
  ·exact pas b q
noncomputable def bS (rs:List (List Int)):D:=.tup (rs.map fun r=>D.tup (r.map D.int))
noncomputable def je (most:Int)(rs:List (List Int)):Prop:=1≤rs.length∧(rs.length:Int)≤most∧∃w:Nat,1≤w∧(w:Int)≤most∧∀r∈rs,r.length=w∧∀k∈r,0≤k∧k≤15
structure Cb where
 floor:List (List Int)
 sx:Int
 sy:Int
 book:List (List (List Int))
 movers:List Mv
 pots:List Int
noncomputable def Cb.d (s:Cb):D:=.tup [bS s.floor,.tup [.int s.sx,.int s.sy],.tup (s.book.map bS),.tup (s.movers.map Mv.d),.tup (s.pots.map D.int)]
structure vI (most:Int)(s:Cb):Prop where
 floor:je 16 s.floor
 sx:-1000≤s.sx∧s.sx≤1000
 sy:-1000≤s.sy∧s.sy≤1000
 bl:s.book.length≤8
 book:∀b∈s.book,je 8 b
 ml:(s.movers.length:Int)≤most
 movers:∀m∈s.movers,sT s.book.length m
 pl:s.pots.length=16
 pots:∀k∈s.pots,0≤k∧k≤63
theorem lN {ρ:bU}{M:au}:af ρ M=.ok [] M:=rfl
theorem qW {xs:List D}{i:Int}{d:D}{M:au}(h:kT xs i=some d):aK (.lst xs) (.int i) M=.ok d M:=by
 unfold aK cq;dsimp only;rw[h]
theorem v4 {l:List Int}{rest M:au}{w hh:Int}{more:List D}{mm:Int}(hw:0≤w∧w≤900)(hh2:0≤hh∧hh≤900)(hm:0≤mm∧mm≤900)(h:bC l rest M) :
  ∃(s:Cb) (M':au),vI mm s∧bC l rest M'∧hX [.mr 0,.tup (.int w::.int hh::more),.int mm] M=.ok s.d M':=by
 obtain⟨fl,fw,M1,f1,f2,f3,f4,f5,t1,e1⟩:=pK (most:=16) (by decide) (by decide) h;obtain⟨sx,M2,a2,t2,e2⟩:=oq (size:=9) (by decide) (by decide) t1;obtain⟨sy,M3,a3,t3,e3⟩:=oq (size:=9) (by decide) (by decide) t2;obtain⟨d4,M4,a4,b4,t4,e4⟩:=aS (many:=4) (by decide) (aA (by decide) (by decide)) t3;obtain⟨d5,M5,a5,b5,t5,e5⟩:=aS (many:=9) (by decide) (aA (by decide) (by decide)) t4;obtain⟨d6,M6,a6,b6,t6,e6⟩:=aS (many:=4) (by decide) (aA (by decide) (by decide)) t5;have pick:∃g,0≤g∧g≤8∧kT [D.int d4,D.int d5] (d6 / 3)=some (.int g):=by
  have:d6 / 3=0∨d6 / 3=1:=by omega
  rcases this with q|q <;> rw[q]
  ·exact⟨_,by omega,by omega,rfl⟩
  ·exact⟨_,by omega,by omega,rfl⟩
 obtain⟨g,g1,g2,ha⟩:=pick;obtain⟨eb,M7,t7,lb,qb,ee1⟩:=gT (ds0:=aU 0 g.toNat) (ge:=fo) (ρ:=[some (.mr 0),some (.tup (.int w::.int hh::more)),some (.int mm),some (bS fl),some (.tup [.int sx,.int sy]),some (.int g),none,none])
  (P:=bC l rest) (Q:=fun e=>∃b,e=bS b∧je 8 b) (aU 0 g.toNat) (fun d hd M hM=>by
   obtain⟨rs,rw',M1,q1,q2,q3,q4,q5,t1,e1⟩:=pK (most:=8) (by decide) (by decide) hM;exact⟨_,M1,t1,⟨rs,rfl,q1,q2,rw',q3,q4,q5⟩,by simp_arith [fo,e1,bS]⟩) M6 t6
 obtain⟨book,hb,okb⟩:=iS qb;have lbk:book.length=g.toNat:=by rw[←bW 0 g.toNat,←lb,hb,length_map]
 obtain⟨d8,M8,a8,b8,t8,e8⟩:=aS (many:=mm+1) (by omega) (aA (by omega) (by omega)) t7;obtain⟨em,M9,t9,lm,qm,ee2⟩:=gT (ds0:=aU 0 d8.toNat) (ge:=fq) (ρ:=[some (.mr 0),some (.tup (.int w::.int hh::more)),some (.int mm),some (bS fl),some (.tup [.int sx,.int sy]),some (.int g),some (.tup (book.map bS)),none])
  (P:=bC l rest) (Q:=fun e=>∃m,e=Mv.d m∧sT book.length m) (aU 0 d8.toNat) (fun d hd M hM=>by
   obtain⟨m,M1,ok,t1,e1⟩:=vD (more:=more) (n:=book.length) hw hh2 (by omega) hM;exact⟨_,M1,t1,⟨m,rfl,ok⟩,by simp_arith [fq,e1]⟩) M8 t8
 obtain⟨movers,hmv,okm⟩:=iS qm;have lmv:movers.length=d8.toNat:=by rw[←bW 0 d8.toNat,←lm,hmv,length_map]
 obtain⟨ep,M10,t10,lp,qp,ee3⟩:=gT (ds0:=aU 0 16) (ge:=ft) (ρ:=[some (.mr 0),some (.tup (.int w::.int hh::more)),some (.int mm),some (bS fl),some (.tup [.int sx,.int sy]),some (.int g),some (.tup (book.map bS)),some (.tup (movers.map Mv.d))])
  (P:=bC l rest) (Q:=fun e=>∃k,e=D.int k∧0≤k∧k≤63) (aU 0 16) (fun d hd M hM=>by
   obtain⟨f1,M1,a1,b1,t1,e1⟩:=aS (many:=64) (by decide) (aA (by decide) (by decide)) hM;exact⟨_,M1,t1,⟨f1,rfl,a1,by omega⟩,by simp_arith [ft,e1]⟩) M9 t9
 obtain⟨pots,hp,okp⟩:=iS qp;have lpt:pots.length=16:=by rw[←bW 0 16,←lp,hp,length_map]
 refine⟨⟨fl,sx,sy,book,movers,pots⟩,M10,⟨⟨f1,f2,fw,f3,f4,f5⟩,a2,a3,?_,okb,?_,okm,lpt,okp⟩,t10,?_⟩
 ·show book.length≤8;omega
 ·show(movers.length:Int)≤mm;omega
 ·rw[hb] at ee1;rw[hmv] at ee2;rw[hp] at ee3;obtain⟨gn,rfl⟩:=Int.eq_ofNat_of_zero_le g1;obtain⟨dn,rfl⟩:=Int.eq_ofNat_of_zero_le a8;rw[Int.toNat_natCast] at ee1 ee2;show aD (fP [some (.mr 0),some (.tup (.int w::.int hh::more)),some (.int mm),none,none,none,none,none] M)=_;unfold fP;rw[am (aO (bH rfl rfl e1))];rw[am (aO (dq (aG (bH rfl rfl e2) (aG (bH rfl rfl e3) lN))))];rw[am (aO (aj (gj (aG (bH rfl rfl e4) (aG (bH rfl rfl e5) lN))) (aj (bH rfl rfl e6) rfl (oF (by decide) (by decide) M6)) (qW ha)))];show aD (ao _ _ [some (.mr 0),some (.tup (.int w::.int hh::more)),some (.int mm),some (bS fl),some (.tup [.int sx,.int sy]),some (.int gn),none,none] M6)=_;rw[am (aO (jD (F:=cZ) (ox (gG (n:=gn) (aG (g:=ae 5) rfl lN) (by omega)) ee1 (by rw[length_map];omega)) rfl))];show aD (ao _ _ [some (.mr 0),some (.tup (.int w::.int hh::more)),some (.int mm),some (bS fl),some (.tup [.int sx,.int sy]),some (.int gn),some (.tup (book.map bS)),none] M7)=_;rw[am (aO (jD (F:=cZ) (ox (gG (n:=dn) (aG (bH rfl rfl e8) lN) (by omega)) ee2 (by rw[length_map];omega)) rfl))];show aD (az _ [some (.mr 0),some (.tup (.int w::.int hh::more)),some (.int mm),some (bS fl),some (.tup [.int sx,.int sy]),some (.int gn),some (.tup (book.map bS)),some (.tup (movers.map Mv.d))] M9)=_;refine(congrArg aD (bA (dq (ds:=[bS fl,.tup [.int sx,.int sy],.tup (book.map bS),.tup (movers.map Mv.d),.tup (pots.map D.int)]) (aG rfl (aG rfl (aG rfl (aG rfl (aG (jD (F:=cZ) (ox (gG (n:=16) (aG (g:=gC (.int 16)) rfl lN) (by decide)) ee3 (by rw[length_map];omega)) rfl) rfl)))))))).trans ?_;rfl
theorem wl {ds0:List D}{s:GG}{body:GS}{W:Nat→bU→au→Prop}:∀(ds:List D) (i:Nat),(∀j d,ds[j]?=some d→∀ρ M,W (i+j) ρ M→∃ρ1 ρ2 M2,s d ρ=some ρ1∧body ρ1 M=.ok (.nx ρ2) M2∧W (i+j+1) ρ2 M2)→∀ρ M,W i ρ M→
  ∃ρ' M',W (i+ds.length) ρ' M'∧dM ⟨ds0,none⟩ s body ds ρ M=.ok (.nx ρ') M'
 | [],i,h,ρ,M,hW=>⟨ρ,M,hW,rfl⟩
 | d::ds,i,h,ρ,M,hW=>by
  obtain⟨ρ1,ρ2,M2,e1,e2,h2⟩:=h 0 d rfl ρ M hW;obtain⟨ρ',M',h3,e3⟩:=wl (ds0:=ds0) (body:=body) (W:=W) ds (i+1) (fun j d' hd ρ M hW=>by
   have e:i+1+j=i+(j+1):=by omega
   rw[e] at hW ⊢;exact h (j+1) d' hd ρ M hW) ρ2 M2 h2
  refine⟨ρ',M',?_,by simp[dM,lZ,e1,e2,e3]⟩;have e:i+(d::ds).length=i+1+ds.length:=by simp;omega
  rw[e];exact h3
noncomputable def dP (b:Bool):Nat→D→Bool
 | 0,_=>false
 | n+1,d=>match d with
  | .non=>true
  | .bl _=>b
  | .int _=>true
  | .str x=>PyData.strOk x
  | .tup xs=>decide (xs.length≤1000+n)&&xs.all (dP b n)
  | .lst xs=>decide (xs.length≤1000+n)&&xs.all (dP b n)
  | _=>false
theorem dF {b:Bool}{n:Nat}{xs:List D}(h:dP b (n+1) (.tup xs)=true):xs.length≤1000+n∧∀x∈xs,dP b n x=true:=by
 have h:(decide (xs.length≤1000+n)&&xs.all (dP b n))=true:=h;rw[Bool.and_eq_true,decide_eq_true_eq,all_eq_true] at h;exact h
theorem bP {b:Bool}{n:Nat}{xs:List D}(h1:xs.length≤1000+n)(h2:∀x∈xs,dP b n x=true):dP b (n+1) (.tup xs)=true:=by
 show(decide (xs.length≤1000+n)&&xs.all (dP b n))=true;rw[Bool.and_eq_true,decide_eq_true_eq,all_eq_true];exact⟨h1,h2⟩
theorem mz {b:Bool}{n:Nat}{xs:List D}(h1:xs.length≤1000+n)(h2:∀x∈xs,dP b n x=true):dP b (n+1) (.lst xs)=true:=by
 show(decide (xs.length≤1000+n)&&xs.all (dP b n))=true;rw[Bool.and_eq_true,decide_eq_true_eq,all_eq_true];exact⟨h1,h2⟩
theorem bD {b:Bool}:∀{n m:Nat} {d:D},n≤m→dP b n d=true→dP b m d=true
 | 0,m,d,_,h=>by cases h
 | n+1,0,d,hm,_=>by omega
 | n+1,m+1,d,hm,h=>by
  cases d with
  | tup xs=>exact bP (by have:=(dF h).1;omega) fun x hx=>bD (by omega) ((dF h).2 x hx)
  | lst xs=>
   have h:(decide (xs.length≤1000+n)&&xs.all (dP b n))=true:=h;rw[Bool.and_eq_true,decide_eq_true_eq,all_eq_true] at h;exact mz (by have:=h.1;omega) fun x hx=>bD (by omega) (h.2 x hx)
  | _=>exact h
theorem qu {b:Bool}{n:Nat}{d:D}(h:dP b n d=true):∃t,zr d=some t:=by
 cases n with
 | zero=>cases h
 | succ n=>cases d <;> first|exact⟨_,rfl⟩|cases h
inductive ej:D→List Nat→D→Prop where
 | nil {d:D}:ej d [] d
 | cons {xs:List D} {k:Nat} {x h:D} {ks:List Nat}:xs[k]?=some x→ej x ks h→ej (.tup xs) (k::ks) h
noncomputable abbrev fN (ks:List Nat):List D:=ks.map fun(k:Nat)=>D.int (k:Int)
theorem ej.ok {b:Bool}{d h:D}{ks:List Nat}(p:ej d ks h):∀{n:Nat},dP b n d=true→ks.length<n∧dP b (n-ks.length) h=true:=by
 induction p with
 | nil=>
  intro n o;cases n with
  | zero=>cases o
  | succ n=>exact⟨by simp,o⟩
 | cons e _ ih=>
  intro n o;cases n with
  | zero=>cases o
  | succ n=>
   have:=ih ((dF o).2 _ (mem_of_getElem? e));refine⟨by simp only[length_cons];omega,?_⟩;simp only[length_cons,Nat.add_sub_add_right];exact this.2
theorem ej.snoc {d:D}{xs:List D}{k:Nat}{x:D}{ks:List Nat}(p:ej d ks (.tup xs))(e:xs[k]?=some x):ej d (ks++[k]) x:=by
 generalize hh:D.tup xs=h at p
 induction p with
 | nil=>subst hh;exact .cons e .nil
 | cons e1 _ ih=>exact .cons e1 (ih hh)
theorem lQ {l:List Int}{rest:au}{d0:D}{b:Bool}:∀(n:Nat) (d:D) (ks:List Nat) (i c:Int) (fuel:Nat),dP b n d=true→n≤fuel→0≤i→ks.length+n≤100→ej d0 ks d→rest=[]→
  ∃d' ks' i' c',0≤i'∧ej d0 ks' d'∧dQ bj dD fuel [some (.mr 0),some d,some (.mr 1)] [tp l i c,.lst (fN ks)]=.ok (.nx [some (.mr 0),some d',some (.mr 1)]) [tp l i' c',.lst (fN ks')]
 | 0,d,ks,i,c,fuel,h,_,_,_,_,_=>by cases h
 | n+1,d,ks,i,c,fuel,h,hf,hi,hk,hp,hr=>by
  cases fuel with
  | zero=>omega
  | succ fuel=>
   by_cases ht:∃xs,d=.tup xs
   ·obtain⟨xs,rfl⟩:=ht
    by_cases h0:xs=[]
    ·subst h0;exact⟨_,ks,i,c,hi,hp,jx (by simp_arith [bj])⟩
    ·have hl:0<xs.length:=length_pos_iff.mpr h0;have ho:=dF h;obtain⟨f1,M1,a1,b1,⟨i1,c1,q1,e1'⟩,e1⟩:=aS (many:=8) (l:=l) (rest:=[.lst (fN ks)]) (M:=[tp l i c,.lst (fN ks)]) (by decide) (aA (by decide) (by decide)) ⟨i,c,hi,rfl⟩
     by_cases hz:0<f1
     ·obtain⟨f2,M2,a2,b2,⟨i2,c2,q2,e2'⟩,e2⟩:=aS (many:=xs.length) (l:=l) (rest:=[.lst (fN ks)]) (M:=M1) (by omega) (aA (by omega) (by omega)) ⟨i1,c1,q1,e1'⟩;obtain⟨k,rfl⟩:=Int.eq_ofNat_of_zero_le a2;have hk2:k<xs.length:=by omega
      have ek:xs[k]?=some xs[k]:=getElem?_eq_getElem hk2;obtain⟨d',ks',i',c',r1,r2,r3⟩:=lQ (l:=l) (rest:=rest) (d0:=d0) (b:=b) n xs[k] (ks++[k]) i2 c2 fuel (ho.2 _ (getElem_mem hk2)) (by omega) q2 (by simp;omega) (hp.snoc ek) hr;refine⟨d',ks',i',c',r1,r2,?_⟩;rw[←r3];have lim:ks.length<sizeLine:=Nat.lt_of_lt_of_le (by omega:ks.length<1000) (bo (by decide));have w1:bj [some (.mr 0),some (.tup xs),some (.mr 1)] [tp l i c,.lst (fN ks)]=.ok true M1:=by
       simp_arith [bj,hl,e1,hz]
      have at1:kT xs (k:Int)=some xs[k]:=gM ek;have bb:dD [some (.mr 0),some (.tup xs),some (.mr 1)] M1=.ok (.nx [some (.mr 0),some xs[k],some (.mr 1)]) [tp l i2 c2,.lst (fN (ks++[k]))]:=by
       have lst':=yE (List.map (fun(k:Nat)=>D.int (k:Int)) ks) (D.int (k:Int));have m1:M1[1]?=some (MO.lst (fN ks)):=by rw[e1'];rfl
       simp_arith [dD,m1,e2,e2',lim,lst',at1]
      exact vQ w1 bb
     ·refine⟨_,ks,i1,c1,q1,hp,?_⟩;rw[jx (M1:=M1) (by simp_arith [bj,hl,e1,hz]),e1']
   ·refine⟨_,ks,i,c,hi,hp,jx ?_⟩;cases d with
    | tup xs=>exact absurd ⟨_,rfl⟩ ht
    | non=>simp_arith [bj]
    | bl _=>simp_arith [bj]
    | int _=>simp_arith [bj]
    | str _=>simp_arith [bj]
    | lst _=>simp_arith [bj]
    | _=>cases h
theorem yF {b:Bool}{n:Nat}{l:List Int}{M:au}{d:D}(h:dP b n d=true)(hn:n≤50)(hM:bC l [] M):∃ks h' M',bC l [] M'∧ej d ks h'∧eG [.mr 0,d] M=.ok (.lst (fN ks)) M':=by
 obtain⟨i,c,hi,rfl⟩:=hM;obtain⟨d',ks',i',c',r1,r2,r3⟩:=lQ (l:=l) (rest:=[]) (d0:=d) n d [] i c 5000 h (by omega) hi (by simp;omega) .nil rfl;refine⟨ks',d',[tp l i' c'],⟨i',c',r1,rfl⟩,r2,?_⟩;have e:bB 1 fI [.mr 0,d] [tp l i c]=.ok (.mr 1) ([tp l i' c']++[.lst (fN ks')]):=by
  have r3':dQ bj dD 5000 [some (.mr 0),some d,some (.mr 1)] [tp l i c,.lst []]=_:=r3;unfold fI;simp_arith [mK,r3']
 unfold eG;rw[e];show ju 1 (.ok (.mr 1) ([tp l i' c']++[.lst (fN ks')]))=_;have pM:([tp l i' c']:au).all nq=true:=by simp[tp,nq,sQ]
 exact xh (M:=[tp l i' c']) (all_eq_true.mpr fun x hx=>by
  obtain⟨k,_,rfl⟩:=mem_map.mp hx;rfl) pM
theorem AG {d h:D}{ks:List Nat}{M:au}(p:ej d ks h):fg [d,.lst (fN ks)] M=.ok h M:=by
 have go:∀(ds0:List D) (ks:List Nat) (d h:D) (x2:Option D) (pth:D),ej d ks h→∃y2,dM ⟨ds0,none⟩ (fQ 2) gK (fN ks) [some d,some pth,x2] M=.ok (.nx [some h,some pth,y2]) M:=by
  intro ds0 ks
  induction ks with
  | nil=>intro d h x2 pth p;cases p;exact⟨x2,rfl⟩
  | cons k ks ih=>
   intro d h x2 pth p;cases p with
   | cons e p'=>
    rename_i xs x;obtain⟨y2,q⟩:=ih x h (some (.int (k:Int))) pth p';refine⟨y2,?_⟩;have at1:kT xs (k:Int)=some x:=gM e;rw[←q];simp_arith [dM,lZ,gK,at1]
 obtain⟨y2,q⟩:=go (fN ks) ks d h none (.lst (fN ks)) p;unfold fg jI;simp_arith [kJ,q]
noncomputable def jW:D→List Nat→D→D
 | d,[],o=>o
 | .tup xs,k::ks,o=>.tup (xs.take k++[jW (xs.getD k .non) ks o]++xs.drop (k+1))
 | d,_::_,_=>d
theorem xf {d h o:D}{ks:List Nat}{n m:Nat}(p:ej d ks h)(hd:dP true n d=true)(ho:dP true m o=true):dP true (n+m) (jW d ks o)=true:=by
 induction p generalizing n with
 | nil=>exact bD (by omega) ho
 | cons e p' ih=>
  rename_i xs k x h' ks';cases n with
  | zero=>cases hd
  | succ n=>
   have q:=dF hd;have hx:=ih (q.2 _ (mem_of_getElem? e));have hk:=(List.getElem?_eq_some_iff.mp e).1;have eg:xs.getD k .non=x:=by simp[List.getD,e]
   have e1:n+1+m=(n+m)+1:=by omega
   rw[e1];show dP true (n+m+1) (.tup (xs.take k++[jW (xs.getD k .non) ks' o]++xs.drop (k+1)))=true;rw[eg];refine bP (by simp;omega) fun y hy=>?_
   simp only[mem_append,mem_singleton] at hy;rcases hy with(hy|hy)|hy
   ·exact bD (by omega) (q.2 y (mem_of_mem_take hy))
   ·rw[hy];exact hx
   ·exact bD (by omega) (q.2 y (mem_of_mem_drop hy))
theorem zZ {d h o:D}{ks:List Nat}{M:au}(p:ej d ks h):∀{n:Nat} {b:Bool} {m:Nat},ks.length<n→ks.length<40→m≤1000→dP b m d=true→bh n [d,.lst (fN ks),o] M=.ok (jW d ks o) M:=by
 induction p with
 | nil=>
  intro n b m hn _ _ _;cases n with
  | zero=>omega
  | succ n=>
   unfold bh fZ;simp_arith [aR,jW]
 | cons e p' ih=>
  rename_i xs k x h' ks';intro n b m hn hk hm hok;cases n with
  | zero=>omega
  | succ n=>
   cases m with
   | zero=>cases hok
   | succ m=>
    have q:=dF hok;have i1:=ih (n:=n) (b:=b) (m:=m) (by simp only[length_cons] at hn;omega) (by simp only[length_cons] at hk;omega) (by omega) (q.2 _ (mem_of_getElem? e));have at1:kT xs (k:Int)=some x:=gM e;have at0:kT (D.int (k:Int)::fN ks') 0=some (.int (k:Int)):=gM (j:=0) rfl;have hkl:=(List.getElem?_eq_some_iff.mp e).1;have eg:xs.getD k .non=x:=by simp[List.getD,e]
    have ck:cw 39 (fN ks')=true:=by
     have z:=kW 39 (ks'.map fun(k:Nat)=>(k:Int));rw[map_map] at z;exact z
    have l1:(1:Nat)≤sizeLine:=bo (by decide);have c1:cP (D.int (k:Int)::fN ks') (some 1) none=fN ks':=by
     unfold cP;have z:HT.sIx (D.int (k:Int)::fN ks').length 0 (some 1)=1:=by
      have:=HT.sIx_nat (D.int (k:Int)::fN ks').length 0 1;rw[show((1:Nat):Int)=1 from rfl] at this;rw[this];simp
     rw[z,HT.sIx_none];exact take_of_length_le (by simp)
    have c2:cP xs none (some (k:Int))=xs.take k:=by
     unfold cP;rw[HT.sIx_nat,HT.sIx_none];simp[Nat.min_eq_left (Nat.le_of_lt hkl)]
    have c3:cP xs (some ((k:Int)+1)) none=xs.drop (k+1):=by
     unfold cP;rw[show((k:Int)+1)=((k+1:Nat):Int) from by omega,HT.sIx_nat,HT.sIx_none];rw[Nat.min_eq_left (by omega)];exact take_of_length_le (by simp)
    have s1:(xs.take k).length+1≤sizeLine:=bo (by simp;omega);have s2:(xs.take k++[jW x ks' o]).length+(xs.drop (k+1)).length≤sizeLine:=bo (by simp;omega);have s2':min k xs.length+1+(xs.length-(k+1))≤sizeLine:=bo (by omega);have s1':min k xs.length+1≤sizeLine:=bo (by omega);show bB 2 (fZ (bh n)) [.tup xs,.lst (fN (k::ks')),o] M=.ok (.tup (xs.take k++[jW (xs.getD k .non) ks' o]++xs.drop (k+1))) M;rw[eg];unfold fZ;simp_arith [aR,ck,at0,at1,c1,c2,c3,i1,l1,s1',s2']
theorem wG {l:List Int}{rest M:au}(hM:bC l rest M):∃d M',bC l rest M'∧dP true 4 d=true∧en [.mr 0] M=.ok d M':=by
 have lg:(1000000000000000000000000000000:Int).natAbs.log2<9000:=by decide +kernel
 obtain⟨f1,M1,a1,b1,t1,e1⟩:=aS (many:=1000000000000000000000000000000) (by decide) lg hM;obtain⟨f2,M2,a2,b2,t2,e2⟩:=aS (many:=1000000000000000000000000000000) (by decide) lg t1;obtain⟨f3,M3,a3,b3,t3,e3⟩:=aS (many:=34) (by decide) (aA (by decide) (by decide)) t2;obtain⟨k,rfl⟩:=Int.eq_ofNat_of_zero_le a3;have hk:k<34:=by omega
 have all:∀x∈([.non,.bl true,.bl false,.int (-1),.int 0,.int 1,.int 16,.int 64,.int 40,.int 41,.int 1001,.int (-1001),.int 13,.str "",.str "shift",.str "pot",.lst [],.tup [],
   .tup [.int 0],.tup [.int 0,.int 0],.lst [.int 0,.int 0],.tup [.tup [.int 0]],.tup [.tup [.int 0,.int 1],.tup [.int 1]],.tup [.int 1,.int 2,.int 3,.int 4,.int 5],.tup [.str "move",.int 0,.int 0,.int 0],.tup [.tup [.int 1,.bl true]],.lst [.lst [.int 0]],.int 8,.int 3,.int 4,.str "0",.int 12,.int f1,.int (-f2)]:List D),dP true 4 x=true:=by
  intro x hx;simp only[mem_cons,mem_nil_iff,or_false] at hx;rcases hx with h|h|h|h|h|h|h|h|h|h|h|h|h|h|h|h|h|h|h|h|h|h|h|h|h|h|h|h|h|h|h|h|h|h <;> subst h <;> first|rfl|decide +kernel
 have at1:kT ([.non,.bl true,.bl false,.int (-1),.int 0,.int 1,.int 16,.int 64,.int 40,.int 41,.int 1001,.int (-1001),.int 13,.str "",.str "shift",.str "pot",.lst [],.tup [],
   .tup [.int 0],.tup [.int 0,.int 0],.lst [.int 0,.int 0],.tup [.tup [.int 0]],.tup [.tup [.int 0,.int 1],.tup [.int 1]],.tup [.int 1,.int 2,.int 3,.int 4,.int 5],.tup [.str "move",.int 0,.int 0,.int 0],.tup [.tup [.int 1,.bl true]],.lst [.lst [.int 0]],.int 8,.int 3,.int 4,.str "0",.int 12,.int f1,.int (-f2)]:List D) (k:Int)=some _:=gM (getElem?_eq_getElem (by simpa using hk))
 refine⟨_,M3,t3,all _ (getElem_mem (by simpa using hk)),?_⟩;have z:∀n:Nat,n≤50→n≤sizeLine:=fun n h=>bo (by omega)
 have z1:=z 1 (by decide);have z2:=z 2 (by decide);have z3:=z 3 (by decide);have z4:=z 4 (by decide);have z5:=z 5 (by decide);have z11:=z 11 (by decide);have z18:=z 18 (by decide);have z21:=z 21 (by decide);have z32:=z 32 (by decide);have z34:=z 34 (by decide);unfold en jC;simp_arith [e1,e2,e3,z1,z2,z3,z4,z5,z11,z18,z21,z32,z34,at1]
theorem jQ {b:Bool}{n:Nat}{xs:List D}(h:dP b (n+1) (.tup xs)=true):dP b (n+1) (.tup (cP xs none (some (-1))))=true:=by
 have q:=dF h;unfold cP;refine bP (by rw[length_take,length_drop];have:=q.1;omega) fun x hx=>q.2 x (mem_of_mem_drop (mem_of_mem_take hx))
noncomputable def FT:GS:=(az (ah 3 (bh 20) (aa (ae 1) (aa (ae 2) (aa (ah 1 en (aa (ae 0) af)) af)))))
noncomputable def Cc (k:Int)(g:GE):GS:=cD (bK (bf (bO "tuple" (ae 3))) (aH (g2 (aR false) (ae 4) (gC (.int k))))) (az (ah 3 (bh 20) (aa (ae 1) (aa (ae 2) (aa g af))))) aB
noncomputable def BR:GS:=cD (bK (bf (bO "tuple" (ae 3))) (bK (aH (g2 (aR false) (ae 4) (gC (.int 3)))) (aH (g2 jV (aq aJ (aa (ae 3) af)) (gC (.int 0)))))) (az (ah 3 (bh 20) (aa (ae 1) (aa (ae 2) (aa (g2 aW (ae 3) (jh (ae 3) aT (bR (gC (.int 1))))) af))))) aB
noncomputable def zn:GS:=cD (bK (aH (g2 (aR false) (ae 4) (gC (.int 4)))) (bf (bO "int" (ae 3)))) (az (ah 3 (bh 20) (aa (ae 1) (aa (ae 2) (aa (g2 aW (ae 3) (g2 aK (cX (aa (gC (.int 1)) (aa (eI (gC (.int 1))) (aa (gC (.int 64)) (aa (gC (.int 1000)) af))))) (ah 2 ai (aa (ae 0) (aa (gC (.int 4)) af))))) af))))) aB
noncomputable def vf:GS:=ao (Cc 1 (aq jm (aa (ae 3) af))) (ao (Cc 2 (jh (ae 3) aT (bR (eI (gC (.int 1)))))) (ao BR (ao zn FT)))
theorem Dt (ρ:bU)(M:au):fu ρ M=ao (aM 2 (ah 2 eG (aa (ae 0) (aa (ae 1) af)))) (ao (aM 3 (ah 2 fg (aa (ae 1) (aa (ae 2) af)))) (ao (aM 4 (ah 2 ai (aa (ae 0) (aa (gC (.int 5)) af)))) vf)) ρ M:=rfl
noncomputable def gu:D→Bool
 | .tup _=>true
 | _=>false
theorem nj {m:Nat}{here x0 x1 x2 x4:D}{M:au}(hh:dP true (m+1) here=true):bf (bO "tuple" (ae 3)) [some x0,some x1,some x2,some here,some x4] M=.ok (gu here) M:=by
 cases here <;> first|rfl|(cases hh)
theorem jA {m:Nat}{here x0 x1 x2:D}{way k:Int}{g:GE}{M:au}(hh:dP true (m+1) here=true)(h:¬(gu here=true∧way=k)):Cc k g [some x0,some x1,some x2,some here,some (.int way)] M=.ok (.nx [some x0,some x1,some x2,some here,some (.int way)]) M:=by
 unfold Cc;refine(cb ((bq (nj hh) fun _=>aC (aj (x:=.int way) (y:=.int k) rfl rfl (fX way k M))).trans ?_)).trans rfl;congr 1;cases q:gu here with
 | false=>rfl
 | true=>rw[decide_eq_false fun e=>h ⟨q,e⟩];rfl
theorem jN {g:GE}{ρ:bU}{M M1:au}{d ks o r:D}(h1:ae 1 ρ M=.ok d M)(h2:ae 2 ρ M=.ok ks M)(hg:g ρ M=.ok o M1)(hp:bh 20 [d,ks,o] M1=.ok r M1):az (ah 3 (bh 20) (aa (ae 1) (aa (ae 2) (aa g af)))) ρ M=.ok (.rt r) M1:=bA (bV h1 h2 hg hp)
theorem oX {l:List Int}{M2:au}{d here:D}{ks:List Nat}{way:Int}{m J:Nat}(hw:0≤way∧way<5)(t2:bC l [] M2)(hh:dP true (m+1) here=true)(hJ:m+2≤J)(hJ4:4≤J)(hm9:m≤1000)
  (put:∀(o:D) (M:au) (j:Nat),dP true j o=true→j≤J→bh 20 [d,.lst (fN ks),o] M=.ok (jW d ks o) M) :
  ∃o j M',dP true j o=true∧j≤J∧bC l [] M'∧aD (vf [some (.mr 0),some d,some (.lst (fN ks)),some here,some (.int way)] M2)=.ok (jW d ks o) M':=by
 obtain⟨da,Ma,ta,ha,ea⟩:=wG t2;have hmr:(∃xs,here=.tup xs)∨gu here=false:=by cases here <;> first|exact .inl ⟨_,rfl⟩|exact .inr rfl
 have any:∀(h1:¬(gu here=true∧way=1)) (h2:¬(gu here=true∧way=2)) (h3:∀M,BR [some (.mr 0),some d,some (.lst (fN ks)),some here,some (.int way)] M=.ok (.nx [some (.mr 0),some d,some (.lst (fN ks)),some here,some (.int way)]) M) (h4:∀M,zn [some (.mr 0),some d,some (.lst (fN ks)),some here,some (.int way)] M=.ok (.nx [some (.mr 0),some d,some (.lst (fN ks)),some here,some (.int way)]) M),
   ∃o j M',dP true j o=true∧j≤J∧bC l [] M'∧aD (vf [some (.mr 0),some d,some (.lst (fN ks)),some here,some (.int way)] M2)=.ok (jW d ks o) M':=fun h1 h2 h3 h4=>by
  refine⟨da,4,Ma,ha,hJ4,ta,?_⟩;unfold vf;rw[am (jA hh h1),am (jA hh h2),am (h3 M2),am (h4 M2)];unfold FT;rw[jN rfl rfl (cx (a:=ae 0) rfl ea) (put da Ma 4 ha hJ4)];rfl
 have no3:¬(gu here=true∧way=3)→∀M,BR [some (.mr 0),some d,some (.lst (fN ks)),some here,some (.int way)] M=.ok (.nx [some (.mr 0),some d,some (.lst (fN ks)),some here,some (.int way)]) M:=fun h M=>by
  unfold BR;refine(cb ((bq (y:=false) (nj hh) fun q=>?_).trans (by rw[Bool.and_false]))).trans rfl;refine(bq (x:=false) (y:=true) ((aC (aj (x:=.int way) (y:=.int 3) rfl rfl (fX way 3 M))).trans (by rw[decide_eq_false fun e=>h ⟨q,e⟩])) (fun z=>by cases z)).trans rfl
 have no4:¬way=4→∀M,zn [some (.mr 0),some d,some (.lst (fN ks)),some here,some (.int way)] M=.ok (.nx [some (.mr 0),some d,some (.lst (fN ks)),some here,some (.int way)]) M:=fun h M=>by
  unfold zn;refine(cb ((bq (x:=false) (y:=true) ((aC (aj (x:=.int way) (y:=.int 4) rfl rfl (fX way 4 M))).trans (by rw[decide_eq_false h])) (fun z=>by cases z)).trans rfl)).trans rfl
 have num:way=4→∀(v:Int),(∀M j,aW here (.int j) M=.ok (.int (v+j)) M)→(∀M,bf (bO "int" (ae 3)) [some (.mr 0),some d,some (.lst (fN ks)),some here,some (.int way)] M=.ok true M)→
   ∃o j M',dP true j o=true∧j≤J∧bC l [] M'∧aD (vf [some (.mr 0),some d,some (.lst (fN ks)),some here,some (.int way)] M2)=.ok (jW d ks o) M':=fun e v ad it=>by
  subst e;obtain⟨f4,M4,a4,b4,t4,e4⟩:=aS (many:=4) (by decide) (aA (by decide) (by decide)) t2;obtain⟨j,hj⟩:∃j,kT [D.int 1,D.int (-1),D.int 64,D.int 1000] f4=some (.int j):=by
   have:f4=0∨f4=1∨f4=2∨f4=3:=by omega
   rcases this with rfl|rfl|rfl|rfl <;> exact⟨_,rfl⟩
  refine⟨.int (v+j),1,M4,rfl,by omega,t4,?_⟩;unfold vf;rw[am (jA hh fun z=>by have:=z.2;omega),am (jA hh fun z=>by have:=z.2;omega),am (no3 (fun z=>by have:=z.2;omega) M2)];have ix:aK (.lst [.int 1,.int (-1),.int 64,.int 1000]) (.int f4) M4=.ok (.int j) M4:=by
   show(match kT [D.int 1,D.int (-1),D.int 64,D.int 1000] f4 with|some d=>bw.ok d M4|none=>.bad)=_;rw[hj]
  have k4:zn [some (.mr 0),some d,some (.lst (fN ks)),some here,some (.int 4)] M2=.ok (.rt (jW d ks (.int (v+j)))) M4:=by
   unfold zn;rw[aQ ((bq (x:=true) (y:=true) ((aC (aj (x:=.int 4) (y:=.int 4) rfl rfl (fX 4 4 M2))).trans rfl) (fun _=>it M2)).trans rfl)];exact jN rfl rfl (aj (f:=aW) (a:=ae 3) (x:=here) rfl (aj (f:=aK) (gj (ds:=[.int 1,.int (-1),.int 64,.int 1000]) rfl (by decide)) (bH (a:=ae 0) (b:=gC (.int 4)) rfl rfl e4) ix) (ad M4 j)) (put _ M4 1 rfl (by omega))
  rw[ay k4];rfl
 have nint:way=4→(∀M,bf (bO "int" (ae 3)) [some (.mr 0),some d,some (.lst (fN ks)),some here,some (.int way)] M=.ok false M)→∀M,zn [some (.mr 0),some d,some (.lst (fN ks)),some here,some (.int way)] M=.ok (.nx [some (.mr 0),some d,some (.lst (fN ks)),some here,some (.int way)]) M:=fun e it M=>by
  subst e;unfold zn;exact(cb ((bq (x:=true) (y:=false) ((aC (aj (x:=.int 4) (y:=.int 4) rfl rfl (fX 4 4 M))).trans rfl) (fun _=>it M)).trans rfl)).trans rfl
 have h4:way=4→∃o j M',dP true j o=true∧j≤J∧bC l [] M'∧aD (vf [some (.mr 0),some d,some (.lst (fN ks)),some here,some (.int way)] M2)=.ok (jW d ks o) M':=fun e=>by
  have n1:¬(gu here=true∧way=1):=fun z=>by have:=z.2;omega
  have n2:¬(gu here=true∧way=2):=fun z=>by have:=z.2;omega
  have n3:¬(gu here=true∧way=3):=fun z=>by have:=z.2;omega
  cases here with
  | int i=>exact num e i (fun M j=>rfl) fun M=>rfl
  | bl b=>exact num e (if b=true then 1 else 0) (fun M j=>rfl) fun M=>rfl
  | tup xs=>exact any n1 n2 (no3 n3) (nint e fun M=>rfl)
  | non=>exact any n1 n2 (no3 n3) (nint e fun M=>rfl)
  | str x=>exact any n1 n2 (no3 n3) (nint e fun M=>rfl)
  | lst x=>exact any n1 n2 (no3 n3) (nint e fun M=>rfl)
  | _=>cases hh
 by_cases e4:way=4
 ·exact h4 e4
 rcases hmr with⟨xs,rfl⟩|hn
 ·have q:=dF hh;have w0:way=0∨way=1∨way=2∨way=3:=by omega
  rcases w0 with rfl|rfl|rfl|rfl
  ·exact any (fun z=>by have:=z.2;omega) (fun z=>by have:=z.2;omega) (no3 fun z=>by have:=z.2;omega) (no4 e4)
  ·refine⟨.lst xs,m+1,M2,mz q.1 q.2,by omega,t2,?_⟩;unfold vf Cc;rw[ay ((aQ ((bq (x:=true) (y:=true) (nj hh) fun _=>(aC (aj (x:=.int 1) (y:=.int 1) rfl rfl (fX 1 1 M2))).trans rfl).trans rfl)).trans (jN rfl rfl (jD (a:=ae 3) (x:=.tup xs) rfl rfl) (put (.lst xs) M2 (m+1) (mz q.1 q.2) (by omega))))];rfl
  ·refine⟨.tup (cP xs none (some (-1))),m+1,M2,jQ hh,by omega,t2,?_⟩;unfold vf;rw[am (jA hh fun z=>by have:=z.2;omega)];unfold Cc;rw[ay ((aQ ((bq (x:=true) (y:=true) (nj hh) fun _=>(aC (aj (x:=.int 2) (y:=.int 2) rfl rfl (fX 2 2 M2))).trans rfl).trans rfl)).trans (jN (o:=.tup (cP xs none (some (-1)))) rfl rfl rfl (put _ M2 (m+1) (jQ hh) (by omega))))];rfl
  ·by_cases h0:0<xs.length
   ·have c1:cP xs none (some 1)=xs.take 1:=by
     unfold cP;have:=HT.sIx_nat xs.length xs.length 1;rw[show((1:Nat):Int)=1 from rfl] at this;rw[this,HT.sIx_none,drop_zero,Nat.sub_zero];cases xs with
     | nil=>rfl
     | cons x xs=>simp
    have h1:(xs.take 1).length≤1:=by rw[length_take];omega
    have ok3:dP true (m+2) (.tup (xs++xs.take 1))=true:=bP (n:=m+1) (by rw[length_append];have:=q.1;omega) fun x hx=>by
     rcases mem_append.mp hx with z|z
     ·exact bD (by omega) (q.2 x z)
     ·exact bD (by omega) (q.2 x (mem_of_mem_take z))
    refine⟨.tup (xs++xs.take 1),m+2,M2,ok3,hJ,t2,?_⟩;unfold vf;rw[am (jA hh fun z=>by have:=z.2;omega),am (jA hh fun z=>by have:=z.2;omega)];have sl:jh (ae 3) aT (bR (gC (.int 1))) [some (.mr 0),some d,some (.lst (fN ks)),some (.tup xs),some (.int 3)] M2=.ok (.tup (xs.take 1)) M2:=by rw[←c1];rfl
    have ad:aW (.tup xs) (.tup (xs.take 1)) M2=.ok (.tup (xs++xs.take 1)) M2:=by
     show(if xs.length+(xs.take 1).length≤sizeLine then bw.ok (D.tup (xs++xs.take 1)) M2 else .bad)=_;rw[if_pos (bo (by have:=q.1;omega))]
    have k3:BR [some (.mr 0),some d,some (.lst (fN ks)),some (.tup xs),some (.int 3)] M2=.ok (.rt (jW d ks (.tup (xs++xs.take 1)))) M2:=by
     unfold BR;have lt:aH (g2 jV (aq aJ (aa (ae 3) af)) (gC (.int 0))) [some (.mr 0),some d,some (.lst (fN ks)),some (.tup xs),some (.int 3)] M2=.ok true M2:=by
      refine aC (aj (x:=.int xs.length) (y:=.int 0) rfl rfl ?_);show bw.ok (D.bl (decide ((xs.length:Int)>0))) M2=_;rw[decide_eq_true (by omega)]
     rw[aQ ((bq (x:=true) (y:=true) (nj hh) fun _=>(bq (x:=true) (y:=true) ((aC (aj (x:=.int 3) (y:=.int 3) rfl rfl (fX 3 3 M2))).trans rfl) fun _=>lt).trans rfl).trans rfl)];exact jN rfl rfl (aj (f:=aW) (a:=ae 3) (x:=.tup xs) rfl sl ad) (put _ M2 (m+2) ok3 hJ)
    rw[ay k3];rfl
   ·refine any (fun z=>by have:=z.2;omega) (fun z=>by have:=z.2;omega) (fun M=>?_) (no4 e4);unfold BR;have lt:aH (g2 jV (aq aJ (aa (ae 3) af)) (gC (.int 0))) [some (.mr 0),some d,some (.lst (fN ks)),some (.tup xs),some (.int 3)] M=.ok false M:=by
     refine aC (aj (x:=.int xs.length) (y:=.int 0) rfl rfl ?_);show bw.ok (D.bl (decide ((xs.length:Int)>0))) M=_;rw[decide_eq_false (by omega)]
    exact(cb ((bq (x:=true) (y:=false) (nj hh) fun _=>(bq (x:=true) (y:=false) ((aC (aj (x:=.int 3) (y:=.int 3) rfl rfl (fX 3 3 M))).trans rfl) fun _=>lt).trans rfl).trans rfl)).trans rfl
 ·have nt:∀k,¬(gu here=true∧way=k):=fun k z=>by rw[hn] at z;cases z.1
  exact any (nt 1) (nt 2) (no3 (nt 3)) (no4 e4)
theorem ue {l:List Int}{M M1 M2:au}{d here:D}{ks:List Nat}{way:Int}(e1:eG [.mr 0,d] M=.ok (.lst (fN ks)) M1)(e2:fg [d,.lst (fN ks)] M1=.ok here M1)(e3:ai [.mr 0,.int 5] M1=.ok (.int way) M2) :
  cr [.mr 0,d] M=aD (vf [some (.mr 0),some d,some (.lst (fN ks)),some here,some (.int way)] M2):=by
 show aD (fu [some (.mr 0),some d,none,none,none] M)=_;rw[Dt,am (aO (bH (a:=ae 0) (b:=ae 1) (ρ:=[some (.mr 0),some d,none,none,none]) rfl rfl e1))];refine(congrArg aD (am (aO (bH (a:=ae 1) (b:=ae 2) (ρ:=[some (.mr 0),some d,some (.lst (fN ks)),none,none]) rfl rfl e2)))).trans ?_;exact congrArg aD (am (aO (bH (a:=ae 0) (b:=gC (.int 5)) (ρ:=[some (.mr 0),some d,some (.lst (fN ks)),some here,none]) rfl rfl e3)))
theorem nI {l:List Int}{M:au}{d:D}{n:Nat}(h:dP true n d=true)(hn:n≤15)(hM:bC l [] M):∃d' M',bC l [] M'∧dP true (2*n+4) d'=true∧cr [.mr 0,d] M=.ok d' M':=by
 obtain⟨ks,here,M1,t1,p,e1⟩:=yF h (by omega) hM;have e2:=AG (M:=M1) p;obtain⟨way,M2,a2,b2,t2,e3⟩:=aS (many:=5) (by decide) (aA (by decide) (by decide)) t1;have hlen:=(p.ok h).1;have hh:=(p.ok h).2;obtain⟨m,hm⟩:∃m,n-ks.length=m+1:=⟨n-ks.length-1,by omega⟩;rw[hm] at hh;obtain⟨o,j,M',ho,hj,t',e⟩:=oX (J:=n+4) ⟨a2,b2⟩ t2 hh (by omega) (by omega) (by omega) fun o M j ho hj=>zZ p (by omega) (by omega) (by omega) h
 exact⟨_,M',t',bD (by omega) (xf p h ho),(ue (l:=l) e1 e2 e3).trans e⟩
noncomputable def ar (lo hi:Int):D→Bool
 | .int i=>decide (lo≤i)&&decide (i≤hi)
 | _=>false
noncomputable def gx (d:D):Prop:=∃t,zr d=some t
theorem fe {g:GE}{ρ:bU}{M:au}{d:D}(h:g ρ M=.ok d M):aD (az g ρ M)=.ok d M:=by rw[bA h];rfl
theorem nO {a b c:GE}{ρ:bU}{M:au}{x y z:Int}(ha:a ρ M=.ok (.int x) M)(hb:b ρ M=.ok (.int y) M)(hc:c ρ M=.ok (.int z) M):lB jb jb a b c ρ M=.ok (.bl (decide (x≤y)&&decide (y≤z))) M:=by
 unfold lB;rw[ha,ak,hb,ak];show(bw.ok (D.bl (decide (x≤y))) M).bind _=_;rw[ak]
 by_cases q:x≤y
 ·rw[decide_eq_true q];dsimp only;rw[hc,ak];rfl
 ·rw[decide_eq_false q];rfl
noncomputable def Fy:D→Bool
 | .int _=>true
 | _=>false
theorem bQ {d:D}{lo hi:Int}{M:au}(h:gx d):aY [d,.int lo,.int hi] M=.ok (.bl (ar lo hi d)) M:=by
 obtain⟨t,ht⟩:=h;have w:jw [d] M=.ok (.bl (Fy d)) M:=by
  cases d <;> first|rfl|cases ht
 clear ht;show aD (gH [some d,some (.int lo),some (.int hi)] M)=_;unfold gH;cases d with
 | int i=>exact fe (bG (y:=decide (lo≤i)&&decide (i≤hi)) (cx rfl w) fun _=>nO rfl rfl rfl)
 | _=>exact fe (bG (y:=false) (cx rfl w) fun z=>by cases z)
theorem BO {α:Type}(p:α→Bool)(xs:List α):(xs.map p).all id=xs.all p:=by rw[all_map];rfl
theorem rT {xs:List D}{M:au}(h:∀x∈xs,gx x)(hl:xs.length≤3000):cf [.tup xs] M=.ok (.bl (decide (xs.length=2)&&xs.all (ar (-1000) 1000))) M:=by
 have e:decide ((xs.length:Int)=2)=decide (xs.length=2):=decide_eq_decide.mpr (by omega);rw[←e];show aD (cU [some (.tup xs)] M)=_;exact fe (bG (x:=true) rfl fun _=>bG (aj (x:=.int xs.length) rfl rfl (fX _ _ _)) fun _=>cW (dY rfl) (by omega) fun x hx=>bV rfl rfl rfl (bQ (h x hx)))
theorem B6 {d:D}{M:au}(h:gx d):lX [d] M=.ok (.bl (ar 0 15 d)) M:=by
 exact fe (bV rfl rfl rfl (bQ h))
theorem zQ {d:D}{M:au}(h:gx d):mh [d] M=.ok (.bl (ar 0 63 d)) M:=by
 exact fe (bV rfl rfl rfl (bQ h))
theorem xC {d:D}{M:au}(h:gx d):kq [d] M=.ok (.bl (ar 0 3 d)) M:=by
 exact fe (bV rfl rfl rfl (bQ h))
theorem ul {d:D}{M:au}(h:gx d):kz [d] M=.ok (.bl (ar 0 3 d)) M:=by
 exact fe (bV rfl rfl rfl (bQ h))
noncomputable def vP (n:Nat):D→Bool
 | .non=>true
 | d=>ar 0 ((n:Int)-1) d
theorem sO {d:D}{bk:List D}{M:au}(h:gx d):eV [.tup bk,d] M=.ok (.bl (vP bk.length d)) M:=by
 have w:=bQ (lo:=0) (hi:=(bk.length:Int)-1) (M:=M) h;obtain⟨t,ht⟩:=h;show aD (de [some (.tup bk),some d] M)=_;have w2:=bV (a:=ae 1) (b:=gC (.int 0)) (c:=g2 gR (aq aJ (aa (ae 0) af)) (gC (.int 1))) (ρ:=[some (.tup bk),some d]) rfl rfl rfl w;clear w;unfold de;cases d with
 | non=>exact fe (yV (x:=true) (y:=true) rfl fun z=>by cases z)
 | any=>cases ht
 | mr _=>cases ht
 | exc _=>cases ht
 | _=>exact fe (yV (x:=false) rfl fun _=>w2)
noncomputable def kB:D→Bool
 | .tup xs=>xs.all (ar 0 15)
 | _=>false
noncomputable def iL:D→Nat
 | .tup xs=>xs.length
 | _=>0
noncomputable def cu (most:Int):D→Bool
 | .tup rows=>(decide (1≤rows.length)&&decide ((rows.length:Int)≤most))&&(rows.all kB&&((decide (1≤iL (rows.getD 0 .non))&&decide ((iL (rows.getD 0 .non):Int)≤most))&&rows.all fun r=>decide (iL r=iL (rows.getD 0 .non))))
 | _=>false
noncomputable def cz:Nat→D→Prop
 | 0,d=>gx d
 | n+1,d=>gx d∧∀xs,d=.tup xs→xs.length≤3000∧∀x∈xs,cz n x
theorem cz.ty:∀{n:Nat} {d:D},cz n d→gx d
 | 0,_,h=>h
 | _+1,_,h=>h.1
theorem cz.down:∀{n:Nat} {d:D},cz (n+1) d→cz n d
 | 0,_,h=>h.1
 | _+1,_,h=>⟨h.1,fun xs e=>⟨(h.2 xs e).1,fun x hx=>((h.2 xs e).2 x hx).down⟩⟩
noncomputable def aL:D→Bool
 | .tup _=>true
 | _=>false
theorem cY {d:D}(h:aL d=true):∃y,d=.tup y:=by cases d <;> first|exact⟨_,rfl⟩|(cases h)
theorem bJ {d:D}{i:Nat}{ρ:bU}{M:au}(h:gx d)(hv:ae i ρ M=.ok d M):bO "tuple" (ae i) ρ M=.ok (.bl (aL d)) M:=by
 obtain⟨t,ht⟩:=h;unfold bO;rw[hv,ak];cases d <;> first|(simp[vO,zr,og,aL];done)|cases ht
theorem tK {d:D}{M:au}(h:cz 1 d):h8 [d] M=.ok (.bl (kB d)) M:=by
 have g1:=bJ (i:=0) (ρ:=[some d]) (M:=M) h.1 rfl;show aD (fU [some d] M)=_;unfold fU;cases d with
 | tup xs=>
  have hx:=h.2 xs rfl;have a:=cW (ge:=fA) (p:=ar 0 15) (dY (i:=0) (ρ:=[some (.tup xs)]) (M:=M) rfl) (by omega) fun x hm=>by
   unfold fA;exact cx rfl (B6 (hx.2 x hm))
  rw[bA (bG g1 fun _=>a)];rfl
 | _=>rw[bA (bG (y:=false) g1 fun z=>by cases z)];rfl
theorem oT {d:D}{most:Int}{M:au}(h:cz 2 d):eL [d,.int most] M=.ok (.bl (cu most d)) M:=by
 have g1:=bJ (i:=0) (ρ:=[some d,some (.int most),none]) (M:=M) h.1 rfl;show aD (eT [some d,some (.int most),none] M)=_;unfold eT;cases ht:aL d with
 | false=>
  rw[ht] at g1;rw[ay ((aQ (aF (y:=false) (ap (aw g1)) fun z=>by cases z)).trans rfl)];clear g1;revert h ht;cases d <;> intro h ht <;> first|rfl|(cases ht)
 | true=>
  obtain⟨rows,rfl⟩:=cY ht;have hx:=h.2 rows rfl;have ln:aq aJ (aa (ae 0) af) [some (.tup rows),some (.int most),none] M=.ok (.int rows.length) M:=rfl;have ch:lB jb jb (gC (.int 1)) (aq aJ (aa (ae 0) af)) (ae 1) [some (.tup rows),some (.int most),none] M=.ok (.bl (decide (1≤rows.length)&&decide ((rows.length:Int)≤most))) M:=by
   refine(nO rfl ln rfl).trans ?_;rw[show decide ((1:Int)≤(rows.length:Int))=decide (1≤rows.length) from decide_eq_decide.mpr (by omega)]
  have t1:=aF (ap (aw g1)) fun _=>ap (aC ch)
  by_cases k:1≤rows.length∧(rows.length:Int)≤most
  ·have hk:(decide (1≤rows.length)&&decide ((rows.length:Int)≤most))=true:=by simp[k.1,k.2]
   rw[hk] at t1;rw[am ((cb t1).trans rfl)];have a:=cW (ge:=eh) (p:=kB) (dY (i:=0) (ρ:=[some (.tup rows),some (.int most),none]) (M:=M) rfl) (by omega) fun x hm=>by
    unfold eh;exact cx rfl (tK (hx.2 x hm))
   cases ha:rows.all kB with
   | false=>
    rw[ha] at a;have e:cu most (.tup rows)=false:=by simp[cu,ha]
    rw[ay ((aQ (ap (aw a))).trans rfl),e];rfl
   | true=>
    rw[ha] at a;rw[am ((cb (ap (aw a))).trans rfl)];cases rows with
    | nil=>exact absurd k.1 (by simp)
    | cons r0 rs=>
     have hr:=all_eq_true.mp ha;obtain⟨x0,e0⟩:∃x0,r0=.tup x0:=by
      have:=hr r0 mem_cons_self;cases r0 <;> first|exact⟨_,rfl⟩|cases this
     subst e0;have s2:aq aJ (aa (g2 aK (ae 0) (gC (.int 0))) af) [some (.tup (.tup x0::rs)),some (.int most),none] M=.ok (.int x0.length) M:=
      jD (aj rfl rfl (a9 (k:=0) rfl)) rfl
     rw[am (aO s2)];have b:=cW (ge:=cT) (p:=fun r=>decide (iL r=x0.length)) (dY (i:=0) (ρ:=[some (.tup (.tup x0::rs)),some (.int most),some (.int x0.length)]) (M:=M) rfl) (by omega) fun x hm=>by
      obtain⟨y,ey⟩:∃y,x=.tup y:=by
       have:=hr x hm;cases x <;> first|exact⟨_,rfl⟩|cases this
      subst ey;unfold cT;refine aj (y:=.int x0.length) rfl rfl ((fX _ _ _).trans ?_);congr 2;exact decide_eq_decide.mpr (by show _↔y.length=_;omega)
     have ch2:lB jb jb (gC (.int 1)) (ae 2) (ae 1) [some (.tup (.tup x0::rs)),some (.int most),some (.int x0.length)] M=.ok (.bl (decide (1≤x0.length)&&decide ((x0.length:Int)≤most))) M:=by
      refine(nO (y:=x0.length) rfl rfl rfl).trans ?_;rw[show decide ((1:Int)≤(x0.length:Int))=decide (1≤x0.length) from decide_eq_decide.mpr (by omega)]
     have f:=bA (bG ch2 fun _=>b);have e:cu most (.tup (.tup x0::rs))=((decide (1≤x0.length)&&decide ((x0.length:Int)≤most))&&(D.tup x0::rs).all fun r=>decide (iL r=x0.length)):=by
      show((decide (1≤(D.tup x0::rs).length)&&decide (((D.tup x0::rs).length:Int)≤most))&&((D.tup x0::rs).all kB&&_))=_;rw[hk,ha];rfl
     rw[e];show aD (az (du (lB jb jb (gC (.int 1)) (ae 2) (ae 1)) (aq dA (aa (bv (cS (ae 0)) ce cT aV) af))) [some (.tup (.tup x0::rs)),some (.int most),some (.int x0.length)] M)=_;rw[f];rfl
  ·have hk:(decide (1≤rows.length)&&decide ((rows.length:Int)≤most))=false:=by
    by_cases k1:1≤rows.length
    ·have:¬(rows.length:Int)≤most:=fun z=>k ⟨k1,z⟩
     simp[this]
    ·simp[k1]
   rw[hk] at t1;have e:cu most (.tup rows)=false:=by
    show((decide (1≤rows.length)&&decide ((rows.length:Int)≤most))&&_)=false;rw[hk];rfl
   rw[ay ((aQ t1).trans rfl),e];rfl
theorem qJ {d:D}{M:au}(h:cz 2 d):jq [d] M=.ok (.bl (cu 8 d)) M:=by
 show aD (iC [some d] M)=_;unfold iC;rw[bA (bH rfl rfl (oT h))];rfl
noncomputable def lF:D→Bool
 | .tup xs=>decide (xs.length≤8)&&xs.all (cu 8)
 | _=>false
theorem tq {d:D}{M:au}(h:cz 3 d):kH [d] M=.ok (.bl (lF d)) M:=by
 have g1:=bJ (i:=0) (ρ:=[some d]) (M:=M) h.1 rfl;show aD (jf [some d] M)=_;unfold jf;cases d with
 | tup xs=>
  have hx:=h.2 xs rfl;have l:g2 jb (aq aJ (aa (ae 0) af)) (gC (.int 8)) [some (.tup xs)] M=.ok (.bl (decide (xs.length≤8))) M:=by
   show bw.ok (D.bl (decide ((xs.length:Int)≤8))) M=_;congr 2;exact decide_eq_decide.mpr (by omega)
  have a:=cW (ge:=iu) (p:=cu 8) (dY (i:=0) (ρ:=[some (.tup xs)]) (M:=M) rfl) (by omega) fun x hm=>by
   unfold iu;exact cx rfl (qJ (hx.2 x hm))
  rw[bA (bG g1 fun _=>bG l fun _=>a)];rfl
 | _=>rw[bA (bG (y:=false) g1 fun z=>by cases z)];rfl
noncomputable def nr:D→Bool
 | .tup xs=>decide (xs.length=2)&&xs.all (ar (-1000) 1000)
 | _=>false
theorem wQ {d:D}{M:au}(h:gx d)(ht:aL d=false):cf [d] M=.ok (.bl false) M:=by
 have g1:=bJ (i:=0) (ρ:=[some d]) (M:=M) h rfl;rw[ht] at g1;show aD (cU [some d] M)=_;unfold cU;rw[bA (bG (y:=false) g1 fun z=>by cases z)];rfl
theorem sX {d:D}{M:au}(h:cz 1 d):cf [d] M=.ok (.bl (nr d)) M:=by
 cases d with
 | tup xs=>exact rT (fun x hx=>((h.2 xs rfl).2 x hx)) (h.2 xs rfl).1
 | _=>exact wQ h.1 rfl
noncomputable def gQ (nb:Nat):D→Bool
 | .tup [s,x,y,r,t]=>vP nb s&&((ar (-1000) 1000 x&&ar (-1000) 1000 y)&&(ar 0 3 r&&ar 0 3 t))
 | _=>false
theorem qD {d:D}{bk:List D}{M:au}(h:cz 1 d):jF [.tup bk,d] M=.ok (.bl (gQ bk.length d)) M:=by
 have g1:=bJ (i:=1) (ρ:=[some (.tup bk),some d,none,none,none,none,none]) (M:=M) h.1 rfl;show aD (iF [some (.tup bk),some d,none,none,none,none,none] M)=_;unfold iF;cases ht:aL d with
 | false=>
  rw[ht] at g1;rw[ay ((aQ (aF (y:=false) (ap (aw g1)) fun z=>by cases z)).trans rfl)];clear g1;revert h ht;cases d <;> intro h ht <;> first|rfl|(cases ht)
 | true=>
  obtain⟨xs,rfl⟩:=cY ht;have hx:=h.2 xs rfl;have ne:g2 (aR true) (aq aJ (aa (ae 1) af)) (gC (.int 5)) [some (.tup bk),some (.tup xs),none,none,none,none,none] M=.ok (.bl (!decide ((xs.length:Int)=5))) M:=aj (y:=.int 5) rfl rfl (fb _ _ _);have t1:=aF (ap (aw g1)) fun _=>aC ne
  match xs,hx,t1 with
  | [s,x,y,r,t],hx,t1=>
   rw[am ((cb t1).trans rfl)];have q:∀z∈[s,x,y,r,t],gx z:=fun z hz=>hx.2 z hz
   have k1:=sO (bk:=bk) (M:=M) (q s (by simp));have k2:=rT (xs:=[x,y]) (M:=M) (fun z hz=>q z (by rcases mem_cons.mp hz with h|h <;> simp_all)) (by simp);have k3:=xC (M:=M) (q r (by simp));have k4:=ul (M:=M) (q t (by simp));have two:(2:Nat)≤sizeLine:=bo (by decide);have asg:g6 (fF [2,3,4,5,6]) (ae 1) [some (.tup bk),some (.tup [s,x,y,r,t]),none,none,none,none,none] M=.ok (.nx [some (.tup bk),some (.tup [s,x,y,r,t]),some s,some x,some y,some r,some t]) M:=rfl;rw[am asg];have tp2:aI (aa (ae 3) (aa (ae 4) af)) [some (.tup bk),some (.tup [s,x,y,r,t]),some s,some x,some y,some r,some t] M=.ok (.tup [x,y]) M:=by
    show(if [x,y].length≤sizeLine then bw.ok (D.tup [x,y]) M else .bad)=_;rw[if_pos (show [x,y].length≤sizeLine from two)]
   rw[bA (bG (bH (y:=s) rfl rfl k1) fun _=>bG (cx tp2 k2) fun _=>bG (cx rfl k3) fun _=>cx rfl k4)];show bw.ok (D.bl _) M=_;unfold gQ;simp
  | [],_,t1=>rw[ay ((aQ t1).trans rfl)];rfl
  | [_],_,t1=>rw[ay ((aQ t1).trans rfl)];rfl
  | [_,_],_,t1=>rw[ay ((aQ t1).trans rfl)];rfl
  | [_,_,_],_,t1=>rw[ay ((aQ t1).trans rfl)];rfl
  | [_,_,_,_],_,t1=>rw[ay ((aQ t1).trans rfl)];rfl
  | _::_::_::_::_::_::r,_,t1=>
   have z:(!decide (((r.length+1+1+1+1+1+1:Nat):Int)=5))=true:=by simp;omega
   simp only[length_cons] at t1;rw[z] at t1;rw[ay ((aQ t1).trans rfl)];rfl
noncomputable def jc (nb:Nat):D→Bool
 | .tup xs=>decide (xs.length≤12)&&xs.all (gQ nb)
 | _=>false
theorem ou {d:D}{bk:List D}{M:au}(h:cz 2 d):ir [.tup bk,d] M=.ok (.bl (jc bk.length d)) M:=by
 have g1:=bJ (i:=1) (ρ:=[some (.tup bk),some d]) (M:=M) h.1 rfl;show aD (fS [some (.tup bk),some d] M)=_;unfold fS;cases d with
 | tup xs=>
  have hx:=h.2 xs rfl;have l:g2 jb (aq aJ (aa (ae 1) af)) (gC (.int 12)) [some (.tup bk),some (.tup xs)] M=.ok (.bl (decide (xs.length≤12))) M:=by
   show bw.ok (D.bl (decide ((xs.length:Int)≤12))) M=_;congr 2;exact decide_eq_decide.mpr (by omega)
  have a:=cW (ge:=fj) (p:=gQ bk.length) (dY (i:=1) (ρ:=[some (.tup bk),some (.tup xs)]) (M:=M) rfl) (by omega) fun x hm=>by
   unfold fj;exact bH (y:=x) rfl rfl (qD (hx.2 x hm))
  rw[bA (bG g1 fun _=>bG l fun _=>a)];rfl
 | _=>rw[bA (bG (y:=false) g1 fun z=>by cases z)];rfl
noncomputable def m7:D→Bool
 | .tup xs=>decide (xs.length=16)&&xs.all (ar 0 63)
 | _=>false
theorem qw {d:D}{M:au}(h:cz 1 d):jB [d] M=.ok (.bl (m7 d)) M:=by
 have g1:=bJ (i:=0) (ρ:=[some d]) (M:=M) h.1 rfl;show aD (iD [some d] M)=_;unfold iD;cases d with
 | tup xs=>
  have hx:=h.2 xs rfl;have l:g2 (aR false) (aq aJ (aa (ae 0) af)) (gC (.int 16)) [some (.tup xs)] M=.ok (.bl (decide (xs.length=16))) M:=by
   refine(aj (y:=.int 16) rfl rfl (fX _ _ _)).trans ?_;congr 2;exact decide_eq_decide.mpr (by omega)
  have a:=cW (ge:=gJ) (p:=ar 0 63) (dY (i:=0) (ρ:=[some (.tup xs)]) (M:=M) rfl) (by omega) fun x hm=>by
   unfold gJ;exact cx rfl (zQ (hx.2 x hm))
  rw[bA (bG g1 fun _=>bG l fun _=>a)];rfl
 | _=>rw[bA (bG (y:=false) g1 fun z=>by cases z)];rfl
noncomputable def bT:D→Bool
 | .tup [f,s,b,m,p]=>(cu 16 f&&(nr s&&m7 p))&&(lF b&&jc (iL b) m)
 | _=>false
theorem sD {d:D}(h:lF d=true):∃b,d=.tup b:=by
 cases d <;> first|exact⟨_,rfl⟩|cases h
theorem qE {d:D}{M:au}(h:cz 4 d):ia [d] M=.ok (.bl (bT d)) M:=by
 have g1:=bJ (i:=0) (ρ:=[some d,none,none,none,none,none]) (M:=M) h.1 rfl;show aD (iw [some d,none,none,none,none,none] M)=_;unfold iw;cases ht:aL d with
 | false=>
  rw[ht] at g1;rw[ay ((aQ (aF (y:=false) (ap (aw g1)) fun z=>by cases z)).trans rfl)];clear g1;revert h ht;cases d <;> intro h ht <;> first|rfl|(cases ht)
 | true=>
  obtain⟨xs,rfl⟩:=cY ht;have hx:=h.2 xs rfl;have ne:g2 (aR true) (aq aJ (aa (ae 0) af)) (gC (.int 5)) [some (.tup xs),none,none,none,none,none] M=.ok (.bl (!decide ((xs.length:Int)=5))) M:=aj (y:=.int 5) rfl rfl (fb _ _ _);have t1:=aF (ap (aw g1)) fun _=>aC ne
  match xs,hx,t1 with
  | [f,s,b,m,p],hx,t1=>
   rw[am ((cb t1).trans rfl)];have q:∀z∈[f,s,b,m,p],cz 3 z:=fun z hz=>hx.2 z hz
   have k1:=oT (most:=16) (M:=M) (q f (by simp)).down;have k2:=sX (M:=M) (q s (by simp)).down.down;have k3:=qw (M:=M) (q p (by simp)).down.down;have k4:=tq (M:=M) (q b (by simp));have asg:g6 (fF [1,2,3,4,5]) (ae 0) [some (.tup [f,s,b,m,p]),none,none,none,none,none] M=.ok (.nx [some (.tup [f,s,b,m,p]),some f,some s,some b,some m,some p]) M:=rfl;rw[am asg];have t2:=ap (bq (aw (bH (ρ:=[some (.tup [f,s,b,m,p]),some f,some s,some b,some m,some p]) (a:=ae 1) (b:=gC (.int 16)) rfl rfl k1)) fun _=>bq (aw (cx (a:=ae 2) rfl k2)) fun _=>aw (cx (a:=ae 5) rfl k3));cases hk:(cu 16 f&&(nr s&&m7 p)) with
   | false=>
    rw[hk] at t2;rw[ay ((aQ t2).trans rfl)];have e:bT (.tup [f,s,b,m,p])=false:=by
     simp[bT,hk]
    rw[e];rfl
   | true=>
    rw[hk] at t2;rw[am ((cb t2).trans rfl)];cases hb:lF b with
    | false=>
     rw[hb] at k4;rw[bA (bG (y:=false) (cx (a:=ae 3) rfl k4) fun z=>by cases z)];have e:bT (.tup [f,s,b,m,p])=false:=by
      simp[bT,hb]
     rw[e];rfl
    | true=>
     obtain⟨bs,rfl⟩:=sD hb;have k5:=ou (bk:=bs) (M:=M) (q m (by simp)).down;rw[hb] at k4;rw[bA (bG (cx (a:=ae 3) rfl k4) fun _=>bH (a:=ae 3) (b:=ae 4) rfl rfl k5)];have e:bT (.tup [f,s,.tup bs,m,p])=jc bs.length m:=by
      simp[bT,hk,hb,iL]
     rw[e];rfl
  | [],_,t1=>rw[ay ((aQ t1).trans rfl)];rfl
  | [_],_,t1=>rw[ay ((aQ t1).trans rfl)];rfl
  | [_,_],_,t1=>rw[ay ((aQ t1).trans rfl)];rfl
  | [_,_,_],_,t1=>rw[ay ((aQ t1).trans rfl)];rfl
  | [_,_,_,_],_,t1=>rw[ay ((aQ t1).trans rfl)];rfl
  | _::_::_::_::_::_::r,_,t1=>
   have z:(!decide (((r.length+1+1+1+1+1+1:Nat):Int)=5))=true:=by simp;omega
   simp only[length_cons] at t1;rw[z] at t1;rw[ay ((aQ t1).trans rfl)];rfl
noncomputable def eW:D→Bool
 | .tup [w,h,g,m]=>ar 1 40 w&&(ar 1 40 h&&(ar 0 20 g&&ar 0 12 m))
 | _=>false
theorem qx {d:D}{M:au}(h:cz 1 d):iE [d] M=.ok (.bl (eW d)) M:=by
 have g1:=bJ (i:=0) (ρ:=[some d,none,none,none,none]) (M:=M) h.1 rfl;show aD (ij [some d,none,none,none,none] M)=_;unfold ij;cases ht:aL d with
 | false=>
  rw[ht] at g1;rw[ay ((aQ (aF (y:=false) (ap (aw g1)) fun z=>by cases z)).trans rfl)];clear g1;revert h ht;cases d <;> intro h ht <;> first|rfl|(cases ht)
 | true=>
  obtain⟨xs,rfl⟩:=cY ht;have hx:=h.2 xs rfl;have ne:g2 (aR true) (aq aJ (aa (ae 0) af)) (gC (.int 4)) [some (.tup xs),none,none,none,none] M=.ok (.bl (!decide ((xs.length:Int)=4))) M:=aj (y:=.int 4) rfl rfl (fb _ _ _);have t1:=aF (ap (aw g1)) fun _=>aC ne
  match xs,hx,t1 with
  | [w,h,g,m],hx,t1=>
   rw[am ((cb t1).trans rfl)];have q:∀z∈[w,h,g,m],gx z:=fun z hz=>hx.2 z hz
   have k1:=bQ (lo:=1) (hi:=40) (M:=M) (q w (by simp));have k2:=bQ (lo:=1) (hi:=40) (M:=M) (q h (by simp));have k3:=bQ (lo:=0) (hi:=20) (M:=M) (q g (by simp));have k4:=bQ (lo:=0) (hi:=12) (M:=M) (q m (by simp));have asg:g6 (fF [1,2,3,4]) (ae 0) [some (.tup [w,h,g,m]),none,none,none,none] M=.ok (.nx [some (.tup [w,h,g,m]),some w,some h,some g,some m]) M:=rfl;rw[am asg];rw[bA (bG (bV (y:=.int 1) (z:=.int 40) rfl rfl rfl k1) fun _=>bG (bV (y:=.int 1) (z:=.int 40) rfl rfl rfl k2) fun _=>bG (bV (y:=.int 0) (z:=.int 20) rfl rfl rfl k3) fun _=>bV (y:=.int 0) (z:=.int 12) rfl rfl rfl k4)];rfl
  | [],_,t1=>rw[ay ((aQ t1).trans rfl)];rfl
  | [_],_,t1=>rw[ay ((aQ t1).trans rfl)];rfl
  | [_,_],_,t1=>rw[ay ((aQ t1).trans rfl)];rfl
  | [_,_,_],_,t1=>rw[ay ((aQ t1).trans rfl)];rfl
  | _::_::_::_::_::r,_,t1=>
   have z:(!decide (((r.length+1+1+1+1+1:Nat):Int)=4))=true:=by simp;omega
   simp only[length_cons] at t1;rw[z] at t1;rw[ay ((aQ t1).trans rfl)];rfl
theorem aX {d:D}{lo hi:Int}{M:au}(h:gx d):aE [d,.int lo,.int hi] M=.ok (.bl (ar lo hi d)) M:=by
 obtain⟨t,ht⟩:=h;unfold aE iy;cases d with
 | int i=>
  by_cases h0:lo≤i
  ·simp_arith [ar,h0]
  ·simp_arith [ar,h0]
 | non=>simp_arith [ar]
 | bl _=>simp_arith [ar]
 | str _=>simp_arith [ar]
 | tup _=>simp_arith [ar]
 | lst _=>simp_arith [ar]
 | ro _=>simp_arith [ar]
 | _=>cases ht
theorem mj {d:D}{most:Int}{M:au}(h:cz 2 d):cQ [d,.int most] M=.ok (.bl (cu most d)) M:=by
 have g1:=bJ (i:=0) (ρ:=[some d,some (.int most),none]) (M:=M) h.1 rfl;show aD (dX [some d,some (.int most),none] M)=_;unfold dX;cases ht:aL d with
 | false=>
  rw[ht] at g1;rw[ay ((aQ (aF (y:=false) (ap (aw g1)) fun z=>by cases z)).trans rfl)];clear g1;revert h ht;cases d <;> intro h ht <;> first|rfl|(cases ht)
 | true=>
  obtain⟨rows,rfl⟩:=cY ht;have hx:=h.2 rows rfl;have ln:aq aJ (aa (ae 0) af) [some (.tup rows),some (.int most),none] M=.ok (.int rows.length) M:=rfl;have ch:lB jb jb (gC (.int 1)) (aq aJ (aa (ae 0) af)) (ae 1) [some (.tup rows),some (.int most),none] M=.ok (.bl (decide (1≤rows.length)&&decide ((rows.length:Int)≤most))) M:=by
   unfold lB;show((bw.ok (D.int 1) M).bind _)=_;rw[ak,ln,ak];show((bw.ok (D.bl (decide ((1:Int)≤rows.length))) M).bind _)=_;rw[ak]
   by_cases k:1≤rows.length
   ·have k':(1:Int)≤rows.length:=by omega
    rw[decide_eq_true k,decide_eq_true k'];rfl
   ·have k':¬(1:Int)≤rows.length:=by omega
    rw[decide_eq_false k,decide_eq_false k'];rfl
  have t1:=aF (ap (aw g1)) fun _=>ap (aC ch)
  by_cases k:1≤rows.length∧(rows.length:Int)≤most
  ·have hk:(decide (1≤rows.length)&&decide ((rows.length:Int)≤most))=true:=by simp[k.1,k.2]
   rw[hk] at t1;rw[am ((cb t1).trans rfl)];have a:=cW (ge:=dr) (p:=aL) (dY (i:=0) (ρ:=[some (.tup rows),some (.int most),none]) (M:=M) rfl) (by omega) fun x hm=>by
    unfold dr;exact bJ (i:=0) (hx.2 x hm).ty rfl
   cases ha:rows.all aL with
   | false=>
    rw[ha] at a;have hrb:rows.all kB=false:=by
     cases q:rows.all kB with
     | false=>rfl
     | true=>
      exfalso;have:rows.all aL=true:=all_eq_true.mpr fun r hr=>by
       have:=all_eq_true.mp q r hr;cases r <;> first|rfl|cases this
      rw[this] at ha;cases ha
    have e:cu most (.tup rows)=false:=by simp[cu,hrb]
    rw[ay ((aQ (ap (aw a))).trans rfl),e];rfl
   | true=>
    rw[ha] at a;rw[am ((cb (ap (aw a))).trans rfl)];cases rows with
    | nil=>exact absurd k.1 (by simp)
    | cons r0 rs=>
     have hr:=all_eq_true.mp ha;obtain⟨x0,e0⟩:∃x0,r0=.tup x0:=by
      have:=hr r0 mem_cons_self;cases r0 <;> first|exact⟨_,rfl⟩|cases this
     subst e0;have s2:aq aJ (aa (g2 aK (ae 0) (gC (.int 0))) af) [some (.tup (.tup x0::rs)),some (.int most),none] M=.ok (.int x0.length) M:=
      jD (x:=.tup x0) (aj rfl rfl (a9 (k:=0) rfl)) rfl
     rw[am (aO s2)];have b:=cW (ge:=dH) (p:=fun r=>decide (iL r=x0.length)) (dY (i:=0) (ρ:=[some (.tup (.tup x0::rs)),some (.int most),some (.int x0.length)]) (M:=M) rfl) (by omega) fun x hm=>by
      obtain⟨y,ey⟩:∃y,x=.tup y:=by
       have:=hr x hm;cases x <;> first|exact⟨_,rfl⟩|cases this
      subst ey;unfold dH;refine aj (x:=.int y.length) (y:=.int x0.length) rfl rfl ((fX _ _ _).trans ?_);congr 2;exact decide_eq_decide.mpr (by show _↔y.length=_;omega)
     have ch2:lB jb jb (gC (.int 1)) (ae 2) (ae 1) [some (.tup (.tup x0::rs)),some (.int most),some (.int x0.length)] M=.ok (.bl (decide (1≤x0.length)&&decide ((x0.length:Int)≤most))) M:=by
      unfold lB;show((bw.ok (D.int 1) M).bind _)=_;rw[ak];show((bw.ok (D.int x0.length) M).bind _)=_;rw[ak];show((bw.ok (D.bl (decide ((1:Int)≤x0.length))) M).bind _)=_;rw[ak]
      by_cases k:1≤x0.length
      ·have k':(1:Int)≤x0.length:=by omega
       rw[decide_eq_true k,decide_eq_true k'];rfl
      ·have k':¬(1:Int)≤x0.length:=by omega
       rw[decide_eq_false k,decide_eq_false k'];rfl
     have c:=cW (ge:=dC) (p:=kB) (dY (i:=0) (ρ:=[some (.tup (.tup x0::rs)),some (.int most),some (.int x0.length)]) (M:=M) rfl) (by omega) fun x hm=>by
      obtain⟨y,ey⟩:∃y,x=.tup y:=by
       have:=hr x hm;cases x <;> first|exact⟨_,rfl⟩|cases this
      subst ey;have hy:=(hx.2 (.tup y) hm).2 y rfl;unfold dC;exact cW (ge:=dB) (p:=ar 0 15) (dY (i:=0) rfl) (by omega) fun z hz=>by
       unfold dB;exact bV (x:=z) (y:=.int 0) (z:=.int 15) rfl rfl rfl (aX (hy.2 z hz))
     have e:cu most (.tup (.tup x0::rs))=((D.tup x0::rs).all kB&&((decide (1≤x0.length)&&decide ((x0.length:Int)≤most))&&(D.tup x0::rs).all fun r=>decide (iL r=x0.length))):=by
      show((decide (1≤(D.tup x0::rs).length)&&decide (((D.tup x0::rs).length:Int)≤most))&&((D.tup x0::rs).all kB&&_))=_;rw[hk];rfl
     rw[e];have t2:=aF (ap (aC ch2)) fun _=>ap (aw b)
     generalize (decide (1≤x0.length)&&decide ((x0.length:Int)≤most))=c2 at *;generalize ((D.tup x0::rs).all fun r=>decide (iL r=x0.length))=al at *;refine(congrArg aD (show _=_ from ?_)).trans (?_:aD (if c2=true∧al=true then .ok (.rt (.bl ((D.tup x0::rs).all kB))) M else .ok (.rt (.bl false)) M)=_)
     ·cases c2 with
      | false=>exact ay ((aQ t2).trans rfl)
      | true=>
       cases al with
       | false=>exact ay ((aQ t2).trans rfl)
       | true=>exact(am ((cb t2).trans rfl)).trans (bA c)
     ·cases c2 <;> cases al <;> cases (D.tup x0::rs).all kB <;> rfl
  ·have hk:(decide (1≤rows.length)&&decide ((rows.length:Int)≤most))=false:=by
    by_cases k1:1≤rows.length
    ·have:¬(rows.length:Int)≤most:=fun z=>k ⟨k1,z⟩
     simp[this]
    ·simp[k1]
   rw[hk] at t1;have e:cu most (.tup rows)=false:=by
    show((decide (1≤rows.length)&&decide ((rows.length:Int)≤most))&&_)=false;rw[hk];rfl
   rw[ay ((aQ t1).trans rfl),e];rfl
theorem pT {d:D}{bk:List D}{M:au}(h:cz 1 d):fL [d,.tup bk] M=.ok (.bl (gQ bk.length d)) M:=by
 have g1:=bJ (i:=0) (ρ:=[some d,some (.tup bk)]) (M:=M) h.1 rfl;show aD (dS [some d,some (.tup bk)] M)=_;unfold dS;cases ht:aL d with
 | false=>
  rw[ht] at g1;rw[ay ((aQ (aF (y:=false) (ap (aw g1)) fun z=>by cases z)).trans rfl)];clear g1;revert h ht;cases d <;> intro h ht <;> first|rfl|(cases ht)
 | true=>
  obtain⟨xs,rfl⟩:=cY ht;have hx:=h.2 xs rfl;have ne:g2 (aR true) (aq aJ (aa (ae 0) af)) (gC (.int 5)) [some (.tup xs),some (.tup bk)] M=.ok (.bl (!decide ((xs.length:Int)=5))) M:=aj (x:=.int xs.length) (y:=.int 5) rfl rfl (fb _ _ _);have t1:=aF (ap (aw g1)) fun _=>aC ne
  match xs,hx,t1 with
  | [s,x,y,r,t],hx,t1=>
   rw[am ((cb t1).trans rfl)];have q:∀z∈[s,x,y,r,t],gx z:=fun z hz=>hx.2 z hz
   have i0:g2 aK (ae 0) (gC (.int 0)) [some (.tup [s,x,y,r,t]),some (.tup bk)] M=.ok s M:=aj rfl rfl (a9 (k:=0) rfl);have i1:g2 aK (ae 0) (gC (.int 1)) [some (.tup [s,x,y,r,t]),some (.tup bk)] M=.ok x M:=aj rfl rfl (a9 (k:=1) rfl);have i2:g2 aK (ae 0) (gC (.int 2)) [some (.tup [s,x,y,r,t]),some (.tup bk)] M=.ok y M:=aj rfl rfl (a9 (k:=2) rfl);have i3:g2 aK (ae 0) (gC (.int 3)) [some (.tup [s,x,y,r,t]),some (.tup bk)] M=.ok r M:=aj rfl rfl (a9 (k:=3) rfl);have i4:g2 aK (ae 0) (gC (.int 4)) [some (.tup [s,x,y,r,t]),some (.tup bk)] M=.ok t M:=aj rfl rfl (a9 (k:=4) rfl);have ws:=aX (lo:=0) (hi:=(bk.length:Int)-1) (M:=M) (q s (by simp));have wx:=aX (lo:=-1000) (hi:=1000) (M:=M) (q x (by simp));have wy:=aX (lo:=-1000) (hi:=1000) (M:=M) (q y (by simp));have wr:=aX (lo:=0) (hi:=3) (M:=M) (q r (by simp));have wt:=aX (lo:=0) (hi:=3) (M:=M) (q t (by simp));have n1:aN (bf (ah 3 aE (aa (g2 aK (ae 0) (gC (.int 0))) (aa (gC (.int 0)) (aa (g2 gR (aq aJ (aa (ae 1) af)) (gC (.int 1))) af))))) [some (.tup [s,x,y,r,t]),some (.tup bk)] M=.ok (!ar 0 ((bk.length:Int)-1) s) M:=ap (aw (bV i0 (y:=.int 0) rfl (z:=.int ((bk.length:Int)-1)) rfl ws));have t2:bK (aH (g2 (fB true) (g2 aK (ae 0) (gC (.int 0))) (gC .non))) (aN (bf (ah 3 aE (aa (g2 aK (ae 0) (gC (.int 0))) (aa (gC (.int 0)) (aa (g2 gR (aq aJ (aa (ae 1) af)) (gC (.int 1))) af)))))) [some (.tup [s,x,y,r,t]),some (.tup bk)] M=.ok (!vP bk.length s) M:=by
    have ty:=q s (by simp);cases s with
    | non=>exact bq (x:=false) (y:=true) (aC (aj i0 (y:=.non) rfl rfl)) (fun z=>by cases z)
    | any=>obtain⟨_,e⟩:=ty;cases e
    | mr _=>obtain⟨_,e⟩:=ty;cases e
    | _=>exact bq (x:=true) (aC (aj i0 (y:=.non) rfl rfl)) (fun _=>n1)
   have t3:bY (aN (bf (ah 3 aE (aa (g2 aK (ae 0) (gC (.int 1))) (aa (eI (gC (.int 1000))) (aa (gC (.int 1000)) af)))))) (aN (bf (ah 3 aE (aa (g2 aK (ae 0) (gC (.int 2))) (aa (eI (gC (.int 1000))) (aa (gC (.int 1000)) af)))))) [some (.tup [s,x,y,r,t]),some (.tup bk)] M=.ok ((!ar (-1000) 1000 x)||!ar (-1000) 1000 y) M:=
    aF (ap (aw (bV i1 (y:=.int (-1000)) rfl (z:=.int 1000) rfl wx))) fun _=>ap (aw (bV i2 (y:=.int (-1000)) rfl (z:=.int 1000) rfl wy))
   have t4:=bG (bV i3 (b:=gC (.int 0)) (c:=gC (.int 3)) rfl rfl wr) fun _=>bV i4 (b:=gC (.int 0)) (c:=gC (.int 3)) rfl rfl wt
   show _=bw.ok (D.bl (vP bk.length s&&((ar (-1000) 1000 x&&ar (-1000) 1000 y)&&(ar 0 3 r&&ar 0 3 t)))) M;generalize vP bk.length s=b1 at *;generalize ar (-1000) 1000 x=b2 at *;generalize ar (-1000) 1000 y=b3 at *;cases b1 with
   | false=>rw[ay ((aQ t2).trans rfl)];rfl
   | true=>
    rw[am ((cb t2).trans rfl)];cases b2 with
    | false=>rw[ay ((aQ t3).trans rfl)];rfl
    | true=>
     cases b3 with
     | false=>rw[ay ((aQ t3).trans rfl)];rfl
     | true=>
      rw[am ((cb t3).trans rfl),bA t4];rfl
  | [],_,t1=>rw[ay ((aQ t1).trans rfl)];rfl
  | [_],_,t1=>rw[ay ((aQ t1).trans rfl)];rfl
  | [_,_],_,t1=>rw[ay ((aQ t1).trans rfl)];rfl
  | [_,_,_],_,t1=>rw[ay ((aQ t1).trans rfl)];rfl
  | [_,_,_,_],_,t1=>rw[ay ((aQ t1).trans rfl)];rfl
  | _::_::_::_::_::_::r,_,t1=>
   have z:(!decide (((r.length+1+1+1+1+1+1:Nat):Int)=5))=true:=by simp;omega
   simp only[length_cons] at t1;rw[z] at t1;rw[ay ((aQ t1).trans rfl)];rfl
noncomputable def uu:GS:=(cD (bY (aN (bf (bO "tuple" (ae 0)))) (bY (aH (g2 (aR true) (aq aJ (aa (ae 0) af)) (gC (.int 5)))) (aN (bf (ah 2 cQ (aa (g2 aK (ae 0) (gC (.int 0))) (aa (gC (.int 16)) af))))))) (az (gC (.bl false))) aB)
noncomputable def Bj:GS:=(cD (bY (aN (bf (aq dA (aa (bv (cS (jh (ae 0) (bR (gC (.int 1))) aT)) ce cE aV) af)))) (bY (aH (g2 (aR true) (aq aJ (aa (g2 aK (ae 0) (gC (.int 1))) af)) (gC (.int 2)))) (aH (g2 jV (aq aJ (aa (g2 aK (ae 0) (gC (.int 2))) af)) (gC (.int 8)))))) (az (gC (.bl false))) aB)
noncomputable def D0:GS:=(cD (aN (bf (aq dA (aa (bv (cS (g2 aK (ae 0) (gC (.int 1)))) ce cF aV) af)))) (az (gC (.bl false))) aB)
noncomputable def Do:GS:=(cD (bY (aN (bf (aq dA (aa (bv (cS (g2 aK (ae 0) (gC (.int 2)))) ce cC aV) af)))) (bY (aH (g2 jV (aq aJ (aa (g2 aK (ae 0) (gC (.int 3))) af)) (gC (.int 12)))) (aH (g2 (aR true) (aq aJ (aa (g2 aK (ae 0) (gC (.int 4))) af)) (gC (.int 16)))))) (az (gC (.bl false))) aB)
noncomputable def Ei:GS:=(cD (aN (bf (aq dA (aa (bv (cS (g2 aK (ae 0) (gC (.int 4)))) ce cG aV) af)))) (az (gC (.bl false))) aB)
noncomputable def C8:GS:=(az (aq dA (aa (bv (cS (g2 aK (ae 0) (gC (.int 3)))) ce cB aV) af)))
theorem pP {t:GT}{ρ:bU}{M:au}{b:Bool}(h:t ρ M=.ok b M):cD t (az (gC (.bl false))) aB ρ M=bif b then .ok (.rt (.bl false)) M else .ok (.nx ρ) M:=by
 cases b with
 | true=>exact(aQ h).trans rfl
 | false=>exact(cb h).trans rfl
theorem Fj {ρ:bU}{M:au}{g1 g2 g3 g4 g5:GS}{b1 b2 b3 b4 r:Bool}(h1:g1 ρ M=bif b1 then .ok (.rt (.bl false)) M else .ok (.nx ρ) M)(h2:g2 ρ M=bif b2 then .ok (.rt (.bl false)) M else .ok (.nx ρ) M)(h3:g3 ρ M=bif b3 then .ok (.rt (.bl false)) M else .ok (.nx ρ) M)(h4:g4 ρ M=bif b4 then .ok (.rt (.bl false)) M else .ok (.nx ρ) M)
  (h5:g5 ρ M=.ok (.rt (.bl r)) M):aD (ao g1 (ao g2 (ao g3 (ao g4 g5))) ρ M)=.ok (.bl (!b1&&(!b2&&(!b3&&(!b4&&r))))) M:=by
 cases b1 with
 | true=>rw[ay h1];rfl
 | false=>
  rw[am h1];cases b2 with
  | true=>rw[ay h2];rfl
  | false=>
   rw[am h2];cases b3 with
   | true=>rw[ay h3];rfl
   | false=>
    rw[am h3];cases b4 with
    | true=>rw[ay h4];rfl
    | false=>rw[am h4,h5];rfl
theorem C6:∀b1 b2 b3 b4 c1 c2 c3 c4:Bool,(!(!true||(!b1||!b2))&&(!(!c1)&&(!(!c2||(!b3||!b4))&&(!(!c4)&&c3))))=((true&&((b1&&c1)&&(b4&&c4)))&&((b2&&c2)&&(b3&&c3))):=by decide
theorem xO {d:D}(h:aL d=false):nr d=false:=by cases d <;> first|rfl|(cases h)
theorem yC {d:D}(h:aL d=false):m7 d=false:=by cases d <;> first|rfl|(cases h)
theorem xP {d:D}(h:aL d=false):lF d=false:=by cases d <;> first|rfl|(cases h)
theorem sC {n:Nat}{d:D}(h:aL d=false):jc n d=false:=by cases d <;> first|rfl|(cases h)
theorem F8 {s b m p:D}(h:[s,b,m,p].all aL=false):((true&&(nr s&&m7 p))&&(lF b&&jc (iL b) m))=false:=by
 have h:(aL s&&(aL b&&(aL m&&(aL p&&true))))=false:=h;cases q1:aL s with
 | false=>rw[xO q1];rfl
 | true=>
  cases q2:aL b with
  | false=>rw[xP q2];simp
  | true=>
   cases q3:aL m with
   | false=>rw[sC q3];simp
   | true=>
    cases q4:aL p with
    | false=>rw[yC q4];simp
    | true=>rw[q1,q2,q3,q4] at h;cases h
theorem A8 (ρ:bU)(M:au):d7 ρ M=(ao uu (ao Bj (ao D0 (ao Do (ao Ei C8))))) ρ M:=rfl
theorem pw {d:D}{M:au}(h:cz 4 d):dZ [d] M=.ok (.bl (bT d)) M:=by
 have g1:=bJ (i:=0) (ρ:=[some d]) (M:=M) h.1 rfl;show aD (d7 [some d] M)=_;rw[A8];cases ht:aL d with
 | false=>
  have e:bT d=false:=by cases d <;> first|rfl|(cases ht)
  rw[ht] at g1;have k:uu [some d] M=.ok (.rt (.bl false)) M:=(aQ (aF (y:=false) (ap (aw g1)) fun z=>by cases z)).trans rfl;rw[ay k,e];rfl
 | true=>
  obtain⟨xs,rfl⟩:∃xs,d=.tup xs:=by cases d <;> first|exact⟨_,rfl⟩|(cases ht)
  have hx:=h.2 xs rfl;have ne:g2 (aR true) (aq aJ (aa (ae 0) af)) (gC (.int 5)) [some (.tup xs)] M=.ok (.bl (!decide ((xs.length:Int)=5))) M:=aj (x:=.int xs.length) (y:=.int 5) rfl rfl (fb _ _ _)
  by_cases hl:xs.length=5
  ·obtain⟨f,s,b,m,p,rfl⟩:∃f s b m p,xs=[f,s,b,m,p]:=by
    match xs,hl with
    | [f,s,b,m,p],_=>exact⟨f,s,b,m,p,rfl⟩
   have q:∀z∈[f,s,b,m,p],cz 3 z:=fun z hz=>hx.2 z hz
   have i0:g2 aK (ae 0) (gC (.int 0)) [some (.tup [f,s,b,m,p])] M=.ok f M:=aj rfl rfl (a9 (k:=0) rfl);have i1:g2 aK (ae 0) (gC (.int 1)) [some (.tup [f,s,b,m,p])] M=.ok s M:=aj rfl rfl (a9 (k:=1) rfl);have i2:g2 aK (ae 0) (gC (.int 2)) [some (.tup [f,s,b,m,p])] M=.ok b M:=aj rfl rfl (a9 (k:=2) rfl);have i3:g2 aK (ae 0) (gC (.int 3)) [some (.tup [f,s,b,m,p])] M=.ok m M:=aj rfl rfl (a9 (k:=3) rfl);have i4:g2 aK (ae 0) (gC (.int 4)) [some (.tup [f,s,b,m,p])] M=.ok p M:=aj rfl rfl (a9 (k:=4) rfl);have kf:=mj (most:=16) (M:=M) (q f (by simp)).down;have t1:=aF (ap (aw g1)) fun _=>aF (aC ne) fun _=>ap (aw (bH i0 (y:=.int 16) (b:=gC (.int 16)) rfl kf))
   show _=bw.ok (D.bl ((cu 16 f&&(nr s&&m7 p))&&(lF b&&jc (iL b) m))) M;cases hf:cu 16 f with
   | false=>
    rw[hf] at t1;rw[ay (show uu [some (.tup [f,s,b,m,p])] M=.ok (.rt (.bl false)) M from(aQ t1).trans rfl)];rfl
   | true=>
    rw[hf] at t1;rw[am (show uu [some (.tup [f,s,b,m,p])] M=.ok (.nx [some (.tup [f,s,b,m,p])]) M from(cb t1).trans rfl)];have gsl:jh (ae 0) (bR (gC (.int 1))) aT [some (.tup [f,s,b,m,p])] M=.ok (.tup [s,b,m,p]) M:=rfl;have gi:cS (jh (ae 0) (bR (gC (.int 1))) aT) [some (.tup [f,s,b,m,p])] M=.ok ⟨[s,b,m,p],none⟩ M:=by
     unfold cS;rw[gsl];rfl
    have a:=cW (ge:=cE) (p:=aL) gi (by simp) fun x hm=>by
     unfold cE;exact bJ (i:=0) (q x (mem_cons_of_mem _ hm)).ty rfl
    cases ha:[s,b,m,p].all aL with
    | false=>
     rw[ha] at a;have e:=F8 ha;rw[ay (show Bj [some (.tup [f,s,b,m,p])] M=.ok (.rt (.bl false)) M from(aQ (aF (y:=false) (ap (aw a)) fun z=>by cases z)).trans rfl),e];rfl
    | true=>
     rw[ha] at a;have ha4:(aL s&&(aL b&&(aL m&&(aL p&&true))))=true:=ha;rw[Bool.and_true,Bool.and_eq_true,Bool.and_eq_true,Bool.and_eq_true] at ha4;obtain⟨ss,es⟩:=cY ha4.1;obtain⟨bs,eb⟩:=cY ha4.2.1;obtain⟨ms,em⟩:=cY ha4.2.2.1;obtain⟨ps,ep⟩:=cY ha4.2.2.2;subst es eb em ep;have qs:=(q (.tup ss) (by simp)).2 ss rfl;have qb:=(q (.tup bs) (by simp)).2 bs rfl;have qm:=(q (.tup ms) (by simp)).2 ms rfl;have qp:=(q (.tup ps) (by simp)).2 ps rfl;have l1:g2 (aR true) (aq aJ (aa (g2 aK (ae 0) (gC (.int 1))) af)) (gC (.int 2)) [some (.tup [f,.tup ss,.tup bs,.tup ms,.tup ps])] M=.ok (.bl (!decide ((ss.length:Int)=2))) M:=aj (jD (F:=aJ) (o:=.ok (.int ss.length) M) i1 rfl) (y:=.int 2) rfl (fb _ _ _);have l2:g2 jV (aq aJ (aa (g2 aK (ae 0) (gC (.int 2))) af)) (gC (.int 8)) [some (.tup [f,.tup ss,.tup bs,.tup ms,.tup ps])] M=.ok (.bl (decide ((bs.length:Int)>8))) M:=aj (jD (F:=aJ) (o:=.ok (.int bs.length) M) i2 rfl) (y:=.int 8) rfl rfl;have t2:=aF (ap (aw a)) fun _=>aF (aC l1) fun _=>aC l2
     have iti:∀(k:Int) (ys:List D),g2 aK (ae 0) (gC (.int k)) [some (.tup [f,.tup ss,.tup bs,.tup ms,.tup ps])] M=.ok (.tup ys) M→cS (g2 aK (ae 0) (gC (.int k))) [some (.tup [f,.tup ss,.tup bs,.tup ms,.tup ps])] M=.ok ⟨ys,none⟩ M:=fun k ys e=>by
      unfold cS;rw[e];rfl
     have a2:=cW (ge:=cF) (p:=ar (-1000) 1000) (iti 1 ss i1) (by omega) fun x hm=>by
      unfold cF;exact bV (x:=x) (y:=.int (-1000)) (z:=.int 1000) rfl rfl rfl (aX (qs.2 x hm).ty)
     have a3:=cW (ge:=cC) (p:=cu 8) (iti 2 bs i2) (by omega) fun x hm=>by
      unfold cC;exact bH (x:=x) (y:=.int 8) (b:=gC (.int 8)) rfl rfl (mj (qb.2 x hm))
     have a4:=cW (ge:=cG) (p:=ar 0 63) (iti 4 ps i4) (by omega) fun x hm=>by
      unfold cG;exact bV (x:=x) (y:=.int 0) (z:=.int 63) rfl rfl rfl (aX (qp.2 x hm).ty)
     have a5:=cW (ge:=cB) (p:=gQ bs.length) (iti 3 ms i3) (by omega) fun x hm=>by
      unfold cB;exact bH (x:=x) (y:=.tup bs) (b:=g2 aK (ae 1) (gC (.int 2))) rfl (aj rfl rfl (a9 (k:=2) rfl)) (pT (qm.2 x hm).down)
     have l3:g2 jV (aq aJ (aa (g2 aK (ae 0) (gC (.int 3))) af)) (gC (.int 12)) [some (.tup [f,.tup ss,.tup bs,.tup ms,.tup ps])] M=.ok (.bl (decide ((ms.length:Int)>12))) M:=aj (jD (F:=aJ) (o:=.ok (.int ms.length) M) i3 rfl) (y:=.int 12) rfl rfl;have l4:g2 (aR true) (aq aJ (aa (g2 aK (ae 0) (gC (.int 4))) af)) (gC (.int 16)) [some (.tup [f,.tup ss,.tup bs,.tup ms,.tup ps])] M=.ok (.bl (!decide ((ps.length:Int)=16))) M:=aj (jD (F:=aJ) (o:=.ok (.int ps.length) M) i4 rfl) (y:=.int 16) rfl (fb _ _ _);have t4:=aF (ap (aw a3)) fun _=>aF (aC l3) fun _=>aC l4
     have e1:(!decide ((ss.length:Int)=2))=!decide (ss.length=2):=by congr 1;exact decide_eq_decide.mpr (by omega)
     have e2:decide ((bs.length:Int)>8)=!decide (bs.length≤8):=by
      by_cases z:bs.length≤8
      ·rw[decide_eq_true z,decide_eq_false (by omega)];rfl
      ·rw[decide_eq_false z,decide_eq_true (by omega)];rfl
     have e3:decide ((ms.length:Int)>12)=!decide (ms.length≤12):=by
      by_cases z:ms.length≤12
      ·rw[decide_eq_true z,decide_eq_false (by omega)];rfl
      ·rw[decide_eq_false z,decide_eq_true (by omega)];rfl
     have e4:(!decide ((ps.length:Int)=16))=!decide (ps.length=16):=by congr 1;exact decide_eq_decide.mpr (by omega)
     rw[e1,e2] at t2;rw[e3,e4] at t4;show _=bw.ok (D.bl ((true&&((decide (ss.length=2)&&ss.all (ar (-1000) 1000))&&(decide (ps.length=16)&&ps.all (ar 0 63))))&&((decide (bs.length≤8)&&bs.all (cu 8))&&(decide (ms.length≤12)&&ms.all (gQ bs.length))))) M;have k1:Bj [some (.tup [f,.tup ss,.tup bs,.tup ms,.tup ps])] M=_:=pP t2;have k2:D0 [some (.tup [f,.tup ss,.tup bs,.tup ms,.tup ps])] M=_:=pP (ap (aw a2));have k3:Do [some (.tup [f,.tup ss,.tup bs,.tup ms,.tup ps])] M=_:=pP t4;have k4:Ei [some (.tup [f,.tup ss,.tup bs,.tup ms,.tup ps])] M=_:=pP (ap (aw a4));have k5:C8 [some (.tup [f,.tup ss,.tup bs,.tup ms,.tup ps])] M=_:=bA a5;rw[Fj k1 k2 k3 k4 k5,C6]
  ·have e:bT (.tup xs)=false:=by
    match xs,hl with
    | [],_=>rfl
    | [_],_=>rfl
    | [_,_],_=>rfl
    | [_,_,_],_=>rfl
    | [_,_,_,_],_=>rfl
    | [_,_,_,_,_],hl=>exact absurd rfl hl
    | _::_::_::_::_::_::r,_=>rfl
   rw[decide_eq_false (by omega)] at ne;have k:uu [some (.tup xs)] M=.ok (.rt (.bl false)) M:=(aQ (aF (y:=true) (ap (aw g1)) fun _=>aF (y:=true) (aC ne) fun z=>by cases z)).trans rfl;rw[ay k,e];rfl
theorem gU {lo hi:Int}{x:D}(h:ar lo hi x=true):∃i,x=.int i∧lo≤i∧i≤hi:=by
 cases x with
 | int i=>exact⟨i,rfl,by simpa[ar] using h⟩
 | _=>cases h
theorem l9 {lo hi:Int}{xs:List D}(h:xs.all (ar lo hi)=true):∃r:List Int,xs=r.map D.int∧∀k∈r,lo≤k∧k≤hi:=
 iS fun e he=>let ⟨i,e1,e2⟩:=gU (all_eq_true.mp h e he);⟨i,e1,e2⟩
theorem nD {most:Int}{d:D}(h:cu most d=true):∃rs,d=bS rs∧je most rs:=by
 cases d with
 | tup rows=>
  have h:((decide (1≤rows.length)&&decide ((rows.length:Int)≤most))&&(rows.all kB&&((decide (1≤iL (rows.getD 0 .non))&&decide ((iL (rows.getD 0 .non):Int)≤most))&&rows.all fun r=>decide (iL r=iL (rows.getD 0 .non)))))=true:=h;simp only[Bool.and_eq_true,decide_eq_true_eq] at h;obtain⟨⟨h1,h2⟩,h3,⟨h4,h5⟩,h6⟩:=h;obtain⟨rs,er,hr⟩:=iS (f:=fun r:List Int=>D.tup (r.map D.int)) (P:=fun r=>∀k∈r,0≤k∧k≤15) (es:=rows) fun e he=>by
   have:=all_eq_true.mp h3 e he;cases e with
   | tup xs=>
    obtain⟨r,e1,e2⟩:=l9 (show xs.all (ar 0 15)=true from this);exact⟨r,by rw[e1],e2⟩
   | _=>cases this
  refine⟨rs,by rw[er];rfl,?_⟩;have l:rows.length=rs.length:=by rw[er,length_map]
  refine⟨by omega,by omega,iL (rows.getD 0 .non),h4,h5,fun r hr'=>⟨?_,hr r hr'⟩⟩;have:=all_eq_true.mp h6 (.tup (r.map D.int)) (by rw[er];exact mem_map.mpr ⟨r,hr',rfl⟩);have:=of_decide_eq_true this;rw[←this];show r.length=(r.map D.int).length;rw[length_map]
 | _=>cases h
theorem tw {n:Nat}{d:D}(h:gQ n d=true):∃m:Mv,d=m.d∧sT n m:=by
 unfold gQ at h;split at h
 ·rename_i s x y r t;simp only[Bool.and_eq_true] at h;obtain⟨h1,⟨h2,h3⟩,h4,h5⟩:=h;obtain⟨x,rfl,bx⟩:=gU h2;obtain⟨y,rfl,by'⟩:=gU h3;obtain⟨r,rfl,br⟩:=gU h4;obtain⟨t,rfl,bt⟩:=gU h5;have:∃so:Option Nat,s=(match so with|some k=>.int k|none=>.non)∧∀k,so=some k→k<n:=by
   cases s with
   | non=>exact⟨none,rfl,fun k e=>by cases e⟩
   | int i=>
    have h1:(decide (0≤i)&&decide (i≤(n:Int)-1))=true:=h1;simp only[Bool.and_eq_true,decide_eq_true_eq] at h1;obtain⟨j,rfl⟩:=Int.eq_ofNat_of_zero_le h1.1;exact⟨some j,rfl,fun k e=>by cases e;omega⟩
   | _=>cases h1
  obtain⟨so,es,hs⟩:=this;exact⟨⟨so,x,y,r,t⟩,by rw[es];rfl,⟨hs,bx,by',br,bt⟩⟩
 ·cases h
theorem m4 {d:D}(h:bT d=true):∃s:Cb,d=s.d∧vI 12 s:=by
 unfold bT at h;split at h
 ·rename_i f s b m p;simp only[Bool.and_eq_true] at h;obtain⟨⟨h1,h2,h3⟩,h4,h5⟩:=h;obtain⟨fl,rfl,okf⟩:=nD h1;cases s with
  | tup ss=>
   have h2:(decide (ss.length=2)&&ss.all (ar (-1000) 1000))=true:=h2;simp only[Bool.and_eq_true,decide_eq_true_eq] at h2;obtain⟨sh,rfl,hsh⟩:=l9 h2.2;cases p with
   | tup ps=>
    have h3:(decide (ps.length=16)&&ps.all (ar 0 63))=true:=h3;simp only[Bool.and_eq_true,decide_eq_true_eq] at h3;obtain⟨po,rfl,hpo⟩:=l9 h3.2;cases b with
    | tup bs=>
     have h4:(decide (bs.length≤8)&&bs.all (cu 8))=true:=h4;simp only[Bool.and_eq_true,decide_eq_true_eq] at h4;obtain⟨bk,rfl,hbk⟩:=iS (f:=bS) (P:=je 8) (es:=bs) fun e he=>nD (all_eq_true.mp h4.2 e he)
     cases m with
     | tup ms=>
      have h5:(decide (ms.length≤12)&&ms.all (gQ (bk.map bS).length))=true:=h5;simp only[Bool.and_eq_true,decide_eq_true_eq,length_map] at h5;obtain⟨mv,rfl,hmv⟩:=iS (f:=Mv.d) (P:=sT bk.length) (es:=ms) fun e he=>tw (all_eq_true.mp h5.2 e he)
      have l2:sh.length=2:=by rw[←h2.1,length_map]
      match sh,l2,hsh with
      | [sx,sy],_,hsh=>
       refine⟨⟨fl,sx,sy,bk,mv,po⟩,rfl,⟨okf,hsh sx (by simp),hsh sy (by simp),by have:=h4.1;rw[length_map] at this;exact this,hbk,?_,hmv,by have:=h3.1;rw[length_map] at this;exact this,hpo⟩⟩;have:=h5.1;show(mv.length:Int)≤12;rw[length_map] at this;omega
     | _=>cases h5
    | _=>cases h4
   | _=>cases h3
  | _=>cases h2
 ·cases h
noncomputable def iv:D→Int
 | .int i=>i
 | _=>0
noncomputable def cy:D→Bool
 | .tup [a,b,c,d]=>ar (-900) 900 a&&(ar (iv a) (iv a+12) b&&(ar (iv a) (iv b) c&&ar (-12) 12 d))
 | _=>false
theorem pE {lo hi:Int}{x:D}(h:ar lo hi x=true):x=.int (iv x):=by
 cases x with
 | int i=>rfl
 | _=>cases h
theorem kA {xs:List D}(h:xs.length≠4):cy (.tup xs)=false:=by
 match xs,h with
 | [],_=>rfl
 | [_],_=>rfl
 | [_,_],_=>rfl
 | [_,_,_],_=>rfl
 | [_,_,_,_],h=>exact absurd rfl h
 | _::_::_::_::_::_,_=>rfl
theorem n9 {xs:List D}(h:xs.length=4):∃a b c d,xs=[a,b,c,d]:=by
 match xs,h with
 | [a,b,c,d],_=>exact⟨a,b,c,d,rfl⟩
theorem tu {d:D}{M:au}(h:cz 1 d):kL [d] M=.ok (.bl (cy d)) M:=by
 have g1:=bJ (i:=0) (ρ:=[some d,none,none,none,none]) (M:=M) h.1 rfl;show aD (i9 [some d,none,none,none,none] M)=_;unfold i9;cases ht:aL d with
 | false=>
  rw[ht] at g1;rw[ay ((aQ (aF (y:=false) (ap (aw g1)) fun z=>by cases z)).trans rfl)];clear g1;revert h ht;cases d <;> intro h ht <;> first|rfl|(cases ht)
 | true=>
  obtain⟨xs,rfl⟩:=cY ht;have hx:=h.2 xs rfl;rw[ht] at g1;have t1:=aF (ap (aw g1)) fun _=>aC (aj (f:=aR true) (a:=aq aJ (aa (ae 0) af)) (b:=gC (.int 4)) (ρ:=[some (.tup xs),none,none,none,none]) (M:=M) (x:=.int xs.length) (y:=.int 4) rfl rfl (fb _ _ _))
  by_cases h4:xs.length=4
  ·obtain⟨a,b,c,e,rfl⟩:=n9 h4;rw[am ((cb t1).trans rfl),am (show g6 (fF [1,2,3,4]) (ae 0) [some (.tup [a,b,c,e]),none,none,none,none] M=.ok (.nx [some (.tup [a,b,c,e]),some a,some b,some c,some e]) M from rfl)];have q:∀z∈[a,b,c,e],gx z:=fun z hz=>hx.2 z hz
   refine fe (bG (bV (a:=ae 1) (b:=eI (gC (.int 900))) (c:=gC (.int 900)) (y:=.int (-900)) (z:=.int 900) rfl rfl rfl (bQ (q a (by simp)))) fun ha=>?_);have ea:=pE ha;have v1:ae 1 [some (.tup [a,b,c,e]),some a,some b,some c,some e] M=.ok (.int (iv a)) M:=by rw[←ea];rfl
   refine bG (bV (a:=ae 2) (y:=.int (iv a)) (z:=.int (iv a+12)) rfl v1 (aj (f:=aW) v1 (b:=gC (.int 12)) (y:=.int 12) rfl rfl) (bQ (q b (by simp)))) fun hb=>?_
   have eb:=pE hb;have v2:ae 2 [some (.tup [a,b,c,e]),some a,some b,some c,some e] M=.ok (.int (iv b)) M:=by rw[←eb];rfl
   exact bG (bV (a:=ae 3) (y:=.int (iv a)) (z:=.int (iv b)) rfl v1 v2 (bQ (q c (by simp)))) fun _=>bV (a:=ae 4) (b:=eI (gC (.int 12))) (c:=gC (.int 12)) (y:=.int (-12)) (z:=.int 12) rfl rfl rfl (bQ (q e (by simp)))
  ·rw[decide_eq_false (by omega)] at t1;rw[ay ((aQ t1).trans rfl),kA h4];rfl
theorem qB {d:D}{M:au}(h:cz 1 d):gw [d] M=.ok (.bl (cy d)) M:=by
 have g1:=bJ (i:=0) (ρ:=[some d]) (M:=M) h.1 rfl;show aD (eQ [some d] M)=_;unfold eQ;cases ht:aL d with
 | false=>
  rw[ht] at g1;rw[ay ((aQ (aF (y:=false) (ap (aw g1)) fun z=>by cases z)).trans rfl)];clear g1;revert h ht;cases d <;> intro h ht <;> first|rfl|(cases ht)
 | true=>
  obtain⟨xs,rfl⟩:=cY ht;have hx:=h.2 xs rfl;rw[ht] at g1;have ne:=aC (aj (f:=aR true) (a:=aq aJ (aa (ae 0) af)) (b:=gC (.int 4)) (ρ:=[some (.tup xs)]) (M:=M) (x:=.int xs.length) (y:=.int 4) rfl rfl (fb _ _ _))
  by_cases h4:xs.length=4
  ·obtain⟨a,b,c,e,rfl⟩:=n9 h4;have q:∀z∈[a,b,c,e],gx z:=fun z hz=>hx.2 z hz
   have ix:∀(k:Nat) (z:D),[a,b,c,e][k]?=some z→g2 aK (ae 0) (gC (.int k)) [some (.tup [a,b,c,e])] M=.ok z M:=fun k z hz=>aj (f:=aK) (a:=ae 0) (b:=gC (.int k)) (x:=.tup [a,b,c,e]) (y:=.int k) rfl rfl (a9 hz)
   have i0:g2 aK (ae 0) (gC (.int 0)) [some (.tup [a,b,c,e])] M=.ok a M:=ix 0 a rfl;have i1:g2 aK (ae 0) (gC (.int 1)) [some (.tup [a,b,c,e])] M=.ok b M:=ix 1 b rfl;have i2:g2 aK (ae 0) (gC (.int 2)) [some (.tup [a,b,c,e])] M=.ok c M:=ix 2 c rfl;have i3:g2 aK (ae 0) (gC (.int 3)) [some (.tup [a,b,c,e])] M=.ok e M:=ix 3 e rfl;have t1:=aF (ap (aw g1)) fun _=>aF ne fun _=>ap (aw (bV (b:=eI (gC (.int 900))) (c:=gC (.int 900)) (y:=.int (-900)) (z:=.int 900) i0 rfl rfl (aX (lo:=-900) (hi:=900) (M:=M) (q a (by simp)))))
   show _=bw.ok (D.bl (ar (-900) 900 a&&(ar (iv a) (iv a+12) b&&(ar (iv a) (iv b) c&&ar (-12) 12 e)))) M;cases ha:ar (-900) 900 a with
   | false=>
    rw[ha] at t1;rw[ay ((aQ t1).trans rfl)];rfl
   | true=>
    rw[ha] at t1;rw[am ((cb t1).trans rfl)];have ea:=pE ha;have v0:g2 aK (ae 0) (gC (.int 0)) [some (.tup [a,b,c,e])] M=.ok (.int (iv a)) M:=by rw[←ea];exact i0
    have w1:=bV (F:=aE) (y:=.int (iv a)) (z:=.int (iv a+12)) i1 v0 (aj (f:=aW) v0 (b:=gC (.int 12)) (y:=.int 12) rfl rfl) (aX (q b (by simp)));cases hb:ar (iv a) (iv a+12) b with
    | false=>
     rw[hb] at w1;rw[ay ((aQ (aF (y:=false) (ap (aw w1)) fun z=>by cases z)).trans rfl)];rfl
    | true=>
     rw[hb] at w1;have eb:=pE hb;have v1:g2 aK (ae 0) (gC (.int 1)) [some (.tup [a,b,c,e])] M=.ok (.int (iv b)) M:=by rw[←eb];exact i1
     have t2:=aF (ap (aw w1)) fun _=>ap (aw (bV (F:=aE) (y:=.int (iv a)) (z:=.int (iv b)) i2 v0 v1 (aX (q c (by simp)))))
     cases hc:ar (iv a) (iv b) c with
     | false=>
      rw[hc] at t2;rw[ay ((aQ t2).trans rfl)];rfl
     | true=>
      rw[hc] at t2;rw[am ((cb t2).trans rfl)];exact fe (bV (b:=eI (gC (.int 12))) (c:=gC (.int 12)) (y:=.int (-12)) (z:=.int 12) i3 rfl rfl (aX (q e (by simp))))
  ·rw[decide_eq_false (by omega)] at ne;rw[ay ((aQ (aF (y:=true) (ap (aw g1)) fun _=>aF (x:=true) (y:=true) ne fun z=>by cases z)).trans rfl),kA h4];rfl
noncomputable def kF:D→Int
 | .tup [_,_,c,_]=>iv c
 | _=>0
noncomputable def o9:D→Bool
 | .non=>true
 | _=>false
noncomputable def ko (x y:Int):D→Bool
 | .non=>true
 | .tup [p,q]=>(cy p&&cy q)&&(decide (x=kF p)&&decide (y=kF q))
 | _=>false
theorem ph {d:D}{i:Nat}{neg:Bool}{ρ:bU}{M:au}(h:gx d)(hv:ae i ρ M=.ok d M):g2 (fB neg) (ae i) (gC .non) ρ M=.ok (.bl (o9 d != neg)) M:=by
 refine aj (f:=fB neg) (b:=gC .non) (y:=.non) hv rfl ?_;obtain⟨t,ht⟩:=h;cases d <;> first|rfl|cases ht
theorem l7 {p:D}{M:au}(h:cy p=true):aK p (.int 2) M=.ok (.int (kF p)) M:=by
 cases p with
 | tup xs=>
  by_cases h4:xs.length=4
  ·obtain⟨a,b,c,e,rfl⟩:=n9 h4;have h:(ar (-900) 900 a&&(ar (iv a) (iv a+12) b&&(ar (iv a) (iv b) c&&ar (-12) 12 e)))=true:=h;rw[Bool.and_eq_true,Bool.and_eq_true,Bool.and_eq_true] at h;have ec:=pE h.2.2.1;refine a9 (k:=2) ?_;show some c=some (D.int (iv c));rw[←ec]
  ·rw[kA h4] at h;cases h
 | _=>cases h
theorem qS {p q:D}{M:au}(hp:cy p=true)(hq:cy q=true):iR [.tup [p,q]] M=.ok (.tup [.int (kF p),.int (kF q)]) M:=by
 show aD (gN [some (.tup [p,q]),none,none] M)=_;unfold gN;rw[am (show g6 (fF [1,2]) (ae 0) [some (.tup [p,q]),none,none] M=.ok (.nx [some (.tup [p,q]),some p,some q]) M from rfl)];exact fe (dq (ds:=[.int (kF p),.int (kF q)]) (aG (aj (f:=aK) (a:=ae 1) (b:=gC (.int 2)) (x:=p) (y:=.int 2) rfl rfl (l7 hp)) (aG (aj (f:=aK) (a:=ae 2) (b:=gC (.int 2)) (x:=q) (y:=.int 2) rfl rfl (l7 hq)) rfl)))
theorem wu {xs:List D}(h:xs.length=2):∃a b,xs=[a,b]:=by
 match xs,h with
 | [a,b],_=>exact⟨a,b,rfl⟩
theorem lR {x y:Int}{xs:List D}(h:xs.length≠2):ko x y (.tup xs)=false:=by
 match xs,h with
 | [],_=>rfl
 | [_],_=>rfl
 | [_,_],h=>exact absurd rfl h
 | _::_::_::_,_=>rfl
theorem qz {m:Mv}{d:D}{M:au}(h:cz 2 d):fm [m.d,d] M=.ok (.bl (ko m.x m.y d)) M:=by
 have n1:=ph (i:=1) (neg:=false) (ρ:=[some m.d,some d]) (M:=M) h.1 rfl;have g1:=bJ (i:=1) (ρ:=[some m.d,some d]) (M:=M) h.1 rfl;show aD (fi [some m.d,some d] M)=_;unfold fi;cases hn:o9 d with
 | true=>
  rw[hn] at n1;rw[ay ((aQ (aC n1)).trans rfl)];clear n1 g1;revert h hn;cases d <;> intro h hn <;> first|rfl|(cases hn)
 | false=>
  rw[hn] at n1;rw[am ((cb (aC n1)).trans rfl)];cases ht:aL d with
  | false=>
   rw[ht] at g1;rw[ay ((aQ (aF (y:=false) (ap (aw g1)) fun z=>by cases z)).trans rfl)];clear n1 g1;revert h hn ht;cases d <;> intro h hn ht <;> first|rfl|(cases hn;done)|(cases ht;done)
  | true=>
   obtain⟨xs,rfl⟩:=cY ht;have hx:=h.2 xs rfl;rw[ht] at g1;have ne:=aC (aj (f:=aR true) (a:=aq aJ (aa (ae 1) af)) (b:=gC (.int 2)) (ρ:=[some m.d,some (.tup xs)]) (M:=M) (x:=.int xs.length) (y:=.int 2) rfl rfl (fb _ _ _))
   by_cases h2:xs.length=2
   ·obtain⟨p,q,rfl⟩:=wu h2;have al:=cW (ge:=f9) (p:=cy) (dY (i:=1) (ρ:=[some m.d,some (.tup [p,q])]) (M:=M) rfl) (show 2≤100000 by decide) fun x hm=>cx (a:=ae 0) (x:=x) rfl (tu (hx.2 x hm))
    have t1:=aF (ap (aw g1)) fun _=>aF ne fun _=>ap (aw al)
    have ea:([p,q].all cy)=(cy p&&cy q):=by show(cy p&&(cy q&&true))=_;rw[Bool.and_true]
    rw[ea] at t1;show _=bw.ok (D.bl ((cy p&&cy q)&&(decide (m.x=kF p)&&decide (m.y=kF q)))) M;cases hpq:(cy p&&cy q) with
    | false=>
     rw[hpq] at t1;rw[ay ((aQ t1).trans rfl)];rfl
    | true=>
     rw[hpq] at t1;rw[am ((cb t1).trans rfl)];rw[Bool.and_eq_true] at hpq;refine(fe (aj (f:=aR false) (x:=.tup [.int m.x,.int m.y]) (y:=.tup [.int (kF p),.int (kF q)]) rfl (cx (a:=ae 1) rfl (qS hpq.1 hpq.2)) rfl)).trans ?_;congr 2;show(((m.x==kF p)&&((m.y==kF q)&&true)) != false)=_;rw[Bool.and_true,Bool.bne_false];rfl
   ·rw[decide_eq_false (by omega)] at ne;rw[ay ((aQ (aF (y:=true) (ap (aw g1)) fun _=>aF (x:=true) (y:=true) ne fun z=>by cases z)).trans rfl),lR h2];rfl
theorem pq {α:Type}{ds0:List D}{n:Nat}{sg:GG}{ge:GE}{ρ:bU}{M:au}{g h:α→D}:∀l:List α,(∀a∈l,∃ρ1,sg (g a) (List.replicate n none++ρ)=some ρ1∧ge ρ1 M=.ok (h a) M)→bp ⟨ds0,none⟩ n sg ce ge (l.map g) ρ M=.ok (l.map h) M
 | [],_=>rfl
 | a::l,k=>by
  obtain⟨ρ1,e1,e2⟩:=k a mem_cons_self;have ih:=pq (ds0:=ds0) (n:=n) (sg:=sg) (ge:=ge) (ρ:=ρ) (M:=M) (g:=g) (h:=h) l fun x hx=>k x (mem_cons_of_mem _ hx)
  show bp ⟨ds0,none⟩ n sg ce ge (g a::l.map g) ρ M=_;unfold bp;rw[show nE.ok ⟨ds0,none⟩ M=true from rfl,if_pos rfl,e1];dsimp only;rw[show ce ρ1 M=.ok true M from rfl];dsimp only;rw[e2];dsimp only;rw[ih];rfl
theorem tJ {a b:List D}{M:au}(h:a.length+b.length≤1000):aW (.tup a) (.tup b) M=.ok (.tup (a++b)) M:=by
 unfold aW;dsimp only;rw[if_pos (bo (by omega))]
noncomputable def FS:D→List D
 | .tup [_,_,_,.tup ms,_]=>ms
 | _=>[]
noncomputable def g9 (m d:D):Bool:=match m with
 | .tup [_,x,y,_,_]=>ko (iv x) (iv y) d
 | _=>false
noncomputable def eD:D→Bool
 | .tup [f,s,.tup ps]=>(eW f&&bT s)&&(decide (ps.length=(FS s).length)&&((FS s).zip ps).all fun q=>g9 q.1 q.2)
 | _=>false
theorem pb:∀xs ys:List D,mU xs ys=(xs.zip ys).map fun q=>.tup [q.1,q.2]
 | [],_=>rfl
 | _::_,[]=>rfl
 | x::xs,y::ys=>by
  have:=pb xs ys;unfold mU at this ⊢;rw[List.zipWith_cons_cons,this,zip_cons_cons];rfl
theorem oS {xs:List D}(h:xs.length=3):∃a b c,xs=[a,b,c]:=by
 match xs,h with
 | [a,b,c],_=>exact⟨a,b,c,rfl⟩
theorem m5 {xs:List D}(h:xs.length≠3):eD (.tup xs)=false:=by
 match xs,h with
 | [],_=>rfl
 | [_],_=>rfl
 | [_,_],_=>rfl
 | [_,_,_],h=>exact absurd rfl h
 | _::_::c::_::_,_=>cases c <;> rfl
theorem mL {f s t:D}(h:(eW f&&(bT s&&aL t))=false):eD (.tup [f,s,t])=false:=by
 cases t with
 | tup ps=>
  have h:(eW f&&(bT s&&true))=false:=h;show((eW f&&bT s)&&_)=false;rw[Bool.and_true] at h;rw[h];rfl
 | _=>rfl
theorem vX {α:Type}{l:List α}{p:α→Bool}{M:au}:dA [.lst (l.map fun a=>D.bl (p a))] M=.ok (.bl (l.all p)) M:=by
 have b:∀l:List α,cO (l.map fun a=>D.bl (p a))=some (l.map p):=fun l=>by
  induction l with
  | nil=>rfl
  | cons a l ih=>
   show(cO (l.map fun a=>D.bl (p a))).map (p a::·)=_;rw[ih];rfl
 show(match cO (l.map fun a=>D.bl (p a)) with|some bs=>bw.ok (D.bl (bs.all id)) M|none=>.bad)=_;rw[b];dsimp only;rw[BO]
theorem ky {d:D}{M:au}(h:cz 5 d):fh [d] M=.ok (.bl (eD d)) M:=by
 have g1:=bJ (i:=0) (ρ:=[some d,none,none,none,none]) (M:=M) h.1 rfl;show aD (jg [some d,none,none,none,none] M)=_;unfold jg;cases ht:aL d with
 | false=>
  rw[ht] at g1;rw[ay ((aQ (aF (y:=false) (ap (aw g1)) fun z=>by cases z)).trans rfl)];clear g1;revert h ht;cases d <;> intro h ht <;> first|rfl|(cases ht)
 | true=>
  obtain⟨xs,rfl⟩:=cY ht;have hx:=h.2 xs rfl;rw[ht] at g1;have t1:=aF (ap (aw g1)) fun _=>aC (aj (f:=aR true) (a:=aq aJ (aa (ae 0) af)) (b:=gC (.int 3)) (ρ:=[some (.tup xs),none,none,none,none]) (M:=M) (x:=.int xs.length) (y:=.int 3) rfl rfl (fb _ _ _))
  by_cases h3:xs.length=3
  ·obtain⟨f,s,t,rfl⟩:=oS h3;have df:cz 4 f:=hx.2 f (by simp);have ds:cz 4 s:=hx.2 s (by simp);have dt:cz 4 t:=hx.2 t (by simp);rw[am ((cb t1).trans rfl),am (show g6 (fF [1,2,3]) (ae 0) [some (.tup [f,s,t]),none,none,none,none] M=.ok (.nx [some (.tup [f,s,t]),some f,some s,some t,none]) M from rfl)];have t2:=ap (bq (aw (cx (F:=iE) (a:=ae 1) (ρ:=[some (.tup [f,s,t]),some f,some s,some t,none]) (M:=M) rfl (qx df.down.down.down))) fun _=>bq (aw (cx (F:=ia) (a:=ae 2) rfl (qE ds))) fun _=>aw (bJ (i:=3) dt.ty rfl));cases hb:(eW f&&(bT s&&aL t)) with
   | false=>
    rw[hb] at t2;rw[ay ((aQ t2).trans rfl),mL hb];rfl
   | true=>
    rw[hb] at t2;rw[am ((cb t2).trans rfl)];rw[Bool.and_eq_true,Bool.and_eq_true] at hb;obtain⟨ps,rfl⟩:=cY hb.2.2;obtain⟨st,rfl,ok⟩:=m4 hb.2.1;have hps:=dt.2 ps rfl;have ml:=ok.ml;rw[am (aO (d:=.tup (st.movers.map Mv.d)) (aj (f:=aK) (a:=ae 2) (b:=gC (.int 3)) (x:=st.d) (y:=.int 3) rfl rfl (a9 (k:=3) rfl)))];have eF:eD (.tup [f,st.d,.tup ps])=(decide (ps.length=st.movers.length)&&((st.movers.map Mv.d).zip ps).all fun q=>g9 q.1 q.2):=by
     show((eW f&&bT st.d)&&(decide (ps.length=(st.movers.map Mv.d).length)&&((st.movers.map Mv.d).zip ps).all fun q=>g9 q.1 q.2))=_;rw[hb.1,hb.2.1,length_map];rfl
    have t3:aH (g2 (aR true) (aq aJ (aa (ae 3) af)) (aq aJ (aa (ae 4) af))) [some (.tup [f,st.d,.tup ps]),some f,some st.d,some (.tup ps),some (.tup (st.movers.map Mv.d))] M=.ok (!decide ((ps.length:Int)=((st.movers.map Mv.d).length:Nat))) M:=aC (aj (f:=aR true) (x:=.int ps.length) (y:=.int ((st.movers.map Mv.d).length:Nat)) rfl rfl (fb _ _ _));rw[length_map] at t3
    by_cases hl:ps.length=st.movers.length
    ·rw[decide_eq_true (show(ps.length:Int)=st.movers.length by omega)] at t3;rw[decide_eq_true hl,Bool.true_and] at eF;rw[eF];refine(congrArg aD ((am ((cb t3).trans rfl)).trans (bA (jD (F:=dA) (x:=.lst (((st.movers.map Mv.d).zip ps).map fun q=>D.bl (g9 q.1 q.2))) (M1:=M) ?_ vX)))).trans rfl;unfold fJ uK;rw[aG (d:=.tup (st.movers.map Mv.d)) (M1:=M) (ds:=[.tup ps]) (M2:=M) rfl rfl,ak];show((if(st.movers.map Mv.d).length=ps.length then bw.ok (nE.mk (mU (st.movers.map Mv.d) ps) none) M else .bad).bind _)=_;rw[if_pos (by rw[length_map];exact hl.symm),ak,pb];dsimp only;rw[pq (ge:=jn) (g:=fun q:D×D=>.tup [q.1,q.2]) (h:=fun q=>D.bl (g9 q.1 q.2)) ((st.movers.map Mv.d).zip ps) fun q hq=>by
      obtain⟨a,b⟩:=q;obtain⟨ha,hbp⟩:=of_mem_zip hq;obtain⟨m,hm,rfl⟩:=mem_map.mp ha;exact⟨_,rfl,bH (F:=fm) (a:=ae 0) (b:=ae 1) rfl rfl (qz (hps.2 b hbp).down)⟩,ak]
     exact if_pos (bo (by rw[length_map,List.length_zip,length_map];omega))
    ·rw[decide_eq_false (show¬(ps.length:Int)=st.movers.length by omega)] at t3;rw[decide_eq_false hl,Bool.false_and] at eF;rw[eF];exact(congrArg aD (ay ((aQ t3).trans rfl))).trans rfl
  ·rw[decide_eq_false (by omega)] at t1;rw[ay ((aQ t1).trans rfl),m5 h3];rfl
theorem oY {d:D}{M:au}(h:cz 1 d):dR [d] M=.ok (.bl (eW d)) M:=by
 have g1:=bJ (i:=0) (ρ:=[some d,none]) (M:=M) h.1 rfl;show aD (dW [some d,none] M)=_;unfold dW;cases d with
 | tup xs=>
  have hx:=h.2 xs rfl;have ne:g2 (aR true) (aq aJ (aa (ae 0) af)) (gC (.int 4)) [some (.tup xs),none] M=.ok (.bl (!decide ((xs.length:Int)=4))) M:=aj (x:=.int xs.length) (y:=.int 4) rfl rfl (fb _ _ _);have t1:=aF (ap (aw g1)) fun _=>aC ne
  match xs,hx,t1 with
  | [w,h,g,m],hx,t1=>
   rw[am ((cb t1).trans rfl)];have q:∀z∈[w,h,g,m],gx z:=fun z hz=>hx.2 z hz
   have k1:=aX (lo:=1) (hi:=40) (M:=M) (q w (by simp));have k2:=aX (lo:=1) (hi:=40) (M:=M) (q h (by simp));have k3:=aX (lo:=0) (hi:=20) (M:=M) (q g (by simp));have k4:=aX (lo:=0) (hi:=12) (M:=M) (q m (by simp));have ls:aM 1 (cX (aa (aI (aa (gC (.int 1)) (aa (gC (.int 40)) af))) (aa (aI (aa (gC (.int 1)) (aa (gC (.int 40)) af))) (aa (aI (aa (gC (.int 0)) (aa (gC (.int 20)) af))) (aa (aI (aa (gC (.int 0)) (aa (gC (.int 12)) af))) af))))) [some (.tup [w,h,g,m]),none] M =
     .ok (.nx [some (.tup [w,h,g,m]),some (.lst [.tup [.int 1,.int 40],.tup [.int 1,.int 40],.tup [.int 0,.int 20],.tup [.int 0,.int 12]])]) M:=by
    have l2:(2:Nat)≤sizeLine:=bo (by decide);have l4:(4:Nat)≤sizeLine:=bo (by decide);simp_arith [l2,l4]
   rw[am ls];have al:=cW (gi:=eA (aa (gC (.int 4)) af)) (ge:=dE) (ρ:=[some (.tup [w,h,g,m]),some (.lst [.tup [.int 1,.int 40],.tup [.int 1,.int 40],.tup [.int 0,.int 20],.tup [.int 0,.int 12]])]) (M:=M) (xs:=aU 0 4)
    (p:=fun d=>match d with | .int 0=>ar 1 40 w | .int 1=>ar 1 40 h | .int 2=>ar 0 20 g | .int 3=>ar 0 12 m|_=>true) (gG (n:=4) rfl (by decide)) (by decide) (fun x hx=>by
     have:x=.int 0∨x=.int 1∨x=.int 2∨x=.int 3:=by
      simp only[aU,List.range,List.range.loop,map_cons,map_nil,mem_cons,not_mem_nil,or_false] at hx;simpa using hx
     unfold dE;rcases this with rfl|rfl|rfl|rfl
     ·exact bV (x:=w) (y:=.int 1) (z:=.int 40) rfl rfl rfl k1
     ·exact bV (x:=h) (y:=.int 1) (z:=.int 40) rfl rfl rfl k2
     ·exact bV (x:=g) (y:=.int 0) (z:=.int 20) rfl rfl rfl k3
     ·exact bV (x:=m) (y:=.int 0) (z:=.int 12) rfl rfl rfl k4)
   rw[bA al];show bw.ok (D.bl (ar 1 40 w&&(ar 1 40 h&&(ar 0 20 g&&(ar 0 12 m&&true))))) M=_;rw[Bool.and_true];rfl
  | [],_,t1=>rw[ay ((aQ t1).trans rfl)];rfl
  | [_],_,t1=>rw[ay ((aQ t1).trans rfl)];rfl
  | [_,_],_,t1=>rw[ay ((aQ t1).trans rfl)];rfl
  | [_,_,_],_,t1=>rw[ay ((aQ t1).trans rfl)];rfl
  | _::_::_::_::_::r,_,t1=>
   have z:(!decide (((r.length+1+1+1+1+1:Nat):Int)=4))=true:=by simp;omega
   simp only[length_cons] at t1;rw[z] at t1;rw[ay ((aQ t1).trans rfl)];rfl
 | _=>rw[ay ((aQ (aF (y:=false) (ap (aw g1)) fun z=>by cases z)).trans rfl)];rfl
theorem wF {ds0:List D}{s:GG}{body:GS}{W:bU→Prop}{M:au}{p:D→Bool}{r:D}:∀ds:List D,(∀d∈ds,∀ρ,W ρ→∃ρ1 ρ2,s d ρ=some ρ1∧body ρ1 M=(bif p d then .ok (.nx ρ2) M else .ok (.rt r) M)∧W ρ2)→∀ρ,W ρ→∃ρ',W ρ'∧dM ⟨ds0,none⟩ s body ds ρ M=bif ds.all p then .ok (.nx ρ') M else .ok (.rt r) M
 | [],_,ρ,hρ=>⟨ρ,hρ,rfl⟩
 | d::ds,h,ρ,hρ=>by
  obtain⟨ρ1,ρ2,e1,e2,h2⟩:=h d mem_cons_self ρ hρ;unfold dM;rw[if_pos (show nE.ok ⟨ds0,none⟩ M=true from rfl),e1];dsimp only;rw[e2,all_cons];cases p d with
  | true=>exact wF ds (fun x hx=>h x (mem_cons_of_mem _ hx)) ρ2 h2
  | false=>exact⟨ρ,hρ,rfl⟩
theorem uV {d:D}{g:GE}{ρ:bU}{M:au}(h:gx d)(hv:g ρ M=.ok d M):bO "tuple" g ρ M=.ok (.bl (aL d)) M:=by
 obtain⟨t,ht⟩:=h;unfold bO;rw[hv,ak];cases d <;> first|(simp[vO,zr,og,aL];done)|cases ht
noncomputable def FW (a b:D)(x y:Int):D→Bool
 | .int 0=>cy a&&decide (kF a=x)
 | .int 1=>cy b&&decide (kF b=y)
 | _=>true
theorem u9 {a b:D}{x y:Int}:ko x y (.tup [a,b])=(aU 0 2).all (FW a b x y):=by
 show((cy a&&cy b)&&(decide (x=kF a)&&decide (y=kF b)))=((cy a&&decide (kF a=x))&&((cy b&&decide (kF b=y))&&true));rw[decide_eq_decide.mpr (show(x=kF a)↔(kF a=x) from eq_comm),decide_eq_decide.mpr (show(y=kF b)↔(kF b=y) from eq_comm)];cases cy a <;> cases cy b <;> cases decide (kF a=x) <;> cases decide (kF b=y) <;> rfl
theorem xQ {c1 c2:Bool}{ρ:bU}{M:au}:(bif (!c1||!c2) then bw.ok (Fl.rt (D.bl false)) M else .ok (.nx ρ) M)=bif (c1&&c2) then .ok (.nx ρ) M else .ok (.rt (.bl false)) M:=by
 cases c1 <;> cases c2 <;> rfl
theorem rN {d:D}{ms:List D}{k:Nat}{m:Mv}{z:D}{xs:List D}{s:Nat}{c:Int}{M:au}(hm:ms[k]?=some m.d)(hz:xs[s]?=some z)(hc:aK m.d (.int (1+(s:Int))) M=.ok (.int c) M)(dz:cz 1 z) :
  cg [some d,some (.tup ms),some (.int k),some (.tup xs),some (.int s)] M=bif (cy z&&decide (kF z=c)) then .ok (.nx [some d,some (.tup ms),some (.int k),some (.tup xs),some (.int s)]) M else .ok (.rt (.bl false)) M:=by
 have g1:g2 aK (ae 3) (ae 4) [some d,some (.tup ms),some (.int k),some (.tup xs),some (.int s)] M=.ok z M:=aj (f:=aK) (a:=ae 3) (b:=ae 4) (x:=.tup xs) (y:=.int s) rfl rfl (a9 hz);have g3:g2 aK (g2 aK (ae 1) (ae 2)) (g2 aW (gC (.int 1)) (ae 4)) [some d,some (.tup ms),some (.int k),some (.tup xs),some (.int s)] M=.ok (.int c) M:=aj (f:=aK) (aj (f:=aK) (a:=ae 1) (b:=ae 2) (x:=.tup ms) (y:=.int k) rfl rfl (a9 hm)) (aj (f:=aW) (a:=gC (.int 1)) (b:=ae 4) (x:=.int 1) (y:=.int s) rfl rfl rfl) hc;unfold cg;rw[pP (aF (y:=!decide (kF z=c)) (ap (aw (cx g1 (qB dz)))) fun h=>aC (aj (f:=aR true) (aj (f:=aK) g1 (b:=gC (.int 2)) (y:=.int 2) rfl (l7 (by cases hb:cy z with|true=>rfl|false=>rw[hb] at h;cases h))) g3 (fb _ _ _))),xQ]
theorem yG {d:D}{ms:List D}{k:Nat}{m:Mv}{a b:D}{M:au}{y4:Option D}(hm:ms[k]?=some m.d)(da:cz 1 a)(db:cz 1 b) :
  ∃y,dM ⟨aU 0 2,none⟩ (fQ 4) cg (aU 0 2) [some d,some (.tup ms),some (.int k),some (.tup [a,b]),y4] M=bif ko m.x m.y (.tup [a,b]) then .ok (.nx [some d,some (.tup ms),some (.int k),some (.tup [a,b]),y]) M else .ok (.rt (.bl false)) M:=by
 obtain⟨ρ',⟨y,rfl⟩,e⟩:=wF (ds0:=aU 0 2) (s:=fQ 4) (body:=cg) (W:=fun ρ=>∃y,ρ=[some d,some (.tup ms),some (.int k),some (.tup [a,b]),y]) (M:=M) (p:=FW a b m.x m.y) (r:=.bl false) (aU 0 2) (fun z hz ρ hρ=>by
  obtain⟨y,rfl⟩:=hρ;have:z=.int 0∨z=.int 1:=by
   have h:z∈[D.int 0,D.int 1]:=hz;simpa using h
  rcases this with rfl|rfl
  ·exact⟨_,_,rfl,rN (s:=0) hm rfl rfl da,_,rfl⟩
  ·exact⟨_,_,rfl,rN (s:=1) hm rfl rfl db,_,rfl⟩) _ ⟨y4,rfl⟩
 exact⟨y,by rw[e,u9]⟩
theorem vG {d:D}{ms ps:List D}{k:Nat}{m:Mv}{p:D}{M:au}{y3 y4:Option D}(h2:aK d (.int 2) M=.ok (.tup ps) M)(hm:ms[k]?=some m.d)(hp:ps[k]?=some p)(dp:cz 2 p) :
  ∃y,cR [some d,some (.tup ms),some (.int k),y3,y4] M=bif ko m.x m.y p then .ok (.nx [some d,some (.tup ms),some (.int k),some p,y]) M else .ok (.rt (.bl false)) M:=by
 have n1:=ph (i:=3) (neg:=true) (ρ:=[some d,some (.tup ms),some (.int k),some p,y4]) (M:=M) dp.1 rfl;have g1:=bJ (i:=3) (ρ:=[some d,some (.tup ms),some (.int k),some p,y4]) (M:=M) dp.1 rfl;unfold cR;rw[am (aO (d:=p) (aj (f:=aK) (aj (f:=aK) (a:=ae 0) (b:=gC (.int 2)) (x:=d) (y:=.int 2) rfl rfl h2) (b:=ae 2) (y:=.int k) rfl (a9 hp)))];show∃y,ao _ _ [some d,some (.tup ms),some (.int k),some p,y4] M=_;cases hn:o9 p with
 | true=>
  have:p=.non:=by cases p <;> first|rfl|cases hn
  subst this;exact⟨y4,(am ((cb (bq (y:=false) (aC n1) fun z=>by cases z)).trans rfl)).trans (lV (t:=⟨[],none⟩) (gG (n:=0) rfl (by decide)) rfl)⟩
 | false=>
  rw[hn] at n1;cases ht:aL p with
  | false=>
   rw[ht] at g1;refine⟨none,(ay ((aQ (bq (aC n1) fun _=>aF (y:=false) (ap (aw g1)) fun z=>by cases z)).trans rfl)).trans ?_⟩;clear n1 g1 hp;revert hn ht;cases p <;> intro hn ht <;> first|rfl|(cases hn;done)|(cases ht;done)
  | true=>
   obtain⟨xs,rfl⟩:=cY ht;have hx:=dp.2 xs rfl;rw[ht] at g1;have ne:=aC (aj (f:=aR true) (a:=aq aJ (aa (ae 3) af)) (b:=gC (.int 2)) (ρ:=[some d,some (.tup ms),some (.int k),some (.tup xs),y4]) (M:=M) (x:=.int xs.length) (y:=.int 2) rfl rfl (fb _ _ _));have c1:=bq (aC n1) fun _=>aF (ap (aw g1)) fun _=>ne
   by_cases l2:xs.length=2
   ·obtain⟨a,b,rfl⟩:=wu l2;obtain⟨y,e⟩:=yG (d:=d) (M:=M) (y4:=y4) hm (hx.2 a (by simp)) (hx.2 b (by simp));refine⟨y,(am ((cb c1).trans rfl)).trans (lV (gG (n:=2) (aG (aj (f:=eY) (a:=gC (.int 2)) (x:=.int 2) rfl (jD n1 rfl) (Ah (by decide) (by decide) _)) rfl) (by decide)) e)⟩
   ·rw[decide_eq_false (by omega)] at c1;refine⟨none,(ay ((aQ c1).trans rfl)).trans ?_⟩;rw[lR l2];rfl
noncomputable def pF (ms ps:List D):D→Bool
 | .int k=>match ms[k.toNat]?,ps[k.toNat]? with|some m,some p=>g9 m p|_,_=>true
 | _=>true
theorem zq {ms ps:List D}{k:Nat}{m p:D}(hm:ms[k]?=some m)(hp:ps[k]?=some p):pF ms ps (.int k)=g9 m p:=by
 show(match ms[k]?,ps[k]? with|some m,some p=>g9 m p|_,_=>true)=_;rw[hm,hp]
theorem zR {ms ps:List D}(hl:ps.length=ms.length):(aU 0 ms.length).all (pF ms ps)=(ms.zip ps).all fun q=>g9 q.1 q.2:=by
 have e:(aU 0 ms.length).map (pF ms ps)=(ms.zip ps).map fun q=>g9 q.1 q.2:=by
  apply ext_getElem
  ·simp[aU,hl]
  ·intro i h1 h2;have hi:i<ms.length:=by simpa[aU] using h1
   have:=zq (k:=i) (getElem?_eq_getElem hi) (getElem?_eq_getElem (show i<ps.length by omega));simpa[aU] using this
 have a1:∀(l:List D) (f:D→Bool),l.all f=(l.map f).all id:=fun l f=>by rw[all_map];rfl
 have a2:∀(l:List (D×D)) (f:D×D→Bool),l.all f=(l.map f).all id:=fun l f=>by rw[all_map];rfl
 rw[a1,a2,e]
theorem p8 {d:D}{M:au}(h:cz 5 d):eM [d] M=.ok (.bl (eD d)) M:=by
 have g1:=bJ (i:=0) (ρ:=[some d,none,none,none,none]) (M:=M) h.1 rfl;show aD (eU [some d,none,none,none,none] M)=_;unfold eU;cases ht:aL d with
 | false=>
  rw[ht] at g1;rw[ay ((aQ (aF (y:=false) (ap (aw g1)) fun z=>by cases z)).trans rfl)];clear g1;revert h ht;cases d <;> intro h ht <;> first|rfl|(cases ht)
 | true=>
  obtain⟨xs,rfl⟩:=cY ht;have hx:=h.2 xs rfl;rw[ht] at g1;have ne:=aC (aj (f:=aR true) (a:=aq aJ (aa (ae 0) af)) (b:=gC (.int 3)) (ρ:=[some (.tup xs),none,none,none,none]) (M:=M) (x:=.int xs.length) (y:=.int 3) rfl rfl (fb _ _ _))
  by_cases h3:xs.length=3
  ·obtain⟨f,s,t,rfl⟩:=oS h3;have df:cz 4 f:=hx.2 f (by simp);have ds:cz 4 s:=hx.2 s (by simp);have dt:cz 4 t:=hx.2 t (by simp);have x0:∀ρ,g2 aK (ae 0) (gC (.int 0)) (some (.tup [f,s,t])::ρ) M=.ok f M:=fun ρ=>aj (f:=aK) (a:=ae 0) (b:=gC (.int 0)) (x:=.tup [f,s,t]) (y:=.int 0) rfl rfl (a9 (k:=0) rfl)
   have x1:∀ρ,g2 aK (ae 0) (gC (.int 1)) (some (.tup [f,s,t])::ρ) M=.ok s M:=fun ρ=>aj (f:=aK) (a:=ae 0) (b:=gC (.int 1)) (x:=.tup [f,s,t]) (y:=.int 1) rfl rfl (a9 (k:=1) rfl)
   have x2:∀ρ,g2 aK (ae 0) (gC (.int 2)) (some (.tup [f,s,t])::ρ) M=.ok t M:=fun ρ=>aj (f:=aK) (a:=ae 0) (b:=gC (.int 2)) (x:=.tup [f,s,t]) (y:=.int 2) rfl rfl (a9 (k:=2) rfl)
   have t2:=aF (ap (aw g1)) fun _=>aF ne fun _=>aF (ap (aw (cx (F:=dR) (x0 _) (oY df.down.down.down)))) fun _=>ap (aw (cx (F:=dZ) (x1 _) (pw ds)))
   have i2:∀y,bO "tuple" (g2 aK (ae 0) (gC (.int 2))) [some (.tup [f,s,t]),y,none,none,none] M=.ok (.bl (aL t)) M:=fun y=>uV dt.ty (x2 _)
   cases hb:(eW f&&bT s) with
   | false=>
    rw[show(!true||(!decide (((([f,s,t]:List D).length:Nat):Int)=3)||(!eW f||!bT s)))=true by rw[←Bool.not_and,hb];rfl] at t2;rw[ay ((aQ t2).trans rfl)];rw[mL (show(eW f&&(bT s&&aL t))=false by rw[←Bool.and_assoc,hb];rfl)];rfl
   | true=>
    rw[show(!true||(!decide (((([f,s,t]:List D).length:Nat):Int)=3)||(!eW f||!bT s)))=false by rw[←Bool.not_and,hb];rfl] at t2;rw[am ((cb t2).trans rfl)];have hb':=hb;rw[Bool.and_eq_true] at hb;obtain⟨st,rfl,ok⟩:=m4 hb.2;have ml:=ok.ml;rw[am (aO (d:=.tup (st.movers.map Mv.d)) (aj (f:=aK) (x1 _) (b:=gC (.int 3)) (y:=.int 3) rfl (a9 (k:=3) rfl)))];cases htt:aL t with
    | false=>
     rw[htt] at i2;rw[mL (show(eW f&&(bT st.d&&aL t))=false by rw[htt,Bool.and_false,Bool.and_false])];exact(congrArg aD (ay ((aQ (aF (y:=false) (ap (aw (i2 _))) fun z=>by cases z)).trans rfl))).trans rfl
    | true=>
     rw[htt] at i2;obtain⟨ps,rfl⟩:=cY htt;have hps:=dt.2 ps rfl;have eF:eD (.tup [f,st.d,.tup ps])=(decide (ps.length=st.movers.length)&&((st.movers.map Mv.d).zip ps).all fun q=>g9 q.1 q.2):=by
      show((eW f&&bT st.d)&&(decide (ps.length=(st.movers.map Mv.d).length)&&((st.movers.map Mv.d).zip ps).all fun q=>g9 q.1 q.2))=_;rw[hb',length_map];rfl
     have t3:aH (g2 (aR true) (aq aJ (aa (g2 aK (ae 0) (gC (.int 2))) af)) (aq aJ (aa (ae 1) af))) [some (.tup [f,st.d,.tup ps]),some (.tup (st.movers.map Mv.d)),none,none,none] M=.ok (!decide ((ps.length:Int)=((st.movers.map Mv.d).length:Nat))) M:=aC (aj (f:=aR true) (x:=.int ps.length) (y:=.int ((st.movers.map Mv.d).length:Nat)) (jD (F:=aJ) (x2 _) rfl) rfl (fb _ _ _));rw[length_map] at t3;have t4:=aF (ap (aw (i2 (some (.tup (st.movers.map Mv.d)))))) fun _=>t3
     by_cases hl:ps.length=st.movers.length
     ·rw[decide_eq_true (show(ps.length:Int)=st.movers.length by omega)] at t4;rw[decide_eq_true hl,Bool.true_and] at eF;rw[eF];obtain⟨ρ',_,e⟩:=wF (ds0:=aU 0 (st.movers.map Mv.d).length) (s:=fQ 2) (body:=cR) (W:=fun ρ=>∃y2 y3 y4,ρ=[some (.tup [f,st.d,.tup ps]),some (.tup (st.movers.map Mv.d)),y2,y3,y4]) (M:=M) (p:=pF (st.movers.map Mv.d) ps) (r:=.bl false) (aU 0 (st.movers.map Mv.d).length) (fun z hz ρ hρ=>by
       obtain⟨y2,y3,y4,rfl⟩:=hρ;obtain⟨k,hk,rfl⟩:=mem_map.mp hz;have hk:=mem_range.mp hk;rw[length_map] at hk;have em:(st.movers.map Mv.d)[k]?=some (st.movers[k]).d:=by rw[getElem?_map,getElem?_eq_getElem hk];rfl
       have hk':k<ps.length:=by omega
       have ep:ps[k]?=some ps[k]:=getElem?_eq_getElem hk';obtain⟨y,e⟩:=vG (d:=.tup [f,st.d,.tup ps]) (M:=M) (y3:=y3) (y4:=y4) (a9 (k:=2) rfl) em ep (hps.2 _ (getElem_mem hk')).down;rw[Int.zero_add,zq em ep];exact⟨_,_,rfl,e,_,_,_,rfl⟩) [some (.tup [f,st.d,.tup ps]),some (.tup (st.movers.map Mv.d)),none,none,none] ⟨_,_,_,rfl⟩
      rw[zR (by rw[length_map];exact hl)] at e;have kf:=lV (gi:=eA (aa (aq aJ (aa (ae 1) af)) af)) (ρ:=[some (.tup [f,st.d,.tup ps]),some (.tup (st.movers.map Mv.d)),none,none,none]) (gG (n:=(st.movers.map Mv.d).length) (M:=M) rfl (by rw[length_map];omega)) e;refine(congrArg aD (am ((cb t4).trans rfl))).trans ?_;cases hz:((st.movers.map Mv.d).zip ps).all fun q=>g9 q.1 q.2 with
      | true=>
       rw[hz] at kf;exact(congrArg aD (am kf)).trans rfl
      | false=>
       rw[hz] at kf;exact(congrArg aD (ay kf)).trans rfl
     ·rw[decide_eq_false (show¬(ps.length:Int)=st.movers.length by omega)] at t4;rw[decide_eq_false hl,Bool.false_and] at eF;rw[eF];exact(congrArg aD (ay ((aQ t4).trans rfl))).trans rfl
  ·rw[decide_eq_false (by omega)] at ne;rw[ay ((aQ (aF (y:=true) (ap (aw g1)) fun _=>aF (x:=true) (y:=true) ne fun z=>by cases z)).trans rfl),m5 h3];rfl
theorem nz:∀(n m:Nat) {d:D},m≤100→dP true m d=true→cz n d
 | 0,m,d,_,h=>qu h
 | n+1,0,d,_,h=>by cases h
 | n+1,m+1,d,hm,h=>by
  refine⟨qu h,fun xs e=>?_⟩;subst e;have q:=dF h;exact⟨by have:=q.1;omega,fun x hx=>nz n m (by omega) (q.2 x hx)⟩
theorem oW {most:Int}{rs:List (List Int)}{n:Nat}(h:je most rs)(hm:most≤900):dP true (n+3) (bS rs)=true:=by
 obtain⟨h1,h2,w,h3,h4,h5⟩:=h;refine bP (by rw[length_map];omega) fun x hx=>?_
 obtain⟨r,hr,rfl⟩:=mem_map.mp hx;refine bP (by rw[length_map,(h5 r hr).1];omega) fun y hy=>?_
 obtain⟨k,_,rfl⟩:=mem_map.mp hy;rfl
theorem xr {s:Cb}{mm:Int}(ok:vI mm s)(hm:mm≤900):dP true 5 s.d=true:=by
 refine bP (by simp) fun x hx=>?_
 have hx:x∈[bS s.floor,.tup [.int s.sx,.int s.sy],.tup (s.book.map bS),.tup (s.movers.map Mv.d),.tup (s.pots.map D.int)]:=hx;simp only[mem_cons,not_mem_nil,or_false] at hx;rcases hx with rfl|rfl|rfl|rfl|rfl
 ·exact oW (n:=1) ok.floor (by decide)
 ·rfl
 ·refine bP (by rw[length_map];have:=ok.bl;omega) fun x hx=>?_
  obtain⟨b,hb,rfl⟩:=mem_map.mp hx;exact oW (n:=0) (ok.book b hb) (by decide)
 ·refine bP (by rw[length_map];have:=ok.ml;omega) fun x hx=>?_
  obtain⟨m,_,rfl⟩:=mem_map.mp hx;obtain⟨so,a,b,c,d⟩:=m;cases so <;> rfl
 ·refine bP (by rw[length_map];have:=ok.pl;omega) fun x hx=>?_
  obtain⟨k,_,rfl⟩:=mem_map.mp hx;rfl
theorem wb {a b c f:Int}(h0:0≤f)(h1:f<3):∃v,(v=a∨v=b∨v=c)∧∀M,aK (.lst [.int a,.int b,.int c]) (.int f) M=.ok (.int v) M:=by
 have:f=0∨f=1∨f=2:=by omega
 rcases this with rfl|rfl|rfl
 ·exact⟨a,.inl rfl,fun M=>ku (k:=0) rfl⟩
 ·exact⟨b,.inr (.inl rfl),fun M=>ku (k:=1) rfl⟩
 ·exact⟨c,.inr (.inr rfl),fun M=>ku (k:=2) rfl⟩
theorem pX {a b:D}{f:Int}(h0:0≤f)(h1:f<2):∃v,(v=a∨v=b)∧∀M,aK (.lst [a,b]) (.int f) M=.ok v M:=by
 have:f=0∨f=1:=by omega
 rcases this with rfl|rfl
 ·exact⟨a,.inl rfl,fun M=>ku (k:=0) rfl⟩
 ·exact⟨b,.inr rfl,fun M=>ku (k:=1) rfl⟩
theorem wM {l:List Int}{rest N:au}{ρ:bU}{i:Nat}{many:Int}(t:bC l rest N)(hi:ρ[i]?=some (some (.mr 0)))(h0:0<many)(h1:many.natAbs.log2<9000):∃f N1,0≤f∧f<many∧bC l rest N1∧∀g:GE,g ρ N=.ok (.int many) N→ah 2 ai (aa (ae i) (aa g af)) ρ N=.ok (.int f) N1:=by
 obtain⟨f,N1,a,b,t1,e⟩:=aS h0 h1 t;exact⟨f,N1,a,b,t1,fun g hg=>bH (a:=ae i) (by unfold ae;rw[hi]) hg e⟩
theorem rQ {l:List Int}{rest M:au}{x:Int}(t:bC l rest M):∃a b c M',bC l rest M'∧fc [.mr 0,.int x] M=.ok (.tup [.int a,.int b,.int x,.int c]) M':=by
 obtain⟨f1,N1,a1,b1,t1,e1⟩:=wM (ρ:=[some (.mr 0),some (.int x),none,none,none]) (i:=0) (many:=13) t rfl (by decide) (aA (by decide) (by decide));obtain⟨f2,N2,a2,b2,t2,e2⟩:=wM (ρ:=[some (.mr 0),some (.int x),none,none,none]) (i:=0) (many:=4) t1 rfl (by decide) (aA (by decide) (by decide));obtain⟨f3,N3,a3,b3,t3,e3⟩:=wM (ρ:=[some (.mr 0),some (.int x),none,none,none]) (i:=0) (many:=3) t2 rfl (by decide) (aA (by decide) (by decide));obtain⟨sp,hs,es⟩:=wb (a:=f1) (b:=12) (c:=f2) a3 b3;have s0:0≤sp∧sp≤12:=by rcases hs with h|h|h <;> omega
 obtain⟨f4,N4,a4,b4,t4,e4⟩:=wM (ρ:=[some (.mr 0),some (.int x),some (.int sp),none,none]) (i:=0) (many:=sp+1) t3 rfl (by omega) (aA (by omega) (by omega));obtain⟨f5,N5,a5,b5,t5,e5⟩:=wM (ρ:=[some (.mr 0),some (.int x),some (.int sp),some (.int (x-f4)),none]) (i:=0) (many:=25) t4 rfl (by decide) (aA (by decide) (by decide));obtain⟨f6,N6,a6,b6,t6,e6⟩:=wM (ρ:=[some (.mr 0),some (.int x),some (.int sp),some (.int (x-f4)),none]) (i:=0) (many:=5) t5 rfl (by decide) (aA (by decide) (by decide));obtain⟨f7,N7,a7,b7,t7,e7⟩:=wM (ρ:=[some (.mr 0),some (.int x),some (.int sp),some (.int (x-f4)),none]) (i:=0) (many:=2) t6 rfl (by decide) (aA (by decide) (by decide));obtain⟨v,hv,ev⟩:=pX (a:=.int (f5-12)) (b:=.int (f6-2)) a7 b7;obtain⟨st,hst⟩:∃st:Int,v=.int st:=by rcases hv with h|h <;> exact⟨_,h⟩
 subst hst;refine⟨x-f4,x-f4+sp,st,N7,t7,?_⟩;show aD (hV [some (.mr 0),some (.int x),none,none,none] M)=_;unfold hV;refine(congrArg aD ((am (aO (aj (f:=aK) (gj (ds:=[.int f1,.int 12,.int f2]) (aG (e1 _ rfl) (aG rfl (aG (e2 _ rfl) rfl)))) (e3 _ rfl) (es N3)))).trans ((am (aO (aj (f:=gR) (a:=ae 1) (x:=.int x) rfl (e4 _ rfl) rfl))).trans ((am (aO (aj (f:=aK) (gj (ds:=[.int (f5-12),.int (f6-2)]) (aG (aj (f:=gR) (e5 _ rfl) (b:=gC (.int 12)) (y:=.int 12) rfl rfl) (aG (aj (f:=gR) (e6 _ rfl) (b:=gC (.int 2)) (y:=.int 2) rfl rfl) rfl))) (e7 _ rfl) (ev N7)))).trans (bA (dq (ds:=[.int (x-f4),.int (x-f4+sp),.int x,.int st]) rfl)))))).trans rfl
section
variable {l:List Int}{rest N:au}{P A C:List D}
theorem Df (t:bC l (rest++[.lst P]++[.lst A]) N):N[rest.length+1]?=some (.lst P):=by
 obtain⟨i,c,_,rfl⟩:=t;simp
theorem CJ (t:bC l (rest++[.lst P]++[.lst A]) N):N[rest.length+2]?=some (.lst A):=by
 obtain⟨i,c,_,rfl⟩:=t;simp
theorem CU (t:bC l (rest++[.lst P]++[.lst A]) N):bC l (rest++[.lst C]++[.lst A]) (N.set (rest.length+1) (.lst C)):=by
 obtain⟨i,c,h,rfl⟩:=t;exact⟨i,c,h,by simp⟩
theorem CB (t:bC l (rest++[.lst P]++[.lst A]) N):bC l (rest++[.lst P]++[.lst C]) (N.set (rest.length+2) (.lst C)):=by
 obtain⟨i,c,h,rfl⟩:=t;exact⟨i,c,h,by simp⟩
end
noncomputable def mx (x:Int):Int:=if(if x<880 then x else 880)>-880 then(if x<880 then x else 880) else -880
theorem tL {l:List Int}{rest N:au}{P A:List D}{x2 x3:Option D}{sh:D}{x y rk tn:Int}(hc:dP true 2 sh=true)(lp:P.length<1000)(la:A.length<1000)(t:bC l (rest++[.lst P]++[.lst A]) N) :
  ∃v m N' y7 y8,dP true 3 v=true∧dP true 3 m=true∧bC l (rest++[.lst (P++[v])]++[.lst (A++[m])]) N'∧cL [some (.mr 0),some (.int 8),x2,x3,some (.mr (rest.length+1)),some (.mr (rest.length+2)),some sh,some (.int x),some (.int y),some (.int rk),some (.int tn)] N=.ok (.nx [some (.mr 0),some (.int 8),x2,x3,some (.mr (rest.length+1)),some (.mr (rest.length+2)),some sh,y7,y8,some (.int rk),some (.int tn)]) N':=by
 have t1:=CB (C:=A++[.tup [sh,.int (mx x),.int (mx y),.int rk,.int tn]]) t;obtain⟨a1,a2,a3,N2,u2,w2⟩:=rQ (x:=mx x) t1;obtain⟨c1,c2,c3,N3,u3,w3⟩:=rQ (x:=mx y) u2;obtain⟨f,N4,a4,b4,u4,w4⟩:=wM (ρ:=[some (.mr 0),some (.int 8),x2,x3,some (.mr (rest.length+1)),some (.mr (rest.length+2)),some sh,some (.int (mx x)),some (.int (mx y)),some (.int rk),some (.int tn)]) (i:=0) (many:=4) u3 rfl (by decide) (aA (by decide) (by decide));obtain⟨v,hv,ev⟩:=pX (a:=.tup [.tup [.int a1,.int a2,.int (mx x),.int a3],.tup [.int c1,.int c2,.int (mx y),.int c3]]) (b:=.non) (f:=f / 3) (by omega) (by omega);have ap1:=lC (wD (go:=ae 5) (ge:=aI (aa (ae 6) (aa (ae 7) (aa (ae 8) (aa (ae 9) (aa (ae 10) af)))))) (ρ:=[some (.mr 0),some (.int 8),x2,x3,some (.mr (rest.length+1)),some (.mr (rest.length+2)),some sh,some (.int (mx x)),some (.int (mx y)),some (.int rk),some (.int tn)]) rfl (CJ t) (dq (ds:=[sh,.int (mx x),.int (mx y),.int rk,.int tn]) rfl) (CJ t) (by omega));have ap2:=lC (wD (go:=ae 4) (ge:=g2 aK (cX (aa (aI (aa (ah 2 fc (aa (ae 0) (aa (ae 7) af))) (aa (ah 2 fc (aa (ae 0) (aa (ae 8) af))) af))) (aa (gC .non) af))) (g2 dO (ah 2 ai (aa (ae 0) (aa (gC (.int 4)) af))) (gC (.int 3)))) (ρ:=[some (.mr 0),some (.int 8),x2,x3,some (.mr (rest.length+1)),some (.mr (rest.length+2)),some sh,some (.int (mx x)),some (.int (mx y)),some (.int rk),some (.int tn)]) (d:=v) rfl (Df t1) (aj (f:=aK) (gj (ds:=[.tup [.tup [.int a1,.int a2,.int (mx x),.int a3],.tup [.int c1,.int c2,.int (mx y),.int c3]],.non]) (aG (dq (ds:=[.tup [.int a1,.int a2,.int (mx x),.int a3],.tup [.int c1,.int c2,.int (mx y),.int c3]]) (aG (bH (a:=ae 0) (b:=ae 7) rfl rfl w2) (aG (bH (a:=ae 0) (b:=ae 8) rfl rfl w3) rfl))) (aG (d:=.non) rfl rfl))) (aj (f:=dO) (w4 _ rfl) (b:=gC (.int 3)) (y:=.int 3) rfl (oF (by decide) (by decide) N4)) (ev N4)) (Df u4) (by omega));have u5:=CU (C:=P++[v]) u4;have run:cL [some (.mr 0),some (.int 8),x2,x3,some (.mr (rest.length+1)),some (.mr (rest.length+2)),some sh,some (.int x),some (.int y),some (.int rk),some (.int tn)] N=_:=(am (aO (d:=.int (mx x)) rfl)).trans ((am (aO (d:=.int (mx y)) rfl)).trans ((am ap1).trans ap2));refine⟨v,.tup [sh,.int (mx x),.int (mx y),.int rk,.int tn],_,_,_,?_,bP (show 5≤1002 by decide) fun z hz=>?_,u5,run⟩
 ·rcases hv with rfl|rfl <;> rfl
 ·rcases mem_cons.mp hz with rfl|hz
  ·exact hc
  ·simp only[mem_cons,not_mem_nil,or_false] at hz;rcases hz with rfl|rfl|rfl|rfl <;> rfl
theorem qY (l:List Int)(i c:Int):lH [tp l i c]:=by
 refine lH.pure ?_;show((D.lst (l.map D.int)::[D.int i,D.int c]).all (bL 30)&&true)=true;have:=sI 28 l;simp[bL,this]
theorem lK {b:Bool}:∀{n:Nat} {d:D},dP b n d=true→bL n d=true
 | 0,_,h=>by cases h
 | n+1,d,h=>by
  cases d with
  | tup xs=>exact all_eq_true.mpr fun x hx=>lK ((dF h).2 x hx)
  | lst xs=>
   have h:(decide (xs.length≤1000+n)&&xs.all (dP b n))=true:=h;rw[Bool.and_eq_true,all_eq_true] at h;exact all_eq_true.mpr fun x hx=>lK (h.2 x hx)
  | mr _=>cases h
  | ro _=>cases h
  | _=>rfl
theorem qF {l:List Int}{x2 x3:Option D}(ms:List Mv)(hms:ms.length≤900){N:au}(t:bC l ([]++[.lst []]++[.lst []]) N):∃(P A:List D) (N':au) (y:Nat→Option D),P.length=ms.length∧A.length=ms.length∧(∀v∈P,dP true 3 v=true)∧(∀v∈A,dP true 3 v=true)∧bC l ([]++[.lst P]++[.lst A]) N'∧
  dM ⟨ms.map Mv.d,none⟩ (fF [6,7,8,9,10]) cL (ms.map Mv.d) [some (.mr 0),some (.int 8),x2,x3,some (.mr 1),some (.mr 2),none,none,none,none,none] N=.ok (.nx [some (.mr 0),some (.int 8),x2,x3,some (.mr 1),some (.mr 2),y 6,y 7,y 8,y 9,y 10]) N':=by
 obtain⟨ρ',N',⟨P,A,y,rfl,hl,hl',hi,hi',t'⟩,ef⟩:=wl (ds0:=ms.map Mv.d) (s:=fF [6,7,8,9,10]) (body:=cL) (W:=fun j ρ N=>∃(P A:List D) (y:Nat→Option D),ρ=[some (.mr 0),some (.int 8),x2,x3,some (.mr 1),some (.mr 2),y 6,y 7,y 8,y 9,y 10]∧P.length=j∧A.length=j∧(∀v∈P,dP true 3 v=true)∧(∀v∈A,dP true 3 v=true)∧bC l ([]++[.lst P]++[.lst A]) N) (ms.map Mv.d) 0 (fun j d hd ρ N hW=>by
  obtain⟨P,A,y,rfl,hl,hl',hi,hi',t⟩:=hW;have hj:=(List.getElem?_eq_some_iff.mp hd).1;rw[length_map] at hj;rw[getElem?_map] at hd;obtain⟨m,hm,rfl⟩:=Option.map_eq_some_iff.mp hd;obtain⟨v,w,N',y7,y8,k,k',t',e⟩:=tL (rest:=[]) (x2:=x2) (x3:=x3) (sh:=match m.shape with|some k=>.int k|none=>.non) (x:=m.x) (y:=m.y) (rk:=m.rank) (tn:=m.turn) (by cases m.shape <;> rfl) (by omega) (by omega) t;refine⟨_,_,N',rfl,e,P++[v],A++[w],fun z=>[some (match m.shape with|some k=>D.int k|none=>.non),y7,y8,some (.int m.rank),some (.int m.turn)][z-6]?.getD none,rfl,?_,?_,?_,?_,t'⟩
  ·rw[length_append,hl];rfl
  ·rw[length_append,hl'];rfl
  ·intro i h;rcases mem_append.mp h with q|q
   ·exact hi i q
   ·rw[mem_singleton.mp q];exact k
  ·intro i h;rcases mem_append.mp h with q|q
   ·exact hi' i q
   ·rw[mem_singleton.mp q];exact k') [some (.mr 0),some (.int 8),x2,x3,some (.mr 1),some (.mr 2),none,none,none,none,none] N ⟨[],[],fun _=>none,rfl,rfl,rfl,(fun i h=>by cases h),(fun i h=>by cases h),t⟩
 rw[Nat.zero_add,length_map] at hl hl';exact⟨P,A,N',y,hl,hl',hi,hi',t',ef⟩
theorem yJ {l:List Int}{M:au}(t:bC l [] M):∃f s ps M',dP true 6 (.tup [f,s,.tup ps])=true∧ps.length≤12∧bC l [] M'∧iV [.mr 0,.int 8] M=.ok (.tup [f,s,.tup ps]) M':=by
 obtain⟨w,hh,g,m,M1,kw,kh,kg,km,t1,e1⟩:=uX (most:=8) (by decide) (by decide) t;obtain⟨f,M2,a2,b2,t2,e2⟩:=wM (ρ:=[some (.mr 0),some (.int 8),some (.tup [.int w,.int hh,.int g,.int m]),none,none,none,none,none,none,none,none]) (i:=0) (many:=4) t1 rfl (by decide) (aA (by decide) (by decide));obtain⟨v,hv,ev⟩:=pX (a:=.int 4) (b:=.int 12) (f:=f / 3) (by omega) (by omega);obtain⟨mm,hmm,h4⟩:∃mm:Int,v=.int mm∧0≤mm∧mm≤12:=by rcases hv with h|h <;> exact⟨_,h,by decide,by decide⟩
 subst hmm;obtain⟨st,M3,ok,t3,e3⟩:=v4 (w:=w) (hh:=hh) (more:=[.int g,.int m]) (mm:=mm) ⟨by omega,by omega⟩ ⟨by omega,by omega⟩ ⟨h4.1,by omega⟩ t2;have ml:=ok.ml;have t5:bC l ([]++[.lst []]++[.lst []]) (M3++[.lst []]++[.lst []]):=by
  obtain⟨i,c,h,rfl⟩:=t3;exact⟨i,c,h,rfl⟩
 obtain⟨P,A,N,y,il,il',ii,ii',t6,ef⟩:=qF (x2:=some (.tup [.int w,.int hh,.int g,.int m])) (x3:=some st.d) st.movers (by omega) t5;obtain⟨i,c,hi,rfl⟩:=t6;have l3:M3.length=1:=by obtain⟨i,c,h,rfl⟩:=t3;rfl
 have lM:M.length=1:=by obtain⟨i,c,h,rfl⟩:=t;rfl
 have okf:dP true 6 (.tup [.tup [.int w,.int hh,.int g,.int m],.tup [bS st.floor,.tup [.int st.sx,.int st.sy],.tup (st.book.map bS),.tup A,.tup (st.pots.map D.int)],.tup P])=true:=by
  have sk:=dF (xr ok (by omega));refine bP (show 3≤1005 by decide) fun z hz=>?_
  simp only[mem_cons,not_mem_nil,or_false] at hz;rcases hz with rfl|rfl|rfl
  ·rfl
  ·refine bP (show 5≤1004 by decide) fun z hz=>?_
   simp only[mem_cons,not_mem_nil,or_false] at hz;rcases hz with rfl|rfl|rfl|rfl|rfl
   ·exact sk.2 _ (by simp)
   ·exact sk.2 _ (by simp)
   ·exact sk.2 _ (by simp)
   ·exact bP (by omega) ii'
   ·exact sk.2 _ (by simp)
  ·exact bP (by omega) fun z hz=>bD (by decide) (ii z hz)
 refine⟨_,_,P,[tp l i c],okf,by omega,⟨i,c,hi,rfl⟩,?_⟩;show ju M.length (aD (fD [some (.mr 0),some (.int 8),none,none,none,none,none,none,none,none,none] M))=_;unfold fD;have k4:aM 4 (i6 af) [some (.mr 0),some (.int 8),some (.tup [.int w,.int hh,.int g,.int m]),some st.d,none,none,none,none,none,none,none] M3=.ok (.nx [some (.mr 0),some (.int 8),some (.tup [.int w,.int hh,.int g,.int m]),some st.d,some (.mr 1),none,none,none,none,none,none]) (M3++[.lst []]):=by
  rw[←l3];exact aO qZ
 have k5:aM 5 (i6 af) [some (.mr 0),some (.int 8),some (.tup [.int w,.int hh,.int g,.int m]),some st.d,some (.mr 1),none,none,none,none,none,none] (M3++[.lst []])=.ok (.nx [some (.mr 0),some (.int 8),some (.tup [.int w,.int hh,.int g,.int m]),some st.d,some (.mr 1),some (.mr 2),none,none,none,none,none]) (M3++[.lst []]++[.lst []]):=by
  rw[show(2:Nat)=(M3++[MO.lst []]).length by rw[length_append,l3];rfl];exact aO qZ
 have kf:kJ (cS (g2 aK (ae 3) (gC (.int 3)))) (fF [6,7,8,9,10]) cL [some (.mr 0),some (.int 8),some (.tup [.int w,.int hh,.int g,.int m]),some st.d,some (.mr 1),some (.mr 2),none,none,none,none,none] (M3++[.lst []]++[.lst []])=_:=lV (t:=⟨st.movers.map Mv.d,none⟩) (by
  unfold cS;rw[aj (f:=aK) (a:=ae 3) (b:=gC (.int 3)) (x:=st.d) (y:=.int 3) (o:=.ok (.tup (st.movers.map Mv.d)) (M3++[.lst []]++[.lst []])) rfl rfl (a9 (k:=3) rfl),ak];rfl) ef
 have s3:jh (ae 3) aT (bR (gC (.int 3))) [some (.mr 0),some (.int 8),some (.tup [.int w,.int hh,.int g,.int m]),some st.d,some (.mr 1),some (.mr 2),y 6,y 7,y 8,y 9,y 10] (tp l i c::([]++[.lst P]++[.lst A]))=.ok (.tup [bS st.floor,.tup [.int st.sx,.int st.sy],.tup (st.book.map bS)]) (tp l i c::([]++[.lst P]++[.lst A])):=rfl;have kr:az (aI (aa (ae 2) (aa (g2 aW (jh (ae 3) aT (bR (gC (.int 3)))) (aI (aa (aq cZ (aa (ae 5) af)) (aa (g2 aK (ae 3) (gC (.int 4))) af)))) (aa (aq cZ (aa (ae 4) af)) af)))) [some (.mr 0),some (.int 8),some (.tup [.int w,.int hh,.int g,.int m]),some st.d,some (.mr 1),some (.mr 2),y 6,y 7,y 8,y 9,y 10] (tp l i c::([]++[.lst P]++[.lst A]))=.ok (.rt (.tup [.tup [.int w,.int hh,.int g,.int m],.tup [bS st.floor,.tup [.int st.sx,.int st.sy],.tup (st.book.map bS),.tup A,.tup (st.pots.map D.int)],.tup P])) (tp l i c::([]++[.lst P]++[.lst A])):=bA (dq (ds:=[.tup [.int w,.int hh,.int g,.int m],.tup [bS st.floor,.tup [.int st.sx,.int st.sy],.tup (st.book.map bS),.tup A,.tup (st.pots.map D.int)],.tup P]) (aG rfl (aG (aj (f:=aW) (x:=.tup [bS st.floor,.tup [.int st.sx,.int st.sy],.tup (st.book.map bS)]) (y:=.tup [.tup A,.tup (st.pots.map D.int)]) s3 (dq (ds:=[.tup A,.tup (st.pots.map D.int)]) (aG rfl (aG (aj (f:=aK) (a:=ae 3) (b:=gC (.int 4)) (x:=st.d) (y:=.int 4) rfl rfl (a9 (k:=4) rfl)) rfl))) (tJ (a:=[bS st.floor,.tup [.int st.sx,.int st.sy],.tup (st.book.map bS)]) (b:=[.tup A,.tup (st.pots.map D.int)]) (show 3+2≤1000 by decide))) (aG rfl rfl))));refine(congrArg (fun o=>ju M.length (aD o)) ((am (aO (bH (a:=ae 0) (b:=ae 1) rfl rfl e1))).trans ((am (aO (bV (a:=ae 0) (b:=ae 2) rfl rfl (aj (f:=aK) (gj (ds:=[.int 4,.int 12]) rfl) (aj (f:=dO) (e2 _ rfl) (b:=gC (.int 3)) (y:=.int 3) rfl (oF (by decide) (by decide) M2)) (ev M2)) e3))).trans ((am k4).trans ((am k5).trans ((am kf).trans kr)))))).trans ?_;rw[lM];exact lA (M:=[tp l i c]) (E:=[.lst P,.lst A]) (lK (bD (by decide) okf)) (qY l i c)
theorem i8 {xs:List D}{lo hi:Option Int}{x:D}(h:x∈cP xs lo hi):x∈xs:=mem_of_mem_drop (mem_of_mem_take h)
theorem xA {xs:List D}{lo hi:Option Int}:(cP xs lo hi).length≤xs.length:=by
 unfold cP;rw[length_take,length_drop];omega
theorem sB {d:D}{g:GE}{neg:Bool}{ρ:bU}{M:au}(h:gx d)(hv:g ρ M=.ok d M):g2 (fB neg) g (gC .non) ρ M=.ok (.bl (o9 d != neg)) M:=by
 refine aj (f:=fB neg) (b:=gC .non) (y:=.non) hv rfl ?_;obtain⟨t,ht⟩:=h;cases d <;> first|rfl|cases ht
theorem lT {f s:D}{qs:List D}{n:Nat}(hf:dP true (n+1) f=true)(hs:dP true (n+1) s=true)(hl:qs.length≤1000)(hq:∀q∈qs,dP true n q=true):dP true (n+2) (.tup [f,s,.tup qs])=true:=by
 refine bP (show 3≤1000+(n+1) by omega) fun z hz=>?_
 simp only[mem_cons,not_mem_nil,or_false] at hz;rcases hz with rfl|rfl|rfl
 ·exact hf
 ·exact hs
 ·exact bP (by omega) hq
theorem mn {g:GE}{x0 x1 x5 x6 f s r:D}{x4:Option D}{M M1:au}(h:g [some x0,some x1,some f,some s,x4,some x5,some x6] M=.ok r M1):az (aI (aa (ae 2) (aa (ae 3) (aa g af)))) [some x0,some x1,some f,some s,x4,some x5,some x6] M=.ok (.rt (.tup [f,s,r])) M1:=bA (dq (ds:=[f,s,r]) (aG (d:=f) rfl (aG (d:=s) rfl (aG h rfl))))
theorem pG {l:List Int}{M:au}{f s:D}{ps:List D}(h:dP true 6 (.tup [f,s,.tup ps])=true)(hl:ps.length≤12)(t:bC l [] M):∃d M',bC l [] M'∧dP true 16 d=true∧bM [.mr 0,.tup [f,s,.tup ps]] M=.ok d M':=by
 obtain⟨way,M1,a1,b1,t1,e1⟩:=aS (many:=6) (by decide) (aA (by decide) (by decide)) t;obtain⟨k,M2,a2,b2,t2,e2⟩:=aS (many:=(ps.length:Int)+1) (by omega) (aA (by omega) (by omega)) t1;have hh:=(dF h).2;have hf:dP true 5 f=true:=hh f (by simp);have hs:dP true 5 s=true:=hh s (by simp);have hp:=(dF (hh (.tup ps) (by simp))).2;have run:∀{o:bw Fl},ao (cD (aH (g2 (aR false) (ae 5) (gC (.int 0)))) (az (aI (aa (ae 2) (aa (ae 3) (aa (g2 aW (jh (ae 4) aT (bR (ae 6))) (jh (ae 4) (bR (g2 aW (ae 6) (gC (.int 1)))) aT)) af))))) aB) (ao (cD (aH (g2 (aR false) (ae 5) (gC (.int 1)))) (az (aI (aa (ae 2) (aa (ae 3) (aa (g2 aW (g2 aW (jh (ae 4) aT (bR (ae 6))) (aI (aa (gC .non) af))) (jh (ae 4) (bR (ae 6)) aT)) af))))) aB) (ao (cD (bK (aH (g2 ni (ae 5) (gC (.int 4)))) (bK (aH (g2 ni (ae 6) (aq aJ (aa (ae 4) af)))) (aH (g2 (fB true) (g2 aK (ae 4) (ae 6)) (gC .non))))) (az (aI (aa (ae 2) (aa (ae 3) (aa (g2 aW (g2 aW (jh (ae 4) aT (bR (ae 6))) (aI (aa (ah 2 cr (aa (ae 0) (aa (g2 aK (ae 4) (ae 6)) af))) af))) (jh (ae 4) (bR (g2 aW (ae 6) (gC (.int 1)))) aT)) af))))) aB) (az (ah 2 cr (aa (ae 0) (aa (ae 1) af)))))) [some (.mr 0),some (.tup [f,s,.tup ps]),some f,some s,some (.tup ps),some (.int way),some (.int k)] M2=o→bM [.mr 0,.tup [f,s,.tup ps]] M=aD o:=by
  intro o ho;show aD (cK [some (.mr 0),some (.tup [f,s,.tup ps]),none,none,none,none,none] M)=_;unfold cK;exact congrArg aD ((am (show g6 (fF [2,3,4]) (ae 1) [some (.mr 0),some (.tup [f,s,.tup ps]),none,none,none,none,none] M=.ok (.nx [some (.mr 0),some (.tup [f,s,.tup ps]),some f,some s,some (.tup ps),none,none]) M from rfl)).trans ((am (aO (bH (a:=ae 0) (b:=gC (.int 6)) rfl rfl e1))).trans ((am (aO (bH (a:=ae 0) (x:=.mr 0) rfl (aj (f:=aW) (a:=aq aJ (aa (ae 4) af)) (b:=gC (.int 1)) (x:=.int ps.length) (y:=.int 1) rfl rfl rfl) e2))).trans ho)))
 have tst:∀z:Int,aH (g2 (aR false) (ae 5) (gC (.int z))) [some (.mr 0),some (.tup [f,s,.tup ps]),some f,some s,some (.tup ps),some (.int way),some (.int k)] M2=.ok (decide (way=z)) M2:=fun z=>aC (aj (x:=.int way) (y:=.int z) rfl rfl (fX _ _ M2))
 have cl:∀lo hi,(cP ps lo hi).length≤ps.length:=fun _ _=>xA
 have c1:=cl none (some k)
 by_cases w0:way=0
 ·have c2:=cl (some (k+1)) none;refine⟨_,M2,t2,bD (n:=6) (by decide) (lT (n:=4) hf hs (qs:=cP ps none (some k)++cP ps (some (k+1)) none) (by rw[length_append];omega) fun q hq=>?_),(run (ay ((aQ ((tst 0).trans (by rw[decide_eq_true w0]))).trans (mn (aj (f:=aW) (x:=.tup (cP ps none (some k))) (y:=.tup (cP ps (some (k+1)) none)) rfl rfl (tJ (by omega))))))).trans rfl⟩;rcases mem_append.mp hq with q|q
  ·exact hp _ (i8 q)
  ·exact hp _ (i8 q)
 ·have s0:∀a,cD (aH (g2 (aR false) (ae 5) (gC (.int 0)))) a aB [some (.mr 0),some (.tup [f,s,.tup ps]),some f,some s,some (.tup ps),some (.int way),some (.int k)] M2=.ok (.nx [some (.mr 0),some (.tup [f,s,.tup ps]),some f,some s,some (.tup ps),some (.int way),some (.int k)]) M2:=fun a=>(cb ((tst 0).trans (by rw[decide_eq_false w0]))).trans rfl
  by_cases w1:way=1
  ·have c2:=cl (some k) none;refine⟨_,M2,t2,bD (n:=6) (by decide) (lT (n:=4) hf hs (qs:=cP ps none (some k)++[.non]++cP ps (some k) none) (by rw[length_append,length_append];show _+1+_≤_;omega) fun q hq=>?_),(run ((am (s0 _)).trans (ay ((aQ ((tst 1).trans (by rw[decide_eq_true w1]))).trans (mn (aj (f:=aW) (x:=.tup (cP ps none (some k)++[.non])) (y:=.tup (cP ps (some k) none)) (aj (f:=aW) (x:=.tup (cP ps none (some k))) (y:=.tup [.non]) rfl (dq (ds:=[.non]) rfl) (tJ (by show _+1≤_;omega))) rfl (tJ (by rw[length_append];show _+1+_≤_;omega)))))))).trans rfl⟩;rcases mem_append.mp hq with q|q
   ·rcases mem_append.mp q with q|q
    ·exact hp _ (i8 q)
    ·rw[mem_singleton.mp q];rfl
   ·exact hp _ (i8 q)
  ·have s1:∀a,cD (aH (g2 (aR false) (ae 5) (gC (.int 1)))) a aB [some (.mr 0),some (.tup [f,s,.tup ps]),some f,some s,some (.tup ps),some (.int way),some (.int k)] M2=.ok (.nx [some (.mr 0),some (.tup [f,s,.tup ps]),some f,some s,some (.tup ps),some (.int way),some (.int k)]) M2:=fun a=>(cb ((tst 1).trans (by rw[decide_eq_false w1]))).trans rfl
   have last:∀{b:Bool},b=false→bK (aH (g2 ni (ae 5) (gC (.int 4)))) (bK (aH (g2 ni (ae 6) (aq aJ (aa (ae 4) af)))) (aH (g2 (fB true) (g2 aK (ae 4) (ae 6)) (gC .non)))) [some (.mr 0),some (.tup [f,s,.tup ps]),some f,some s,some (.tup ps),some (.int way),some (.int k)] M2=.ok b M2→∃d M',bC l [] M'∧dP true 16 d=true∧bM [.mr 0,.tup [f,s,.tup ps]] M=.ok d M':=by
    intro b hb hx;subst hb;obtain⟨d,M3,t3,o3,e3⟩:=nI h (by decide) t2;exact⟨d,M3,t3,o3,(run ((am (s0 _)).trans ((am (s1 _)).trans ((am ((cb hx).trans rfl)).trans (bA (bH (a:=ae 0) (b:=ae 1) rfl rfl e3)))))).trans rfl⟩
   have x4:aH (g2 ni (ae 5) (gC (.int 4))) [some (.mr 0),some (.tup [f,s,.tup ps]),some f,some s,some (.tup ps),some (.int way),some (.int k)] M2=.ok (decide (way<4)) M2:=aC (aj (x:=.int way) (y:=.int 4) rfl rfl rfl);have x6:aH (g2 ni (ae 6) (aq aJ (aa (ae 4) af))) [some (.mr 0),some (.tup [f,s,.tup ps]),some f,some s,some (.tup ps),some (.int way),some (.int k)] M2=.ok (decide (k<ps.length)) M2:=aC (aj (x:=.int k) (y:=.int ps.length) rfl rfl rfl)
   by_cases hk:k<ps.length
   ·obtain⟨j,rfl⟩:∃j:Nat,k=j:=⟨k.toNat,by omega⟩;have hj:j<ps.length:=by omega
    have ex:=aj (f:=aK) (a:=ae 4) (b:=ae 6) (ρ:=[some (.mr 0),some (.tup [f,s,.tup ps]),some f,some s,some (.tup ps),some (.int way),some (.int j)]) (M:=M2) (x:=.tup ps) (y:=.int j) rfl rfl (a9 (getElem?_eq_getElem hj));have oj:dP true 4 ps[j]=true:=hp _ (getElem_mem hj);have xc:=bq x4 fun _=>bq x6 fun _=>aC (sB (neg:=true) (qu oj) ex)
    cases hb:(decide (way<4)&&(decide ((j:Int)<ps.length)&&(o9 ps[j] != true))) with
    | false=>exact last hb xc
    | true=>
     rw[hb] at xc;obtain⟨d,M3,t3,o3,e3⟩:=nI oj (by decide) t2;have c2:=cl (some ((j:Int)+1)) none;refine⟨_,M3,t3,bD (n:=14) (by decide) (lT (n:=12) (bD (by decide) hf) (bD (by decide) hs) (qs:=cP ps none (some (j:Int))++[d]++cP ps (some ((j:Int)+1)) none) (by rw[length_append,length_append];show _+1+_≤_;omega) fun q hq=>?_),(run ((am (s0 _)).trans ((am (s1 _)).trans (ay ((aQ xc).trans (mn (aj (f:=aW) (x:=.tup (cP ps none (some (j:Int))++[d])) (y:=.tup (cP ps (some ((j:Int)+1)) none)) (aj (f:=aW) (x:=.tup (cP ps none (some (j:Int)))) (y:=.tup [d]) rfl (dq (ds:=[d]) (aG (bH (a:=ae 0) rfl ex e3) rfl)) (tJ (by show _+1≤_;omega))) rfl (tJ (by rw[length_append];show _+1+_≤_;omega))))))))).trans rfl⟩;rcases mem_append.mp hq with q|q
     ·rcases mem_append.mp q with q|q
      ·exact bD (by decide) (hp _ (i8 q))
      ·rw[mem_singleton.mp q];exact o3
     ·exact bD (by decide) (hp _ (i8 q))
   ·exact last (b:=decide (way<4)&&(decide (k<ps.length)&&true)) (by rw[decide_eq_false hk,Bool.false_and,Bool.and_false]) (bq x4 fun _=>bq x6 fun z=>absurd (of_decide_eq_true z) hk)
theorem z6 {ga:GA}{ρ:bU}{M M1:au}{ds:List D}(h:ga ρ M=.ok ds M1)(hl:ds.length≤100000:=by exact Nat.le_of_ble_eq_true rfl):i6 ga ρ M=.ok (.mr M1.length) (M1++[.lst ds]):=by
 unfold i6;rw[h,ak];exact if_pos (bo (by omega))
theorem rG {M:au}{xs ys:List D}(h:xs.length+ys.length≤1000):nU (.mr M.length) (.lst ys) (M++[.lst xs])=.ok (.mr (M++[MO.lst xs]).length) ((M++[MO.lst xs])++[.lst (xs++ys)]):=by
 show(match (match (M++[MO.lst xs])[M.length]? with|some (.lst xs)=>some xs|_=>none),some ys with|some a,some b=>if a.length+b.length≤sizeLine then bw.ok (D.mr (M++[MO.lst xs]).length) ((M++[MO.lst xs])++[MO.lst (a++b)]) else .bad|_,_=>.bad)=_;rw[sv];exact if_pos (bo (by omega))
theorem rF {F:List D→D→au→bw D}{M:au}{xs:List D}{ρ:bU}{d:D}{o:bw D}(h1:ρ[1]?=some (some (.mr M.length)))(h:F xs d (M++[.lst xs])=o):gE F (ae 1) (gC d) ρ (M++[.lst xs])=o:=by
 have l:iI (.mr M.length) (M++[MO.lst xs])=some xs:=by
  show(match (M++[MO.lst xs])[M.length]? with|some (.lst xs)=>some xs|_=>none)=_;rw[sv]
 have v:ae 1 ρ (M++[.lst xs])=.ok (.mr M.length) (M++[.lst xs]):=by unfold ae;rw[h1]
 unfold gE;rw[v,ak,l];dsimp only;rw[show gC d ρ (M++[.lst xs])=.ok d (M++[.lst xs]) from rfl,ak,l];exact h
noncomputable def uo:List D:=[.bl false,.bl false,.bl false,.bl false,.bl false,.bl false,.bl false,.bl false,.bl true,.bl false]
noncomputable def FV:List D:=[.str "frame",.str "stand",.str "tick",.str "deed",.str "over",.str "score",.str "clash",.str "text",.str "film",.str "row"]
theorem sZ {M:au}(hM:lH M):gF [.exc "NoFilm"] M=.ok (.tup [.str "film"]) M:=by
 have z:∀{b:Bool} {r:bU} {N:au},gp (oO [("NoFilm",b)]) (ae 0) (some (.exc "NoFilm")::r) N=.ok (.bl b) N:=fun {b r N}=>rfl
 have e:∃E,eC [some (.exc "NoFilm"),none,none] M=.ok (.rt (.tup [.str "film"])) (M++E):=by
  unfold eC;refine⟨[.lst (uo.take 3),.lst (uo.take 6),.lst uo],?_⟩;refine(am (aO (z6 (ds:=uo.take 3) (aG z (aG z (aG z rfl)))))).trans ?_;refine(am (aO (aj (x:=.mr M.length) rfl (gj (ds:=(uo.drop 3).take 3) (aG z (aG z (aG z rfl)))) (rG (xs:=uo.take 3) (show 3+3≤1000 by decide))))).trans ?_;refine(am (aO (aj (x:=.mr (M++[MO.lst (uo.take 3)]).length) rfl (gj (ds:=(uo.drop 6).take 3) (aG z (aG z (aG z rfl)))) (rG (xs:=uo.take 6) (show 6+3≤1000 by decide))))).trans ?_;refine(am (lC (Bx (go:=ae 1) (E:=uo.take 9) rfl z (show 9<1000000 by decide)))).trans ?_;refine(am ((cb (aF (x:=false) (ap (aw z)) fun _=>aC (aj (rF (xs:=uo) (o:=.ok (.int 1) _) rfl rfl) rfl (fb 1 1 _)))).trans rfl)).trans ?_;refine(am (aO (gj (ds:=FV) rfl))).trans ?_;refine(bA (dq (ds:=[.str "film"]) (aG (aj (x:=.lst FV) rfl (rF (xs:=uo) (o:=.ok (.int 8) _) rfl rfl) (ku (k:=8) rfl)) rfl))).trans ?_;rw[append_assoc,append_assoc];rfl
 obtain⟨E,e⟩:=e;show ju M.length (aD (eC [some (.exc "NoFilm"),none,none] M))=_;rw[e];exact lA rfl hM
theorem uy {M:au}{c:Str}(hM:lH M):lH (M++[.obj c []]):=by
 unfold lH at *;rw[all_append,Bool.and_eq_true];exact⟨all_eq_true.mpr fun x hx=>sN (by simp) (all_eq_true.mp hM x hx),rfl⟩
theorem oU {M:au}{a b:MO}:(M++[a]).set M.length b=M++[b]:=by
 rw[set_append_right _ _ (Nat.le_refl _),Nat.sub_self];rfl
theorem rX {M:au}{a:MO}:(M++[a])[M.length]?=some a:=by simp
theorem xJ {N:au}{x:D}:dU [.mr N.length,x] (N++[.obj "Past" []])=.ok .non (N++[.obj "Past" [("now",x),("earlier",.lst [])]]):=by
 show aD (d9 [some (.mr N.length),some x] _)=_;unfold d9;have k1:=n5 (go:=ae 0) (gv:=ae 1) (ρ:=[some (.mr N.length),some x]) (f:="now") (M:=N++[.obj "Past" []]) rfl rfl rX (by decide);rw[oU] at k1;have k2:=n5 (go:=ae 0) (gv:=cX af) (ρ:=[some (.mr N.length),some x]) (f:="earlier") (fs:=iK "now" x []) (M:=N++[.obj "Past" (iK "now" x [])]) (gj (ds:=[]) rfl) rfl rX (show 1<1000 by decide);rw[oU] at k2;exact(congrArg aD ((am k1).trans k2)).trans rfl
theorem vn {ρ:bU}{N:au}{ga:GA}{x:D}(h:ga ρ N=.ok [x] N):eB "Past" 2 dU ga ρ N=.ok (.mr N.length) (N++[.obj "Past" [("now",x),("earlier",.lst [])]]):=by
 unfold eB;rw[h,ak,if_pos (show [x].length+1=2 from rfl),xJ,ak]
theorem xX {M:au}{d:D}(h:cz 5 d)(hb:eD d=true):∃E,bu [.mr M.length,d] (M++[.obj "Reel" []])=.ok .non (M++E):=by
 have ef:=ky (M:=M++[.obj "Reel" []]) h;rw[hb] at ef;have k1:=(cb (a:=gP "NoFilm" (gC (.str "that is no film"))) (b:=aB) (ap (aw (cx (F:=fh) (a:=ae 1) (ρ:=[some (.mr M.length),some d]) rfl ef)))).trans rfl;have at0:((M++[MO.obj "Reel" []])++[MO.obj "Past" [("now",.tup [.int 0,d]),("earlier",.lst [])]])[M.length]?=some (.obj "Reel" []):=by simp
 have k2:=n5 (go:=ae 0) (ρ:=[some (.mr M.length),some d]) (f:="past") (vn (ρ:=[some (.mr M.length),some d]) (N:=M++[.obj "Reel" []]) (ga:=aa (aI (aa (gC (.int 0)) (aa (ae 1) af))) af) (x:=.tup [.int 0,d]) (aG (dq (ds:=[.int 0,d]) rfl) rfl)) rfl at0 (by decide);rw[append_assoc M,set_append_right _ _ (Nat.le_refl _)] at k2;exact⟨_,(congrArg aD ((am k1).trans k2)).trans rfl⟩
theorem uO {M:au}{d:D}(h:cz 5 d)(hb:eD d=false):bu [.mr M.length,d] (M++[.obj "Reel" []])=.err "NoFilm" (M++[.obj "Reel" []]):=by
 have ef:=ky (M:=M++[.obj "Reel" []]) h;rw[hb] at ef;have k1:=(aQ (a:=gP "NoFilm" (gC (.str "that is no film"))) (b:=aB) (ap (aw (cx (F:=fh) (a:=ae 1) (ρ:=[some (.mr M.length),some d]) rfl ef)))).trans rfl;exact(congrArg aD (CN k1)).trans rfl
theorem yq (ρ:bU)(M:au):fG ρ M=(ao (aM 1 (gC .non)) (ao (jP 2 (List.contains ["NoFilm"]) (eP (eB "Reel" 2 bu (aa (ae 0) af))) (aM 1 (ae 2))) (ao (cD (aH (g2 (fB false) (ae 1) (gC .non))) (az (aI (aa (gC (.str "made")) af))) aB) (az (ah 1 gF (aa (ae 1) af)))))) ρ M:=rfl
noncomputable def rV (b:Bool):D:=.tup [.str (bif b then "made" else "film")]
theorem yu {M:au}{d:D}(hM:lH M)(h:cz 5 d):iP [d] M=.ok (rV (eD d)) M:=by
 show ju M.length (aD (fG [some d,none,none] M))=_;rw[yq];rw[am (show aM 1 (gC .non) [some d,none,none] M=.ok (.nx [some d,some .non,none]) M from rfl)];cases hb:eD d with
 | true=>
  obtain⟨E,e⟩:=xX (M:=M) h hb;have e2:eP (eB "Reel" 2 bu (aa (ae 0) af)) [some d,some .non,none] M=.ok (.nx [some d,some .non,none]) (M++E):=by
   refine lC (d:=.mr M.length) ?_;unfold eB;rw[aG (d:=d) (M1:=M) (ds:=[]) (M2:=M) rfl rfl,ak,if_pos (show [d].length+1=2 from rfl),e,ak]
  have k1:jP 2 (List.contains ["NoFilm"]) (eP (eB "Reel" 2 bu (aa (ae 0) af))) (aM 1 (ae 2)) [some d,some .non,none] M=.ok (.nx [some d,some .non,none]) (M++E):=by
   unfold jP;rw[e2]
  rw[am k1];have k2:cD (aH (g2 (fB false) (ae 1) (gC .non))) (az (aI (aa (gC (.str "made")) af))) aB [some d,some .non,none] (M++E)=.ok (.rt (.tup [.str "made"])) (M++E):=(aQ rfl).trans (bA (dq rfl));rw[ay k2];exact lA rfl hM
 | false=>
  have e:=uO (M:=M) h hb;have e2:eP (eB "Reel" 2 bu (aa (ae 0) af)) [some d,some .non,none] M=.err "NoFilm" (M++[.obj "Reel" []]):=by
   unfold eP eB;rw[aG (d:=d) (M1:=M) (ds:=[]) (M2:=M) rfl rfl,ak,if_pos (show [d].length+1=2 from rfl),e];rfl
  have inl:List.contains (["NoFilm"]:List Str) "NoFilm"=true:=by decide
  have k1:jP 2 (List.contains ["NoFilm"]) (eP (eB "Reel" 2 bu (aa (ae 0) af))) (aM 1 (ae 2)) [some d,some .non,none] M=.ok (.nx [none,some (.exc "NoFilm"),none]) (M++[.obj "Reel" []]):=by
   unfold jP;rw[e2];dsimp only;rw[inl,if_pos rfl];rfl
  rw[am k1];have k2:cD (aH (g2 (fB false) (ae 1) (gC .non))) (az (aI (aa (gC (.str "made")) af))) aB [none,some (.exc "NoFilm"),none] (M++[.obj "Reel" []])=.ok (.nx [none,some (.exc "NoFilm"),none]) (M++[.obj "Reel" []]):=(cb rfl).trans rfl;rw[am k2,bA (cx (a:=ae 1) (x:=.exc "NoFilm") rfl (sZ (uy hM)))];exact lA rfl hM
theorem yx {b:Bool}{M:au}:aR true (rV b) (rV b) M=.ok (.bl false) M:=by
 cases b <;> exact xn (by decide +kernel) (by decide +kernel) (fun _=>rfl) M
theorem sK {l:List Int}{M:au}(t:bC l [] M):lH M:=by
 obtain⟨i,c,_,rfl⟩:=t;exact qY l i c
theorem uH {d:D}{b:Bool}{x0 x1 x2 x4 x6:Option D}{M:au}:g2 aK (cX (aa (aI (aa (gC (.str "film")) af)) (aa (aI (aa (gC (.str "made")) af)) af))) (aq mO (aa (ae 5) af)) [x0,x1,x2,some d,x4,some (.bl b),x6] M=.ok (rV b) M:=by
 have ll:=gj (ga:=aa (aI (aa (gC (.str "film")) af)) (aa (aI (aa (gC (.str "made")) af)) af)) (ρ:=[x0,x1,x2,some d,x4,some (.bl b),x6]) (M:=M) (ds:=[.tup [.str "film"],.tup [.str "made"]]) (aG (dq (ds:=[.str "film"]) rfl) (aG (dq (ds:=[.str "made"]) rfl) rfl));cases b with
 | true=>exact aj ll (y:=.int 1) (M2:=M) rfl rfl
 | false=>exact aj ll (y:=.int 0) (M2:=M) rfl rfl
theorem yA {ns:List Int}{M:au}{x0 x2 x3 x4 x5 x6:Option D}(t:bC ns [] M) :
  ∃y3 y4 y5 y6 M',bC ns [] M'∧oz [x0,some (.mr 0),x2,x3,x4,x5,x6] M=.ok (.nx [x0,some (.mr 0),x2,y3,y4,y5,y6]) M':=by
 obtain⟨f,s,ps,M1,ok,pl,t1,e1⟩:=yJ t;obtain⟨way,M2,a2,b2,t2,e2⟩:=aS (many:=8) (by decide) (aA (by decide) (by decide)) t1;have tst:∀(d:D) (M:au),aH (g2 (aR false) (ae 4) (gC (.int 1))) [x0,some (.mr 0),x2,some d,some (.int way),x5,x6] M=.ok (decide (way=1)) M:=fun d M=>aC (aj (x:=.int way) (y:=.int 1) rfl rfl (fX _ _ M))
 have tgt:∀(d:D) (M:au),aH (g2 jV (ae 4) (gC (.int 1))) [x0,some (.mr 0),x2,some d,some (.int way),x5,x6] M=.ok (decide (way>1)) M:=fun d M=>aC (aj (x:=.int way) (y:=.int 1) rfl rfl rfl)
 have p1:∃d M3,dP true 16 d=true∧bC ns [] M3∧cD (aH (g2 jV (ae 4) (gC (.int 1)))) (aM 3 (ah 2 bM (aa (ae 1) (aa (ae 3) af)))) aB [x0,some (.mr 0),x2,some (.tup [f,s,.tup ps]),some (.int way),x5,x6] M2=.ok (.nx [x0,some (.mr 0),x2,some d,some (.int way),x5,x6]) M3:=by
  by_cases h:way>1
  ·obtain⟨d,M3,t3,o3,e3⟩:=pG ok pl t2;exact⟨d,M3,o3,t3,(aQ ((tgt _ _).trans (by rw[decide_eq_true h]))).trans (aO (bH (a:=ae 1) (b:=ae 3) rfl rfl e3))⟩
  ·exact⟨_,M2,bD (by decide) ok,t2,(cb ((tgt _ _).trans (by rw[decide_eq_false h]))).trans rfl⟩
 obtain⟨d1,M3,o1,t3,k3⟩:=p1;have p3:∃d M5,dP true 16 d=true∧bC ns [] M5∧cD (aH (g2 (aR false) (ae 4) (gC (.int 1)))) (aM 3 (ah 1 en (aa (ae 1) af))) aB [x0,some (.mr 0),x2,some d1,some (.int way),x5,x6] M3=.ok (.nx [x0,some (.mr 0),x2,some d,some (.int way),x5,x6]) M5:=by
  by_cases h:way=1
  ·obtain⟨d,M5,t5,o5,e5⟩:=wG t3;exact⟨d,M5,bD (by decide) o5,t5,(aQ ((tst _ _).trans (by rw[decide_eq_true h]))).trans (aO (cx (a:=ae 1) rfl e5))⟩
  ·exact⟨d1,M3,o1,t3,(cb ((tst _ _).trans (by rw[decide_eq_false h]))).trans rfl⟩
 obtain⟨d,M5,o3,t5,k5⟩:=p3;have hd:cz 5 d:=nz 5 16 (by decide) o3;have s3:=aO (i:=5) (cx (F:=eM) (a:=ae 3) (ρ:=[x0,some (.mr 0),x2,some d,some (.int way),x5,x6]) rfl (p8 (M:=M5) hd));have s4:=aO (i:=6) (cx (F:=fh) (a:=ae 3) (ρ:=[x0,some (.mr 0),x2,some d,some (.int way),some (.bl (eD d)),x6]) rfl (ky (M:=M5) hd));have s5:cD (bY (aN (bf (bO "bool" (ae 6)))) (aH (g2 (aR true) (ae 6) (ae 5)))) (az (gC (.bl false))) aB [x0,some (.mr 0),x2,some d,some (.int way),some (.bl (eD d)),some (.bl (eD d))] M5=.ok (.nx [x0,some (.mr 0),x2,some d,some (.int way),some (.bl (eD d)),some (.bl (eD d))]) M5:=by
  cases eD d <;> rfl
 have s6:=(cb (a:=az (gC (.bl false))) (b:=aB) (aC (aj (f:=aR true) (cx (a:=ae 3) (ρ:=[x0,some (.mr 0),x2,some d,some (.int way),some (.bl (eD d)),some (.bl (eD d))]) rfl (yu (sK t5) hd)) uH yx))).trans rfl;refine⟨some d,some (.int way),some (.bl (eD d)),some (.bl (eD d)),M5,t5,?_⟩;exact(am (aO (bH (a:=ae 1) (b:=gC (.int 8)) rfl rfl e1))).trans ((am (aO (bH (a:=ae 1) (b:=gC (.int 8)) rfl rfl e2))).trans ((am k3).trans ((am k5).trans ((am s3).trans ((am s4).trans ((am s5).trans s6))))))
theorem law_true (ns:List Int)(hl:ns.length≤63):∃M',rP [.ro (ns.map D.int)] []=.ok (.bl true) M':=by
 obtain⟨ρ2,M2,_,ef⟩:=rR (ds0:=aU 0 8) (s:=fQ 2) (body:=oz) (W:=fun ρ M=>∃x2 x3 x4 x5 x6,bC ns [] M∧ρ=[some (.ro (ns.map D.int)),some (.mr 0),x2,x3,x4,x5,x6]) (aU 0 8)
  (fun d hd ρ M hW=>by
   obtain⟨x2,x3,x4,x5,x6,t,rfl⟩:=hW;obtain⟨y3,y4,y5,y6,M',t',e⟩:=yA (x0:=some (.ro (ns.map D.int))) (x2:=some d) (x3:=x3) (x4:=x4) (x5:=x5) (x6:=x6) t;exact⟨_,_,M',rfl,e,_,_,_,_,_,t',rfl⟩) [some (.ro (ns.map D.int)),some (.mr 0),none,none,none,none,none] [tp ns 0 0] ⟨_,_,_,_,_,⟨0,0,by decide,rfl⟩,rfl⟩
 have l3:(3:Nat)≤sizeLine:=bo (by decide);refine⟨M2,?_⟩;show aD (rm [some (.ro (ns.map D.int)),none,none,none,none,none,none] [])=_;unfold rm;have s1:aM 1 (i6 (aa (aq jm (aa (ae 0) af)) (aa (gC (.int 0)) (aa (gC (.int 0)) af)))) [some (.ro (ns.map D.int)),none,none,none,none,none,none] []=.ok (.nx [some (.ro (ns.map D.int)),some (.mr 0),none,none,none,none,none]) [tp ns 0 0]:=by
  refine aO (d:=.mr 0) (M1:=[tp ns 0 0]) ?_;show(if [D.lst (ns.map D.int),.int 0,.int 0].length≤sizeLine then bw.ok (D.mr 0) [MO.lst [D.lst (ns.map D.int),.int 0,.int 0]] else .bad)=_;rw[if_pos (show [D.lst (ns.map D.int),.int 0,.int 0].length≤sizeLine from l3)];rfl
 rw[am s1,am (lV (gG (n:=8) rfl (by decide)) ef)];rfl
end K29
theorem PySem.Challenge.cw_glowrow_k29_what_is_a_film_holds : PySem.Challenge.rw_glowrow_k29_what_is_a_film.Holds :=
 K29.pre K29.law_true
