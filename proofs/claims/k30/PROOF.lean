import PyProof.Rows.All
import Wide.All
import KE.KNestM
import OpenK.KOwn
import OpenK.KRaise
import KE.KIsAll
import KE.KTypeName
import Wide.FinOn
import Lean
import PyProof.EqAt
import PyProof.EqKinds
import PyProof.TupleCall
import PyProof.Draws
import PyProof.EnumMake
import KE.KLam
import KE.KMinKey
import PyProof.StrCalls2
import PyProof.Rows.StrIndexOr
import PyProof.CollectIter
import PyProof.ListStr
import KE.KDictLaws
import PyProof.P3Eq
import KE.KSortTup
import KE.KDictList
import PyProof.ZipIter
import PyProof.Rows.ZipGen
import PySem.Challenge.RW_glowrow_k30_films_gone_on
set_option Elab.async false
set_option linter.all false
set_option maxRecDepth 100000
set_option maxHeartbeats 4000000
namespace L2
open PySem PySem.Spec PyProof.Rows List
abbrev bv:=Sum Int Str
def jn:bv→Value→Bool
 | .inl k,v=>Value.isInt k v
 | .inr x,v=>Value.isStrOf x v
def AR (w:World):bv→Int
 | .inl k=>hashInt k
 | .inr x=>hashStr w x
theorem bh:∀{k:bv} {v:Value},jn k v=true→(∃i t,k=Sum.inl i∧v=Value.int i t)∨(∃x t,k=Sum.inr x∧v=Value.str x t)
 | .inl i,v,h=>by
  obtain⟨t,e⟩:=Value.isInt_shape (k:=i) (v:=v) h;exact .inl ⟨i,t,rfl,e⟩
 | .inr x,v,h=>by
  obtain⟨t,e⟩:=Value.isStrOf_shape (x:=x) (v:=v) h;exact .inr ⟨x,t,rfl,e⟩
theorem nX (i:Int)(t:Tok):jn (.inl i) (.int i t)=true:=by simp[jn,Value.isInt]
theorem om (x:Str)(t:Tok):jn (.inr x) (.str x t)=true:=by simp[jn,Value.isStrOf]
theorem vY (a b:Int):decide ((Sum.inl a:bv)=Sum.inl b)=(a==b):=by
 by_cases e:a=b
 ·subst e;simp
 ·have h:¬(Sum.inl a:bv)=Sum.inl b:=fun q=>e (Sum.inl.inj q)
  rw[decide_eq_false h];exact(beq_eq_false_iff_ne.mpr e).symm
theorem wf (a b:Str):decide ((Sum.inr a:bv)=Sum.inr b)=decide (a=b):=by
 by_cases e:a=b
 ·subst e;simp
 ·have h:¬(Sum.inr a:bv)=Sum.inr b:=fun q=>e (Sum.inr.inj q)
  rw[decide_eq_false h,decide_eq_false e]
theorem uZ (a:Int)(b:Str):decide ((Sum.inl a:bv)=Sum.inr b)=false:=decide_eq_false (fun q=>nomatch q)
theorem vq (a:Str)(b:Int):decide ((Sum.inr a:bv)=Sum.inl b)=false:=decide_eq_false (fun q=>nomatch q)
def bR (prog:Program)(w:World):PySem.KeyKind prog w bv where
 is:=jn
 hash:=AR w
 inj:=fun v a b ha hb=>by
  rcases bh ha with⟨i,t,rfl,rfl⟩|⟨x,t,rfl,rfl⟩
  ·rcases bh hb with⟨j,u,rfl,e⟩|⟨y,u,rfl,e⟩
   ·injection e with e1 _;rw[e1]
   ·exact nomatch e
  ·rcases bh hb with⟨j,u,rfl,e⟩|⟨y,u,rfl,e⟩
   ·exact nomatch e
   ·injection e with e1 _;rw[e1]
 byValue:=fun k v h=>by
  rcases bh h with⟨i,t,rfl,rfl⟩|⟨x,t,rfl,rfl⟩ <;> rfl
 pyHash:=fun hv h=>by
  rcases bh hv with⟨i,t,rfl,rfl⟩|⟨x,t,rfl,rfl⟩
  ·exact wpAny_pyHash_int h
  ·exact wpAny_pyHash_str h
 eqBool:=fun hu hv h=>by
  rcases bh hu with⟨i,t,rfl,rfl⟩|⟨x,t,rfl,rfl⟩
  ·rcases bh hv with⟨j,u,rfl,rfl⟩|⟨y,u,rfl,rfl⟩
   ·rw[vY] at h;exact wpAny_eqBool_int h
   ·rw[uZ] at h;exact SeqAt.EqAt.int_str i t y u _ _ _ _ h
  ·rcases bh hv with⟨j,u,rfl,rfl⟩|⟨y,u,rfl,rfl⟩
   ·rw[vq] at h;exact SeqAt.EqAt.str_int x t j u _ _ _ _ h
   ·rw[wf] at h;exact wpAny_eqBool_str h
 «strs»:=fun k x t v h=>by
  rcases bh h with⟨i,u,rfl,e⟩|⟨y,u,rfl,e⟩
  ·exact nomatch e
  ·injection e with e1 _
   subst e1;cases v <;> rfl
theorem kI (prog:Program)(w:World)(i:Int)(t:Tok):(bR prog w).is (.inl i) (.int i t)=true:=nX i t
theorem kL (prog:Program)(w:World)(x:Str)(t:Tok):(bR prog w).is (.inr x) (.str x t)=true:=om x t
inductive V where
 | non|bl (b:Bool)|int (i:Int)|str (x:Str)|byt (b:Array UInt8)|flt (b:UInt64)|ref (a:Addr)|ty (n:String)
 deriving DecidableEq
def aM:V→Value→Prop
 | .non,u=>u=Value.none
 | .bl b,u=>u=Value.bool b
 | .int i,u=>∃t,u=Value.int i t
 | .str x,u=>∃t,u=Value.str x t
 | .byt b,u=>∃t,u=Value.bytes b t
 | .flt b,u=>∃t,u=Value.float b t
 | .ref a,u=>u=Value.ref a
 | .ty n,u=>u=Value.type n
abbrev aE:List V→List Value→Prop:=Paired aM
theorem aE.length {xs:List V}{us:List Value}(r:aE xs us):xs.length=us.length:=Paired.length r
theorem aE.get:∀{xs:List V} {us:List Value} {i:Nat} {x:V},aE xs us→xs[i]?=some x→∃u,us[i]?=some u∧aM x u
 | _,_,_,_,.nil,e=>by simp at e
 | _,_,0,_,.cons r _,e=>by simp at e;subst e;exact⟨_,rfl,r⟩
 | _,_,i+1,x,.cons _ t,e=>by
  obtain⟨u,h1,h2⟩:=aE.get (i:=i) (x:=x) t (by simpa using e);exact⟨u,by simpa using h1,h2⟩
theorem aE.set {x:V}{u:Value}(r:aM x u):∀{xs:List V} {us:List Value} (i:Nat),aE xs us→aE (xs.set i x) (us.set i u)
 | _,_,_,.nil=>.nil
 | _,_,0,.cons _ t=>.cons r t
 | _,_,i+1,.cons q t=>.cons q (aE.set r i t)
theorem aE.append:∀{xs ys:List V} {us ws:List Value},aE xs us→aE ys ws→aE (xs++ys) (us++ws)
 | _,_,_,_,.nil,s=>s
 | _,_,_,_,.cons r t,s=>.cons r (aE.append t s)
theorem aE.take:∀{xs:List V} {us:List Value} (n:Nat),aE xs us→aE (xs.take n) (us.take n)
 | _,_,0,_=>.nil
 | _,_,_+1,.nil=>.nil
 | _,_,n+1,.cons r t=>.cons r (aE.take n t)
theorem aE.drop:∀{xs:List V} {us:List Value} (n:Nat),aE xs us→aE (xs.drop n) (us.drop n)
 | _,_,0,r=>r
 | _,_,_+1,.nil=>.nil
 | _,_,n+1,.cons _ t=>aE.drop n t
def i6:Option V→Option Value→Prop
 | some v,some u=>aM v u
 | none,none=>True
 | _,_=>False
def KV {κ:Type}:List (κ×V)→List (κ×Value)→Prop:=Paired fun(p:κ×V) (q:κ×Value)=>p.1=q.1∧aM p.2 q.2
def kV:bv→V
 | .inl i=>.int i
 | .inr x=>.str x
inductive HO where
 | lst (xs:List V)
 | tup (xs:List V)
 | dK (kvs:List (bv×V))|dT (kvs:List (List bv×V))
 | set (S:Int→Bool) (n:Nat)
 | ins (C dx:Addr) (fs:List (Str×V))
 | own (x:Addr)
 | xd (fs:List (Str×V))
 | met (f x:Addr)
 | rng (lo hi:Int)
 | frz (o:Obj) (u:HO)
 | tbl (ps:Array Value)
 | ext (φ:Heap→Prop)
abbrev Hp:=Addr→Option HO
def bS (H:Hp)(a:Addr)(o:HO):Hp:=fun b=>if b=a then some o else H b
theorem bZ {H:Hp}{a:Addr}{o:HO}:bS H a o a=some o:=by unfold bS;rw[if_pos rfl]
theorem aw {H:Hp}{a b:Addr}{o:HO}(h:b≠a):bS H a o b=H b:=by unfold bS;rw[if_neg h]
theorem kQ {H:Hp}{a b:Addr}{o u:HO}(h:H a=some o)(h':H b=some u)(d:o≠u):a≠b:=by
 intro e;subst e;rw[h] at h';exact d (Option.some.inj h')
theorem a9 {H:Hp}{a b:Addr}{o:HO}(h:H a=some o)(h':H b=none):a≠b:=by
 intro e;subst e;rw[h] at h';cases h'
section
variable (P:Program)(w:World)
def bA (H:Hp)(h:Heap)(a:Addr):HO→Prop
 | .lst xs=>xs.length≤sizeLine∧∃(its:List Value) (n:Nat),aE xs its∧h.get? a=some {cls:=.type "list",data:=.seq its.toArray n}
 | .tup xs=>xs.length≤sizeLine∧∃its:List Value,aE xs its∧IsTup h a its.toArray
 | .dK kvs=>kvs.length≤sizeLine∧(a==sysModules)=false∧∃vs,KV kvs vs∧h.DictOf (bR P w) a vs
 | .dT kvs=>kvs.length≤sizeLine∧(a==sysModules)=false∧∃xs:List (List bv×Addr×Value),
   Paired (fun(p:List bv×V) (q:List bv×Addr×Value)=>p.1=q.1∧H q.2.1=some (.tup (p.1.map kV))∧aM p.2 q.2.2) kvs xs∧
   ∃o es ep,h.get? a=some o∧o.ExactDict∧o.data=.dict es ep∧es.toList=xs.map (entryOfKey (tupleKind (bR P w)))∧(xs.map (·.1)).Nodup
 | .set S n=>h.SetOf (intKind P w) a S n
 | .ins C dx fs=>H dx=some (.own a)∧fs.length≤1000∧dx≠a∧h.get? a=some (W.instObj C dx)∧
   ∃mA,h.Ns1 dx mA∧(∀f,i6 (fs.lookup f) (mA f))∧PySem.Within mA (fs.map (·.1))
 | .own _=>∃o,h.get? a=some o
 | .xd fs=>∃mA,h.Ns1 a mA∧∀f,i6 (fs.lookup f) (mA f)
 | .rng lo hi=>∃t u v,h.get? a=some {cls:=.type "range",data:=.fields #[.int lo t,.int hi u,.int 1 v]}
 | .frz o u=>h.get? a=some o∧bA H h a u
 | .tbl ps=>h.get? a=some {cls:=.none,data:=.fields ps}
 | .met f x=>h.get? a=some (W.methodObj (.ref f) (.ref x))
 | .ext φ=>φ h∧(∃o,h.get? a=some o)∧∀h1 h2:Heap,φ h1→(∀o,h1.get? a=some o→h2.get? a=some o)→φ h2
def fc (H:Hp)(h:Heap):Prop:=∀a o,H a=some o→bA P w H h a o
end
section
variable {P:Program}{w:World}{H H':Hp}{h h':Heap}{a:Addr}{o:HO}
theorem bA.lt (x:bA P w H h a o):a<h.objs.size:=by
 cases o with
 | lst xs=>obtain⟨_,_,_,_,e⟩:=x;exact Heap.lt_size e
 | tup xs=>obtain⟨_,_,_,p⟩:=x;exact p.lt
 | dK kvs=>obtain⟨_,_,_,_,o,_,_,e,_⟩:=x;exact Heap.lt_size e
 | dT kvs=>obtain⟨_,_,_,_,o,_,_,e,_⟩:=x;exact Heap.lt_size e
 | set S n=>obtain⟨o,_,_,_,e,_⟩:=x;exact Heap.lt_size e
 | ins C dx fs=>obtain⟨_,_,_,e,_⟩:=x;exact Heap.lt_size e
 | own y=>obtain⟨_,e⟩:=x;exact Heap.lt_size e
 | xd fs=>obtain⟨_,⟨_,_,_,e,_⟩,_⟩:=x;exact Heap.lt_size e
 | rng lo hi=>obtain⟨_,_,_,e⟩:=x;exact Heap.lt_size e
 | frz ob u=>obtain⟨e,_⟩:=x;exact Heap.lt_size e
 | tbl ps=>exact Heap.lt_size (show h.get? a=some _ from x)
 | met f y=>exact Heap.lt_size (show h.get? a=some _ from x)
 | ext φ=>obtain⟨_,⟨_,e⟩,_⟩:=x;exact Heap.lt_size e
theorem Paired.mapP {α β:Type}{F G:α→β→Prop}:∀{l₁:List α} {l₂:List β},Paired F l₁ l₂→(∀a b,F a b→G a b)→Paired G l₁ l₂
 | _,_,.nil,_=>.nil
 | _,_,.cons r t,f=>.cons (f _ _ r) (Paired.mapP t f)
theorem bA.stay (x:bA P w H h a o)(k:∀b u,(b=a∨H b=some (.own a))→h.get? b=some u→h'.get? b=some u)
  (ho:∀b,H b=some (.own a)→H' b=some (.own a)) (ht:∀b xs,H b=some (.tup xs)→H' b=some (.tup xs)):bA P w H' h' a o:=by
 induction o with
 | lst xs=>obtain⟨z,its,n,r,e⟩:=x;exact⟨z,its,n,r,k _ _ (.inl rfl) e⟩
 | tup xs=>obtain⟨z,its,r,ob,e,c⟩:=x;exact⟨z,its,r,ob,k _ _ (.inl rfl) e,c⟩
 | dK kvs=>obtain⟨z,y,vs,r,ob,es,ep,e,c⟩:=x;exact⟨z,y,vs,r,ob,es,ep,k _ _ (.inl rfl) e,c⟩
 | dT kvs=>
  obtain⟨z,y,xs,r,ob,es,ep,e,c⟩:=x;exact⟨z,y,xs,Paired.mapP r fun p q z=>⟨z.1,ht _ _ z.2.1,z.2.2⟩,ob,es,ep,k _ _ (.inl rfl) e,c⟩
 | set S n=>obtain⟨ob,es,ep,t,e,c⟩:=x;exact⟨ob,es,ep,t,k _ _ (.inl rfl) e,c⟩
 | ins C dx fs=>
  obtain⟨d,z,ne,e,mA,⟨od,es,ep,e2,c⟩,r⟩:=x;exact⟨ho _ d,z,ne,k _ _ (.inl rfl) e,mA,⟨od,es,ep,k _ _ (.inr d) e2,c⟩,r⟩
 | own y=>obtain⟨ob,e⟩:=x;exact⟨ob,k _ _ (.inl rfl) e⟩
 | xd fs=>obtain⟨mA,⟨od,es,ep,e,c⟩,r⟩:=x;exact⟨mA,⟨od,es,ep,k _ _ (.inl rfl) e,c⟩,r⟩
 | rng lo hi=>obtain⟨t,u,v,e⟩:=x;exact⟨t,u,v,k _ _ (.inl rfl) e⟩
 | frz ob u ih=>obtain⟨e,q⟩:=x;exact⟨k _ _ (.inl rfl) e,ih q⟩
 | tbl ps=>
  have e:h.get? a=some {cls:=.none,data:=.fields ps}:=x;show h'.get? a=some {cls:=.none,data:=.fields ps};exact k a _ (.inl rfl) e
 | met f y=>
  have e:h.get? a=some (W.methodObj (.ref f) (.ref y)):=x;show h'.get? a=some (W.methodObj (.ref f) (.ref y));exact k a _ (.inl rfl) e
 | ext φ=>obtain⟨p,⟨o,e⟩,st⟩:=x;exact⟨st _ _ p fun o q=>k _ _ (.inl rfl) q,⟨o,k _ _ (.inl rfl) e⟩,st⟩
theorem fc.lt (x:fc P w H h)(e:H a=some o):a<h.objs.size:=(x a o e).lt
theorem fc.fresh (x:fc P w H h)(e:h.objs.size≤a):H a=none:=by
 cases q:H a with
 | none=>rfl
 | some u=>exact absurd (Nat.lt_of_lt_of_le (x.lt q) e) (Nat.lt_irrefl _)
theorem fc.kept (x:fc P w H h)(k:∀b u,h.get? b=some u→h'.get? b=some u):fc P w H h':=fun a o e=>
 (x a o e).stay (fun b u _ q=>k b u q) (fun _ q=>q) fun _ _ q=>q
theorem fc.laid (x:fc P w H h)(k:∀b u,h.get? b=some u→h'.get? b=some u)(hp:h.objs.size≤a)(new:bA P w (bS H a o) h' a o):fc P w (bS H a o) h':=fun b u e=>by
 have hn:=x.fresh hp
 by_cases hb:b=a
 ·subst hb;rw[bZ] at e;cases e;exact new
 ·rw[aw hb] at e;exact(x b u e).stay (fun c v _ q=>k c v q) (fun c q=>by rw[aw (a9 q hn)];exact q) fun c xs q=>by rw[aw (a9 q hn)];exact q
end
def Rd (H:Hp)(a:Addr)(u:HO):Prop:=H a=some u∨∃o,H a=some (.frz o u)
theorem Rd.ok {P:Program}{w:World}{H:Hp}{h:Heap}{a:Addr}{u:HO}(r:Rd H a u)(x:fc P w H h):bA P w H h a u:=by
 rcases r with r|⟨o,r⟩
 ·exact x a u r
 ·obtain⟨_,q⟩:=x a _ r;exact q
def yT:Option HO→Prop
 | some (.lst _)=>True
 | some (.dK _)=>True
 | some (.dT _)=>True
 | some (.set _ _)=>True
 | some (.ins _ _ _)=>True
 | some (.ext _)=>True
 | _=>False
section
variable {P:Program}{w:World}{H:Hp}{h h':Heap}{x e:Addr}{o':HO}
theorem fc.write (ok:fc P w H h)(mu:yT (H x))(he:e=x∨H e=some (.own x))(k:∀b u,b≠e→h.get? b=some u→h'.get? b=some u)(heo:∃u,h'.get? e=some u)
  (new:bA P w (bS H x o') h' x o'):fc P w (bS H x o') h':=fun b u q=>by
 have nown:∀c y,H c=some (.own y)→c≠x:=fun c y r z=>by subst z;rw[r] at mu;exact mu
 have ntup:∀c xs,H c=some (.tup xs)→c≠x:=fun c xs r z=>by subst z;rw[r] at mu;exact mu
 by_cases hb:b=x
 ·subst hb;rw[bZ] at q;cases q;exact new
 ·rw[aw hb] at q
  by_cases hbe:b=e
  ·have q':H b=some (.own x):=by
    rcases he with z|z
    ·exact absurd (hbe.trans z) hb
    ·rw[hbe];exact z
   rw[q] at q';cases q';obtain⟨v,hv⟩:=heo;exact⟨v,by rw[hbe];exact hv⟩
  ·refine(ok b u q).stay (fun c v hc r=>k c v ?_ r) (fun c r=>by rw[aw (nown c b r)];exact r) fun c xs r=>by rw[aw (ntup c xs r)];exact r
   rcases hc with rfl|hc
   ·exact hbe
   ·rintro rfl;rcases he with z|z
    ·exact nown c b hc z
    ·rw[hc] at z;cases z;exact hb rfl
end
structure Un (fs ex:List Addr)(H H':Hp)(h h':Heap):Prop where
 keep:∀b o,h.get? b=some o→H b=none→b∉fs→b∉ex→h'.get? b=some o
 slot:∀b o,h.get? b=some o→H b=none→b∈fs→b∉ex→∃sl,h'.get? b=some {o with slots:=sl}
 free:∀b o,h.get? b=some o→H b=none→b∉ex→H' b=none
 there:∀b o,h.get? b=some o→b∉ex→∃o',h'.get? b=some o'
 tups:∀b xs,H b=some (.tup xs)→H' b=some (.tup xs)
 frzs:∀b o u,H b=some (.frz o u)→H' b=some (.frz o u)
 tbls:∀b ps,H b=some (.tbl ps)→∃more,H' b=some (.tbl (ps++more))
section
variable {fs fs' ex ex':List Addr}{H H1 H2:Hp}{h h1 h2 h':Heap}{a x e:Addr}{o:HO}
theorem Un.any (u:Un fs ex H H1 h h1){b:Addr}{ob:Obj}(q:h.get? b=some ob)(n:H b=none)(hx:b∉ex):∃sl,h1.get? b=some {ob with slots:=sl}:=by
 by_cases hb:b∈fs
 ·exact u.slot b ob q n hb hx
 ·exact⟨ob.slots,u.keep b ob q n hb hx⟩
theorem Un.kept (k:∀b u,h.get? b=some u→h'.get? b=some u):Un fs ex H H h h':=
 ⟨fun b ob q _ _ _=>k b ob q,fun b ob q _ _ _=>⟨ob.slots,k b ob q⟩,fun _ _ _ n _=>n,fun b ob q _=>⟨ob,k b ob q⟩,fun _ _ q=>q,fun _ _ _ q=>q,fun _ ps q=>⟨#[],by rw[q];simp⟩⟩
theorem Un.refl:Un fs ex H H h h:=Un.kept fun _ _ q=>q
theorem Un.laid (k:∀b u,h.get? b=some u→h'.get? b=some u)(hp:h.objs.size≤a)(hn:H a=none):Un fs ex H (bS H a o) h h' where
 keep:=fun b u q _ _ _=>k b u q
 slot:=fun b u q _ _ _=>⟨u.slots,k b u q⟩
 free:=fun b u q n _=>by rw[aw (Nat.ne_of_lt (Nat.lt_of_lt_of_le (Heap.lt_size q) hp))];exact n
 there:=fun b u q _=>⟨u,k b u q⟩
 tups:=fun b xs q=>by rw[aw (a9 q hn)];exact q
 frzs:=fun b u xs q=>by rw[aw (a9 q hn)];exact q
 tbls:=fun b ps q=>⟨#[],by rw[aw (a9 q hn),q];simp⟩
theorem Un.write (mu:yT (H x))(he:e=x∨H e=some (.own x))(k:∀b u,b≠e→h.get? b=some u→h'.get? b=some u)(heo:∃u,h'.get? e=some u):Un fs ex H (bS H x o) h h':=by
 have hx:∀b,H b=none→b≠x:=fun b n z=>by subst z;rw[n] at mu;exact mu
 have hb:∀b,H b=none→b≠e:=fun b n z=>by
  subst z;rcases he with r|r
  ·exact hx b n r
  ·rw[n] at r;cases r
 have hm:∀b u,H b=some u→¬yT (some u)→b≠x:=fun b u q nm z=>by subst z;rw[q] at mu;exact nm mu
 refine⟨fun b u q n _ _=>k b u (hb b n) q,fun b u q n _ _=>⟨u.slots,k b u (hb b n) q⟩,fun b u q n _=>by rw[aw (hx b n)];exact n,fun b u q _=>?_,
  fun b xs q=>by rw[aw (hm b _ q fun z=>z)];exact q,fun b u xs q=>by rw[aw (hm b _ q fun z=>z)];exact q,fun b ps q=>⟨#[],by rw[aw (hm b _ q fun z=>z),q];simp⟩⟩
 by_cases hbe:b=e
 ·subst hbe;exact heo
 ·exact⟨u,k b u hbe q⟩
end
def trk (h:Heap)(H:Hp):List Addr:=(List.range h.objs.size).filter fun a=>(H a).isSome
def kA (h:Heap)(H:Hp):Heap:=W.hideAll h (trk h H)
theorem nw (h:Heap)(H:Hp):(kA h H).objs.size=h.objs.size:=W.hideAll_size _ _
theorem qO {h:Heap}{H:Hp}{b:Addr}{o:Obj}(e:h.get? b=some o)(n:H b=none):(kA h H).get? b=some o:=
 W.hideAll_get _ e fun hm=>by
  have q:(H b).isSome=true:=(mem_filter.mp hm).2;rw[n] at q;simp at q
theorem ub {h:Heap}{H:Hp}{b:Addr}{o:Obj}(e:(kA h H).get? b=some o):h.get? b=some o∧H b=none:=by
 have e':h.get? b=some o:=W.of_hideAll (trk h H) e;refine⟨e',?_⟩;cases q:H b with
 | none=>rfl
 | some x=>
  have hm:b∈trk h H:=mem_filter.mpr ⟨mem_range.mpr (Heap.lt_size e'),by simp[q]⟩;have z:(kA h H).get? b=none:=W.hideAll_none (trk h H) hm;rw[z] at e;cases e
def sV (g h:Heap)(L:Addr):List (Addr×Obj):=(List.range h.objs.size).filterMap fun a=>if a=L∨(g.get? a).isSome=true then none else(h.get? a).map fun o=>(a,o)
def rest (g h:Heap)(L d:Addr):List (Addr×Obj):=(sV g h L).filter fun p=>decide (p.1≠d)
structure Mod (K:W.Frag)(mg:Str→Option Value)(base:Heap):Prop where
 kin:K.In base
 glob:base.Ns mainGlobals mg
 blt:∃mb,base.Ns builtinsNs mb∧∀x:Str,x≠"__name__"→mb x=bootBuiltins x
 nolimit:base.NoLimit
structure Cx where
 prog:Program
 w:World
 K:W.Frag
 mg:Str→Option Value
 base:Heap
 A:Around
 N:List Str
 s₀:Shared
 H₀:Hp
 env:Env
 outer:List Env
 stack:List Env
 ex:List Addr
 fn:Str→Bool
 calm:Bool
 pn:List (Addr×Obj)
 xe:Value→Shared→Prop
def iU (l:List Env):List Addr:=l.filterMap (·.frame)
abbrev Cx.fs (X:Cx):List Addr:=iU X.outer
def yM (sc:Scope)(x:Str):Prop:=sc.names.lookup x=some .local∨sc.names.lookup x=some .cell∨sc.names.lookup x=some .free
def qW (sc:Scope)(x:Str):Prop:=sc.names.lookup x=some .local∨sc.names.lookup x=some .cell
def z9 (env:Env)(h:Heap)(m:Str→Option Value)(x:Str)(u:Value):Prop:=
 (env.kindOf x=some .local∧m x=some u)∨((env.kindOf x=some .cell∨env.kindOf x=some .free)∧∃c,env.cells.lookup x=some c∧h.IsCell c (some u))
structure Cx.Ok (X:Cx):Prop where
 mod:Mod X.K X.mg X.base
 kind:X.env.scope.kind=.function
 glob:X.env.globals=mainGlobals
 blt:X.env.builtins=builtinsNs
 above:X.s₀.heap.objs.size≤X.env.locals
 inj:∀x y c,X.env.cells.lookup x=some c→X.env.cells.lookup y=some c→x=y
 has:∀x,(X.env.kindOf x=some .cell∨X.env.kindOf x=some .free)→∃c,X.env.cells.lookup x=some c
 cab:∀x c,X.fn x=true→X.env.cells.lookup x=some c→X.s₀.heap.objs.size≤c
 hd:X.calm=true→X.A.handled=none
 frames:X.A.frames=some X.stack
 stk:X.stack=X.outer∨(X.stack=X.env::X.outer∧X.env.frame=some X.env.locals)
 exf:∀b∈X.ex,b≠X.env.locals∧∀x c,X.env.cells.lookup x=some c→c≠b
 bs:∀b o,X.base.get? b=some o→X.s₀.heap.get? b=some o∧X.H₀ b=none
 bsz:X.base.objs.size≤X.s₀.heap.objs.size
 noex:∀b o,X.base.get? b=some o→b∉X.ex
 exfs:∀b∈X.ex,b∉X.fs
 funs:X.s₀.heap.FunFrames X.base X.outer
 frf:∀b∈X.fs,X.H₀ b=none
structure Inv (X:Cx)(af:List (Addr×Obj))(σ:List (Option V))(H:Hp)(s:Shared):Prop where
 ok:X.Ok
 os:s.os=X.s₀.os
 bare:AllBare s.gens
 base:Un X.fs X.ex X.H₀ H X.s₀.heap s.heap
 loc:∃m,s.heap.Ns X.env.locals m∧∀(i:Nat) (x:Str) (v:V),X.N[i]?=some x→σ[i]?=some (some v)→yM X.env.scope x→∃u,aM v u∧z9 X.env s.heap m x u
 cell:∀x c,X.env.cells.lookup x=some c→∃v,s.heap.IsCell c v
 free:H X.env.locals=none
 freeC:∀x c,X.env.cells.lookup x=some c→H c=none
 pin:∀p∈X.pn++af,s.heap.get? p.1=some p.2∧H p.1=none∧p.1≠X.env.locals∧p.1∉X.fs∧∀v,p.2.data≠.cell v
 hok:fc X.prog X.w H s.heap
 len:σ.length=X.N.length
section
variable {X:Cx}{af:List (Addr×Obj)}{σ:List (Option V)}{H H':Hp}{s:Shared}{h':Heap}
theorem Cx.Ok.nofr (ok:X.Ok){b:Addr}{o:Obj}(e:X.base.get? b=some o):b∉X.fs:=fun hb=>by
 have:=(ok.funs.mem hb).1;rw[e] at this;cases this
theorem Inv.bs (I:Inv X af σ H s):∀b o,X.base.get? b=some o→s.heap.get? b=some o∧H b=none:=fun b o e=>
 ⟨I.base.keep b o (I.ok.bs b o e).1 (I.ok.bs b o e).2 (I.ok.nofr e) (I.ok.noex b o e),I.base.free b o (I.ok.bs b o e).1 (I.ok.bs b o e).2 (I.ok.noex b o e)⟩
theorem Inv.bk (I:Inv X af σ H s):∀b o,X.base.get? b=some o→s.heap.get? b=some o:=fun b o e=>(I.bs b o e).1
theorem Inv.mod (I:Inv X af σ H s):Mod X.K X.mg X.base:=I.ok.mod
theorem Inv.kIn (I:Inv X af σ H s):X.K.In s.heap:=I.ok.mod.kin.keeps I.bk
theorem Inv.lt (I:Inv X af σ H s):X.env.locals<s.heap.objs.size:=let ⟨_,hn,_⟩:=I.loc;hn.lt
theorem Inv.sz (I:Inv X af σ H s):X.s₀.heap.objs.size≤s.heap.objs.size:=Nat.le_trans I.ok.above (Nat.le_of_lt I.lt)
theorem Inv.nofs (I:Inv X af σ H s){a:Addr}(h:s.heap.objs.size≤a):a∉X.fs:=fun hb=>by
 obtain⟨_,o,ho,_⟩:=I.ok.funs.mem hb;exact absurd (Nat.lt_of_lt_of_le (Heap.lt_size ho) (Nat.le_trans I.sz h)) (Nat.lt_irrefl _)
theorem Inv.cne (I:Inv X af σ H s):∀x c,X.env.cells.lookup x=some c→c≠X.env.locals:=fun x c e z=>by
 obtain⟨v,o,ho,hd⟩:=I.cell x c e;obtain⟨m,⟨o',es,ep,ho',hd',_⟩,_⟩:=I.loc;rw[z,ho'] at ho;cases ho;rw[hd'] at hd;cases hd
theorem Inv.funs (I:Inv X af σ H s):s.heap.FunFrames X.base X.outer:=by
 have all:∀(l:List Env),(∀b∈iU l,b∈X.fs)→X.s₀.heap.FunFrames X.base l→s.heap.FunFrames X.base l:=by
  intro l
  induction l with
  | nil=>intro _ _;trivial
  | cons env r ih=>
   intro hs hl;obtain⟨hk,⟨L,o,hf,hn,ho,hd⟩,hr⟩:=hl;have hL:L∈X.fs:=hs L (by unfold iU;rw[filterMap_cons,hf];exact mem_cons_self);obtain⟨sl,e⟩:=I.base.slot L o ho (I.ok.frf L hL) hL fun z=>I.ok.exfs L z hL
   exact⟨hk,⟨L,_,hf,hn,e,hd⟩,ih (fun b hb=>hs b (by unfold iU;rw[filterMap_cons,hf];exact mem_cons_of_mem _ hb)) hr⟩
 exact all X.outer (fun _ hb=>hb) I.ok.funs
theorem Inv.stack (I:Inv X af σ H s):s.heap.FunFrames X.base X.stack:=by
 rcases I.ok.stk with e|⟨e,hf⟩
 ·rw[e];exact I.funs
 ·rw[e];obtain⟨m,hn,_⟩:=I.loc;refine .cons (by rw[I.ok.kind];decide) hf hn ?_ I.funs;exact Heap.get?_none_of_le (Nat.le_trans I.ok.bsz I.ok.above)
theorem Inv.stkSub (I:Inv X af σ H s):∀b∈iU X.stack,b∈X.env.locals::X.fs:=fun b hb=>by
 rcases I.ok.stk with e|⟨e,hf⟩
 ·rw[e] at hb;exact mem_cons_of_mem _ hb
 ·rw[e] at hb;unfold iU at hb;rw[filterMap_cons,hf] at hb;exact hb
theorem Inv.stkFree (I:Inv X af σ H s):∀b∈iU X.stack,H b=none:=fun b hb=>by
 rcases mem_cons.mp (I.stkSub b hb) with e|hb
 ·rw[e];exact I.free
 ·obtain⟨_,o,ho,_⟩:=I.ok.funs.mem hb;exact I.base.free b o ho (I.ok.frf b hb) fun z=>I.ok.exfs b z hb
theorem Inv.step {g':Array GenState}{t':Nat}{d':Drawn}{ch:List Addr}(I:Inv X af σ H s)
  (hch:∀b∈ch,(b∈X.ex∨X.s₀.heap.objs.size≤b)∧b≠X.env.locals∧(∀x c,X.env.cells.lookup x=some c→c≠b)∧∀p∈X.pn++af,p.1≠b)
  (keep:∀b o,b≠X.env.locals→b∉X.fs→b∉ch→s.heap.get? b=some o→H b=none→h'.get? b=some o)
  (slot:∀b o,b≠X.env.locals→b∈X.fs→b∉ch→s.heap.get? b=some o→H b=none→∃sl,h'.get? b=some {o with slots:=sl}) (free:∀b o,b∉ch→s.heap.get? b=some o→H b=none→H' b=none)
  (there:∀b o,b∉ch→s.heap.get? b=some o→∃o',h'.get? b=some o')
  (tups:∀b xs,H b=some (.tup xs)→H' b=some (.tup xs)) (frzs:∀b o u,H b=some (.frz o u)→H' b=some (.frz o u)) (tbls:∀b ps,H b=some (.tbl ps)→∃more,H' b=some (.tbl (ps++more)))
  (ns:∀m,s.heap.Ns X.env.locals m→h'.Ns X.env.locals m) (hok:fc X.prog X.w H' h') (hg:AllBare g') :
  Inv X af σ H' {s with heap:=h',gens:=g',drawn:=d',toks:=t'}:=by
 have neL:∀b o,X.s₀.heap.get? b=some o→b≠X.env.locals:=fun b o e=>Nat.ne_of_lt (Nat.lt_of_lt_of_le (Heap.lt_size e) I.ok.above)
 have neC:∀b o,X.s₀.heap.get? b=some o→b∉X.ex→b∉ch:=fun b o e hx hb=>by
  rcases(hch b hb).1 with z|z
  ·exact hx z
  ·exact absurd (Nat.lt_of_lt_of_le (Heap.lt_size e) z) (Nat.lt_irrefl _)
 have cellK:∀x c,X.env.cells.lookup x=some c→∀v,s.heap.IsCell c v→h'.IsCell c v:=fun x c e v hxx=>by
  obtain⟨o,ho,hd⟩:=hxx;have nch:c∉ch:=fun z=>(hch c z).2.2.1 x c e rfl
  by_cases hc:c∈X.fs
  ·obtain⟨sl,q⟩:=slot c o (I.cne x c e) hc nch ho (I.freeC x c e);exact⟨_,q,hd⟩
  ·exact⟨o,keep c o (I.cne x c e) hc nch ho (I.freeC x c e),hd⟩
 refine⟨I.ok,I.os,hg,⟨fun b o e n hb hx=>?_,fun b o e n hb hx=>?_,fun b o e n hx=>?_,fun b o e hx=>?_,fun b xs e=>tups b xs (I.base.tups b xs e),fun b o xs e=>frzs b o xs (I.base.frzs b o xs e),fun b ps e=>?_⟩,?_,fun x c e=>?_,?_,fun x c e=>?_,fun p hp=>?_,hok,I.len⟩
 ·exact keep b o (neL b o e) hb (neC b o e hx) (I.base.keep b o e n hb hx) (I.base.free b o e n hx)
 ·obtain⟨sl,e1⟩:=I.base.slot b o e n hb hx;obtain⟨sl',e2⟩:=slot b _ (neL b o e) hb (neC b o e hx) e1 (I.base.free b o e n hx);exact⟨sl',e2⟩
 ·obtain⟨o',e1⟩:=I.base.there b o e hx;exact free b o' (neC b o e hx) e1 (I.base.free b o e n hx)
 ·obtain⟨o',e1⟩:=I.base.there b o e hx;exact there b o' (neC b o e hx) e1
 ·obtain⟨m1,e1⟩:=I.base.tbls b ps e;obtain⟨m2,e2⟩:=tbls b _ e1;exact⟨m1++m2,by rw[e2,Array.append_assoc]⟩
 ·obtain⟨m,hn,hl⟩:=I.loc;refine⟨m,ns m hn,fun i x v e1 e2 e3=>?_⟩;obtain⟨u,r,l⟩:=hl i x v e1 e2 e3;refine⟨u,r,?_⟩;rcases l with l|⟨k,c,e,z⟩
  ·exact .inl l
  ·exact .inr ⟨k,c,e,cellK x c e _ z⟩
 ·obtain⟨v,z⟩:=I.cell x c e;exact⟨v,cellK x c e v z⟩
 ·obtain⟨m,⟨o,_,_,ho,_⟩,_⟩:=I.loc;exact free _ o (fun z=>(hch _ z).2.1 rfl) ho I.free
 ·obtain⟨v,o,ho,hd⟩:=I.cell x c e;exact free c o (fun z=>(hch c z).2.2.1 x c e rfl) ho (I.freeC x c e)
 ·obtain⟨e,n,ne,nf,d⟩:=I.pin p hp;have nch:p.1∉ch:=fun z=>(hch p.1 z).2.2.2 p hp rfl
  exact⟨keep p.1 p.2 ne nf nch e n,free p.1 p.2 nch e n,ne,nf,d⟩
theorem Inv.un {t':Nat}(I:Inv X af σ H s)(u:Un X.fs [] H H' s.heap h')(hok:fc X.prog X.w H' h'):Inv X af σ H' {s with heap:=h',toks:=t'}:=by
 obtain⟨m,⟨o,es,ep,ho,r⟩,_⟩:=id I.loc;obtain⟨sl,hL⟩:=u.any ho I.free (by simp);exact I.step (g':=s.gens) (d':=s.drawn) (ch:=[]) (fun _ z=>nomatch z) (fun b o _ hb _ e n=>u.keep b o e n hb (by simp)) (fun b o _ hb _ e n=>u.slot b o e n hb (by simp)) (fun b o _ e n=>u.free b o e n (by simp)) (fun b o _ e=>u.there b o e (by simp)) u.tups u.frzs u.tbls (fun m' hm=>by
  obtain⟨o',es',ep',ho',r'⟩:=hm;rw[ho] at ho';cases ho';exact⟨_,es',ep',hL,r'⟩) hok I.bare
theorem Inv.call {g':Array GenState}{t':Nat}{d':Drawn}{ch:List Addr}(I:Inv X af σ H s)(u:Un (iU X.stack) ch H H' s.heap h')(hok:fc X.prog X.w H' h')(hg:AllBare g')
  (hch:∀b∈ch,(b∈X.ex∨X.s₀.heap.objs.size≤b)∧b≠X.env.locals∧(∀x c,X.env.cells.lookup x=some c→c≠b)∧∀p∈X.pn++af,p.1≠b) :
  Inv X af σ H' {s with heap:=h',gens:=g',drawn:=d',toks:=t'}:=by
 obtain⟨m,⟨o,es,ep,ho,r⟩,_⟩:=id I.loc;obtain⟨sl,hL⟩:=u.any ho I.free fun z=>(hch _ z).2.1 rfl
 exact I.step (ch:=ch) hch (fun b o hL hb hc e n=>u.keep b o e n (fun z=>(mem_cons.mp (I.stkSub b z)).elim hL hb) hc) (fun b o _ _ hc e n=>u.any e n hc) (fun b o hc e n=>u.free b o e n hc) (fun b o hc e=>u.there b o e hc) u.tups u.frzs u.tbls (fun m' hm=>by
  obtain⟨o',es',ep',ho',r'⟩:=hm;rw[ho] at ho';cases ho';exact⟨_,es',ep',hL,r'⟩) hok hg
theorem Inv.turned {t':Nat}{it:Addr}(I:Inv X af σ H s)(k:∀b o,b≠it→s.heap.get? b=some o→h'.get? b=some o)(hn:H it=none)(hL:it≠X.env.locals)
  (h1:it∈X.ex∨X.s₀.heap.objs.size≤it) (h2:∀x c,X.env.cells.lookup x=some c→c≠it) (h3:∀p∈X.pn++af,p.1≠it):Inv X af σ H {s with heap:=h',toks:=t'}:=by
 have nit:∀b u,H b=some u→b≠it:=fun b u e z=>by rw[z,hn] at e;cases e
 refine I.step (g':=s.gens) (d':=s.drawn) (ch:=[it]) (fun b hb=>?_) (fun b o _ _ hc e _=>k b o (fun z=>hc (by simp[z])) e) (fun b o _ _ hc e _=>⟨o.slots,k b o (fun z=>hc (by simp[z])) e⟩) (fun _ _ _ _ n=>n)
  (fun b o hc e=>⟨o,k b o (fun z=>hc (by simp[z])) e⟩) (fun _ _ e=>e) (fun _ _ _ e=>e) (fun b ps e=>⟨#[],by rw[e];simp⟩) (fun m hm=>?_) (fun b u e=>?_) I.bare
 ·have e:b=it:=by simpa using hb
  subst e;exact⟨h1,hL,h2,h3⟩
 ·obtain⟨o,es,ep,ho,r⟩:=hm;exact⟨o,es,ep,k _ o (Ne.symm hL) ho,r⟩
 ·refine(I.hok b u e).stay (fun c v hc q=>k c v ?_ q) (fun _ q=>q) fun _ _ q=>q
  rcases hc with z|z
  ·rw[z];exact nit b u e
  ·exact nit c _ z
theorem Inv.tok (I:Inv X af σ H s)(t:Nat):Inv X af σ H {s with toks:=t}:=I.un (h':=s.heap) (t':=t) Un.refl I.hok
theorem Inv.kept {t':Nat}(I:Inv X af σ H s)(k:∀b u,s.heap.get? b=some u→h'.get? b=some u):Inv X af σ H {s with heap:=h',toks:=t'}:=I.un (Un.kept k) (I.hok.kept k)
theorem Inv.laid {a:Addr}{o:HO}{t':Nat}(I:Inv X af σ H s)(k:∀b u,s.heap.get? b=some u→h'.get? b=some u)(hp:s.heap.objs.size≤a)(new:bA X.prog X.w (bS H a o) h' a o) :
  Inv X af σ (bS H a o) {s with heap:=h',toks:=t'}:=I.un (Un.laid k hp (I.hok.fresh hp)) (I.hok.laid k hp new)
theorem Inv.write {x e:Addr}{o:HO}{t':Nat}(I:Inv X af σ H s)(mu:yT (H x))(he:e=x∨H e=some (.own x))(k:∀b u,b≠e→s.heap.get? b=some u→h'.get? b=some u)(heo:∃u,h'.get? e=some u)
  (new:bA X.prog X.w (bS H x o) h' x o):Inv X af σ (bS H x o) {s with heap:=h',toks:=t'}:=I.un (Un.write mu he k heo) (I.hok.write mu he k heo new)
theorem Inv.pins_of {pins':List (Addr×Obj)}(I:Inv X af σ H s)(h:∀p∈pins',s.heap.get? p.1=some p.2∧H p.1=none∧p.1≠X.env.locals∧p.1∉X.fs∧∀v,p.2.data≠.cell v):Inv X pins' σ H s:=
 ⟨I.ok,I.os,I.bare,I.base,I.loc,I.cell,I.free,I.freeC,fun p hp=>(mem_append.mp hp).elim (fun z=>I.pin p (mem_append_left _ z)) (h p),I.hok,I.len⟩
theorem k6 {N:List Str}(hN:N.Nodup){i j:Nat}{x:Str}(a:N[i]?=some x)(b:N[j]?=some x):i=j:=by
 obtain⟨h1,e1⟩:=List.getElem?_eq_some_iff.mp a;obtain⟨h2,e2⟩:=List.getElem?_eq_some_iff.mp b;exact(getElem_inj hN).mp (e1.trans e2.symm)
theorem oA {M:Model}{A:Around}{E:Value→Shared→Prop}{i:Nat}{x:Str}{v:V}{u:Value}{Q:Unit→Shared→Prop}(I:Inv X af σ H s)(hN:X.N.Nodup)(hi:X.N[i]?=some x)(hx:qW X.env.scope x)(r:aM v u)
  (h:∀s',Inv X af (σ.set i (some v)) H s'→(∃a,Heap.SameBut a s.heap s'.heap∧(a=X.env.locals∨X.env.cells.lookup x=some a))→Q () s') (hf:X.fn x=true∨X.env.scope.names.lookup x=some .local:=by first|exact .inl rfl|exact .inr rfl|assumption):wpAny M A (storeName X.env x u) Q E s:=by
 obtain⟨m,hn,hl⟩:=id I.loc;have hcls:(X.env.scope.kind==.class||(X.env.scope.kind==.module&&X.env.locals != X.env.globals))=false:=by rw[I.ok.kind];rfl
 have hiσ:i<σ.length:=by rw[I.len];exact(List.getElem?_eq_some_iff.mp hi).1
 have cne:=I.cne;have tracked:∀{a:Addr} {h':Heap},(∃o,s.heap.get? a=some o∧H a=none)→Heap.SameBut a s.heap h'→fc X.prog X.w H h':=fun {a h'} ha hs b ob e=>by
  obtain⟨_,_,hfree⟩:=ha;refine(I.hok b ob e).stay (fun c w' hc q=>(hs.2 c ?_).trans q) (fun _ q=>q) fun _ _ q=>q
  rintro rfl;rcases hc with rfl|hc
  ·rw[hfree] at e;cases e
  ·rw[hfree] at hc;cases hc
 rcases hx with hk|hk
 ·refine wpAny_storeName_local hk hn (fun h' hn' hs=>?_) hcls;obtain⟨oL,_,_,hoL,_⟩:=id hn;refine h _ ⟨I.ok,I.os,I.bare,⟨fun b o e n hb hx=>?_,fun b o e n hb hx=>?_,I.base.free,fun b o e hx=>?_,I.base.tups,I.base.frzs,I.base.tbls⟩,⟨_,hn',fun j y v' e1 e2 e3=>?_⟩,fun y c e=>?_,I.free,I.freeC,fun p hp=>?_,tracked ⟨oL,hoL,I.free⟩ hs,by simpa using I.len⟩ ⟨_,hs,.inl rfl⟩
  ·exact(hs.2 b (Nat.ne_of_lt (Nat.lt_of_lt_of_le (Heap.lt_size e) I.ok.above))).trans (I.base.keep b o e n hb hx)
  ·obtain⟨sl,e1⟩:=I.base.slot b o e n hb hx;exact⟨sl,(hs.2 b (Nat.ne_of_lt (Nat.lt_of_lt_of_le (Heap.lt_size e) I.ok.above))).trans e1⟩
  ·obtain⟨o',e1⟩:=I.base.there b o e hx;exact⟨o',(hs.2 b (Nat.ne_of_lt (Nat.lt_of_lt_of_le (Heap.lt_size e) I.ok.above))).trans e1⟩
  ·by_cases hj:j=i
   ·subst hj;rw[hi] at e1;cases e1;rw[getElem?_set_self hiσ] at e2;cases e2;exact⟨u,r,.inl ⟨hk,by simp⟩⟩
   ·rw[getElem?_set_ne (Ne.symm hj)] at e2;obtain⟨u',r',q⟩:=hl j y v' e1 e2 e3;refine⟨u',r',?_⟩;rcases q with⟨k,e⟩|⟨k,c,e,z⟩
    ·refine .inl ⟨k,?_⟩;have:y≠x:=fun e=>hj (k6 hN e1 (e▸hi))
     simp[this,e]
    ·exact .inr ⟨k,c,e,z.sameBut hs (cne y c e)⟩
  ·obtain⟨w',z⟩:=I.cell y c e;exact⟨w',z.sameBut hs (cne y c e)⟩
  ·obtain⟨e,n,ne,nf,d⟩:=I.pin p hp;exact⟨(hs.2 p.1 ne).trans e,n,ne,nf,d⟩
 ·have hfn:X.fn x=true:=by
   rcases hf with z|z
   ·exact z
   ·rw[z] at hk;cases hk
  obtain⟨c,hc⟩:=I.ok.has x (.inl hk);obtain⟨w',z⟩:=I.cell x c hc;refine wpAny_storeName_cell I.ok.kind hk hc z (fun h' hc' hs=>?_);obtain⟨oc,hoc,hocd⟩:=id z;refine h {s with heap:=h'} ⟨I.ok,I.os,I.bare,⟨fun b o e n hb hx=>?_,fun b o e n hb hx=>?_,I.base.free,fun b o e hx=>?_,I.base.tups,I.base.frzs,I.base.tbls⟩,⟨m,hn.sameBut hs (Ne.symm (cne x c hc)),fun j y v' e1 e2 e3=>?_⟩,fun y c' e=>?_,I.free,I.freeC,fun p hp=>?_,tracked ⟨oc,hoc,I.freeC x c hc⟩ hs,by simpa using I.len⟩ ⟨c,hs,.inr hc⟩
  ·exact(hs.2 b (Nat.ne_of_lt (Nat.lt_of_lt_of_le (Heap.lt_size e) (I.ok.cab x c hfn hc)))).trans (I.base.keep b o e n hb hx)
  ·obtain⟨sl,e1⟩:=I.base.slot b o e n hb hx;exact⟨sl,(hs.2 b (Nat.ne_of_lt (Nat.lt_of_lt_of_le (Heap.lt_size e) (I.ok.cab x c hfn hc)))).trans e1⟩
  ·obtain⟨o',e1⟩:=I.base.there b o e hx;exact⟨o',(hs.2 b (Nat.ne_of_lt (Nat.lt_of_lt_of_le (Heap.lt_size e) (I.ok.cab x c hfn hc)))).trans e1⟩
  ·by_cases hj:j=i
   ·subst hj;rw[hi] at e1;cases e1;rw[getElem?_set_self hiσ] at e2;cases e2;exact⟨u,r,.inr ⟨.inl hk,c,hc,hc'⟩⟩
   ·rw[getElem?_set_ne (Ne.symm hj)] at e2;obtain⟨u',r',q⟩:=hl j y v' e1 e2 e3;refine⟨u',r',?_⟩;rcases q with q|⟨k,c',e,z'⟩
    ·exact .inl q
    ·refine .inr ⟨k,c',e,z'.sameBut hs ?_⟩;rintro rfl;exact hj (k6 hN e1 (I.ok.inj _ _ _ e hc▸hi))
  ·by_cases hcc:c'=c
   ·subst hcc;exact⟨_,hc'⟩
   ·obtain⟨w2,z2⟩:=I.cell y c' e;exact⟨w2,z2.sameBut hs hcc⟩
  ·obtain⟨e,n,ne,nf,d⟩:=I.pin p hp;refine⟨(hs.2 p.1 ?_).trans e,n,ne,nf,d⟩;intro q;rw[q,hoc] at e;have q':oc=p.2:=Option.some.inj e;exact d w' (by rw[←q'];exact hocd)
theorem k8 {M:Model}{A:Around}{E:Value→Shared→Prop}{i:Nat}{x:Str}{v:V}{u:Value}{Q:Unit→Shared→Prop}(I:Inv X af σ H s)(hN:X.N.Nodup)(hi:X.N[i]?=some x)(hx:qW X.env.scope x)(r:aM v u)
  (h:∀s',Inv X af (σ.set i (some v)) H s'→Q () s') (hf:X.fn x=true∨X.env.scope.names.lookup x=some .local:=by first|exact .inl rfl|exact .inr rfl|assumption):wpAny M A (storeName X.env x u) Q E s:=
 oA I hN hi hx r (fun s' I' _=>h s' I') hf
theorem Inv.call' {s':Shared}{ch:List Addr}(I:Inv X af σ H s)(ho:s'.os=s.os)(u:Un (iU X.stack) ch H H' s.heap s'.heap)(hok:fc X.prog X.w H' s'.heap)(hg:AllBare s'.gens)
  (hch:∀b∈ch,(b∈X.ex∨X.s₀.heap.objs.size≤b)∧b≠X.env.locals∧(∀x c,X.env.cells.lookup x=some c→c≠b)∧∀p∈X.pn++af,p.1≠b):Inv X af σ H' s':=by
 obtain⟨h',g',d',t',o'⟩:=s';have e:o'=s.os:=ho;subst e;exact I.call (g':=g') (t':=t') (d':=d') u hok hg hch
end
abbrev XK:=Value→Option Addr→Hp→Prop
abbrev St:=List (Option V)
abbrev VK:=V→Hp→Prop
abbrev TE:=St→Hp→VK→Prop
abbrev TT:=St→Hp→(Bool→Hp→Prop)→Prop
abbrev TA:=St→Hp→(List V→Hp→Prop)→Prop
structure nC where
 nx:St→Hp→Prop
 rt:VK
 bk:St→Hp→Prop:=fun _ _=>False
 ct:St→Hp→Prop:=fun _ _=>False
abbrev TS:=nC→St→Hp→Prop
def EP (X:Cx)(af:List (Addr×Obj))(σ:St)(Q:VK)(u:Value)(s':Shared):Prop:=∃v H',Inv X af σ H' s'∧aM v u∧Q v H'
def TP (X:Cx)(af:List (Addr×Obj))(σ:St)(Q:Bool→Hp→Prop)(b:Bool)(s':Shared):Prop:=∃H',Inv X af σ H' s'∧Q b H'
def AP (X:Cx)(af:List (Addr×Obj))(σ:St)(Q:List V→Hp→Prop)(us:List Value)(s':Shared):Prop:=∃vs H',Inv X af σ H' s'∧aE vs us∧Q vs H'
def SP (X:Cx)(af:List (Addr×Obj))(D:nC)(f:Flow)(s':Shared):Prop:=
 match f with
 | .next=>∃σ' H',Inv X af σ' H' s'∧D.nx σ' H'
 | .brk=>∃σ' H',Inv X af σ' H' s'∧D.bk σ' H'
 | .cont=>∃σ' H',Inv X af σ' H' s'∧D.ct σ' H'
 | .ret u=>∃v σ' H',Inv X af σ' H' s'∧aM v u∧D.rt v H'
def PE (X:Cx)(e:Expr)(t:TE):Prop:=
 ∀(af:List (Addr×Obj)) (s:Shared) (σ:St) (H:Hp) (Q:VK),Inv X af σ H s→t σ H Q→wpAny (model X.prog X.w) X.A (eval e X.env) (EP X af σ Q) X.xe s
def PT (X:Cx)(e:Expr)(t:TT):Prop:=
 ∀(af:List (Addr×Obj)) (s:Shared) (σ:St) (H:Hp) (Q:Bool→Hp→Prop),Inv X af σ H s→t σ H Q→wpAny (model X.prog X.w) X.A (isTrue e X.env (eval e X.env)) (TP X af σ Q) X.xe s
def PW (X:Cx)(e:Expr)(t:TT):Prop:=
 ∀(whole:Sem Value) (af:List (Addr×Obj)) (s:Shared) (σ:St) (H:Hp) (Q:Bool→Hp→Prop),Inv X af σ H s→t σ H Q→wpAny (model X.prog X.w) X.A (isTrue e X.env whole) (TP X af σ Q) X.xe s
theorem PW.pt {X:Cx}{e:Expr}{t:TT}(h:PW X e t):PT X e t:=h _
def PA (X:Cx)(es:List Expr)(t:TA):Prop:=
 ∀(pos:Pos) (af:List (Addr×Obj)) (s:Shared) (σ:St) (H:Hp) (Q:List V→Hp→Prop),Inv X af σ H s→t σ H Q→wpAny (model X.prog X.w) X.A (spliced (backTo pos (starEach es X.env))) (AP X af σ Q) X.xe s
def PS (X:Cx)(st:Stmt)(t:TS):Prop:=
 ∀(af:List (Addr×Obj)) (s:Shared) (σ:St) (H:Hp) (D:nC),Inv X af σ H s→t D σ H→wpAny (model X.prog X.w) X.A (exec st X.env) (SP X af D) X.xe s
def PSs (X:Cx)(st:List Stmt)(t:TS):Prop:=
 ∀(af:List (Addr×Obj)) (s:Shared) (σ:St) (H:Hp) (D:nC),Inv X af σ H s→t D σ H→wpAny (model X.prog X.w) X.A (execs st X.env) (SP X af D) X.xe s
theorem bV {α:Type}{t:Sem α}{Q Q':α→Shared→Prop}{M:Model}{A:Around}{E:Value→Shared→Prop}{s:Shared}(h:wpAny M A t Q E s)(hQ:∀a s,Q a s→Q' a s):wpAny M A t Q' E s:=wpAny_mono h hQ fun _ _ x=>x
section
variable {X:Cx}
def ym (i:Nat):TE:=fun σ H Q=>∃v,σ[i]?=some (some v)∧Q v H
def tC (v:V):TE:=fun _ H Q=>Q v H
theorem wn {i:Nat}{x:Str}{pos:Pos}(hN:X.N[i]?=some x)(hv:yM X.env.scope x)(hd:(x==("__debug__":Str))=false:=by decide)(hcd:(x==("__classdict__":Str))=false:=by decide):PE X (.Name x pos) (ym i):=by
 intro af s σ H Q I h;obtain⟨v,e,h⟩:=h;obtain⟨m,hn,hl⟩:=I.loc;obtain⟨u,r,l⟩:=hl i x v hN e hv;have fin:EP X af σ Q u s:=⟨v,H,I,r,h⟩;rcases l with⟨hk,hm⟩|⟨hk,c,hc,hcell⟩
 ·exact wpAny_Name (wpAny_loadName_local I.ok.kind hk hn hm fin) hd
 ·rcases hk with hk|hk
  ·exact wpAny_Name (wpAny_loadName_cell I.ok.kind hk hc hcell fin) hd
  ·exact wpAny_Name (wpAny_loadName_free I.ok.kind hk hc hcell fin hcd) hd
theorem wj {i j pos}:PE X (.Constant (.int i) j pos) (tC (.int i)):=fun _ _ _ H _ I h=>wpAny_Constant_int ⟨.int i,H,I.tok _,⟨_,rfl⟩,h⟩
theorem yv {b j pos}:PE X (.Constant (.bool b) j pos) (tC (.bl b)):=fun _ _ _ H _ I h=>Constant_bool ⟨.bl b,H,I,rfl,h⟩
theorem we {j pos}:PE X (.Constant .none j pos) (tC .non):=fun _ _ _ H _ I h=>Constant_none ⟨.non,H,I,rfl,h⟩
def Gl (X:Cx)(x:Str):Prop:=X.env.kindOf x=some .globalImplicit
theorem tz {E:Value→Shared→Prop}{af:List (Addr×Obj)}{s:Shared}{σ:St}{H:Hp}{x:Str}{u:Value}{pos:Pos}{Q:Value→Shared→Prop}(I:Inv X af σ H s)(hg:Gl X x)(hm:X.mg x=some u)(h:Q u s)
  (hd:(x==("__debug__":Str))=false:=by decide):wpAny (model X.prog X.w) X.A (eval (.Name x pos) X.env) Q E s:=
 Calls.Name_function_global I.ok.kind hg (Calls.loadGlobal_global (by rw[I.ok.glob];exact I.mod.glob.keeps I.bk) hm h) hd
theorem jM {E:Value→Shared→Prop}{af:List (Addr×Obj)}{s:Shared}{σ:St}{H:Hp}{x:Str}{u:Value}{pos:Pos}{Q:Value→Shared→Prop}(I:Inv X af σ H s)(hg:Gl X x)(hm:X.mg x=none)(hv:bootBuiltins x=some u)(h:Q u s)
  (hn:x≠"__name__":=by decide) (hd:(x==("__debug__":Str))=false:=by decide):wpAny (model X.prog X.w) X.A (eval (.Name x pos) X.env) Q E s:=by
 obtain⟨mb,h1,h2⟩:=I.mod.blt;exact Calls.Name_function_global I.ok.kind hg (Calls.loadGlobal_builtin (by rw[I.ok.glob];exact I.mod.glob.keeps I.bk) hm (by rw[I.ok.blt];exact h1.keeps I.bk) ((h2 x hn).trans hv) h) hd
variable {a b:Expr}{ta tb:TE}{pos:Pos}
variable {tA tB':TT}{rest:List Expr}
def Aa (t u:TT):TT:=fun σ H Q=>t σ H fun c H1=>if c=true then u σ H1 Q else Q false H1
def Bi (t u:TT):TT:=fun σ H Q=>t σ H fun c H1=>if c=true then Q true H1 else u σ H1 Q
theorem si (ha:PT X a tA):PW X (.BoolOp .And [a] pos) tA:=by
 intro wh af s σ H Q I h;refine isTrue_and (bV (ha af s σ H Q I h) fun c s1 e=>?_);cases c with
 | true=>exact isTrue_and_nil e
 | false=>exact e
theorem wQ (ha:PT X a tA):PW X (.BoolOp .Or [a] pos) tA:=by
 intro wh af s σ H Q I h;refine isTrue_or (bV (ha af s σ H Q I h) fun c s1 e=>?_);cases c with
 | false=>exact isTrue_or_nil e
 | true=>exact e
theorem wJ (ha:PT X a tA)(hb:PW X (.BoolOp .And (b::rest) pos) tB'):PW X (.BoolOp .And (a::b::rest) pos) (Aa tA tB'):=by
 intro wh af s σ H Q I h;refine isTrue_and (bV (ha af s σ H _ I h) fun c s1 hxx=>?_);obtain⟨H1,I1,q1⟩:=hxx;cases c with
 | true=>exact hb wh af s1 σ H1 Q I1 q1
 | false=>exact⟨H1,I1,q1⟩
theorem yC (ha:PT X a tA)(hb:PW X (.BoolOp .Or (b::rest) pos) tB'):PW X (.BoolOp .Or (a::b::rest) pos) (Bi tA tB'):=by
 intro wh af s σ H Q I h;refine isTrue_or (bV (ha af s σ H _ I h) fun c s1 hxx=>?_);obtain⟨H1,I1,q1⟩:=hxx;cases c with
 | true=>exact⟨H1,I1,q1⟩
 | false=>exact hb wh af s1 σ H1 Q I1 q1
end
def io (K:W.Frag)(H:Hp)(a:Addr)(xs:List V):Prop:=
 Rd H a (.lst xs)∨
  ∃(o:Obj) (its:Array Value) (n:Nat),K.lookup a=some o∧o.cls=.type "list"∧o.dict=none∧o.data=.seq its n∧its.size≤sizeLine∧aE xs its.toList
def gP (K:W.Frag)(H:Hp)(a:Addr)(xs:List V):Prop:=
 Rd H a (.tup xs)∨
  ∃(o:Obj) (its:Array Value) (n:Nat),K.lookup a=some o∧o.cls=.type "tuple"∧o.data=.seq its n∧its.size≤sizeLine∧aE xs its.toList
def A3:Value→Option V
 | .none=>some .non
 | .bool b=>some (.bl b)
 | .int i _=>some (.int i)
 | .str x _=>some (.str x)
 | .bytes b _=>some (.byt b)
 | .float b _=>some (.flt b)
 | .ref a=>some (.ref a)
 | .type n=>some (.ty n)
 | _=>none
theorem aM.abs {x:V}{u:Value}(r:aM x u):A3 u=some x:=by
 cases x with
 | non=>cases r;rfl
 | bl _=>cases r;rfl
 | int _=>obtain⟨t,rfl⟩:=r;rfl
 | str _=>obtain⟨t,rfl⟩:=r;rfl
 | byt _=>obtain⟨t,rfl⟩:=r;rfl
 | flt _=>obtain⟨t,rfl⟩:=r;rfl
 | ref _=>cases r;rfl
 | ty _=>cases r;rfl
theorem aM.inj {x y:V}{u:Value}(r:aM x u)(q:aM y u):x=y:=Option.some.inj (r.abs.symm.trans q.abs)
theorem aE.inj:∀{xs ys:List V} {us:List Value},aE xs us→aE ys us→xs=ys
 | _,_,_,.nil,.nil=>rfl
 | _,_,_,.cons r t,.cons r' t'=>by rw[r.inj r',aE.inj t t']
section
variable {X:Cx}{af:List (Addr×Obj)}{σ:St}{H:Hp}{s:Shared}{a:Addr}{xs ys:List V}
theorem Inv.list (I:Inv X af σ H s)(h:io X.K H a xs):∃its:List Value,aE xs its∧PlainL s.heap a its.toArray∧xs.length≤sizeLine:=by
 rcases h with h|⟨o,its,n,hk,hc,hd,hs,hz,r⟩
 ·obtain⟨z,its,n,r,e⟩:=h.ok I.hok;exact⟨its,r,⟨_,n,e,rfl,rfl,rfl⟩,z⟩
 ·refine⟨its.toList,r,⟨o,n,I.kIn a o hk,hc,hd,by simpa using hs⟩,?_⟩;have e:=r.length;simp only[Array.length_toList] at e;omega
theorem Inv.tuple (I:Inv X af σ H s)(h:gP X.K H a xs):∃its:List Value,aE xs its∧IsTup s.heap a its.toArray∧xs.length≤sizeLine:=by
 rcases h with h|⟨o,its,n,hk,hc,hs,hz,r⟩
 ·obtain⟨z,its,r,p⟩:=h.ok I.hok;exact⟨its,r,p,z⟩
 ·refine⟨its.toList,r,⟨o,I.kIn a o hk,hc,n,by simpa using hs⟩,?_⟩;have e:=r.length;simp only[Array.length_toList] at e;omega
theorem Inv.list_inj (I:Inv X af σ H s)(h:io X.K H a xs)(h':io X.K H a ys):xs=ys:=by
 obtain⟨its,r,⟨o,n,e,_,_,d⟩,_⟩:=I.list h;obtain⟨its',r',⟨o',n',e',_,_,d'⟩,_⟩:=I.list h';rw[e] at e';cases e';rw[d] at d';injection d' with d1 _
 have:its=its':=by simpa using congrArg Array.toList d1
 subst this;exact r.inj r'
theorem Inv.tuple_inj (I:Inv X af σ H s)(h:gP X.K H a xs)(h':gP X.K H a ys):xs=ys:=by
 obtain⟨its,r,⟨o,e,_,n,d⟩,_⟩:=I.tuple h;obtain⟨its',r',⟨o',e',_,n',d'⟩,_⟩:=I.tuple h';rw[e] at e';cases e';rw[d] at d';injection d' with d1 _
 have:its=its':=by simpa using congrArg Array.toList d1
 subst this;exact r.inj r'
end
section
variable {X:Cx}{st:Stmt}{rest:List Stmt}{t u:TS}{e:Expr}{te:TE}{pos:Pos}
def yJ:TS:=fun D σ H=>D.nx σ H
def A2 (t u:TS):TS:=fun D σ H=>t {D with nx:=u D} σ H
theorem tK:PSs X [] yJ:=fun _ _ σ H _ I h=>wpAny_execs_nil ⟨σ,H,I,h⟩
theorem oW (h1:PS X st t)(h2:PSs X rest u):PSs X (st::rest) (A2 t u):=by
 intro af s σ H D I h;refine wpAny_execs_cons (bV (h1 af s σ H {D with nx:=u D} I h) fun f s1 q=>?_);cases f with
 | next=>
  obtain⟨σ',H',I',q⟩:=q;exact h2 af s1 σ' H' D I' q
 | ret v=>exact q
 | brk=>exact q
 | cont=>exact q
theorem tD (h1:PS X st t):PSs X [st] t:=by
 intro af s σ H D I h;refine wpAny_execs_cons (bV (h1 af s σ H D I h) fun f s1 q=>?_);cases f with
 | next=>exact wpAny_execs_nil q
 | ret v=>exact q
 | brk=>exact q
 | cont=>exact q
theorem Inv.quiet {af:List (Addr×Obj)}{σ:St}{H:Hp}{s:Shared}(I:Inv X af σ H s):interactive X.env=false:=by simp[interactive,I.ok.kind]
def yf (te:TE):TS:=fun D σ H=>te σ H fun _ H1=>D.nx σ H1
theorem rS (he:PE X e te)(hs:swapsWith e none pos.line X.env=pure false:=by rfl):PS X (.Expr e pos) (yf te):=by
 intro af s σ H D I h;exact wpAny_Expr_any (bV (he af s σ H _ I h) fun v s1 ⟨x,H1,I1,r1,q1⟩=>⟨σ,H1,I1,q1⟩) I.quiet hs
def Ac (te:TE):TS:=fun D σ H=>te σ H D.rt
theorem uU (he:PE X e te):PS X (.Return (some e) pos) (Ac te):=by
 intro af s σ H D I h;exact wpAny_Return_some (bV (he af s σ H _ I h) fun v s1 ⟨x,H1,I1,r1,q1⟩=>⟨x,σ,H1,I1,r1,q1⟩)
def AE (c:TT)(t u:TS):TS:=fun D σ H=>c σ H fun b H1=>if b=true then t D σ H1 else u D σ H1
theorem yH {c:Expr}{a b:List Stmt}{tc:TT}(hc:PT X c tc)(ha:PSs X a t)(hb:PSs X b u):PS X (.If c a b pos) (AE tc t u):=by
 intro af s σ H D I h;refine wpAny_If (bV (hc af s σ H _ I h) fun d s1 hxx=>?_);obtain⟨H1,I1,q1⟩:=hxx;cases d with
 | true=>exact ha af s1 σ H1 D I1 q1
 | false=>exact hb af s1 σ H1 D I1 q1
end
abbrev TG:=V→St→Hp→(St→Hp→Prop)→Prop
abbrev uE:=List V→St→Hp→(St→Hp→Prop)→Prop
def PG (X:Cx)(target:Expr)(t:TG):Prop:=
 ∀(af:List (Addr×Obj)) (s:Shared) (σ:St) (H:Hp) (v:V) (u:Value) (Q:St→Hp→Prop),Inv X af σ H s→aM v u→t v σ H Q→
  wpAny (model X.prog X.w) X.A (assign target X.env u) (fun _ s'=>∃σ' H',Inv X af σ' H' s'∧Q σ' H') X.xe s
def tP (X:Cx)(ts:List Expr)(t:uE):Prop:=
 ∀(af:List (Addr×Obj)) (s:Shared) (σ:St) (H:Hp) (vs:List V) (us:List Value) (Q:St→Hp→Prop),Inv X af σ H s→aE vs us→t vs σ H Q→
  wpAny (model X.prog X.w) X.A (assignInOrder ((assignEach ts X.env).map (·.2)) us) (fun _ s'=>∃σ' H',Inv X af σ' H' s'∧Q σ' H') X.xe s
abbrev wz:=V→V→V→Hp→(Hp→Prop)→Prop
def zn (X:Cx)(t:wz):Prop:=
 ∀(af:List (Addr×Obj)) (s:Shared) (σ:St) (H:Hp) (o i v:V) (ov iv u:Value) (Q:Hp→Prop),Inv X af σ H s→aM o ov→aM i iv→aM v u→t o i v H Q→
  wpAny (model X.prog X.w) X.A (setItem ov iv u) (fun _ s'=>∃H',Inv X af σ H' s'∧Q H') X.xe s
section
variable {X:Cx}{pos:Pos}
def uz (i:Nat):TG:=fun v σ H Q=>Q (σ.set i (some v)) H
theorem tZ {i:Nat}{x:Str}(hN:X.N.Nodup)(hi:X.N[i]?=some x)(hx:qW X.env.scope x)(hf:X.fn x=true∨X.env.scope.names.lookup x=some .local:=by first|exact .inl rfl|exact .inr rfl|assumption):PG X (.Name x pos) (uz i):=by
 intro af s σ H v u Q I r h;exact wpAny_assign_Name (k8 I hN hi hx r (fun s' I'=>⟨_,H,I',h⟩) hf)
def Ax:uE:=fun vs σ H Q=>vs=[]∧Q σ H
def xE (t:TG)(u:uE):uE:=fun vs σ H Q=>∃v r,vs=v::r∧t v σ H fun σ' H'=>u r σ' H' Q
theorem tN:tP X [] Ax:=by
 intro af s σ H vs us Q I r h;obtain⟨e,h⟩:=h;subst e;cases r;exact assignInOrder_nil ⟨σ,H,I,h⟩
theorem qx {e:Expr}{es:List Expr}{t:TG}{u:uE}(h1:PG X e t)(h2:tP X es u)
  (hs:(assignEach (e::es) X.env).map (·.2)=assign e X.env::(assignEach es X.env).map (·.2):=by rfl):tP X (e::es) (xE t u):=by
 intro af s σ H vs us Q I r h;obtain⟨v,vr,e1,h⟩:=h;subst e1;cases r with
 | cons r rr=>
  rw[hs];refine assignInOrder_cons (bV (h1 af s σ H _ _ _ I r h) fun _ s1 hxx=>?_);obtain⟨σ1,H1,I1,q1⟩:=hxx;exact h2 af s1 σ1 H1 _ _ Q I1 rr q1
def AX (K:W.Frag)(n:Nat)(t:uE):TG:=fun v σ H Q=>∃a xs,v=.ref a∧gP K H a xs∧xs.length=n∧t xs σ H Q
theorem wZ {es:List Expr}{k:Nat}{t:uE}{n:Nat}(hc:X.calm=true)(h:tP X es t)
  (hn:(assignEach es X.env).length=n:=by rfl) (hst:(assignEach es X.env).findIdx? (·.1)=none:=by rfl):PG X (.Tuple es k pos) (AX X.K n t):=by
 intro af s σ H v u Q I r hw;obtain⟨a,xs,e1,hq,hl,hw⟩:=hw;subst e1;cases r;obtain⟨its,rv,ht,hz⟩:=I.tuple hq;refine assign_Tuple_tuple (I.ok.hd hc) ht (by simp[hn,←hl,rv.length]) hst fun h' hx=>?_
 have I1:Inv X af σ H {s with heap:=h'}:=I.kept (t':=s.toks) fun b o e=>hx b o (Nat.ne_of_lt (Heap.lt_size e)) e
 exact h af _ σ H xs _ Q I1 (by simpa using rv) hw
def Am (to ti:TE)(t:wz):TG:=fun v σ H Q=>to σ H fun o H1=>ti σ H1 fun i H2=>t o i v H2 fun H3=>Q σ H3
theorem uN {o i:Expr}{to ti:TE}{t:wz}(ho:PE X o to)(hi:PE X i ti)(hs:zn X t)
  (ha:∀v,assign (.Subscript o i pos) X.env v=(do
   let ov ←holding [v] (eval o X.env)
   let iv ←holding [v,ov] (eval i X.env)
   standAt pos
   holding [v,ov,iv] (setItem ov iv v)
   release [v,ov,iv] []):=by intro _;rfl):PG X (.Subscript o i pos) (Am to ti t):=by
 intro af s σ H v u Q I r h;rw[ha];refine wpAny_bind (wpAny_holding (bV (ho af s σ H _ I h) fun ov s1 hxx=>?_));obtain⟨x,H1,I1,r1,q1⟩:=hxx;refine wpAny_bind (wpAny_holding (bV (hi af s1 σ H1 _ I1 q1) fun iv s2 hxx=>?_));obtain⟨y,H2,I2,r2,q2⟩:=hxx;refine wpAny_bind (wpAny_standAt (wpAny_bind (wpAny_holding (bV (hs af s2 σ H2 x y v ov iv u _ I2 r1 r2 r q2) fun _ s3 hxx=>?_))));obtain⟨H3,I3,q3⟩:=hxx;exact wpAny_release ⟨σ,H3,I3,q3⟩
def zG (te:TE)(g:TG):TS:=fun D σ H=>te σ H fun x H1=>g x σ H1 D.nx
theorem qF {tg e:Expr}{te:TE}{g:TG}(he:PE X e te)(hg:PG X tg g)(hs:swapsWithSole [tg] e pos.line X.env=pure false:=by rfl)(hw:swappedStores [tg] e X.env=pure none:=by rfl)
  (h1:(assignEach [tg] X.env).map (·.2)=[assign tg X.env]:=by rfl):PS X (.Assign [tg] e pos) (zG te g):=by
 intro af s σ H D I h;refine wpAny_Assign_stores (bV (he af s σ H _ I h) fun v s1 hxx=>?_) hs hw;obtain⟨x,H1,I1,r1,q1⟩:=hxx;rw[h1];exact bV (hg af s1 σ H1 x v _ I1 r1 q1) fun _ s2 q=>q
theorem wa {i:Nat}{x:Str}{e:Expr}{te:TE}{pos':Pos}(hN:X.N.Nodup)(hi:X.N[i]?=some x)(hx:qW X.env.scope x)(he:PE X e te)(hs:swapsWith e (some (.Name x pos')) pos.line X.env=pure false:=by rfl)(hf:X.fn x=true∨X.env.scope.names.lookup x=some .local:=by first|exact .inl rfl|exact .inr rfl|assumption) :
  PS X (.Assign [.Name x pos'] e pos) (zG te (uz i)):=by
 intro af s σ H D I h;refine wpAny_Assign_Name (bV (he af s σ H _ I h) fun v s1 hxx=>?_) hs;obtain⟨y,H1,I1,r1,q1⟩:=hxx;exact k8 I1 hN hi hx r1 (fun s2 I2=>⟨_,H1,I2,q1⟩) hf
end
section
variable {X:Cx}{pos:Pos}
def vj (c:TT)(tb:TS):TS:=fun D σ H=>∃W:Nat→St→Hp→Prop,(∃m,W m σ H)∧∀m σ H,W m σ H→
 c σ H fun b H1=>if b=true then∃N:St→Hp→Prop,(∀σ' H',N σ' H'→∃m',m'<m∧W m' σ' H')∧tb {D with nx:=N,ct:=N,bk:=D.nx} σ H1 else D.nx σ H1
theorem pq {c:Expr}{body:List Stmt}{tc:TT}{tb:TS}(hp:PassesOwn (model X.prog X.w) X.A X.env X.xe)(hc:PT X c tc)(hb:PSs X body tb):PS X (.While c body [] pos) (vj tc tb):=by
 intro af s σ H D I h;obtain⟨W,⟨m0,w0⟩,turn⟩:=h;refine wpAny_While (codeAny_whileLoop (fun n s'=>∃σ' H',Inv X af σ' H' s'∧W n σ' H') ?_ m0 ⟨σ,H,I,w0⟩);rintro n s1 ⟨σ1,H1,I1,w1⟩;refine wpAny_passesOwn hp (bV (hc af s1 σ1 H1 _ I1 (turn n σ1 H1 w1)) fun b s2 hxx=>?_);obtain⟨H2,I2,q2⟩:=hxx;cases b with
 | true=>
  obtain⟨N,hN,q2⟩:=q2;rw[if_pos rfl];refine wpAny_passesOwn hp (bV (hb af s2 σ1 H2 _ I2 q2) fun f s3 q3=>?_);cases f with
  | next=>
   obtain⟨σ3,H3,I3,n3⟩:=q3;obtain⟨m',hm,w3⟩:=hN σ3 H3 n3;exact⟨m',hm,σ3,H3,I3,w3⟩
  | cont=>
   obtain⟨σ3,H3,I3,n3⟩:=q3;obtain⟨m',hm,w3⟩:=hN σ3 H3 n3;exact⟨m',hm,σ3,H3,I3,w3⟩
  | brk=>exact q3
  | ret v=>exact q3
 | false=>
  rw[if_neg Bool.false_ne_true];exact wpAny_execs_nil ⟨σ1,H2,I2,q2⟩
end
structure It where
 go:Nat→Hp→Prop
 yld:Nat→Hp→V→Hp→Prop
 stop:Nat→Hp→Prop
def gX (X:Cx)(af:List (Addr×Obj))(H:Hp)(b:Addr):Prop:=
 H b=none∧b≠X.env.locals∧b∉X.fs∧(b∈X.ex∨X.s₀.heap.objs.size≤b)∧(∀x c,X.env.cells.lookup x=some c→c≠b)∧∀p∈X.pn++af,p.1≠b
theorem Inv.fpOk {X:Cx}{af:List (Addr×Obj)}{σ:St}{H H':Hp}{s:Shared}{b:Addr}(I:Inv X af σ H s)(hb:s.heap.objs.size≤b)(hn:H' b=none):gX X af H' b:=by
 refine⟨hn,Nat.ne_of_gt (Nat.lt_of_lt_of_le I.lt hb),I.nofs hb,.inr (Nat.le_trans I.sz hb),fun x c e z=>?_,fun p hp z=>?_⟩
 ·obtain⟨v,q⟩:=I.cell x c e;exact absurd (Nat.lt_of_lt_of_le q.lt (by rw[z];exact hb)) (Nat.lt_irrefl _)
 ·exact absurd (Nat.lt_of_lt_of_le (Heap.lt_size (I.pin p hp).1) (by rw[z];exact hb)) (Nat.lt_irrefl _)
structure nZ (P:Program)(w:World)(K:W.Frag)(tg:Expr)(J:It)(fp:List Addr)(it:Addr)(tn:Nat→Heap→Prop):Prop where
 mem:it∈fp
 obj:∀i h,tn i h→∀b∈fp,∃o,h.get? b=some o∧∀v,o.data≠.cell v
 keep:∀i h h',tn i h→(∀b∈fp,∀o,h.get? b=some o→h'.get? b=some o)→tn i h'
 item:∀(X:Cx),X.prog=P→X.w=w→X.K=K→X.calm=true→∀(i:Nat) (af:List (Addr×Obj)) (s:Shared) (σ:St) (H:Hp) (E:Value→Shared→Prop),Inv X af σ H s→(∀b∈fp,gX X af H b)→tn i s.heap→J.go i H→
  wpAny (model P w) X.A (pyNext (.ref it)) (fun r s1=>∃u,r=some u∧
   wpAny (model P w) X.A (letOwnedTupleGo tg (.ref it) u) (fun _ s2=>∃x H',Inv X af σ H' s2∧aM x u∧J.yld i H x H'∧tn (i+1) s2.heap∧∀b∈fp,H' b=none) E s1) E s
 done:∀(X:Cx),X.prog=P→X.w=w→X.K=K→X.calm=true→∀(i:Nat) (af:List (Addr×Obj)) (s:Shared) (σ:St) (H:Hp) (E:Value→Shared→Prop),Inv X af σ H s→(∀b∈fp,gX X af H b)→tn i s.heap→J.stop i H→
  wpAny (model P w) X.A (pyNext (.ref it)) (fun r s1=>r=none∧Inv X af σ H s1) E s
 self:∀(A:Around) (i:Nat) (s:Shared) (Q:Value→Shared→Prop) (E:Value→Shared→Prop),tn i s.heap→Q (.ref it) s→wpAny (model P w) A (pyIter (.ref it)) Q E s
abbrev TI:=St→Hp→(It→Hp→Prop)→Prop
def A9 (X:Cx)(af:List (Addr×Obj))(σ:St)(tg:Expr)(R:It→Hp→Prop)(itv:Value)(s2:Shared):Prop:=
 ∃(it:Addr) (fp:List Addr) (tn:Nat→Heap→Prop) (J:It) (H':Hp),itv=.ref it∧Inv X af σ H' s2∧nZ X.prog X.w X.K tg J fp it tn∧tn 0 s2.heap∧(∀b∈fp,gX X af H' b)∧R J H'
def PI (X:Cx)(tg iter:Expr)(wi:TI):Prop:=
 ∀(af:List (Addr×Obj)) (s:Shared) (σ:St) (H:Hp) (R:It→Hp→Prop),Inv X af σ H s→wi σ H R→
  wpAny (model X.prog X.w) X.A (eval iter X.env) (fun v s1=>wpAny (model X.prog X.w) X.A (pyIter v) (A9 X af σ tg R) X.xe s1) X.xe s
theorem pG {M:Model}{A:Around}{E:Value→Shared→Prop}{s:Shared}{tg:Expr}{it:Addr}{u:Value}{o:Obj}{n:String}{vs:Array Value}{Q:Unit→Shared→Prop}(ho:s.heap.get? it=some o)(hc:o.cls=.type n)(hd:o.data=.fields vs)
  (hn:["enumerate","zip","dict_itemiterator","dict_reverseitemiterator","odict_iterator","itertools.zip_longest","itertools.pairwise"].contains n=false) (hQ:Q () s):wpAny M A (letOwnedTupleGo tg (.ref it) u) Q E s:=by
 unfold letOwnedTupleGo;cases tg <;> first
  | exact wpAny_pure hQ
  | (cases u <;> first
    | exact wpAny_pure hQ
    | (refine wpAny_bind (wpAny_load ho ?_)
       rw[hc,hd];show wpAny M A (if(["enumerate","zip","dict_itemiterator","dict_reverseitemiterator","odict_iterator","itertools.zip_longest","itertools.pairwise"].contains n&&vs[0]?==some (rawInt _))=true then _ else _) Q E s;rw[if_neg (by intro h;rw[hn,Bool.false_and] at h;cases h)];exact wpAny_pure hQ))
def zZ (K:W.Frag)(a:Addr):It:=
 ⟨fun i H=>∃xs x,io K H a xs∧xs[i]?=some x,fun i H x H'=>H'=H∧∀xs,io K H a xs→xs[i]?=some x,fun i H=>∃xs,io K H a xs∧xs.length≤i⟩
def AI (K:W.Frag)(a:Addr):It:=
 ⟨fun i H=>∃xs x,gP K H a xs∧xs[i]?=some x,fun i H x H'=>H'=H∧∀xs,gP K H a xs→xs[i]?=some x,fun i H=>∃xs,gP K H a xs∧xs.length≤i⟩
def zR (lo:Int)(n:Nat):It:=⟨fun i _=>i<n,fun i H x H'=>H'=H∧x=.int (lo+i),fun i _=>n≤i⟩
theorem nE {P:Program}{w:World}{K:W.Frag}{tg:Expr}(a it:Addr):nZ P w K tg (zZ K a) [it] it (fun i h=>h.IsListIter it a i) where
 mem:=by simp
 obj:=fun i h st b hb=>by
  have e:b=it:=by simpa using hb
  subst e;obtain⟨o,e,c,d⟩:=st;exact⟨o,e,fun v z=>by rw[d] at z;cases z⟩
 keep:=fun i h h' st k=>st.at fun o e=>k it (by simp) o e
 item:=by
  intro X hP hw hK hc i af s σ H E I hf st hg;subst hP hw hK;obtain⟨xs,x,hq,hx⟩:=hg;obtain⟨its,rv,p,hz⟩:=I.list hq;obtain⟨u,hu,ru⟩:=rv.get hx;obtain⟨f0,f1,f2,f3,f4,f5⟩:=hf it (by simp);refine wpAny_pyNext_list_item st p.isList (x:=u) (by simpa using hu) fun h' st' sb=>?_
  have I1:Inv X af σ H {s with heap:=h'}:=I.turned (t':=s.toks) (fun b o hb e=>(sb.2 b hb).trans e) f0 f1 f3 f4 f5;obtain⟨o,e,c,d⟩:=id st';exact⟨u,rfl,pG (s:={s with heap:=h'}) e c d (by decide) ⟨x,H,I1,ru,⟨rfl,fun ys hy=>by rw[I.list_inj hy hq];exact hx⟩,st',fun b hb=>(hf b hb).1⟩⟩
 done:=by
  intro X hP hw hK hc i af s σ H E I hf st hg;subst hP hw hK;obtain⟨xs,hq,hx⟩:=hg;obtain⟨its,rv,p,hz⟩:=I.list hq;obtain⟨f0,f1,f2,f3,f4,f5⟩:=hf it (by simp);have hl:=rv.length;exact wpAny_pyNext_list_end (I.ok.hd hc) st p.isList (by simp;omega) fun h' eb=>⟨rfl,I.turned (t':=s.toks) (fun b o hb e=>eb b o hb e) f0 f1 f3 f4 f5⟩
 self:=fun _ _ _ _ _ st h=>wpAny_pyIter_listiter st h
theorem lP {P:Program}{w:World}{K:W.Frag}{tg:Expr}(a it:Addr):nZ P w K tg (AI K a) [it] it (fun i h=>h.IsTupleIter it a i) where
 mem:=by simp
 obj:=fun i h st b hb=>by
  have e:b=it:=by simpa using hb
  subst e;obtain⟨o,e,c,d⟩:=st;exact⟨o,e,fun v z=>by rw[d] at z;cases z⟩
 keep:=fun i h h' st k=>st.at fun o e=>k it (by simp) o e
 item:=by
  intro X hP hw hK hc i af s σ H E I hf st hg;subst hP hw hK;obtain⟨xs,x,hq,hx⟩:=hg;obtain⟨its,rv,p,hz⟩:=I.tuple hq;obtain⟨u,hu,ru⟩:=rv.get hx;obtain⟨f0,f1,f2,f3,f4,f5⟩:=hf it (by simp);refine wpAny_pyNext_tuple_item st (show s.heap.IsTuple a its.toArray from p) (x:=u) (by simpa using hu) fun h' st' sb=>?_
  have I1:Inv X af σ H {s with heap:=h'}:=I.turned (t':=s.toks) (fun b o hb e=>(sb.2 b hb).trans e) f0 f1 f3 f4 f5;obtain⟨o,e,c,d⟩:=id st';exact⟨u,rfl,pG (s:={s with heap:=h'}) e c d (by decide) ⟨x,H,I1,ru,⟨rfl,fun ys hy=>by rw[I.tuple_inj hy hq];exact hx⟩,st',fun b hb=>(hf b hb).1⟩⟩
 done:=by
  intro X hP hw hK hc i af s σ H E I hf st hg;subst hP hw hK;obtain⟨xs,hq,hx⟩:=hg;obtain⟨its,rv,p,hz⟩:=I.tuple hq;obtain⟨f0,f1,f2,f3,f4,f5⟩:=hf it (by simp);have hl:=rv.length;exact wpAny_pyNext_tuple_end (I.ok.hd hc) st (show s.heap.IsTuple a its.toArray from p) (by simp;omega) fun h' eb=>⟨rfl,I.turned (t':=s.toks) (fun b o hb e=>eb b o hb e) f0 f1 f3 f4 f5⟩
 self:=fun _ _ _ _ _ st h=>wpAny_pyIter_tupleiter st h
theorem l5 {P:Program}{w:World}{K:W.Frag}{tg:Expr}(it:Addr)(lo:Int)(n:Nat):nZ P w K tg (zR lo n) [it] it (fun i h=>IsRangeIter h it (lo+(i:Nat)*1) ((n:Int)-(i:Nat)) 1) where
 mem:=by simp
 obj:=fun i h st b hb=>by
  have e:b=it:=by simpa using hb
  subst e;exact⟨_,st,fun v z=>by
   have z':Data.fields _=Data.cell v:=z;cases z'⟩
 keep:=fun i h h' st k=>k it (by simp) _ st
 item:=by
  intro X hP hw hK hc i af s σ H E I hf st hg;subst hP hw hK;obtain⟨f0,f1,f2,f3,f4,f5⟩:=hf it (by simp);have W:=Walks.range (prog:=X.prog) (w:=X.w) (I.ok.hd hc) it lo 1 n;refine W.item i s _ _ hg st fun v h' tk hv st' kk=>?_
  obtain⟨t,rfl⟩:=hv;have I1:Inv X af σ H {s with heap:=h',toks:=tk}:=I.turned (fun b o hb e=>kk b o (by simpa using hb) e) f0 f1 f3 f4 f5;refine⟨_,rfl,pG (s:={s with heap:=h',toks:=tk}) (n:="range_iterator") st' rfl rfl (by decide) ⟨.int (lo+i),H,I1,⟨t,?_⟩,⟨rfl,rfl⟩,st',fun b hb=>(hf b hb).1⟩⟩;rw[Int.mul_one]
 done:=by
  intro X hP hw hK hc i af s σ H E I hf st hg;subst hP hw hK;obtain⟨f0,f1,f2,f3,f4,f5⟩:=hf it (by simp);exact wpAny_pyNext_range_end (I.ok.hd hc) st (by have:n≤i:=hg;omega) fun h' eb=>⟨rfl,I.turned (t':=s.toks) (fun b o hb e=>eb b o hb e) f0 f1 f3 f4 f5⟩
 self:=fun _ _ _ _ _ st h=>wpAny_pyIter_rangeiter st h
section
variable {X:Cx}{tg:Expr}
theorem o0 {af:List (Addr×Obj)}{σ:St}{H:Hp}{s:Shared}{R:It→Hp→Prop}{E:Value→Shared→Prop}{lo hi:Int}{t u v:Tok}{tk:Nat}(I:Inv X af σ H s)(h1:-(2 ^ 62)≤lo)(h2:lo<2 ^ 62)(h3:-(2 ^ 62)≤hi)(h4:hi<2 ^ 62)
  (q:R (zR lo (hi-lo).toNat) H):wpAny (model X.prog X.w) X.A (pyIter (.ref s.heap.objs.size)) (A9 X af σ tg R) E {s with heap:=s.heap.push {cls:=.type "range",data:=.fields #[.int lo t,.int hi u,.int 1 v]},toks:=tk}:=by
 refine wpAny_pyIter_range (IsRange.new ..) (small_one h1 h2 h3 h4) ?_;have I1:Inv X af σ H {s with heap:=s.heap.push {cls:=.type "range",data:=.fields #[.int lo t,.int hi u,.int 1 v]},toks:=tk}:=I.kept fun b o e=>Heap.get?_push_of_some _ e
 refine⟨(s.heap.push {cls:=.type "range",data:=.fields #[.int lo t,.int hi u,.int 1 v]}).objs.size,[(s.heap.push {cls:=.type "range",data:=.fields #[.int lo t,.int hi u,.int 1 v]}).objs.size],_,_,H,rfl,
  I1.kept (t':=tk) fun b o e=>Heap.get?_push_of_some _ e,l5 _ lo (hi-lo).toNat,?_,fun b hb=>?_,q⟩
 ·have e1:lo+((0:Nat):Int)*1=lo:=by simp
  have e2:(((hi-lo).toNat:Nat):Int)-((0:Nat):Int)=Builtin.Range.rangeSize lo hi 1:=by rw[rangeSize_one];split <;> omega
  show IsRangeIter _ _ (lo+((0:Nat):Int)*1) ((((hi-lo).toNat:Nat):Int)-((0:Nat):Int)) 1;rw[e1,e2];exact Heap.get?_push_size _ rfl
 ·have e:b=(s.heap.push {cls:=.type "range",data:=.fields #[.int lo t,.int hi u,.int 1 v]}).objs.size:=by simpa using hb
  subst e;exact I1.fpOk (Nat.le_refl _) (I1.hok.fresh (Nat.le_refl _))
def yw (ta:TA):TI:=fun σ H R=>ta σ H fun vs H1=>∃j:Int,vs=[.int j]∧-(2 ^ 62)≤j∧j<2 ^ 62∧R (zR 0 j.toNat) H1
theorem oh {a:Expr}{ta:TA}{p pos:Pos}(hg:Gl X "range")(hm:X.mg "range"=none)(ha:PA X [a] ta)(hs:starEach [a] X.env=[(false,eval a X.env)]:=by rfl):PI X tg (.Call (.Name "range" p) [a] [] pos) (yw ta):=by
 intro af s σ H R I h;refine Call_ (jM I hg hm boot_range (PyProof.Rows.callWith_type1 (bV (ha pos af s σ H _ I h) fun us s1 hxx=>?_) hs rfl));obtain⟨vs,H1,I1,r1,q1⟩:=hxx;obtain⟨j,e,q1,q2,q⟩:=q1;subst e;cases r1 with
 | cons r rr=>
  cases rr;obtain⟨t,rfl⟩:=r;exact call_range_1 (o0 I1 (by omega) (by omega) q1 q2 (by simpa using q))
def Ab (wi:TI)(g:TG)(tb:TS):TS:=fun D σ H=>wi σ H fun J H1=>∃W:Nat→Nat→St→Hp→Prop,(∃m,W 0 m σ H1)∧∀i m σ H,W i m σ H→
 (J.stop i H∧D.nx σ H)∨(J.go i H∧∃N:St→Hp→Prop,(∀σ' H',N σ' H'→∃m',m'<m∧W (i+1) m' σ' H')∧∀x H',J.yld i H x H'→g x σ H' fun σ2 H2=>tb {D with nx:=N,ct:=N,bk:=D.nx} σ2 H2)
def ig (fp:List Addr)(h:Heap):List (Addr×Obj):=fp.filterMap fun b=>(h.get? b).map fun o=>(b,o)
theorem dY {fp:List Addr}{h:Heap}{b:Addr}{o:Obj}(hb:b∈fp)(e:h.get? b=some o):(b,o)∈ig fp h:=mem_filterMap.mpr ⟨b,hb,by rw[e];rfl⟩
theorem oo {fp:List Addr}{h:Heap}{p:Addr×Obj}(hp:p∈ig fp h):p.1∈fp∧h.get? p.1=some p.2:=by
 obtain⟨b,hb,e⟩:=mem_filterMap.mp hp;cases q:h.get? b with
 | none=>rw[q] at e;cases e
 | some o=>
  rw[q] at e;have e':(b,o)=p:=Option.some.inj e;subst e';exact⟨hb,q⟩
theorem Inv.pinned {af:List (Addr×Obj)}{σ:St}{H:Hp}{s:Shared}{fp:List Addr}(I:Inv X af σ H s)(hf:∀b∈fp,gX X af H b)(ho:∀b∈fp,∃o,s.heap.get? b=some o∧∀v,o.data≠.cell v):Inv X (af++ig fp s.heap) σ H s:=
 I.pins_of fun p hp=>(mem_append.mp hp).elim (fun z=>I.pin p (mem_append_right _ z)) fun z=>by
  obtain⟨hb,e⟩:=oo z;obtain⟨f0,f1,f2,_⟩:=hf p.1 hb;obtain⟨o,e',d⟩:=ho p.1 hb;rw[e] at e';cases e';exact⟨e,f0,f1,f2,d⟩
theorem Inv.unpinned {af pl:List (Addr×Obj)}{σ:St}{H:Hp}{s:Shared}(I:Inv X (af++pl) σ H s):Inv X af σ H s:=I.pins_of fun p hp=>I.pin p (mem_append_right _ (mem_append_left _ hp))
theorem uX {iter:Expr}{body:List Stmt}{wi:TI}{g:TG}{tb:TS}{pos:Pos}(hp:PassesOwn (model X.prog X.w) X.A X.env X.xe)(hc:X.calm=true)(hi:PI X tg iter wi)(hg:PG X tg g)(hb:PSs X body tb)
  (hs:∀x,foldedSetIterable iter X.env x=pure x:=by intro _;rfl):PS X (.For tg iter body [] pos) (Ab wi g tb):=by
 intro af s σ H D I h;refine wpAny_For (bV (hi af s σ H _ I h) fun v s1 h1=>bV h1 fun itv s2 h2=>?_) hs;obtain⟨it,fp,tn,J,H2,e,I2,T,st2,f2,W,⟨m0,w0⟩,turn⟩:=h2;subst e;have stat:∀{H':Hp},(∀b∈fp,H' b=none)→∀b∈fp,gX X af H' b:=fun hn b hb=>⟨hn b hb,(f2 b hb).2⟩
 refine codeAny_forLoop_any (fun n s'=>∃i σ' H',Inv X af σ' H' s'∧tn i s'.heap∧(∀b∈fp,H' b=none)∧W i n σ' H') ?_ m0 ⟨0,σ,H2,I2,st2,fun b hb=>(f2 b hb).1,w0⟩;rintro n s3 ⟨i,σ3,H3,I3,st3,fr3,w3⟩;rcases turn i n σ3 H3 w3 with⟨stop,qn⟩|⟨go,N,hN,step⟩
 ·refine wpAny_passesOwn hp (bV (T.done X rfl rfl rfl hc i af s3 σ3 H3 X.xe I3 (stat fr3) st3 stop) fun r s4 hxx=>?_);obtain⟨hr,I4⟩:=hxx;subst hr;exact wpAny_execs_nil ⟨σ3,H3,I4,qn⟩
 ·refine wpAny_passesOwn hp (bV (T.item X rfl rfl rfl hc i af s3 σ3 H3 X.xe I3 (stat fr3) st3 go) fun r s4 hxx=>?_);obtain⟨u,hr,h4⟩:=hxx;subst hr;refine wpAny_passesOwn hp (bV h4 fun _ s5 hxx=>?_);obtain⟨x,H5,I5,r5,y5,st5,fr5⟩:=hxx;have I5':=I5.pinned (stat fr5) (T.obj _ _ st5);refine wpAny_passesOwn hp (bV (hg _ s5 σ3 H5 x u _ I5' r5 (step x H5 y5)) fun _ s6 hxx=>?_);obtain⟨σ6,H6,I6,q6⟩:=hxx;refine wpAny_passesOwn hp (bV (hb _ s6 σ6 H6 _ I6 q6) fun f s7 q7=>?_);have again:∀{σ7:St} {H7:Hp},Inv X (af++ig fp s5.heap) σ7 H7 s7→N σ7 H7→∃m,m<n∧∃i σ' H',Inv X af σ' H' s7∧tn i s7.heap∧(∀b∈fp,H' b=none)∧W i m σ' H':=fun {σ7 H7} I7 n7=>by
   obtain⟨m',hm,w7⟩:=hN σ7 H7 n7;refine⟨m',hm,i+1,σ7,H7,I7.unpinned,T.keep _ _ _ st5 fun b hb o e=>(I7.pin (b,o) (mem_append_right _ (mem_append_right _ (dY hb e)))).1,fun b hb=>?_,w7⟩;obtain⟨o,e,d⟩:=T.obj _ _ st5 b hb;exact(I7.pin (b,o) (mem_append_right _ (mem_append_right _ (dY hb e)))).2.1
  cases f with
  | next=>obtain⟨σ7,H7,I7,n7⟩:=q7;exact again I7 n7
  | cont=>obtain⟨σ7,H7,I7,n7⟩:=q7;exact again I7 n7
  | brk=>obtain⟨σ7,H7,I7,q7⟩:=q7;exact⟨σ7,H7,I7.unpinned,q7⟩
  | ret v=>obtain⟨x7,σ7,H7,I7,r7,q7⟩:=q7;exact⟨x7,σ7,H7,I7.unpinned,r7,q7⟩
end
abbrev R2:=V→V→Hp→VK→Prop
def dB (X:Cx)(f:Value→Value→Sem Value)(r:R2):Prop:=
 ∀(af:List (Addr×Obj)) (s:Shared) (σ:St) (H:Hp) (x y:V) (v u:Value) (Q:VK),Inv X af σ H s→aM x v→aM y u→r x y H Q→
  wpAny (model X.prog X.w) X.A (f v u) (EP X af σ Q) X.xe s
def AV (X:Cx)(f:Value→Sem Value)(r:V→Hp→VK→Prop):Prop:=
 ∀(af:List (Addr×Obj)) (s:Shared) (σ:St) (H:Hp) (x:V) (v:Value) (Q:VK),Inv X af σ H s→aM x v→r x H Q→
  wpAny (model X.prog X.w) X.A (f v) (EP X af σ Q) X.xe s
def bN (X:Cx)(f:Value)(r:List V→Hp→VK→Prop):Prop:=
 ∀(af:List (Addr×Obj)) (s:Shared) (σ:St) (H:Hp) (xs:List V) (us:List Value) (Q:VK),Inv X af σ H s→aE xs us→r xs H Q→
  wpAny (model X.prog X.w) X.A (call f us) (EP X af σ Q) X.xe s
def zl (r:R2)(ta tb:TE):TE:=fun σ H Q=>ta σ H fun x H1=>tb σ H1 fun y H2=>r x y H2 Q
def Bo (r:V→Hp→VK→Prop)(ta:TE):TE:=fun σ H Q=>ta σ H fun x H1=>r x H1 Q
def rI (C:Int→Int→Prop)(g:Int→Int→V):R2:=fun x y H Q=>∃i j,x=.int i∧y=.int j∧C i j∧Q (g i j) H
def uA (g:Int→Int→V):R2:=fun x y H Q=>∃i j,x=.int i∧y=.int j∧Q (g i j) H
def rU (g:Int→V):V→Hp→VK→Prop:=fun x H Q=>∃i,x=.int i∧Q (g i) H
section
variable {X:Cx}{a b c:Expr}{ta tb tc:TE}{pos:Pos}
theorem vN (ha:PE X a ta)(hb:PE X b tb){af:List (Addr×Obj)}{s:Shared}{σ:St}{H:Hp}{R:V→V→Hp→Prop}(I:Inv X af σ H s)
  (h:ta σ H fun x H1=>tb σ H1 fun y H2=>R x y H2) {Q:Value→Shared→Prop} {f:Value→Value→Sem Value}
  (hf:∀v u s2 x y H2,Inv X af σ H2 s2→aM x v→aM y u→R x y H2→wpAny (model X.prog X.w) X.A (f v u) Q X.xe s2) :
  wpAny (model X.prog X.w) X.A (eval a X.env) (fun v s₁=>wpAny (model X.prog X.w) X.A (eval b X.env) (fun u s₂=>wpAny (model X.prog X.w) X.A (f v u) Q X.xe s₂) X.xe s₁) X.xe s:=by
 refine bV (ha af s σ H _ I h) fun v s1 hxx=>?_
 obtain⟨x,H1,I1,r1,q1⟩:=hxx;refine bV (hb af s1 σ H1 _ I1 q1) fun u s2 hxx=>?_
 obtain⟨y,H2,I2,r2,q2⟩:=hxx;exact hf v u s2 x y H2 I2 r1 r2 q2
theorem xw {op:Operator}{r:R2}(ho:dB X (binaryOp op) r)(ha:PE X a ta)(hb:PE X b tb):PE X (.BinOp a op b pos) (zl r ta tb):=by
 intro af s σ H Q I h;exact wpAny_BinOp (vN ha hb I h fun v u s2 x y H2 I2 rx ry q=>ho af s2 σ H2 x y v u Q I2 rx ry q)
theorem xH {op:UnaryOp}{r:V→Hp→VK→Prop}(ho:AV X (unaryOp op) r)(ha:PE X a ta):PE X (.UnaryOp op a pos) (Bo r ta):=by
 intro af s σ H Q I h;exact UnaryOp_ (bV (ha af s σ H _ I h) fun v s1 ⟨x,H1,I1,r1,q1⟩=>ho af s1 σ H1 x v Q I1 r1 q1)
theorem AJ {f:Value→Value→Sem Value}{C:Int→Int→Prop}{g:Int→Int→Int}
  (rule:∀(i j:Int) (t u:Tok) (s:Shared) (Q:Value→Shared→Prop) (E:Value→Shared→Prop),C i j→Q (.int (g i j) s.toks) {s with toks:=s.toks+1}→wpAny (model X.prog X.w) X.A (f (.int i t) (.int j u)) Q E s) :
  dB X f (rI C fun i j=>.int (g i j)):=by
 intro af s σ H x y v u Q I rx ry h;obtain⟨i,j,rfl,rfl,hc,q⟩:=h;obtain⟨t,rfl⟩:=rx;obtain⟨t',rfl⟩:=ry;exact rule i j t t' s _ _ hc ⟨.int (g i j),H,I.tok _,⟨_,rfl⟩,q⟩
theorem xP {f:Value→Value→Sem Value}{g:Int→Int→Int}
  (rule:∀(i j:Int) (t u:Tok) (s:Shared) (Q:Value→Shared→Prop) (E:Value→Shared→Prop),Q (.int (g i j) s.toks) {s with toks:=s.toks+1}→wpAny (model X.prog X.w) X.A (f (.int i t) (.int j u)) Q E s) :
  dB X f (uA fun i j=>.int (g i j)):=by
 intro af s σ H x y v u Q I rx ry h;obtain⟨i,j,rfl,rfl,q⟩:=h;obtain⟨t,rfl⟩:=rx;obtain⟨t',rfl⟩:=ry;exact rule i j t t' s _ _ ⟨.int (g i j),H,I.tok _,⟨_,rfl⟩,q⟩
theorem uf {f:Value→Value→Sem Value}{g:Int→Int→Bool}
  (rule:∀(i j:Int) (t u:Tok) (s:Shared) (Q:Value→Shared→Prop) (E:Value→Shared→Prop),Q (.bool (g i j)) s→wpAny (model X.prog X.w) X.A (f (.int i t) (.int j u)) Q E s) :
  dB X f (uA fun i j=>.bl (g i j)):=by
 intro af s σ H x y v u Q I rx ry h;obtain⟨i,j,rfl,rfl,q⟩:=h;obtain⟨t,rfl⟩:=rx;obtain⟨t',rfl⟩:=ry;exact rule i j t t' s _ _ ⟨.bl (g i j),H,I,rfl,q⟩
def Az (i j:Int):Prop:=0≤j∧j≤1000000∧i.natAbs<2 ^ 64
def wm (i j:Int):Prop:=(-(2 ^ 64)<i∧i<2 ^ 64)∨(-(2 ^ 64)<j∧j<2 ^ 64)
theorem wm.ok {i j:Int}(h:wm i j):IntMulOk i j:=by
 rcases h with⟨h1,h2⟩|⟨h1,h2⟩
 ·exact .of_left (intBits_le_64 h1 h2)
 ·exact .of_right (intBits_le_64 h1 h2)
theorem uQ:dB X (binaryOp .Add) (uA fun i j=>.int (i+j)):=xP fun _ _ _ _ _ _ _ q=>add_int q
theorem vJ:dB X (binaryOp .Sub) (uA fun i j=>.int (i-j)):=xP fun _ _ _ _ _ _ _ q=>sub_int q
theorem vk:dB X (binaryOp .Mult) (rI wm fun i j=>.int (i*j)):=AJ fun _ _ _ _ _ _ _ hc q=>mul_int q hc.ok
theorem wx:dB X (binaryOp .Mod) (rI (fun _ j=>0<j) fun i j=>.int (i % j)):=AJ fun i j _ _ _ _ _ hc q=>by
 have h1:(0:Int)<j:=hc;exact mod_int' (by omega) (by rw[Int.fmod_eq_emod_of_nonneg i (by omega)];exact q)
theorem u9:dB X (binaryOp .Pow) (rI Az fun i j=>.int (i ^ j.toNat)):=AJ fun _ _ _ _ _ _ _ hc q=>pow_int_small hc.1 hc.2.1 hc.2.2 q
theorem Be {f:Value→Sem Value}{g:Int→Int}
  (rule:∀(i:Int) (t:Tok) (s:Shared) (Q:Value→Shared→Prop) (E:Value→Shared→Prop),Q (.int (g i) s.toks) {s with toks:=s.toks+1}→wpAny (model X.prog X.w) X.A (f (.int i t)) Q E s) :
  AV X f (rU fun i=>.int (g i)):=by
 intro af s σ H x v Q I rx h;obtain⟨i,rfl,q⟩:=h;obtain⟨t,rfl⟩:=rx;exact rule i t s _ _ ⟨.int (g i),H,I.tok _,⟨_,rfl⟩,q⟩
theorem v5:AV X (unaryOp .USub) (rU fun i=>.int (-i)):=Be fun _ _ _ _ _ q=>neg_int q
end
section
variable {X:Cx}{a b c:Expr}{ta tb tc:TE}{pos:Pos}
theorem xR:dB X (compareOp .Lt) (uA fun i j=>.bl (decide (i<j))):=uf fun _ _ _ _ _ _ _ q=>lt_int q
theorem xD:dB X (compareOp .LtE) (uA fun i j=>.bl (decide (i≤j))):=uf fun _ _ _ _ _ _ _ q=>le_int q
theorem zc:dB X (compareOp .Gt) (uA fun i j=>.bl (decide (j<i))):=uf fun _ _ _ _ _ _ _ q=>gt_int q
theorem xM:dB X (compareOp .GtE) (uA fun i j=>.bl (decide (j≤i))):=uf fun _ _ _ _ _ _ _ q=>ge_int q
def zK:HO→Bool
 | .lst _=>true
 | .ins _ _ _=>true
 | _=>false
theorem xn {af:List (Addr×Obj)}{s:Shared}{σ:St}{H:Hp}{a:Addr}{o:HO}(I:Inv X af σ H s)(h:H a=some o)(p:zK o=true):∃ob,s.heap.get? a=some ob∧ob.cls≠.type "tuple":=by
 cases o with
 | lst xs=>
  obtain⟨_,its,n,_,e⟩:xs.length≤sizeLine∧∃(its:List Value) (n:Nat),aE xs its∧s.heap.get? a=some {cls:=.type "list",data:=.seq its.toArray n}:=I.hok a _ h;exact⟨_,e,(by show Value.type "list"≠.type "tuple";decide +kernel)⟩
 | ins C dx fs=>
  have x:=I.hok a _ h;obtain⟨_,_,_,e,_⟩:=x;exact⟨_,e,(by show Value.ref C≠.type "tuple";exact fun z=>by cases z)⟩
 | _=>exact absurd (show false=true from p) Bool.false_ne_true
theorem vV (b:Expr){op:CmpOp}(h:op≠.In:=by decide)(h2:op≠.NotIn:=by decide):behindInMarks op b=false:=by
 have e1:(op==CmpOp.In)=false:=by cases op <;> first|rfl|exact absurd rfl h
 have e2:(op==CmpOp.NotIn)=false:=by cases op <;> first|rfl|exact absurd rfl h2
 cases b <;> simp[behindInMarks,e1,e2]
theorem ue {op:CmpOp}{r:R2}(ho:dB X (compareOp op) r)(ha:PE X a ta)(hb:PE X b tb)(hm:behindInMarks op b=false):PE X (.Compare a [op] [b] pos) (zl r ta tb):=by
 intro af s σ H Q I h;exact wpAny_Compare1 (vN ha hb I h fun v u s2 x y H2 I2 rx ry q=>ho af s2 σ H2 x y v u Q I2 rx ry q) hm
def uI (t:TE):TT:=fun σ H Q=>t σ H fun x H'=>∃k,x=.bl k∧Q k H'
theorem sG {op:CmpOp}{r:R2}(ho:dB X (compareOp op) r)(ha:PE X a ta)(hb:PE X b tb)(hm:behindInMarks op b=false):PT X (.Compare a [op] [b] pos) (uI (zl r ta tb)):=by
 intro af s σ H Q I h;refine wpAny_isTrue_Compare1 (bV (ha af s σ H _ I h) fun v s1 ⟨x,H1,I1,r1,q1⟩=>bV (hb af s1 σ H1 _ I1 q1) fun u s2 ⟨y,H2,I2,r2,q2⟩=>
  bV (ho af s2 σ H2 x y v u _ I2 r1 r2 q2) fun c s3 hxx=>?_) hm
 obtain⟨z,H3,I3,r3,k,e,q3⟩:=hxx;subst e;cases r3;exact wpAny_truthy_bool ⟨H3,I3,q3⟩
def qQ (r r':R2)(ta tb tc:TE):TE:=fun σ H Q=>ta σ H fun x H1=>tb σ H1 fun y H2=>r x y H2 fun z H3=>∃k,z=.bl k∧
 (if k=true then tc σ H3 fun w' H4=>r' y w' H4 Q else Q (.bl false) H3)
theorem qw {op op':CmpOp}{r r':R2}(ho:dB X (compareOp op) r)(ho':dB X (compareOp op') r')(ha:PE X a ta)(hb:PE X b tb)(hc:PE X c tc)
  (hm:lastMarks [op,op'] [b,c]=false:=by with_unfolding_all rfl):PT X (.Compare a [op,op'] [b,c] pos) (uI (qQ r r' ta tb tc)):=by
 intro af s σ H Q I h;refine isTrue_chain (bV (ha af s σ H _ I h) fun v s1 ⟨x,H1,I1,r1,q1⟩=>test_link (bV (hb af s1 σ H1 _ I1 q1) fun u s2 ⟨y,H2,I2,r2,q2⟩=>
  bV (ho af s2 σ H2 x y v u _ I2 r1 r2 q2) fun d s3 hxx=>?_)) hm
 obtain⟨z,H3,I3,r3,k,e,q3⟩:=hxx;subst e;cases r3;refine wpAny_truthy_bool ?_;cases k with
 | false=>
  obtain⟨k',e',q'⟩:=q3;cases e';exact ite_ff ⟨H3,I3,q'⟩
 | true=>
  refine ite_tt (test_last (bV (hc af s3 σ H3 _ I3 q3) fun w' s4 ⟨z',H4,I4,r4,q4⟩=>bV (ho' af s4 σ H4 y z' u w' _ I4 r2 r4 q4) fun d' s5 hxx=>?_));obtain⟨z2,H5,I5,r5,k2,e2,q5⟩:=hxx;subst e2;cases r5;exact wpAny_truthy_bool ⟨H5,I5,q5⟩
theorem gE:(sizeLine:Nat)<2 ^ 63:=by rw[sizeLine_eq];decide
theorem lR:dB X (binaryOp .Add) (fun x y H Q=>∃i j,x=.str i∧y=.str j∧i.length+j.length≤sizeLine∧Q (.str (i++j)) H):=by
 intro af s σ H x y v u Q I rx ry h;obtain⟨i,j,rfl,rfl,hz,q⟩:=h;obtain⟨t,rfl⟩:=rx;obtain⟨t',rfl⟩:=ry;exact add_str (fun t' tk=>⟨.str (i++j),H,I.tok _,⟨_,rfl⟩,q⟩) hz
theorem jv {x:V}{us:List Value}(r:aE [x] us):∃u,us=[u]∧aM x u:=by
 cases r with
 | cons r1 r2=>cases r2;exact⟨_,rfl,r1⟩
theorem uG {x y:V}{us:List Value}(r:aE [x,y] us):∃u w',us=[u,w']∧aM x u∧aM y w':=by
 cases r with
 | cons r1 r2=>
  cases r2 with
  | cons r3 r4=>cases r4;exact⟨_,_,rfl,r1,r3⟩
theorem nF (hc:X.calm=true):bN X (.builtin "max") (fun xs H Q=>∃i j,xs=[.int i,.int j]∧Q (.int (if j>i then j else i)) H):=by
 intro af s σ H xs us Q I r h;obtain⟨i,j,rfl,q⟩:=h;obtain⟨u,w',rfl,⟨t,rfl⟩,⟨t',rfl⟩⟩:=uG r;refine max_two_ints (I.ok.hd hc) fun h' tk k=>⟨_,H,I.kept k,?_,q⟩
 by_cases hj:j>i
 ·rw[if_pos hj,if_pos hj];exact⟨_,rfl⟩
 ·rw[if_neg hj,if_neg hj];exact⟨_,rfl⟩
theorem nS (hc:X.calm=true):bN X (.builtin "min") (fun xs H Q=>∃i j,xs=[.int i,.int j]∧Q (.int (if j<i then j else i)) H):=by
 intro af s σ H xs us Q I r h;obtain⟨i,j,rfl,q⟩:=h;obtain⟨u,w',rfl,⟨t,rfl⟩,⟨t',rfl⟩⟩:=uG r;refine min_two_ints (I.ok.hd hc) fun h' tk k=>⟨_,H,I.kept k,?_,q⟩
 by_cases hj:j<i
 ·rw[if_pos hj,if_pos hj];exact⟨_,rfl⟩
 ·rw[if_neg hj,if_neg hj];exact⟨_,rfl⟩
theorem jl:bN X (.type "int") (fun xs H Q=>(∃i,xs=[.int i]∧Q (.int i) H)∨∃k,xs=[.bl k]∧Q (.int (if k then 1 else 0)) H):=by
 intro af s σ H xs us Q I r h;rcases h with⟨i,rfl,q⟩|⟨k,rfl,q⟩
 ·obtain⟨u,rfl,t,rfl⟩:=jv r;exact call_int_int ⟨.int i,H,I,⟨_,rfl⟩,q⟩
 ·obtain⟨u,rfl,r1⟩:=jv r;cases r1;exact call_int_bool ⟨.int (if k then 1 else 0),H,I.tok _,⟨_,rfl⟩,q⟩
end
theorem i6.some_of {v:V}{o:Option Value}(r:i6 (some v) o):∃u,o=some u∧aM v u:=by
 cases o with
 | none=>exact(show False from r).elim
 | some u=>exact⟨u,rfl,r⟩
structure Bf (K:W.Frag)(C:Addr):Prop where
 pg:W.plainGet K C Str.empty=true
 hd:W.hasDictIn K C=true
 po:W.plainOver K C=true
 sa:W.findIn K (.ref C) "__setattr__"=some (some (.builtin "object.__setattr__"))
def wu (K:W.Frag)(C:Addr)(f:Str):Prop:=W.findIn K (.ref C) f=some none
structure Ao (K:W.Frag)(C:Addr)(m:Str)(f:Addr):Prop where
 at_:W.findIn K (.ref C) m=some (some (.ref f))
 fn:W.isFn K (.ref f)=true
 kp:W.keepIn K (.ref f)=true
structure cc (k:Nat)(A:Around):Prop where
 hd:A.handled=none
 dp:A.depth+3*k+5<recursionLimit
 un:A.units+16*k+200<cLine
theorem cc.mono {j k:Nat}{A:Around}(r:cc k A)(h:j≤k):cc j A:=⟨r.hd,by have:=r.dp;omega,by have:=r.un;omega⟩
theorem cc.deeper {k:Nat}{A:Around}(r:cc (k+1) A)(env:Env):cc k (A.deeper env):=
 ⟨r.hd,by have:=r.dp;show A.depth+1+3*k+5<_;omega,by have:=r.un;show A.units+3+16*k+200<_;omega⟩
theorem cc.depth {k:Nat}{A:Around}(r:cc k A):A.depth<recursionLimit:=by have:=r.dp;omega
theorem cc.units {k:Nat}{A:Around}(r:cc k A):A.units+64<cLine:=by have:=r.un;omega
def yz:TA:=fun _ H Q=>Q [] H
def ux (ta:TE)(tr:TA):TA:=fun σ H Q=>ta σ H fun x H1=>tr σ H1 fun xs H2=>Q (x::xs) H2
section
variable {X:Cx}{e:Expr}{es:List Expr}{te:TE}{t:TA}{pos:Pos}
theorem lK:PA X [] yz:=fun _ _ _ _ H Q I h=>Calls.spliced_nil ⟨[],H,I,.nil,h⟩
theorem jI (ha:PE X e te)(hr:PA X es t)(hs:starEach (e::es) X.env=(false,eval e X.env)::starEach es X.env:=by rfl):PA X (e::es) (ux te t):=by
 intro pos af s σ H Q I h;rw[hs];show wpAny _ _ (spliced ((false,eval e X.env)::backTo pos (starEach es X.env))) _ _ s;refine Calls.spliced_cons (bV (ha af s σ H _ I h) fun u s1 hxx=>?_);obtain⟨x,H1,I1,r1,q1⟩:=hxx;exact bV (hr pos af s1 σ H1 _ I1 q1) fun us s2 ⟨xs,H2,I2,r2,q2⟩=>⟨x::xs,H2,I2,.cons r1 r2,q2⟩
def Ae (t:TA):TE:=fun σ H Q=>t σ H fun xs H1=>xs.length≤sizeLine∧∀p,H1 p=none→Q (.ref p) (bS H1 p (.tup xs))
def As (t:TA):TE:=fun σ H Q=>t σ H fun xs H1=>xs.length≤sizeLine∧∀p,H1 p=none→Q (.ref p) (bS H1 p (.lst xs))
theorem xc {x1}(h:PA X es t):PE X (.Tuple es x1 pos) (Ae t):=by
 intro af s σ H Q I hq;refine wpAny_Tuple_spliced (bV (h pos af s σ H _ I hq) fun us s1 ⟨xs,H1,I1,r,z,q⟩=>⟨by rw[←r.length];exact z,?_⟩);have hf:H1 s1.heap.objs.size=none:=I1.hok.fresh (Nat.le_refl _);refine⟨.ref s1.heap.objs.size,bS H1 s1.heap.objs.size (.tup xs),I1.laid (t':=s1.toks) (fun b u e=>Heap.get?_push_of_some _ e) (Nat.le_refl _) ?_,rfl,q _ hf⟩;exact⟨z,us,r,⟨_,Heap.get?_push_size _ rfl,rfl,_,rfl⟩⟩
theorem pJ (h:PA X es t):PE X (.List es pos) (As t):=by
 intro af s σ H Q I hq;refine wpAny_List_spliced (bV (h pos af s σ H _ I hq) fun us s1 ⟨xs,H1,I1,r,z,q⟩=>⟨by rw[←r.length];exact z,?_⟩);have hf:H1 s1.heap.objs.size=none:=I1.hok.fresh (Nat.le_refl _);refine⟨.ref s1.heap.objs.size,bS H1 s1.heap.objs.size (.lst xs),I1.laid (t':=s1.toks) (fun b u e=>Heap.get?_push_of_some _ e) (Nat.le_refl _) ?_,rfl,q _ hf⟩;exact⟨z,us,0,r,Heap.get?_push_size _ rfl⟩
end
abbrev Sp:=List V→Hp→VK→XK→Prop
abbrev oF:=List Env→Hp→Shared→XK→Value→Shared→Prop
structure sC (P:Program)(w:World)(K:W.Frag)(mg:Str→Option Value)(base:Heap)(A:Around)(outer:List Env)(s:Shared)(H:Hp):Prop where
 frames:A.frames=some outer
 mod:Mod K mg base
 bs:∀b o,base.get? b=some o→s.heap.get? b=some o∧H b=none
 bsz:base.objs.size≤s.heap.objs.size
 funs:s.heap.FunFrames base outer
 frf:∀b∈iU outer,H b=none
 hok:fc P w H s.heap
 bare:AllBare s.gens
def CE (outer:List Env)(P:Program)(w:World)(H:Hp)(s:Shared)(Q:VK)(u:Value)(s':Shared):Prop:=
 ∃v H',s'.os=s.os∧AllBare s'.gens∧Un (iU outer) [] H H' s.heap s'.heap∧fc P w H' s'.heap∧aM v u∧Q v H'
def CR (CX:oF)(outer:List Env)(P:Program)(w:World)(H:Hp)(s:Shared)(Q:VK)(E:XK)(r:Result)(s':Shared):Prop:=
 match r with
 | .ok (.ret u)=>CE outer P w H s Q u s'
 | .ok _=>False
 | .error e=>CX outer H s E e s'
structure dD (P:Program)(w:World)(K:W.Frag)(mg:Str→Option Value)(base:Heap)(CX:oF)(k:Nat)(f:Addr)(fd:FuncData)(ps:List Str)(sp:Sp):Prop where
 len:∀vs H Q E,sp vs H Q E→vs.length=ps.length
 run:∀(A:Around) (outer:List Env) (s:Shared) (H:Hp) (args:Args) (us:List Value) (vs:List V) (Q:VK) (E:XK),cc k A→sC P w K mg base A outer s H→BindsTo s fd args (ps.zip us)→aE vs us→sp vs H Q E→
  codeAny (model P w) A (.call (.ref f) args) (CR CX outer P w H s Q E) s
theorem dD.imp {P:Program}{w:World}{K:W.Frag}{mg:Str→Option Value}{base:Heap}{CX:oF}{k:Nat}{f:Addr}{fd:FuncData}{ps:List Str}{sp sp':Sp}(F:dD P w K mg base CX k f fd ps sp)
  (h:∀vs H Q E,sp' vs H Q E→sp vs H Q E):dD P w K mg base CX k f fd ps sp':=
 ⟨fun vs H Q E q=>F.len vs H Q E (h _ _ _ _ q),fun A outer s H args us vs Q E hr he hb hv hs=>F.run A outer s H args us vs Q E hr he hb hv (h _ _ _ _ hs)⟩
section
variable {X:Cx}{af:List (Addr×Obj)}{σ:St}{H:Hp}{s s':Shared}
theorem Inv.env0 (I:Inv X af σ H s):sC X.prog X.w X.K X.mg X.base X.A X.stack s H:=
 ⟨I.ok.frames,I.ok.mod,I.bs,Nat.le_trans I.ok.bsz I.sz,I.stack,I.stkFree,I.hok,I.bare⟩
theorem Inv.after {Q:VK}{u:Value}(I:Inv X af σ H s)(h:CE X.stack X.prog X.w H s Q u s'):EP X af σ Q u s':=by
 obtain⟨v,H',os,bare,un,hok,r,q⟩:=h;obtain⟨hh,g,d,t,os'⟩:=s';obtain rfl:os'=s.os:=os;exact⟨v,H',I.call (h':=hh) (g':=g) (d':=d) (t':=t) (ch:=[]) un hok bare (fun b z=>absurd z (by simp)),r,q⟩
end
def xG (sp:Sp)(dvs:List V)(E:XK)(t:TA):TE:=fun σ H Q=>t σ H fun vs H1=>sp (vs++dvs) H1 Q E
def ej (K:W.Frag)(fd:FuncData)(ps:List Str)(ds:List Value):Prop:=
 ∀(s:Shared) (us:List Value),K.In s.heap→(us++ds).length=ps.length→BindsTo s fd ⟨us,[]⟩ (ps.zip (us++ds))
theorem ej.all {K:W.Frag}{fd:FuncData}{ps:List Str}(h:∀us:List Value,us.length=ps.length→bindArgs fd ⟨us,[]⟩=pure (ps.zip us)):ej K fd ps []:=fun s us _ hl=>by
 rw[append_nil] at hl ⊢;exact .of_eq (h us hl)
def lT (CX:oF)(X:Cx)(E:XK):Prop:=∀(af:List (Addr×Obj)) (σ:St) (H:Hp) (s:Shared) (e:Value) (s':Shared),Inv X af σ H s→CX X.stack H s E e s'→X.xe e s'
section
variable {X:Cx}{CX:oF}{k:Nat}{f C:Addr}{fd:FuncData}{ps:List Str}{sp:Sp}{dvs:List V}{ds:List Value}{E:XK}{x m:Str}{p pos apos:Pos}{e o:Expr}{es:List Expr}{ta:TE}{t:TA}
theorem xg {af:List (Addr×Obj)}{σ:St}{H:Hp}{s:Shared}{Q:VK}{us:List Value}{vs:List V}(F:dD X.prog X.w X.K X.mg X.base CX k f fd ps sp)(hr:cc k X.A)(hb:ej X.K fd ps ds)(hd:aE dvs ds)(hx:lT CX X E)
  (I:Inv X af σ H s) (r:aE vs us) (h:sp (vs++dvs) H Q E):wpAny (model X.prog X.w) X.A (call (.ref f) us) (EP X af σ Q) X.xe s:=by
 have r2:aE (vs++dvs) (us++ds):=r.append hd;have hl:(us++ds).length=ps.length:=by rw[←r2.length];exact F.len _ _ _ _ h
 refine wpAny_call (codeAny_mono (F.run X.A X.stack s H ⟨us,[]⟩ (us++ds) (vs++dvs) Q E hr I.env0 (hb s us I.kIn hl) r2 h) fun r s' hq=>?_);cases r with
 | error e=>exact hx af σ H s e s' I hq
 | ok fl=>
  cases fl with
  | ret u=>exact I.after hq
  | next=>exact False.elim hq
  | brk=>exact False.elim hq
  | cont=>exact False.elim hq
theorem rE (F:dD X.prog X.w X.K X.mg X.base CX k f fd ps sp)(hr:cc k X.A)(hg:Gl X x)(hm:X.mg x=some (.ref f))(hk:W.keepIn X.K (.ref f)=true)(hb:ej X.K fd ps ds)(hd:aE dvs ds)(hx:lT CX X E)
  (ha:PA X (e::es) t) (hdb:(x==("__debug__":Str))=false:=by decide) (he:starEach (e::es) X.env=(false,eval e X.env)::starEach es X.env:=by rfl) (hpl:(backTo pos (starEach es X.env)).any (·.1)=false:=by rfl) :
  PE X (.Call (.Name x p) (e::es) [] pos) (xG sp dvs E t):=by
 intro af s σ H Q I h;refine wpAny_Call_Name_kw (tz I hg hm ?_ hdb);refine W.callWith_K (h₀:=X.base) I.ok.mod.kin hk (bV (ha pos af s σ H _ I h) fun us s1 ⟨vs,H1,I1,r,q⟩=>⟨I1.kIn,?_⟩) he hpl;exact xg F hr hb hd hx I1 r q
end
structure eP (N P:List Str)(sc:Scope):Prop where
 kind:sc.kind=.function
 co:sc.isCoroutine=false
 gen:sc.isGenerator=false
 nd:N.Nodup
 pre:N.take P.length=P
 par:∀x∈P,sc.names.lookup x=some .local∨sc.names.lookup x=some .cell
 nofree:∀y∈sc.names,y.2≠.free
theorem jk {kindOf:Str→Option NameKind}{x:Str}:∀{binds:List (Str×Value)} {m:Str→Option Value},(∀v,(x,v)∉binds)→bindL kindOf binds m x=m x
 | [],_,_=>rfl
 | (n,v)::r,m,h=>by
  unfold bindL;rw[jk fun w hw=>h w (mem_cons_of_mem _ hw)];split
  ·have:x≠n:=by rintro rfl;exact h v mem_cons_self
   simp[this]
  ·rfl
theorem jx {kindOf:Str→Option NameKind}{x:Str}:∀{binds:List (Str×Value)} {m:Str→Option Value},(∀v,(x,v)∉binds)→bindC kindOf binds m x=m x
 | [],_,_=>rfl
 | (n,v)::r,m,h=>by
  unfold bindC;rw[jx fun w hw=>h w (mem_cons_of_mem _ hw)];split
  ·rfl
  ·have:x≠n:=by rintro rfl;exact h v mem_cons_self
   simp[this]
theorem jC {kindOf:Str→Option NameKind}{x:Str}{v:Value}:∀{P:List Str} {vs:List Value} {i:Nat} {m:Str→Option Value},P.Nodup→P[i]?=some x→vs[i]?=some v→kindOf x=some .local→
  bindL kindOf (P.zip vs) m x=some v
 | [],_,_,_,_,h,_,_=>by simp at h
 | _::_,[],_,_,_,_,h,_=>by simp at h
 | p::P,w::vs,0,m,nd,h1,h2,hk=>by
  simp at h1 h2;subst h1;subst h2;show bindL kindOf ((p,w)::P.zip vs) m p=_;unfold bindL;rw[jk fun v hv=>(nodup_cons.mp nd).1 (of_mem_zip hv).1,if_pos hk];simp
 | p::P,w::vs,i+1,m,nd,h1,h2,hk=>by
  show bindL kindOf ((p,w)::P.zip vs) m x=_;unfold bindL;exact jC (i:=i) (nodup_cons.mp nd).2 (by simpa using h1) (by simpa using h2) hk
theorem jt {kindOf:Str→Option NameKind}{x:Str}{v:Value}:∀{P:List Str} {vs:List Value} {i:Nat} {m:Str→Option Value},P.Nodup→P[i]?=some x→vs[i]?=some v→kindOf x≠some .local→
  bindC kindOf (P.zip vs) m x=some v
 | [],_,_,_,_,h,_,_=>by simp at h
 | _::_,[],_,_,_,_,h,_=>by simp at h
 | p::P,w::vs,0,m,nd,h1,h2,hk=>by
  simp at h1 h2;subst h1;subst h2;show bindC kindOf ((p,w)::P.zip vs) m p=_;unfold bindC;rw[jx fun v hv=>(nodup_cons.mp nd).1 (of_mem_zip hv).1,if_neg hk];simp
 | p::P,w::vs,i+1,m,nd,h1,h2,hk=>by
  show bindC kindOf ((p,w)::P.zip vs) m x=_;unfold bindC;exact jt (i:=i) (nodup_cons.mp nd).2 (by simpa using h1) (by simpa using h2) hk
def start (N:List Str)(vs:List V):St:=vs.map some++List.replicate (N.length-vs.length) none
def fY (CX:oF)(P:Program)(w:World)(K:W.Frag)(mg:Str→Option Value)(base:Heap)(N:List Str)(qual:Str)(scope:Scope)(f:Addr)(cd:Value)(A:Around)(outer:List Env)(s:Shared)(H:Hp)(E:XK):Cx where
 prog:=P
 w:=w
 K:=K
 mg:=mg
 base:=base
 A:=A.deeper (envOfC qual scope s.heap.objs.size f cd)
 N:=N
 s₀:=s
 H₀:=H
 env:=envOfC qual scope s.heap.objs.size f cd
 outer:=outer
 stack:=envOfC qual scope s.heap.objs.size f cd::outer
 ex:=[]
 calm:=true
 fn:=fun _=>true
 pn:=[]
 xe:=fun e s'=>wpAny (model P w) (A.deeper (envOfC qual scope s.heap.objs.size f cd)) (leaving (envOfC qual scope s.heap.objs.size f cd) e) (fun _ s''=>CX outer H s E e s'') (fun e' s''=>CX outer H s E e' s'') s'
theorem lB {sc:Scope}{n:Nat}{x:Str}(h:sc.names.lookup x=some .cell):∃c,(cellsFrom n sc.names []).lookup x=some c:=by
 have q:=W.cellsFrom_some sc.names n [] (.inl h);exact Option.isSome_iff_exists.mp q
theorem ox {CX:oF}{P:Program}{w:World}{K:W.Frag}{mg:Str→Option Value}{base:Heap}{N ps:List Str}{qual:Str}{scope:Scope}{f:Addr}{cd:Value}{A:Around}{outer:List Env}{s s1:Shared}{H:Hp}{E:XK}{us:List Value}{vs:List V}
  (S:eP N ps scope) (hd:A.handled=none) (e0:sC P w K mg base A outer s H) (hl:vs.length=ps.length) (r:aE vs us)
  (x:InCallC s s.heap.objs.size (bindL (envOfC qual scope s.heap.objs.size f cd).kindOf (ps.zip us) fun _=>none) (cellsFrom (s.heap.objs.size+1) scope.names []) (bindC (envOfC qual scope s.heap.objs.size f cd).kindOf (ps.zip us) fun _=>none) s1) :
  Inv (fY CX P w K mg base N qual scope f cd A outer s H E) [] (start N vs) H s1:=by
 have hpl:ps.length≤N.length:=by have:=congrArg List.length S.pre;rw[length_take] at this;omega
 obtain⟨h1,tk,rfl,hk⟩:=x.done;have noA:∀b:Addr,b∉(fY CX P w K mg base N qual scope f cd A outer s H E).ex:=fun b z=>absurd (show b∈([]:List Addr) from z) (by simp)
 refine⟨⟨e0.mod,S.kind,rfl,rfl,Nat.le_refl _,fun y z c h1 h2=>?_,fun y hy=>?_,fun y c _ h=>?_,fun _=>hd,Around.frames_deeper e0.frames,.inr ⟨rfl,rfl⟩,fun b z=>absurd z (noA b),e0.bs,e0.bsz,fun b _ _=>noA b,fun b z=>absurd z (noA b),e0.funs,e0.frf⟩,
  rfl,e0.bare,Un.kept hk,⟨_,x.toInCall.ns,fun i y v h1 h2 h3=>?_⟩,fun y c h=>⟨_,x.cell y c h⟩,e0.hok.fresh (Nat.le_refl _),fun y c h=>?_,fun p hp=>absurd (show p∈([]:List (Addr×Obj)) from hp) (by simp),e0.hok.kept hk,?_⟩
 ·exact name_of_addr x.apart (PySem.mem_of_lookup h1) (PySem.mem_of_lookup h2)
 ·have hy:scope.names.lookup y=some .cell∨scope.names.lookup y=some .free:=hy;rcases hy with hy|hy
  ·exact lB hy
  ·exact absurd rfl (S.nofree _ (PySem.mem_of_lookup hy))
 ·exact Nat.le_of_lt (x.above y c (PySem.mem_of_lookup h))
 ·have hi:i<vs.length:=by
   unfold start at h2
   by_cases hi:i<vs.length
   ·exact hi
   ·rw[getElem?_append_right (by simpa using hi)] at h2;rw[getElem?_replicate] at h2;split at h2 <;> cases h2
  have ha:vs[i]?=some v:=by
   unfold start at h2;rw[getElem?_append_left (by simpa using hi),getElem?_map] at h2;cases e:vs[i]? with
   | none=>rw[e] at h2;cases h2
   | some a=>rw[e] at h2;cases h2;rfl
  obtain⟨u,hu,rv⟩:=r.get ha;have hp:ps[i]?=some y:=by
   rw[←S.pre,getElem?_take_of_lt (by omega)];exact h1
  have ndP:ps.Nodup:=by rw[←S.pre];exact S.nd.sublist (take_sublist _ _)
  refine⟨u,rv,?_⟩;rcases S.par y (mem_of_getElem? hp) with k|k
  ·exact .inl ⟨k,jC ndP hp hu k⟩
  ·obtain⟨c,e⟩:=lB (n:=s.heap.objs.size+1) k;refine .inr ⟨.inl k,c,e,?_⟩;have q:=x.cell y c e;rw[jt ndP hp hu (by show scope.names.lookup y≠_;rw[k];decide)] at q;exact q
 ·exact e0.hok.fresh (Nat.le_of_lt (x.above y c (PySem.mem_of_lookup h)))
 ·unfold start;show _=N.length;rw[length_append,length_map,length_replicate];omega
theorem xL {CX:oF}{P:Program}{w:World}{K:W.Frag}{mg:Str→Option Value}{base:Heap}{k:Nat}{f:Addr}{name qual:Str}{params:Arguments}{body:List Stmt}{scope:Scope}{dV kV doc pm cdv ct oc:Value}{an od:Option Addr}
  {osl:Array (Option Value)} {N ps:List Str} {sp:Sp} (lk:K.lookup f=some ⟨oc,od,.func (W.fnOf name qual params body scope dV kV doc pm an cdv ct),osl⟩) (hcd:W.codeIn K cdv qual=true) (S:eP N ps scope)
  (len:∀vs H Q E,sp vs H Q E→vs.length=ps.length)
  (hbody:∀(A:Around) (outer:List Env) (s:Shared) (H:Hp) (vs:List V) (Q:VK) (E:XK),cc k (A.deeper (envOfC qual scope s.heap.objs.size f cdv))→sp vs H Q E→
   ∃t,PSs (fY CX P w K mg base N qual scope f cdv A outer s H E) body t∧t {nx:=fun _ H'=>Q .non H',rt:=Q} (start N vs) H) :
  dD P w K mg base CX (k+1) f (W.fnOf name qual params body scope dV kV doc pm an cdv ct) ps sp:=by
 refine⟨len,fun A outer s H args us vs Q E hr e0 hb r hsp=>?_⟩;have hl:=len _ _ _ _ hsp;have KX:K.In s.heap:=e0.mod.kin.keeps fun b o e=>(e0.bs b o e).1
 have lim:s.heap.NoLimit:=e0.mod.nolimit.keeps fun b o e=>(e0.bs b o e).1
 have hkind:∀y∈ps.zip us,scope.names.lookup y.1=some .local∨(scope.names.lookup y.1=some .cell∧((cellsFrom (s.heap.objs.size+1) scope.names []).lookup y.1).isSome=true):=fun⟨n,v⟩ hy=>by
  rcases S.par n (of_mem_zip hy).1 with q|q
  ·exact .inl q
  ·exact .inr ⟨q,W.cellsFrom_some _ _ _ (.inl q)⟩
 refine codeAny_call_function hr.depth (KX _ _ lk) rfl S.co S.gen rfl (W.codeRec_of KX hcd) (hb _ _ _ _ ?_);refine wpAny_newFunctionEnv_cells S.kind hkind fun env he s1 x=>?_
 subst he;refine⟨lim.keeps x.toInCall.keep,codeAny_func ?_⟩;obtain⟨t,ht,hq⟩:=hbody A outer s H vs Q E (hr.deeper _) hsp;have I:Inv (fY CX P w K mg base N qual scope f cdv A outer s H E) [] (start N vs) H s1:=ox S hr.hd e0 hl r x;refine wpAny_mono (ht [] s1 (start N vs) H _ I hq) (fun fl s' hs=>?_) fun e s' hs=>hs
 have fin:∀{σ':St} {H':Hp} {v:V} {u:Value},Inv (fY CX P w K mg base N qual scope f cdv A outer s H E) [] σ' H' s'→aM v u→Q v H'→CE outer P w H s Q u s':=
  fun {σ' H' v u} J rv q=>⟨v,H',J.os,J.bare,J.base,J.hok,rv,q⟩
 cases fl with
 | ret u=>
  obtain⟨v,σ',H',J,rv,q⟩:=hs;exact fin J rv q
 | next=>
  obtain⟨σ',H',J,q⟩:=hs;exact fin (v:=V.non) (u:=Value.none) J rfl q
 | brk=>
  obtain⟨_,_,_,q⟩:=hs;exact False.elim q
 | cont=>
  obtain⟨_,_,_,q⟩:=hs;exact False.elim q
section
variable {X:Cx}{x:Str}{p pos:Pos}{e:Expr}{es:List Expr}{t:TA}{id T:String}{r:List V→Hp→VK→Prop}
def z7 (r:List V→Hp→VK→Prop)(t:TA):TE:=fun σ H Q=>t σ H fun vs H1=>r vs H1 Q
theorem pW (hc:bN X (.builtin id) r)(hg:Gl X x)(hm:X.mg x=none)(hv:bootBuiltins x=some (.builtin id))(ha:PA X (e::es) t)(hn:x≠"__name__":=by decide)(hdb:(x==("__debug__":Str))=false:=by decide)
  (he:starEach (e::es) X.env=(false,eval e X.env)::starEach es X.env:=by rfl) (hpl:(backTo pos (starEach es X.env)).any (·.1)=false:=by rfl):PE X (.Call (.Name x p) (e::es) [] pos) (z7 r t):=by
 intro af s σ H Q I h;refine wpAny_Call_Name_kw (jM I hg hm hv ?_ hn hdb);exact PyProof.Rows.callWith_builtin1 (bV (ha pos af s σ H _ I h) fun us s1 ⟨vs,H1,I1,r1,q1⟩=>hc af s1 σ H1 vs us Q I1 r1 q1) he hpl
theorem nn (hc:bN X (.type T) r)(hg:Gl X x)(hm:X.mg x=none)(hv:bootBuiltins x=some (.type T))(ha:PA X (e::es) t)(hn:x≠"__name__":=by decide)(hdb:(x==("__debug__":Str))=false:=by decide)
  (he:starEach (e::es) X.env=(false,eval e X.env)::starEach es X.env:=by rfl) (hpl:(backTo pos (starEach es X.env)).any (·.1)=false:=by rfl):PE X (.Call (.Name x p) (e::es) [] pos) (z7 r t):=by
 intro af s σ H Q I h;refine wpAny_Call_Name_kw (jM I hg hm hv ?_ hn hdb);exact PyProof.Rows.callWith_type1 (bV (ha pos af s σ H _ I h) fun us s1 ⟨vs,H1,I1,r1,q1⟩=>hc af s1 σ H1 vs us Q I1 r1 q1) he hpl
end
end L2
namespace HT
open PySem PyProof.Rows
def lexLt:List Int→List Int→Bool
 | [],[]=>false
 | [],_::_=>true
 | _::_,[]=>false
 | x::xs,y::ys=>if x=y then lexLt xs ys else decide (x<y)
section
open PySem.SeqAt
open PySem.AutoSeq1 (wpAny_loadPart')
open PySem.MeetsSeq PySem.MeetsSeq2 PySem.MeetsSeq3
end
section
variable {prog:Program}{w:World}{A:Around}{E:Value→Shared→Prop}{s:Shared}
theorem cat_tup {t b:Addr}{vs ws:List Value}{Q:Value→Shared→Prop}(ht:IsTup s.heap t vs.toArray)(hb:IsTup s.heap b ws.toArray)(hv:vs≠[])
  (h1:ws=[]→Q (.ref t) s) (h2:ws≠[]→Q (.ref s.heap.objs.size) {s with heap:=s.heap.push {cls:=.type "tuple",data:=.seq (vs++ws).toArray}})
  (hsz:vs.length+ws.length≤sizeLine):wpAny (model prog w) A (binaryOp .Add (.ref t) (.ref b)) Q E s:=by
 obtain⟨⟨cls,dd,data,sl⟩,ho,hc,n,hd⟩:=id ht;obtain⟨⟨cls2,dd2,data2,sl2⟩,ho2,hc2,n2,hd2⟩:=id hb;simp only at hc hd hc2 hd2;subst hc hd hc2 hd2;have e:vs.toArray++ws.toArray=(vs++ws).toArray:=by simp
 by_cases hw:ws=[]
 ·exact concat_meets ⟨_,ho,rfl⟩ ⟨_,ho2,rfl⟩ noFill_tuple_add seq_tuple_add PySem.F.slot_tuple_add PySem.F.entry_tuple_add (PySem.F.args_tuple_add_2 _ _)
   (tuple_addW1 t b vs.toArray ws.toArray n n2 dd dd2 sl sl2 (by simpa using hv) (by simp[hw])) ⟨ho,ho2,h1 hw⟩
 ·refine concat_meets ⟨_,ho,rfl⟩ ⟨_,ho2,rfl⟩ noFill_tuple_add seq_tuple_add PySem.F.slot_tuple_add PySem.F.entry_tuple_add (PySem.F.args_tuple_add_2 _ _)
   (tuple_addW2 t b vs.toArray ws.toArray n n2 dd dd2 sl sl2 (by simpa using hv) (by simpa using hw) (by rw[List.size_toArray,List.size_toArray];exact hsz)) ⟨ho,ho2,?_⟩
  rw[e];exact h2 hw
def sIx (n d:Nat):Option Int→Nat
 | none=>d
 | some v=>if v<0 then(v+(n:Int)).toNat else min v.toNat n
theorem wI (n d:Nat)(hd:d≤n)(o:Option Int):sIx n d o≤n:=by
 cases o with
 | none=>exact hd
 | some v=>
  show(if v<0 then(v+(n:Int)).toNat else min v.toNat n)≤n
  by_cases hv:v<0
  ·rw[if_pos hv];omega
  ·rw[if_neg hv];exact Nat.min_le_right _ _
theorem mY (v:Int)(n d:Nat):(if v<0 then max (v+(n:Int)) 0 else min v (n:Int))=((sIx n d (some v):Nat):Int):=by
 show(if v<0 then max (v+(n:Int)) 0 else min v (n:Int))=(((if v<0 then(v+(n:Int)).toNat else min v.toNat n):Nat):Int)
 by_cases hv:v<0
 ·simp only[if_pos hv];omega
 ·simp only[if_neg hv];omega
theorem lV (lo hi:Option Int)(n:Nat):Builtin.Slice.sliceAdjust lo hi 1 (n:Int)=(((sIx n 0 lo:Nat):Int),((sIx n n hi:Nat):Int)):=by
 have h1:¬((1:Int)<0):=by omega
 unfold Builtin.Slice.sliceAdjust;simp only[h1,if_false];refine Prod.ext ?_ ?_
 ·cases lo with
  | none=>rfl
  | some v=>exact mY v n 0
 ·cases hi with
  | none=>rfl
  | some v=>exact mY v n n
theorem lZ (i j:Nat):Builtin.Slice.slicePlaces (i:Int) (j:Int) 1=j-i:=by
 unfold Builtin.Slice.slicePlaces;have h1:(1:Int)>0:=by omega
 simp only[h1,if_true,Int.ediv_one];split <;> omega
theorem iA {v:Value}{o:Option Int}{Q:Option Int→Shared→Prop}(p:IsPart v o)(h:Q o s):wpAny (model prog w) A (Builtin.Slice.slicePartIndex v) Q E s:=by
 cases p with
 | none=>exact slicePart_none h
 | int i t=>exact slicePart_int h
theorem sliceApplied_gen {sl:Addr}{vl vu:Value}{lo hi:Option Int}{n:Nat}{Q:Int×Int×Nat→Shared→Prop}(hs:s.heap.IsSliceOf sl vl vu .none)(pl:IsPart vl lo)(pu:IsPart vu hi)
  (h:Q (((sIx n 0 lo:Nat):Int),1,sIx n n hi-sIx n 0 lo) s):wpAny (model prog w) A (Builtin.Slice.sliceApplied (.ref sl) (pure (n:Int))) Q E s:=by
 obtain⟨os,hos,hcs,hds⟩:=id hs;unfold Builtin.Slice.sliceApplied Builtin.Slice.sliceFields;refine wpAny_bind (wpAny_bind (wpAny_field hos hds (x:=vl) rfl (wpAny_bind (wpAny_field hos hds (x:=vu) rfl (wpAny_bind (wpAny_field hos hds (x:=.none) rfl (wpAny_pure ?_)))))));refine wpAny_bind (slicePart_none ?_);show wpAny _ _ (if((1:Int)==0)=true then _ else _) _ _ s;rw[if_neg (by decide)];refine wpAny_bind (iA pl (wpAny_bind (iA pu (wpAny_bind (wpAny_pure ?_)))));show wpAny _ _ (match Builtin.Slice.sliceAdjust lo hi 1 (n:Int) with|(lo,hi)=>pure (lo,(1:Int),Builtin.Slice.slicePlaces lo hi 1)) _ _ s;rw[lV lo hi n];show wpAny _ _ (pure (((sIx n 0 lo:Nat):Int),(1:Int),Builtin.Slice.slicePlaces ((sIx n 0 lo:Nat):Int) ((sIx n n hi:Nat):Int) 1)) _ _ s;rw[lZ];exact wpAny_pure h
theorem pv (xs:Array Value)(i k:Nat):((List.range k).filterMap fun(m:Nat)=>xs[((i:Int)+(m:Int)*1).toNat]?).toArray=((xs.toList.drop i).take k).toArray:=by
 have e:(fun(m:Nat)=>xs[((i:Int)+(m:Int)*1).toNat]?)=fun m=>xs[i+m]?:=by
  funext m;have:((i:Int)+(m:Int)*1).toNat=i+m:=by omega
  rw[this]
 rw[e];have:=pick_run xs i k;rw[List.filterMap_map] at this;have e2:((fun x=>xs[x]?) ∘ fun x=>i+x)=fun m=>xs[i+m]?:=rfl
 rw[e2] at this;rw[this]
theorem getItem_tuple_cut {t sl:Addr}{items:Array Value}{vl vu:Value}{lo hi:Option Int}{Q:Value→Shared→Prop}(ht:IsTup s.heap t items)(hs:s.heap.IsSliceOf sl vl vu .none)(pl:IsPart vl lo)(pu:IsPart vu hi)
  (hw:¬(sIx items.size 0 lo=0∧sIx items.size items.size hi=items.size))
  (h:Q (.ref s.heap.objs.size) {s with heap:=s.heap.push {cls:=.type "tuple",data:=.seq ((items.toList.drop (sIx items.size 0 lo)).take (sIx items.size items.size hi-sIx items.size 0 lo)).toArray}})
  (hsz:items.size≤sizeLine):wpAny (model prog w) A (getItem (.ref t) (.ref sl)) Q E s:=by
 have htake:sizeOk (.seq ((items.toList.drop (sIx items.size 0 lo)).take (sIx items.size items.size hi-sIx items.size 0 lo)).toArray):=by
  show((items.toList.drop (sIx items.size 0 lo)).take (sIx items.size items.size hi-sIx items.size 0 lo)).toArray.size≤sizeLine;rw[List.size_toArray,List.length_take,List.length_drop,Array.length_toList];omega
 have hj:sIx items.size items.size hi≤items.size:=wI _ _ (Nat.le_refl _) hi;obtain⟨os,hos,hcs,hds⟩:=id hs;have hTs:s.TypeIs (.ref sl) "slice":=⟨os,hos,hcs⟩;unfold getItem
 try with_reducible refine wpAny_holding ?_
 first|refine wpAny_bind (wpAny_pure ?_)|skip
 refine wpAny_bind (wpAny_sequenceKey ht.typeIs (by decide) ?_);refine wpAny_bind (wpAny_callSpecial?_slot (name:=Str.ofString "__getitem__") ht.typeIs PyProof.Rows.slot_tuple_getitem
  (wpAny_call_entry PyProof.Rows.slot_tuple_getitem ht.typeIs entry_tuple_getitem ?_ (args_tuple_getitem _ _)))
 show wpAny _ _ (Builtin.Tuple.tupleItemsOf (.ref t) >>= _) _ _ s;refine wpAny_bind (tupleItemsOf_ ht ?_);refine wpAny_bind (wpAny_typeOf hTs ?_);rw[if_pos (by decide)];refine wpAny_bind (sliceApplied_gen hs pl pu ?_);have hno:¬((((sIx items.size 0 lo:Nat):Int)==0&&(1:Int)==1&&(sIx items.size items.size hi-sIx items.size 0 lo)==items.size)=true):=by
  intro q;rw[Bool.and_eq_true,Bool.and_eq_true] at q;have q1:((sIx items.size 0 lo:Nat):Int)=0:=eq_of_beq q.1.1;have q2:sIx items.size items.size hi-sIx items.size 0 lo=items.size:=eq_of_beq q.2;exact hw ⟨by omega,by omega⟩
 show wpAny _ _ (if(((sIx items.size 0 lo:Nat):Int)==0&&(1:Int)==1&&(sIx items.size items.size hi-sIx items.size 0 lo)==items.size)=true then _ else _) _ _ s;rw[if_neg hno,pv]
 first
  | exact wpAny_bind (m:=Builtin.Tuple.tupleExact _) (wpAny_newObj_type (wpAny_pure ⟨_,rfl,wpAny_pure h⟩) htake)
  | exact wpAny_bind (m:=Builtin.Tuple.tupleExact _) (wpAny_newObj_type (wpAny_bind (wpAny_pure (wpAny_pure ⟨_,rfl,wpAny_pure h⟩))) htake)
  | exact wpAny_bind (wpAny_bind (m:=Builtin.Tuple.tupleExact _) (wpAny_newObj_type (wpAny_pure (wpAny_pure ⟨_,rfl,wpAny_pure h⟩)) htake))
  | exact wpAny_bind (wpAny_bind (m:=Builtin.Tuple.tupleExact _) (wpAny_newObj_type (wpAny_pure ⟨_,rfl,wpAny_pure h⟩) htake))
end
end HT
namespace L2
open PySem PySem.Spec PyProof.Rows List
abbrev TO:=St→Hp→(Option Int→Hp→Prop)→Prop
def PO (X:Cx)(e:Option Expr)(t:TO):Prop:=
 ∀(af:List (Addr×Obj)) (s:Shared) (σ:St) (H:Hp) (Q:Option Int→Hp→Prop),Inv X af σ H s→t σ H Q→
  wpAny (model X.prog X.w) X.A (evalPart e X.env) (fun u s'=>∃o H',Inv X af σ H' s'∧IsPart u o∧Q o H') X.xe s
def rH:TO:=fun _ H Q=>Q none H
def xX (t:TE):TO:=fun σ H Q=>t σ H fun x H1=>∃i,x=.int i∧Q (some i) H1
section
variable {X:Cx}{e:Expr}{te:TE}{lo hi:Option Expr}{tl th:TO}{pos p2:Pos}
theorem sX:PO X none rH:=by
 intro af s σ H Q I h;rw[evalPart_none];exact wpAny_pure ⟨none,H,I,.none,h⟩
theorem rY (h:PE X e te):PO X (some e) (xX te):=by
 intro af s σ H Q I hw;rw[evalPart_some];refine bV (h af s σ H _ I hw) fun u s1 hxx=>?_
 obtain⟨x,H1,I1,r1,q1⟩:=hxx;obtain⟨i,rfl,q⟩:=q1;obtain⟨t,rfl⟩:=r1;exact⟨some i,H1,I1,.int i t,q⟩
def zY (X:Cx)(r:V→Option Int→Option Int→Hp→VK→Prop):Prop:=
 ∀(af:List (Addr×Obj)) (s:Shared) (σ:St) (H:Hp) (x:V) (v vl vu:Value) (lo hi:Option Int) (sl:Addr) (Q:VK),Inv X af σ H s→aM x v→s.heap.IsSliceOf sl vl vu .none→IsPart vl lo→IsPart vu hi→r x lo hi H Q→
  ∃T id,typeLookup (.type T) "__getitem__"=pure (some (.builtin id))∧s.TypeIs v T∧wpAny (model X.prog X.w) X.A (getItem v (.ref sl)) (EP X af σ Q) X.xe s
def Bl (r:V→Option Int→Option Int→Hp→VK→Prop)(te:TE)(tl th:TO):TE:=fun σ H Q=>te σ H fun x H1=>tl σ H1 fun l H2=>th σ H2 fun u H3=>r x l u H3 Q
theorem oM {r:V→Option Int→Option Int→Hp→VK→Prop}(hr:zY X r)(he:PE X e te)(hl:PO X lo tl)(hu:PO X hi th):PE X (.Subscript e (.Slice lo hi none p2) pos) (Bl r te tl th):=by
 intro af s σ H Q I h;refine Subscript_ (bV (he af s σ H _ I h) fun v s1 hxx=>?_);obtain⟨x,H1,I1,r1,q1⟩:=hxx;refine wpAny_Slice (bV (hl af s1 σ H1 _ I1 q1) fun vl s2 ⟨l,H2,I2,pl,q2⟩=>bV (hu af s2 σ H2 _ I2 q2) fun vu s3 hxx=>?_);obtain⟨u,H3,I3,pu,q3⟩:=hxx;rw[evalPart_none];refine wpAny_pure ?_;have I4:Inv X af σ H3 {s3 with heap:=s3.heap.push {cls:=.type "slice",data:=.fields #[vl,vu,.none]}}:=I3.kept (t':=s3.toks) fun b ob q=>Heap.get?_push_of_some _ q
 obtain⟨T,id,hT,ht,hg⟩:=hr af {s3 with heap:=s3.heap.push {cls:=.type "slice",data:=.fields #[vl,vu,.none]}} σ H3 x v vl vu l u s3.heap.objs.size Q I4 r1 (Heap.IsSliceOf.new ..) pl pu q3;show wpAny (model X.prog X.w) X.A (subscriptTail e (.Slice lo hi none p2) v (.ref s3.heap.objs.size)) (EP X af σ Q) X.xe {s3 with heap:=s3.heap.push {cls:=.type "slice",data:=.fields #[vl,vu,.none]}};exact tail_any (ops:=[.ref s3.heap.objs.size,v]) ht hT hg (by with_unfolding_all rfl)
def lG (xs:List V)(lo hi:Option Int):List V:=(xs.drop (HT.sIx xs.length 0 lo)).take (HT.sIx xs.length xs.length hi-HT.sIx xs.length 0 lo)
theorem gL (xs:List V)(lo hi:Option Int):(lG xs lo hi).length≤xs.length:=by
 unfold lG;rw[length_take,length_drop];omega
def AU (K:W.Frag):V→Option Int→Option Int→Hp→VK→Prop:=fun x lo hi H Q=>∃a xs,x=.ref a∧gP K H a xs∧
 ¬(HT.sIx xs.length 0 lo=0∧HT.sIx xs.length xs.length hi=xs.length)∧∀p,H p=none→Q (.ref p) (bS H p (.tup (lG xs lo hi)))
theorem wb:zY X (AU X.K):=by
 intro af s σ H x v vl vu lo hi sl Q I rx hs pl pu h;obtain⟨a,xs,rfl,hx,hw,q⟩:=h;cases rx;obtain⟨its,r,ht,hz⟩:=I.tuple hx;have hlen:its.toArray.size=xs.length:=by rw[size_toArray];exact r.length.symm
 refine⟨"tuple",_,PyProof.Rows.slot_tuple_getitem.lookup,ht.typeIs,?_⟩;refine HT.getItem_tuple_cut ht hs pl pu (by rw[hlen];exact hw) ?_ (by rw[hlen];exact hz);rw[hlen];refine⟨.ref s.heap.objs.size,_,I.laid (t':=s.toks) (o:=.tup (lG xs lo hi)) (fun b ob q=>Heap.get?_push_of_some _ q) (Nat.le_refl _) ?_,rfl,q _ (I.hok.fresh (Nat.le_refl _))⟩;exact⟨Nat.le_trans (gL xs lo hi) hz,_,(r.drop (HT.sIx xs.length 0 lo)).take (HT.sIx xs.length xs.length hi-HT.sIx xs.length 0 lo),IsTup.new _ _⟩
def ya (K:W.Frag):R2:=fun x y H Q=>∃a b xs ys,x=.ref a∧y=.ref b∧gP K H a xs∧gP K H b ys∧xs≠[]∧xs.length+ys.length≤sizeLine∧
 (ys=[]→Q (.ref a) H)∧(ys≠[]→∀p,H p=none→Q (.ref p) (bS H p (.tup (xs++ys))))
theorem aE.nil_iff {xs:List V}{us:List Value}(r:aE xs us):us=[]↔xs=[]:=by
 cases r with
 | nil=>simp
 | cons _ _=>simp
theorem sB:dB X (binaryOp .Add) (ya X.K):=by
 intro af s σ H x y v u Q I rx ry h;obtain⟨a,b,xs,ys,rfl,rfl,ha,hb,hx,hz,q1,q2⟩:=h;cases rx;cases ry;obtain⟨its,r1,p1,_⟩:=I.tuple ha;obtain⟨its2,r2,p2,_⟩:=I.tuple hb;refine HT.cat_tup p1 p2 (fun z=>hx (r1.nil_iff.mp z)) (fun z=>⟨.ref a,H,I,rfl,q1 (r2.nil_iff.mp z)⟩) (fun z=>?_) (by rw[←r1.length,←r2.length];exact hz);refine⟨.ref s.heap.objs.size,_,I.laid (t':=s.toks) (o:=.tup (xs++ys)) (fun b ob q=>Heap.get?_push_of_some _ q) (Nat.le_refl _) ?_,rfl,q2 (fun w=>z (r2.nil_iff.mpr w)) _ (I.hok.fresh (Nat.le_refl _))⟩;exact⟨by rw[length_append];exact hz,_,r1.append r2,IsTup.new _ _⟩
end
def n8 (n:Nat)(i:Int):Option Nat:=if 0≤i then(if i<n then some i.toNat else none) else if -(n:Int)≤i then some (i+n).toNat else none
def iS {α:Type}(xs:List α)(i:Int):Option α:=(n8 xs.length i).bind fun j=>xs[j]?
theorem mJ {n:Nat}{i:Int}{j:Nat}(h:n8 n i=some j):seqIndex? i n=some j∧j<n∧-(n:Int)≤i∧i<n:=by
 unfold n8 at h
 by_cases h0:0≤i
 ·rw[if_pos h0] at h
  by_cases h1:i<n
  ·rw[if_pos h1] at h;have e:i.toNat=j:=Option.some.inj h;exact⟨by rw[seqIndex_of h0 h1,e],by omega,by omega,h1⟩
  ·rw[if_neg h1] at h;cases h
 ·rw[if_neg h0] at h
  by_cases h1:-(n:Int)≤i
  ·rw[if_pos h1] at h;have e:(i+n).toNat=j:=Option.some.inj h;exact⟨by rw[seqIndex_neg (by omega) h1,e],by omega,h1,by omega⟩
  ·rw[if_neg h1] at h;cases h
theorem m9 {α:Type}{xs:List α}{i:Int}{v:α}(h:iS xs i=some v):∃j,seqIndex? i xs.length=some j∧xs[j]?=some v∧j<xs.length∧-(xs.length:Int)≤i∧i<xs.length:=by
 unfold iS at h;cases e:n8 xs.length i with
 | none=>rw[e] at h;cases h
 | some j=>
  rw[e] at h;obtain⟨h1,h2,h3,h4⟩:=mJ e;exact⟨j,h1,h,h2,h3,h4⟩
theorem fZ {α:Type}{xs:List α}{j:Nat}{v:α}(h:xs[j]?=some v):iS xs (j:Int)=some v:=by
 have hj:j<xs.length:=(List.getElem?_eq_some_iff.mp h).1;have e:n8 xs.length (j:Int)=some j:=by
  unfold n8;rw[if_pos (by omega),if_pos (by omega)];simp
 unfold iS;rw[e];exact h
def jU (b:Expr):Prop:=∀o i,subscripted b false o i=operate [o,i] (getItem o i)
def zO (X:Cx)(r:R2):Prop:=
 ∀(value slice:Expr) (af:List (Addr×Obj)) (s:Shared) (σ:St) (H:Hp) (x y:V) (v u:Value) (Q:VK),Inv X af σ H s→aM x v→aM y u→r x y H Q→
  subscripted slice false v u=operate [v,u] (getItem v u)→wpAny (model X.prog X.w) X.A (subscriptTail value slice v u) (EP X af σ Q) X.xe s
def Bd (X:Cx)(id:String)(r:V→List V→Hp→VK→Prop):Prop:=
 ∀(af:List (Addr×Obj)) (s:Shared) (σ:St) (H:Hp) (x:V) (xs:List V) (v:Value) (us:List Value) (Q:VK),Inv X af σ H s→aM x v→aE xs us→r x xs H Q→
  wpAny (model X.prog X.w) X.A (call (.builtin id) (v::us)) (EP X af σ Q) X.xe s
section
variable {X:Cx}{a b:Expr}{ta tb:TE}{pos:Pos}
theorem zj {r:R2}(hr:zO X r)(ha:PE X a ta)(hb:PE X b tb)(hs:jU b):PE X (.Subscript a b pos) (zl r ta tb):=by
 intro af s σ H Q I h;exact Subscript_ (vN ha hb I h fun v u s2 x y H2 I2 rx ry q=>hr a b af s2 σ H2 x y v u Q I2 rx ry q (hs _ _))
def AA (K:W.Frag):R2:=fun x y H Q=>∃p xs i v,x=.ref p∧y=.int i∧io K H p xs∧iS xs i=some v∧Q v H
def Ag (K:W.Frag):R2:=fun x y H Q=>∃p xs i v,x=.ref p∧y=.int i∧gP K H p xs∧iS xs i=some v∧Q v H
theorem tq:zO X (AA X.K):=by
 intro value slice af s σ H x y v u Q I rx ry h hs;obtain⟨p,xs,i,z,rfl,rfl,hq,he,q⟩:=h;cases rx;obtain⟨t,rfl⟩:=ry;obtain⟨its,r,pl,hz⟩:=I.list hq;obtain⟨j,h1,h2,h3,h4,h5⟩:=m9 he;obtain⟨w,ew,rw'⟩:=r.get h2;have hl:=r.length;have hn:=gE;have fin:EP X af σ Q w s:=⟨z,H,I,rw',q⟩
 by_cases h0:0≤i
 ·have hj:i.toNat=j:=by
   rw[seqIndex_of h0 h5] at h1;exact Option.some.inj h1
  exact item_listR pl.isList h0 (by omega) (by rw[hj];simpa using ew) fin hs
 ·have hj:(i+(its.toArray.size:Int)).toNat=j:=by
   rw[seqIndex_neg (by omega) h4] at h1;rw[size_toArray,←hl];exact Option.some.inj h1
  exact subscriptTail_builtinR (x:=w) pl.isList.typeIs slot_list_getitem.lookup
   (wpAny_getItem_list_neg (Q:=fun r s'=>r=w∧EP X af σ Q r s') pl.isList (by omega) (by rw[size_toArray] <;> omega) (by omega) (by rw[hj];simpa using ew) ⟨rfl,fin⟩) hs
theorem vM:zO X (Ag X.K):=by
 intro value slice af s σ H x y v u Q I rx ry h hs;obtain⟨p,xs,i,z,rfl,rfl,hq,he,q⟩:=h;cases rx;obtain⟨t,rfl⟩:=ry;obtain⟨its,r,pl,hz⟩:=I.tuple hq;obtain⟨j,h1,h2,h3,h4,h5⟩:=m9 he;obtain⟨w,ew,rw'⟩:=r.get h2;have hl:=r.length;have hn:=gE;have fin:EP X af σ Q w s:=⟨z,H,I,rw',q⟩;exact subscriptTail_builtinR (x:=w) pl.typeIs slot_tuple_getitem.lookup
  (getItem_tuple (j:=j) (Q:=fun r s'=>r=w∧EP X af σ Q r s') pl (by omega) (by omega) (by rw[size_toArray,←hl];exact h1) (by simpa using ew) ⟨rfl,fin⟩) hs
theorem lJ (its:List Value)(n j:Nat)(u:Value):Obj.mapSeq (·.setIfInBounds j u) {cls:=.type "list",data:=.seq its.toArray n}={cls:=.type "list",data:=.seq (its.set j u).toArray n}:=by
 simp[Obj.mapSeq]
theorem Inv.lst {af:List (Addr×Obj)}{σ:St}{H:Hp}{s:Shared}{p:Addr}{xs:List V}(I:Inv X af σ H s)(h:H p=some (.lst xs)) :
  ∃(its:List Value) (n:Nat),aE xs its∧s.heap.get? p=some {cls:=.type "list",data:=.seq its.toArray n}∧xs.length≤sizeLine:=by
 obtain⟨z,its,n,r,e⟩:=I.hok p _ h;exact⟨its,n,r,e,z⟩
theorem Inv.lstUpd {af:List (Addr×Obj)}{σ:St}{H:Hp}{s:Shared}{p:Addr}{xs ys:List V}{its its':List Value}{n n':Nat}{f:Obj→Obj}(I:Inv X af σ H s)(h:H p=some (.lst xs))
  (ho:s.heap.get? p=some {cls:=.type "list",data:=.seq its.toArray n}) (hf:f {cls:=.type "list",data:=.seq its.toArray n}={cls:=.type "list",data:=.seq its'.toArray n'}) (r:aE ys its') (hz:ys.length≤sizeLine) (t:Nat) :
  Inv X af σ (bS H p (.lst ys)) {s with heap:=s.heap.update p f,toks:=t}:=by
 have e:(s.heap.update p f).get? p=some {cls:=.type "list",data:=.seq its'.toArray n'}:=by
  rw[Heap.get?_update_self f ho (by rw[hf] <;> rfl),hf]
 refine I.write (x:=p) (e:=p) (by rw[h];trivial) (.inl rfl) (fun b u hb q=>(Heap.get?_update_other _ _ (Ne.symm hb)).trans q) ⟨_,e⟩ ?_;exact⟨hz,its',n',r,e⟩
def yL:V→V→V→Hp→(Hp→Prop)→Prop:=fun o i v H Q=>∃p xs k j,o=.ref p∧i=.int k∧H p=some (.lst xs)∧n8 xs.length k=some j∧Q (bS H p (.lst (xs.set j v)))
theorem pX:zn X yL:=by
 intro af s σ H o i v ov iv u Q I ro ri rv h;obtain⟨p,xs,k,j,rfl,rfl,hp,hj,q⟩:=h;cases ro;obtain⟨t,rfl⟩:=ri;obtain⟨its,n,r,ho,hz⟩:=I.lst hp;obtain⟨h1,h2,h3,h4⟩:=mJ hj;have hl:=r.length;have hn:=gE;have I':Inv X af σ (bS H p (.lst (xs.set j v))) {s with heap:=s.heap.update p (Obj.mapSeq (·.setIfInBounds j u))}:=
  I.lstUpd hp ho (lJ its n j u) (r.set rv j) (by rw[length_set];exact hz) s.toks
 by_cases h0:0≤k
 ·have hk:k.toNat=j:=by
   rw[seqIndex_of h0 h4] at h1;exact Option.some.inj h1
  exact W.ki_setAt ho h0 (by omega) (by rw[size_toArray,←hl];exact h4) (by rw[hk];exact⟨_,I',q⟩)
 ·have hk:(k+(its.toArray.size:Int)).toNat=j:=by
   rw[seqIndex_neg (by omega) h3] at h1;rw[size_toArray,←hl];exact Option.some.inj h1
  exact W.ki_setBack ho (by omega) (by rw[size_toArray,←hl];exact h3) (by omega) (by rw[hk];exact⟨_,I',q⟩)
theorem j3 (lo hi:Option Int)(n:Nat):(sliceBounds lo hi none n).1=((HT.sIx n 0 lo:Nat):Int)∧(sliceBounds lo hi none n).2.1=((HT.sIx n n hi:Nat):Int)∧(sliceBounds lo hi none n).2.2=1:=by
 refine⟨?_,?_,rfl⟩
 ·cases lo with
  | none=>simp[sliceBounds,HT.sIx]
  | some i=>
   simp only[sliceBounds,HT.sIx,Option.getD_none,show(1:Int)>0 by decide,if_true]
   by_cases h:i<0
   ·simp only[h,if_true] <;> omega
   ·simp only[h,if_false] <;> omega
 ·cases hi with
  | none=>simp[sliceBounds,HT.sIx]
  | some i=>
   simp only[sliceBounds,HT.sIx,Option.getD_none,show(1:Int)>0 by decide,if_true]
   by_cases h:i<0
   ·simp only[h,if_true] <;> omega
   ·simp only[h,if_false] <;> omega
theorem iY (its:List Value)(lo hi:Option Int):slicePick its.toArray lo hi none=((its.drop (HT.sIx its.length 0 lo)).take (HT.sIx its.length its.length hi-HT.sIx its.length 0 lo)).toArray:=by
 obtain⟨h1,h2,h3⟩:=j3 lo hi its.toArray.size;unfold slicePick;rw[h1,h2,h3];simp only[sliceRange_one,pick_run,size_toArray] <;> rfl
def AK (K:W.Frag):V→Option Int→Option Int→Hp→VK→Prop:=fun x lo hi H Q=>∃a xs,x=.ref a∧io K H a xs∧∀p,H p=none→Q (.ref p) (bS H p (.lst (lG xs lo hi)))
theorem j8:zY X (AK X.K):=by
 intro af s σ H x v vl vu lo hi sl Q I rx hs pl pu h;obtain⟨a,xs,rfl,hx,q⟩:=h;cases rx;obtain⟨its,r,ht,hz⟩:=I.list hx;have hlen:=r.length;refine⟨"list",_,slot_list_getitem.lookup,ht.isList.typeIs,?_⟩;refine wpAny_getItem_list_slice ht.isList hs pl pu .none (by simp) ?_ (by rw[size_toArray] <;> omega);rw[iY,←hlen];refine⟨.ref s.heap.objs.size,_,I.laid (t':=s.toks) (o:=.lst (lG xs lo hi)) (fun b ob q=>Heap.get?_push_of_some _ q) (Nat.le_refl _) ?_,rfl,q _ (I.hok.fresh (Nat.le_refl _))⟩;exact⟨Nat.le_trans (gL xs lo hi) hz,_,0,(r.drop (HT.sIx xs.length 0 lo)).take (HT.sIx xs.length xs.length hi-HT.sIx xs.length 0 lo),Heap.get?_push_size _ rfl⟩
theorem j5:bN X (.builtin "len") (fun xs H Q=>∃p ys,xs=[.ref p]∧(io X.K H p ys∨gP X.K H p ys)∧Q (.int ys.length) H):=by
 intro af s σ H xs us Q I r h;obtain⟨p,ys,rfl,hq,q⟩:=h;obtain⟨u,rfl,rx⟩:=jv r;cases rx;have hn:=gE;rcases hq with hq|hq
 ·obtain⟨its,r',pl,hz⟩:=I.list hq;have hlen:=r'.length;exact Calls.call_len_list pl.isList (by simp only[size_toArray] <;> omega) ⟨.int ys.length,H,I.tok _,⟨s.toks+1,by rw[size_toArray,hlen]⟩,q⟩
 ·obtain⟨its,r',pl,hz⟩:=I.tuple hq;have hlen:=r'.length;exact len_tuple pl (by simp only[size_toArray] <;> omega) ⟨.int ys.length,H,I.tok _,⟨s.toks+1,by rw[size_toArray,hlen]⟩,q⟩
theorem j7:bN X (.builtin "len") (fun xs H Q=>∃z,xs=[.str z]∧z.length≤sizeLine∧Q (.int z.length) H):=by
 intro af s σ H xs us Q I r h;obtain⟨z,rfl,hz,q⟩:=h;obtain⟨u,rfl,t,rfl⟩:=jv r;have hn:=gE;exact len_str (by omega) ⟨.int z.length,H,I.tok _,⟨_,rfl⟩,q⟩
theorem fT:bN X (.type "list") (fun xs H Q=>∃p ys,xs=[.ref p]∧(io X.K H p ys∨gP X.K H p ys)∧∀l,H l=none→Q (.ref l) (bS H l (.lst ys))):=by
 intro af s σ H xs us Q I r h;obtain⟨p,ys,rfl,hq,q⟩:=h;obtain⟨u,rfl,rx⟩:=jv r;cases rx;have fin:∀(its:List Value),aE ys its→ys.length≤sizeLine→∀(h':Heap) (c':Nat),(∀b o',s.heap.get? b=some o'→h'.get? b=some o')→
   h'.get? s.heap.objs.size=some {cls:=.type "list",dict:=none,data:=.seq its.toArray c',slots:=#[]}→EP X af σ Q (.ref s.heap.objs.size) {s with heap:=h'}:=fun its r' hz h' c' kp e=>
  ⟨.ref s.heap.objs.size,_,I.laid (t':=s.toks) kp (Nat.le_refl _) (show bA X.prog X.w _ h' _ (.lst ys) from⟨hz,its,c',r',e⟩),rfl,q _ (I.hok.fresh (Nat.le_refl _))⟩
 rcases hq with hq|hq
 ·obtain⟨its,r',pl,hz⟩:=I.list hq;have hlen:=r'.length;obtain⟨o,ho,hc,n,hd⟩:=pl.isList;exact call_list_seq p (.inl rfl) ho hc hd (fun h' c' kp e=>fin its r' hz h' c' kp e) (by simp only[size_toArray] <;> omega)
 ·obtain⟨its,r',pl,hz⟩:=I.tuple hq;have hlen:=r'.length;obtain⟨o,ho,hc,n,hd⟩:=pl;exact call_list_seq p (.inr rfl) ho hc hd (fun h' c' kp e=>fin its r' hz h' c' kp e) (by simp only[size_toArray] <;> omega)
theorem cF:bN X (.type "tuple") (fun xs H Q=>∃p ys,xs=[.ref p]∧((io X.K H p ys∧∀l,H l=none→Q (.ref l) (bS H l (.tup ys)))∨(gP X.K H p ys∧Q (.ref p) H))):=by
 intro af s σ H xs us Q I r h;obtain⟨p,ys,rfl,h⟩:=h;obtain⟨u,rfl,rx⟩:=jv r;cases rx;rcases h with⟨hq,q⟩|⟨hq,q⟩
 ·obtain⟨its,r',pl,hz⟩:=I.list hq;have hlen:=r'.length;refine call_tuple_list pl.isList (fun h' kp=>?_) (by simp only[size_toArray] <;> omega);have I1:Inv X af σ H {s with heap:=h'}:=I.kept (t':=s.toks) kp;have I2:Inv X af σ (bS H h'.objs.size (.tup ys)) {s with heap:=h'.push {cls:=.type "tuple",data:=.seq its.toArray}}:=
   I1.laid (t':=s.toks) (fun b o e=>Heap.get?_push_of_some _ e) (Nat.le_refl _) (show bA X.prog X.w _ _ _ (.tup ys) from⟨hz,its,r',IsTup.new _ _⟩)
  exact⟨.ref h'.objs.size,_,I2,rfl,q _ (I1.hok.fresh (Nat.le_refl _))⟩
 ·obtain⟨its,r',pl,hz⟩:=I.tuple hq;exact call_tuple_same pl ⟨.ref p,H,I,rfl,q⟩
def Ba (K:W.Frag)(T:String)(x:V)(H:Hp):Prop:=match x with
 | .str _=>T="str"
 | .int _=>T="int"
 | .ref p=>(T="list"∧∃xs,io K H p xs)∨(T="tuple"∧∃o,K.lookup p=some o∧o.cls=.type "tuple"∧o.dict=none)∨
   (T="dict"∧((∃kvs,H p=some (.dK kvs))∨∃kvs,H p=some (.dT kvs)))∨(T="set"∧∃S n,H p=some (.set S n))
 | _=>False
theorem vF {af:List (Addr×Obj)}{σ:St}{H:Hp}{s:Shared}{T:String}{x:V}{v:Value}(I:Inv X af σ H s)(r:aM x v)(ty:Ba X.K T x H) :
  s.TypeIs v T∧∀a,v=.ref a→∃ob,s.heap.get? a=some ob∧ob.dict=none:=by
 cases x with
 | str z=>
  obtain⟨t,rfl⟩:=r;cases (show T="str" from ty);exact⟨typeIs_str s z t,fun _ e=>nomatch e⟩
 | int i=>
  obtain⟨t,rfl⟩:=r;cases (show T="int" from ty);exact⟨typeIs_int s i t,fun _ e=>nomatch e⟩
 | ref p=>
  cases r;rcases ty with⟨rfl,xs,hq⟩|⟨rfl,o,hk,hc,hd⟩|⟨rfl,hk⟩|⟨rfl,S,n,hk⟩
  ·obtain⟨its,_,pl,_⟩:=I.list hq;refine⟨pl.isList.typeIs,fun a e=>?_⟩;cases e;obtain⟨o,n,e,c,hd,_⟩:=pl;exact⟨o,e,hd⟩
  ·refine⟨⟨o,I.kIn p o hk,hc⟩,fun a e=>?_⟩;cases e;exact⟨o,I.kIn _ o hk,hd⟩
  ·have z:∃o,s.heap.get? p=some o∧o.ExactDict:=by
    rcases hk with⟨kvs,hk⟩|⟨kvs,hk⟩
    ·obtain⟨_,_,_,_,o,_,_,e,ex,_⟩:=I.hok p _ hk;exact⟨o,e,ex⟩
    ·obtain⟨_,_,_,_,o,_,_,e,ex,_⟩:=I.hok p _ hk;exact⟨o,e,ex⟩
   obtain⟨o,e,ex⟩:=z;refine⟨⟨o,e,ex.1⟩,fun a e2=>?_⟩;cases e2;exact⟨o,e,ex.2.1⟩
  ·obtain⟨o,_,_,_,e,ex,_⟩:=I.hok p _ hk;refine⟨⟨o,e,ex.1⟩,fun a e2=>?_⟩;cases e2;exact⟨o,e,ex.2.1⟩
 | _=>exact False.elim ty
def A5 (K:W.Frag)(T:String)(r:V→List V→Hp→VK→Prop)(to:TE)(t:TA):TE:=fun σ H Q=>to σ H fun x H1=>Ba K T x H1∧t σ H1 fun xs H2=>r x xs H2 Q
variable {o e:Expr}{es:List Expr}{to:TE}{t:TA}{name:Str}{apos cpos:Pos}{T id:String}{r:V→List V→Hp→VK→Prop}
theorem ur (pa:PlainAttrs T)(slot:Slot T name id)(hty:typeOf (.builtin id)=pure (.type "method_descriptor"))(hm:Bd X id r)(ho:PE X o to)(ha:PA X (e::es) t)
  (hbase:attributeBase o name X.env (eval o X.env)=eval o X.env:=by rfl)
  (hfew:((backTo cpos (starEach (e::es) X.env)).all (fun x=>!x.1)&&(backToKw cpos (keywordEach [] X.env)).all (fun x=>x.1.isSome)
   && decide ((e::es).length+([]:List Keyword).length+(if([]:List Keyword).isEmpty then 0 else 1)<30))=true:=by rfl)
  (hline:(apos.endLine==cpos.line)=true:=by rfl) (hs:starEach (e::es) X.env=(false,eval e X.env)::starEach es X.env:=by rfl) (hplain:(backTo cpos (starEach es X.env)).any (·.1)=false:=by rfl) :
  PE X (.Call (.Attribute o name apos) (e::es) [] cpos) (A5 X.K T r to t):=by
 intro af s σ H Q I h;refine wpAny_Call_method_late hbase hfew hline rfl (bV (ho af s σ H _ I h) fun v s1 hxx=>?_);obtain⟨x,H1,I1,r1,ty,q1⟩:=hxx;obtain⟨h1,h2⟩:=vF I1 r1 ty;refine⟨T,id,pa,slot,hty,h1,h2,?_⟩;have hA:=ha cpos af s1 σ H1 _ I1 q1;rw[hs] at hA ⊢;refine Calls.callWith_builtin (by show(false||(backTo cpos (starEach es X.env)).any (·.1))=false;rw[hplain] <;> rfl) (Calls.evalArgs_plain ?_);exact bV hA fun us s2 ⟨vs,H2,I2,r2,q2⟩=>hm af s2 σ H2 x vs v us Q I2 r1 r2 q2
end
def Bm (X:Cx)(id:String)(r:V→List V→Hp→VK→Prop):Prop:=
 ∀(af:List (Addr×Obj)) (s:Shared) (σ:St) (H:Hp) (x:V) (xs:List V) (v:Value) (us:List Value) (Q:VK),Inv X af σ H s→aM x v→aE xs us→r x xs H Q→
  wpAny (model X.prog X.w) X.A (call (.builtin id) (v::us)) (EP X af σ Q) X.xe s
theorem aE.one:∀{x:V} {us:List Value},aE [x] us→∃u,us=[u]∧aM x u
 | _,_,.cons r .nil=>⟨_,rfl,r⟩
section
variable {X:Cx}{af:List (Addr×Obj)}{σ:St}{H:Hp}{s:Shared}{l b:Addr}{xs ys zs:List V}
theorem Inv.lset {its its':List Value}{n:Nat}{f:Array Value→Array Value}{t':Nat}(I:Inv X af σ H s)(hH:H l=some (.lst xs))
  (e:s.heap.get? l=some {cls:=.type "list",data:=.seq its.toArray n}) (hf:f its.toArray=its'.toArray) (hv:aE ys its') (hz:ys.length≤sizeLine) :
  Inv X af σ (bS H l (.lst ys)) {s with heap:=s.heap.update l (Obj.mapSeq f),toks:=t'}:=by
 have q:=PySem.IsL.update e f;rw[hf] at q;refine I.write (x:=l) (e:=l) (by rw[hH];exact trivial) (.inl rfl) (fun b' u hb hu=>(Heap.get?_update_other s.heap (Obj.mapSeq f) (Ne.symm hb)).trans hu) ⟨_,q⟩ ?_;exact⟨hz,its',_,hv,q⟩
theorem Inv.lnew {its:List Value}{t':Nat}(I:Inv X af σ H s)(hv:aE ys its)(hz:ys.length≤sizeLine) :
  Inv X af σ (bS H s.heap.objs.size (.lst ys)) {s with heap:=s.heap.push {cls:=.type "list",data:=.seq its.toArray},toks:=t'}:=
 I.laid (fun _ _ q=>Heap.get?_push_of_some _ q) (Nat.le_refl _) ⟨hz,its,0,hv,Heap.get?_push_size _ rfl⟩
theorem Inv.fresh (I:Inv X af σ H s):H s.heap.objs.size=none:=I.hok.fresh (Nat.le_refl _)
theorem Inv.lstM (I:Inv X af σ H s)(hH:H l=some (.lst xs)):xs.length≤sizeLine∧∃(its:List Value) (n:Nat),aE xs its∧xs.length=its.length∧s.heap.get? l=some {cls:=.type "list",data:=.seq its.toArray n}:=by
 obtain⟨z,its,n,r,e⟩:=I.hok l _ hH;exact⟨z,its,n,r,r.length,e⟩
end
section
variable {X:Cx}
def rO:V→List V→Hp→VK→Prop:=fun x vs H Q=>∃l xs y,x=.ref l∧vs=[y]∧H l=some (.lst xs)∧xs.length<sizeLine∧Q .non (bS H l (.lst (xs++[y])))
theorem nJ:Bm X "list.append" rO:=by
 intro af s σ H x vs v us Q I rx rv h;obtain⟨l,xs,y,rfl,rfl,hH,hz,q⟩:=h;cases rx;obtain⟨u,rfl,ru⟩:=rv.one;obtain⟨z,its,n,r,hl,e⟩:=I.lstM hH;refine call_meets F.slot_list_append ⟨_,e,rfl⟩ F.entry_list_append (F.args_list_append_2 _ _) (PySem.list_append l its.toArray n u (by rw[size_toArray];omega)) ⟨e,?_⟩;refine⟨.non,_,I.lset (its':=its++[u]) hH e (by simp) (r.append (.cons ru .nil)) ?_,rfl,q⟩;rw[length_append,length_singleton];omega
def AW:R2:=fun x y H Q=>∃l b xs zs,x=.ref l∧y=.ref b∧H l=some (.lst xs)∧H b=some (.lst zs)∧xs.length+zs.length≤sizeLine∧∀p,H p=none→Q (.ref p) (bS H p (.lst (xs++zs)))
theorem xa:dB X (binaryOp .Add) AW:=by
 intro af s σ H x y v u Q I rx ry h;obtain⟨l,b,xs,zs,rfl,rfl,hH,hB,hz,q⟩:=h;cases rx;cases ry;obtain⟨z,its,n,r,hl,e⟩:=I.lstM hH;obtain⟨z2,its2,n2,r2,hl2,e2⟩:=I.lstM hB;refine PySem.P.add_list e e2 ?_ (by rw[size_toArray,size_toArray];omega);have ea:its.toArray++its2.toArray=(its++its2).toArray:=by simp
 rw[ea];exact⟨.ref _,_,I.lnew (t':=s.toks) (r.append r2) (by rw[length_append];omega),rfl,q _ I.fresh⟩
end
end L2
namespace Att
open PySem PySem.W PySem.Calls PyProof.Rows
theorem gV {P:Params}{h:Heap}:∀(ns:List Int) (vs:List Value),WellAll P h vs (ns.map WData.int)→IntsAre vs ns:=by
 intro ns
 induction ns with
 | nil=>
  intro vs w;rw[List.map_nil] at w;cases w;exact .nil
 | cons n ns ih=>
  intro vs w;rw[List.map_cons] at w;cases w with
  | cons a b=>
   cases a;exact .cons _ _ (ih _ b)
theorem og {l:OpenLaw}{n:Nat}(hn:l.most=some n){P:Params}{h:Heap}{args:List WData}{vals:List Value}
  (hpre:l.row.toRowW.claim.pre args=true) (hwl:WellAll P h vals args) :
  ∃a vs ns,vals=[Value.ref a]∧args=[WData.list (ns.map WData.int)]∧h.get? a=some {cls:=.type "list",data:=.seq vs.toArray}∧IntsAre vs ns∧ns.length≤n:=by
 have hsh:WShape.hasAll [] args [.list .int]=true:=(pre_splitW hpre).1;have hc:l.pre.holds [] {args:=args}=true:=(pre_splitW hpre).2;obtain⟨d,r,rfl,h1,h2⟩:=hasAllW_cons hsh;obtain rfl:=hasAllW_nil h2;obtain⟨xs,rfl,h3⟩:=hasW_list h1;obtain⟨ns,rfl⟩:=items_int h3;have hlen:ns.length≤n:=by
  unfold OpenLaw.pre at hc;have h4:(WTm.not (.lt (.lit (.int (n:Int))) (.len (.arg 0)))).holds [] {args:=[.list (ns.map .int)]}=true:=by
   have h4:=(holds_andW hc).1;rw[hn] at h4;exact h4
  have h5:=condW_of h4 (w_not (w_lt w_lit (w_len_list (w_arg rfl))));rw[List.length_map] at h5;refine Nat.le_of_not_lt fun q=>?_
  have q':(n:Int)<((ns.length:Nat):Int):=by omega
  first
   | (rw[decide_eq_true q'] at h5;exact absurd h5 (by decide))
   | (simp at h5;omega)
 cases hwl with
 | cons w1 w2=>
  cases w2;cases w1 with
  | list ho hall=>exact⟨_,_,ns,rfl,rfl,ho,gV ns _ hall,hlen⟩
theorem nL (l:OpenLaw)(args:List WData):l.row.toRowW.claim.post args (.bool true) args=true:=
 postW_of (r:=l.row.toRowW) (X:=(true==true))
  (show WShape.has [] (.bool true) .bool=true by first|rfl|decide|simp[WShape.has,WShape.arms,WShape.armsAll])
  (show(WTm.eq .res (.lit (.bool true))).value [] {args:=args,res:=some (.bool true),after:=args}=some (.bool (true==true)) from w_eq_bool (w_res rfl) w_lit) rfl
theorem attach_call {l:OpenLaw}{n:Nat}{q:Program}{loose:List Str}{XP:(Str→Option Value)→Heap→Prop}{YP:World→Heap→Prop}{d:DefRec}
  (hn:l.most=some n) (hdf:d.params.defaults=[])
  (call:∀(w:World) (s₀ s₁:Shared) (mg mb:Str→Option Value) (fa:Addr) (o:Obj) (pm cd doc:Value) (a:Addr) (vs:List Value) (ns:List Int),
   Ground q loose [] XP w s₀ mg mb s₁.heap→YP w s₁.heap→
   s₁.heap.get? fa=some o→o.data=.func (docDef d.name d.params d.body d.scope pm cd doc)→s₁.heap.CodeRec cd d.name→mg d.name=some (.ref fa)→
   s₁.heap.get? a=some {cls:=.type "list",data:=.seq vs.toArray}→IntsAre vs ns→ns.length≤n→s₁.gens=#[]→
   codeAny (model l.prog w) callerA (.call (.ref fa) ⟨[.ref a],[]⟩) (fun r s'=>r=.ok (.ret (.bool true))∧OldK s₁.heap s'.heap∧s'.os=s₁.os∧AllBare s'.gens) s₁) :
  WalkO q loose XP YP l.row.toRowW d [] (fun f vs=>PySem.call f vs):=by
 intro w s₀ s₁ mg mb G Y fa o pm cd doc dV kV ho hd hcd hD hmg hg args vals as hpre hlay hrd hwl hlo;obtain rfl:dV=.none:=Dflts.none hD hdf;obtain rfl:kV=.none:=Dflts.noKw hD;obtain⟨a,vs,ns,rfl,rfl,hobj,hints,hlen⟩:=og hn hpre hwl;refine enter_call (codeAny_mono (call w s₀ s₁ mg mb fa o pm cd doc a vs ns G Y ho (fd_plain hd) hcd hmg hobj hints hlen hg) fun r s' hq=>?_);obtain⟨rfl,h2,h3,h4⟩:=hq;exact⟨.inl ⟨.bool true,.bool true,[],rfl,fun _=>rfl,.bool true,nL l _,fun _=>⟨List.Pairwise.nil,fun _ hm=>(nomatch hm)⟩⟩,h2,h3,h4⟩
end Att
namespace L2
open PySem PySem.Spec PyProof.Rows List
theorem jd:∀{vs:List Value} {ns:List Int},IntsAre vs ns→aE (ns.map V.int) vs
 | _,_,.nil=>.nil
 | _,_,.cons n t h=>.cons ⟨t,rfl⟩ (jd h)
def uW (H:Hp):Prop:=∀b,H b=none∨∃o xs,H b=some (.frz o (.lst xs))
theorem o7 {P:Program}{w:World}{K:W.Frag}{mg mb:Str→Option Value}{CX:oF}{k:Nat}{fa a:Addr}{fd:FuncData}{x:Str}{sp:Sp}{s₁:Shared}{vs:List Value}{ns:List Int}
  (KX:K.In s₁.heap) (hns:s₁.heap.Ns mainGlobals mg) (hb:s₁.heap.Ns builtinsNs mb) (hbb:∀x:Str,x≠"__name__"→mb x=bootBuiltins x) (hlim:s₁.heap.NoLimit) (hg:s₁.gens=#[])
  (ha:s₁.heap.get? a=some {cls:=.type "list",data:=.seq vs.toArray}) (hi:IntsAre vs ns) (hl:ns.length≤sizeLine) (hr:cc k callerA)
  (F:∀base:Heap,K.In base→base.Ns mainGlobals mg→dD P w K mg base CX k fa fd [x] sp) (hbind:∀(s:Shared) (u:Value),BindsTo s fd ⟨[u],[]⟩ [(x,u)])
  (hsp:∀H:Hp,uW H→io K H a (ns.map V.int)→sp [.ref a] H (fun v _=>v=.bl true) fun _ _ _=>False)
  (hCX:∀H e s',CX [] H s₁ (fun _ _ _=>False) e s'→False) :
  codeAny (model P w) callerA (.call (.ref fa) ⟨[.ref a],[]⟩) (fun r s'=>r=.ok (.ret (.bool true))∧OldK s₁.heap s'.heap∧s'.os=s₁.os∧AllBare s'.gens) s₁:=by
 have rv:=jd hi;have lenV:=hi.length;have core:∀H:Hp,uW H→io K H a (ns.map V.int)→fc P w H s₁.heap→(∀b,H b≠none→b=a)→(H a≠none→K.lookup a=none)→
   codeAny (model P w) callerA (.call (.ref fa) ⟨[.ref a],[]⟩) (fun r s'=>r=.ok (.ret (.bool true))∧OldK s₁.heap s'.heap∧s'.os=s₁.os∧AllBare s'.gens) s₁:=by
  intro H hO hS hok hA hK;have base_of:∀{b:Addr} {o:Obj},s₁.heap.get? b=some o→H b=none→(kA s₁.heap H).get? b=some o:=fun e n=>qO e n
  have noA:∀{b:Addr} {o:Obj} {es:Array DictEntry} {ep:Nat},s₁.heap.get? b=some o→o.data=.dict es ep→H b=none:=fun {b o es ep} e d=>by
   cases q:H b with
   | none=>rfl
   | some u=>
    have e':b=a:=hA b (by rw[q];simp);subst e';rw[ha] at e;cases e;have d':Data.seq vs.toArray _=Data.dict es ep:=d;cases d'
  have nsK:∀{b:Addr} {m:Str→Option Value},s₁.heap.Ns b m→(kA s₁.heap H).Ns b m:=fun {b m} ⟨o,es,ep,e,d,r⟩=>⟨o,es,ep,base_of e (noA e d),d,r⟩
  have hKb:K.In (kA s₁.heap H):=fun b o e=>base_of (KX b o e) (by
   cases q:H b with
   | none=>rfl
   | some u=>
    have e':b=a:=hA b (by rw[q];simp);subst e';rw[hK (by rw[q];simp)] at e;cases e)
  have hM:Mod K mg (kA s₁.heap H):=⟨hKb,nsK hns,⟨mb,nsK hb,hbb⟩,let ⟨mc,h1,h2⟩:=hlim;⟨mc,nsK h1,h2⟩⟩;have e0:sC P w K mg (kA s₁.heap H) callerA [] s₁ H:=⟨rfl,hM,fun b o e=>ub e,Nat.le_of_eq (nw _ _),trivial,fun b hb=>absurd (show b∈([]:List Addr) from hb) (by simp),hok,.of_eq hg⟩;refine codeAny_mono ((F _ hKb (nsK hns)).run callerA [] s₁ H ⟨[.ref a],[]⟩ [.ref a] [.ref a] _ _ hr e0 (hbind s₁ (.ref a)) (.cons rfl .nil) (hsp H hO hS)) fun r s' h=>?_
  cases r with
  | error e=>exact(hCX H e s' h).elim
  | ok fl=>
   cases fl with
   | next=>exact False.elim h
   | brk=>exact False.elim h
   | cont=>exact False.elim h
   | ret u=>
    obtain⟨v,H',os,bare,un,hok',r',q⟩:=h;have q':v=.bl true:=q;subst q';obtain rfl:u=Value.bool true:=r';refine⟨rfl,OldK.of_keep fun b o e=>?_,os,bare⟩;cases q:H b with
    | none=>exact un.keep b o e q (by intro z;exact absurd (show b∈([]:List Addr) from z) (by simp)) (by simp)
    | some u=>
     rcases hO b with z|⟨ob,xs,z⟩
     ·rw[q] at z;cases z
     ·have z2:=un.frzs b ob _ z;obtain⟨e1,_⟩:=hok b _ z;obtain⟨e2,_⟩:=hok' b _ z2;rw[e] at e1;cases e1;exact e2
 cases hk:K.lookup a with
 | some o=>
  have e:=KX a o hk;rw[ha] at e;cases e;refine core (fun _=>none) (fun _=>.inl rfl) (.inr ⟨_,vs.toArray,_,hk,rfl,rfl,rfl,by rw[size_toArray,lenV];exact hl,by simpa using rv⟩) (fun b u z=>by have z':(none:Option HO)=some u:=z;cases z') (fun b z=>absurd rfl z) fun z=>absurd rfl z
 | none=>
  refine core (fun b=>if b=a then some (.frz {cls:=.type "list",data:=.seq vs.toArray} (.lst (ns.map V.int))) else none) (fun b=>?_) (.inl (.inr ⟨{cls:=.type "list",data:=.seq vs.toArray},if_pos rfl⟩)) (fun b u z=>?_) (fun b z=>?_) fun _=>hk
  ·by_cases hb:b=a
   ·exact .inr ⟨_,_,if_pos hb⟩
   ·exact .inl (if_neg hb)
  ·by_cases hb:b=a
   ·have z':=(if_pos hb).symm.trans z;cases z';subst hb;exact⟨ha,by rw[length_map];exact hl,vs,_,rv,ha⟩
   ·have z':=(if_neg hb).symm.trans z;cases z'
  ·by_cases hb:b=a
   ·exact hb
   ·exact absurd (if_neg hb) z
theorem walk_of {l:W.OpenLaw}{n k:Nat}{q:Program}{loose:List Str}{XP:(Str→Option Value)→Heap→Prop}{YP:World→Heap→Prop}{d:DefRec}{K:Params→W.Frag}{CX:World→oF}{sp:World→Sp}{x:Str}
  (hn:l.most=some n) (hn2:n≤sizeLine) (hdf:d.params.defaults=[]) (hr:cc k callerA)
  (hY:∀(w:World) (h:Heap),YP w h→(K w.params).In h)
  (F:∀(w:World) (mg:Str→Option Value) (fa:Addr) (h:Heap),(K w.params).In h→h.Ns mainGlobals mg→mg d.name=some (.ref fa)→
   ∃fd:FuncData,(∀(s:Shared) (u:Value),BindsTo s fd ⟨[u],[]⟩ [(x,u)])∧
    ∀base:Heap,(K w.params).In base→base.Ns mainGlobals mg→dD l.prog w (K w.params) mg base (CX w) k fa fd [x] (sp w))
  (hsp:∀(w:World) (H:Hp) (a:Addr) (ns:List Int),ns.length≤n→uW H→io (K w.params) H a (ns.map V.int)→sp w [.ref a] H (fun v _=>v=.bl true) fun _ _ _=>False)
  (hCX:∀(w:World) (H:Hp) (s:Shared) (e:Value) (s':Shared),CX w [] H s (fun _ _ _=>False) e s'→False) :
  W.WalkO q loose XP YP l.row.toRowW d [] (fun f vs=>PySem.call f vs):=by
 refine Att.attach_call hn hdf fun w s₀ s₁ mg mb fa o pm cd doc a vs ns G Y ho hd hcd hmg hobj hints hlen hg=>?_
 have KX:=hY w _ Y;obtain⟨fd,hb,hF⟩:=F w mg fa _ KX G.T.g hmg;exact o7 KX G.T.g G.T.b G.T.builtins G.T.nolimit hg hobj hints (Nat.le_trans hlen hn2) hr hF hb (fun H hO hS=>hsp w H a ns hlen hO hS) fun H e s'=>hCX w H s₁ e s'
def dX (s:Stmt):Arguments:=match s with
 | .FunctionDef _ a _ _ _ _ _ _ _ _=>a
 | _=>{posonlyargs:=[],args:=[],vararg:=none,kwonlyargs:=[],kw_defaults:=[],kwarg:=none,defaults:=[]}
def cI (s:Stmt):List Stmt:=match s with
 | .FunctionDef _ _ b _ _ _ _ _ _ _=>b
 | _=>[]
def aZ (s:Stmt):Scope:=match s with
 | .FunctionDef _ _ _ _ _ _ sc _ _ _=>sc
 | _=>{kind:=.function,names:=[],isGenerator:=false,isCoroutine:=false}
structure vS (K:W.Frag)(x qual:Str)(st:Stmt)(f:Addr)(fd:FuncData):Prop where
 ex:∃(oc:Value) (od:Option Addr) (kV doc pm:Value) (an:Option Addr) (cdv ct:Value) (osl:Array (Option Value)),
  fd=W.fnOf x qual (dX st) (cI st) (aZ st) .none kV doc pm an cdv ct∧K.lookup f=some ⟨oc,od,.func fd,osl⟩∧W.codeIn K cdv qual=true
 kp:W.keepIn K (.ref f)=true
section
variable {P:Program}{w:World}{K:W.Frag}{mg:Str→Option Value}{base:Heap}
theorem vS.binds {x qual:Str}{st:Stmt}{f:Addr}{fd:FuncData}{ps:List Str}(F:vS K x qual st f fd)
  (h:∀(kV doc pm:Value) (an:Option Addr) (cdv ct:Value) (us:List Value),us.length=ps.length→bindArgs (W.fnOf x qual (dX st) (cI st) (aZ st) .none kV doc pm an cdv ct) ⟨us,[]⟩=pure (ps.zip us)):ej K fd ps []:=by
 obtain⟨oc,od,kV,doc,pm,an,cdv,ct,osl,rfl,lk,hcd⟩:=F.ex;exact .all (h kV doc pm an cdv ct)
theorem oG {x qual:Str}{st:Stmt}{f:Addr}{oc:Value}{od an:Option Addr}{osl:Array (Option Value)}{kV doc pm cdv ct:Value}(l:K.lookup f=some ⟨oc,od,.func (W.fnOf x qual (dX st) (cI st) (aZ st) .none kV doc pm an cdv ct),osl⟩)
  (c:W.codeIn K cdv qual=true) (k:W.keepIn K (.ref f)=true):vS K x qual st f (W.fnOf x qual (dX st) (cI st) (aZ st) .none kV doc pm an cdv ct):=⟨⟨oc,od,kV,doc,pm,an,cdv,ct,osl,rfl,l,c⟩,k⟩
end
section
variable {κ:Type}[DecidableEq κ]
def eX (kvs:List (κ×V))(k:κ):Option V:=(kvs.find? fun kv=>decide (kv.1=k)).map (·.2)
def gu (kvs:List (κ×V))(k:κ)(v:V):List (κ×V):=
 if(kvs.any fun kv=>decide (kv.1=k))=true then kvs.map (fun kv=>if kv.1=k then(kv.1,v) else kv) else kvs++[(k,v)]
theorem fU {p:κ×V}{r:List (κ×V)}{k:κ}(e:p.1=k):eX (p::r) k=some p.2:=by simp[eX,find?_cons,e]
theorem fW {p:κ×V}{r:List (κ×V)}{k:κ}(e:¬p.1=k):eX (p::r) k=eX r k:=by simp[eX,find?_cons,e]
theorem ij (k:κ):∀kvs:List (κ×V),(kvs.any fun kv=>decide (kv.1=k))=(eX kvs k).isSome
 | []=>rfl
 | p::r=>by
  rw[any_cons]
  by_cases e:p.1=k
  ·simp only[fU e,decide_eq_true e,Bool.true_or,Option.isSome_some]
  ·rw[fW e,decide_eq_false e,Bool.false_or];exact ij k r
theorem gM (kvs:List (κ×V))(k:κ)(v:V):(gu kvs k v).length≤kvs.length+1:=by
 unfold gu;split
 ·rw[length_map];omega
 ·rw[length_append,length_cons,length_nil];omega
theorem oN {kvs:List (κ×V)}{k:κ}(v:V)(h:eX kvs k=none):gu kvs k v=kvs++[(k,v)]:=by
 unfold gu;rw[ij,h];exact if_neg (by decide)
theorem i6.isSome_eq {o:Option V}{u:Option Value}(r:i6 o u):o.isSome=u.isSome:=by
 cases o with
 | none=>cases u with
  | none=>rfl
  | some _=>exact(show False from r).elim
 | some _=>cases u with
  | none=>exact(show False from r).elim
  | some _=>rfl
theorem KV.val {kvs:List (κ×V)}{vs:List (κ×Value)}(r:KV kvs vs)(k:κ):i6 (eX kvs k) (valueAt vs k):=by
 unfold KV at r
 induction r with
 | nil=>exact True.intro
 | @cons p q ps qs h t ih=>
  obtain⟨h1,h2⟩:=h
  by_cases e:p.1=k
  ·have e':q.1=k:=h1.symm.trans e;have b:valueAt (q::qs) k=some q.2:=by simp[valueAt,find?_cons,e']
   rw[fU e,b];exact h2
  ·have e':¬q.1=k:=fun z=>e (h1.trans z)
   have b:valueAt (q::qs) k=valueAt qs k:=by simp[valueAt,find?_cons,e']
   rw[fW e,b];exact ih
theorem KV.any {kvs:List (κ×V)}{vs:List (κ×Value)}(r:KV kvs vs)(k:κ):(kvs.any fun kv=>decide (kv.1=k))=vs.any fun kv=>decide (kv.1=k):=by
 unfold KV at r
 induction r with
 | nil=>rfl
 | cons h t ih=>rw[any_cons,any_cons,ih,h.1]
theorem KV.repl {kvs:List (κ×V)}{vs:List (κ×Value)}(r:KV kvs vs)(k:κ){y:V}{u:Value}(ry:aM y u) :
  KV (kvs.map fun kv=>if kv.1=k then(kv.1,y) else kv) (vs.map fun kv=>if kv.1=k then(kv.1,u) else kv):=by
 unfold KV at r ⊢
 induction r with
 | nil=>exact .nil
 | @cons p q ps qs h t ih=>
  rw[map_cons,map_cons];refine .cons ?_ ih;obtain⟨h1,h2⟩:=h
  by_cases e:p.1=k
  ·rw[if_pos e,if_pos (h1.symm.trans e)];exact⟨h1,ry⟩
  ·rw[if_neg e,if_neg (fun z=>e (h1.trans z))];exact⟨h1,h2⟩
theorem KV.put {kvs:List (κ×V)}{vs:List (κ×Value)}(r:KV kvs vs)(k:κ){y:V}{u:Value}(ry:aM y u):KV (gu kvs k y) (stored vs k u):=by
 unfold gu stored;rw[r.any k]
 by_cases e:(vs.any fun kv=>decide (kv.1=k))=true
 ·rw[if_pos e,if_pos e];exact r.repl k ry
 ·rw[if_neg e,if_neg e];exact Paired.snoc r ⟨rfl,ry⟩
theorem KV.length {kvs:List (κ×V)}{vs:List (κ×Value)}(r:KV kvs vs):kvs.length=vs.length:=Paired.length r
end
theorem ng {P:Program}{w:World}{k:bv}{u:Value}(r:aM (kV k) u):(bR P w).is k u=true:=by
 cases k with
 | inl i=>obtain⟨t,e⟩:=(show∃t,u=Value.int i t from r);subst e;exact kI P w i t
 | inr x=>obtain⟨t,e⟩:=(show∃t,u=Value.str x t from r);subst e;exact kL P w x t
theorem jA {P:Program}{w:World}:∀{ks:List bv} {us:List Value},aE (ks.map kV) us→ItemsAre (bR P w) ks us
 | [],_,r=>by rw[map_nil] at r;cases r;exact .nil
 | k::ks,_,r=>by
  rw[map_cons] at r;cases r with
  | cons h t=>exact .cons (ng h) (jA t)
abbrev KT (H:Hp):List (List bv×V)→List (List bv×Addr×Value)→Prop:=Paired fun p q=>p.1=q.1∧H q.2.1=some (.tup (p.1.map kV))∧aM p.2 q.2.2
theorem KT.val {H:Hp}{kvs:List (List bv×V)}{xs:List (List bv×Addr×Value)}(r:KT H kvs xs)(k:List bv):i6 (eX kvs k) ((atKey xs k).map (·.2)):=by
 induction r with
 | nil=>exact True.intro
 | @cons p q ps qs h t ih=>
  obtain⟨h1,_,h2⟩:=h
  by_cases e:p.1=k
  ·have e':q.1=k:=h1.symm.trans e;have b:atKey (q::qs) k=some q.2:=by simp[atKey,find?_cons,e']
   rw[fU e,b];exact h2
  ·have e':¬q.1=k:=fun z=>e (h1.trans z)
   have b:atKey (q::qs) k=atKey qs k:=by simp[atKey,find?_cons,e']
   rw[fW e,b];exact ih
theorem KT.repl {H:Hp}{kvs:List (List bv×V)}{xs:List (List bv×Addr×Value)}(r:KT H kvs xs)(k:List bv){y:V}{u:Value}(ry:aM y u) :
  KT H (kvs.map fun kv=>if kv.1=k then(kv.1,y) else kv) (xs.map (putAt k u)):=by
 induction r with
 | nil=>exact .nil
 | @cons p q ps qs h t ih=>
  rw[map_cons,map_cons];refine .cons ?_ ih;obtain⟨h1,h2,h3⟩:=h;unfold putAt
  by_cases e:p.1=k
  ·rw[if_pos e,if_pos (h1.symm.trans e)];exact⟨h1,h2,ry⟩
  ·rw[if_neg e,if_neg (fun z=>e (h1.trans z))];exact⟨h1,h2,h3⟩
theorem KT.put {H:Hp}{kvs:List (List bv×V)}{xs:List (List bv×Addr×Value)}(r:KT H kvs xs)(k:List bv){b:Addr}{y:V}{u:Value}(hb:H b=some (.tup (k.map kV)))(ry:aM y u) :
  KT H (gu kvs k y) (storedH xs k b u):=by
 have e:(kvs.any fun kv=>decide (kv.1=k))=(atKey xs k).isSome:=by
  rw[ij,(r.val k).isSome_eq,Option.isSome_map]
 unfold gu storedH;rw[e]
 by_cases q:(atKey xs k).isSome=true
 ·rw[if_pos q,if_pos q];exact r.repl k ry
 ·rw[if_neg q,if_neg q];exact Paired.snoc r ⟨rfl,hb,ry⟩
theorem KT.keeps {H H':Hp}{kvs:List (List bv×V)}{xs:List (List bv×Addr×Value)}(r:KT H kvs xs)(ht:∀b ys,H b=some (.tup ys)→H' b=some (.tup ys)):KT H' kvs xs:=
 Paired.mapP r fun _ _ z=>⟨z.1,ht _ _ z.2.1,z.2.2⟩
section
variable {P:Program}{w:World}{H:Hp}{h:Heap}{a:Addr}
theorem uK {u:HO}(ok:fc P w H h)(e:Rd H a u):bA P w H h a u:=e.ok ok
theorem nh {kvs:List (bv×V)}(ok:fc P w H h)(e:Rd H a (.dK kvs)):kvs.length≤sizeLine∧(a==sysModules)=false∧∃vs,KV kvs vs∧h.DictOf (bR P w) a vs:=
 show bA P w H h a (.dK kvs) from uK ok e
theorem yK {kvs:List (bv×V)}(ok:fc P w H h)(e:H a=some (.dK kvs)):kvs.length≤sizeLine∧(a==sysModules)=false∧∃vs,KV kvs vs∧h.DictOf (bR P w) a vs:=nh ok (.inl e)
theorem ku {ks:List bv}(ok:fc P w H h)(e:H a=some (.tup (ks.map kV))):(tupleKind (bR P w)).is h ks a:=by
 obtain⟨_,its,r,o,h1,h2,n,h3⟩:=(show bA P w H h a (.tup (ks.map kV)) from ok a _ e);exact⟨o,its.toArray,n,h1,h2,h3,by simpa using jA r⟩
theorem mM {kvs:List (List bv×V)}(ok:fc P w H h)(e:Rd H a (.dT kvs)):kvs.length≤sizeLine∧(a==sysModules)=false∧
  ∃xs,KT H kvs xs∧h.DictOfH (tupleKind (bR P w)) a xs:=by
 obtain⟨z,y,xs,r,o,es,ep,h1,h2,h3,h4,h5⟩:=(show bA P w H h a (.dT kvs) from uK ok e);refine⟨z,y,xs,r,o,es,ep,h1,h2,h3,h4,fun x hx=>?_,h5⟩;have all:∀{l:List (List bv×V)} {m:List (List bv×Addr×Value)},KT H l m→∀x∈m,(tupleKind (bR P w)).is h x.1 x.2.1:=by
  intro l m q
  induction q with
  | nil=>intro x hx;exact nomatch hx
  | @cons p q ps qs hq t ih=>
   intro x hx;rcases mem_cons.mp hx with e|hx
   ·subst e;exact ku ok (by rw[←hq.1];exact hq.2.1)
   ·exact ih x hx
 exact all r x hx
theorem yy {kvs:List (List bv×V)}(ok:fc P w H h)(e:H a=some (.dT kvs)):kvs.length≤sizeLine∧(a==sysModules)=false∧
  ∃xs,KT H kvs xs∧h.DictOfH (tupleKind (bR P w)) a xs:=mM ok (.inl e)
end
def kD (H:Hp)(a:Addr)(y:V)(r:Option V):Prop:=
 (∃kvs k,Rd H a (.dK kvs)∧y=kV k∧r=eX kvs k)∨∃kvs k b,Rd H a (.dT kvs)∧y=.ref b∧H b=some (.tup (k.map kV))∧r=eX kvs k
def qS (H:Hp)(a:Addr)(y v:V)(H':Hp):Prop:=
 (∃kvs k,H a=some (.dK kvs)∧y=kV k∧kvs.length<sizeLine∧H'=bS H a (.dK (gu kvs k v)))∨
 ∃kvs k b,H a=some (.dT kvs)∧y=.ref b∧H b=some (.tup (k.map kV))∧kvs.length<sizeLine∧H'=bS H a (.dT (gu kvs k v))
theorem kD.t {H:Hp}{a b:Addr}{kvs:List (List bv×V)}{k:List bv}(e:H a=some (.dT kvs))(eb:H b=some (.tup (k.map kV))):kD H a (.ref b) (eX kvs k):=.inr ⟨kvs,k,b,.inl e,rfl,eb,rfl⟩
theorem qS.t {H:Hp}{a b:Addr}{kvs:List (List bv×V)}{k:List bv}{v:V}(e:H a=some (.dT kvs))(eb:H b=some (.tup (k.map kV)))(hl:kvs.length<sizeLine) :
  qS H a (.ref b) v (bS H a (.dT (gu kvs k v))):=.inr ⟨kvs,k,b,e,rfl,eb,hl,rfl⟩
section
variable {X:Cx}{af:List (Addr×Obj)}{σ:St}{H:Hp}{s:Shared}{a:Addr}{y v:V}{u r:Value}{o:Option V}{A:Around}{E:Value→Shared→Prop}
theorem Inv.big (I:Inv X af σ H s):sysModules<s.heap.objs.size:=by
 have h:mainGlobals<s.heap.objs.size:=(I.mod.glob.keeps I.bk).lt;exact Nat.lt_trans (by decide) h
theorem oD {Q:Value→Shared→Prop}(hu:A.units+1<cLine)(I:Inv X af σ H s)(g:kD H a y (some v))(ry:aM y u)(h:∀w' s',Inv X af σ H s'→aM v w'→Q w' s') :
  wpAny (model X.prog X.w) A (getItem (.ref a) u) Q E s:=by
 rcases g with⟨kvs,k,e,ey,l⟩|⟨kvs,k,b,e,ey,eb,l⟩
 ·subst ey;obtain⟨z,hd,vs,rel,dd⟩:=nh I.hok e;obtain⟨w',hw,rw'⟩:=i6.some_of (v:=v) (o:=valueAt vs k) (by rw[l];exact rel.val k);exact wpAny_getItem_of (ng ry) dd.mapOf hw (h w' _ (I.tok _) rw')
 ·subst ey;cases (show u=Value.ref b from ry);obtain⟨z,hd,xs,rel,dd⟩:=mM I.hok e;obtain⟨w',hw,rw'⟩:=i6.some_of (v:=v) (o:=(atKey xs k).map (·.2)) (by rw[l];exact rel.val k);obtain⟨p,hp,hp2⟩:=Option.map_eq_some_iff.mp hw;refine wpAny_getItem_heap (tupleKind_room_in1 hu) (ku I.hok eb) dd hp ?_;rw[hp2];exact h w' _ (I.tok _) rw'
theorem qZ {Q:Value→Shared→Prop}(hu:A.units+1<cLine)(I:Inv X af σ H s)(g:kD H a y o)(ry:aM y u)(h:∀s',Inv X af σ H s'→Q (.bool (!o.isSome)) s') :
  wpAny (model X.prog X.w) A (compareOp .NotIn u (.ref a)) Q E s:=by
 rcases g with⟨kvs,k,e,ey,l⟩|⟨kvs,k,b,e,ey,eb,l⟩
 ·subst ey;obtain⟨z,hd,vs,rel,dd⟩:=nh I.hok e;refine wpAny_notIn_of (ng ry) hd dd.mapOf ?_;rw[←(rel.val k).isSome_eq,←l];exact h _ (I.tok _)
 ·subst ey;cases (show u=Value.ref b from ry);obtain⟨z,hd,xs,rel,dd⟩:=mM I.hok e;refine wpAny_notIn_heap (tupleKind_room_in1 hu) (ku I.hok eb) hd dd ?_;have q:=(rel.val k).isSome_eq;rw[Option.isSome_map] at q;rw[←q,←l];exact h _ (I.tok _)
theorem mS {h':Heap}{t':Nat}{ob:HO}(I:Inv X af σ H s)(mu:yT (H a))(hs:Heap.SameBut a s.heap h')(he:∃q,h'.get? a=some q)(new:bA X.prog X.w (bS H a ob) h' a ob) :
  Inv X af σ (bS H a ob) {s with heap:=h',toks:=t'}:=
 I.write (x:=a) (e:=a) mu (.inl rfl) (fun b q hb z=>(hs.2 b hb).trans z) he new
theorem v6 {P:Program}{w:World}{H':Hp}{h':Heap}{kvs:List (bv×V)}{vs:List (bv×Value)}(z:kvs.length≤sizeLine)(hd:(a==sysModules)=false)(rel:KV kvs vs)(dd:h'.DictOf (bR P w) a vs) :
  bA P w H' h' a (.dK kvs):=⟨z,hd,vs,rel,dd⟩
theorem nM {H':Hp}{Q:Unit→Shared→Prop}(hu:A.units+1<cLine)(I:Inv X af σ H s)(g:qS H a y v H')(ry:aM y u)(rv:aM v r)(h:∀s',Inv X af σ H' s'→Q () s') :
  wpAny (model X.prog X.w) A (setItem (.ref a) u r) Q E s:=by
 rcases g with⟨kvs,k,e,ey,l,eH⟩|⟨kvs,k,b,e,ey,eb,l,eH⟩
 ·subst ey eH;obtain⟨z,hd,vs,rel,dd⟩:=yK I.hok e;have hz:vs.length≤sizeLine:=by rw[←rel.length];exact z
  have hl:(gu kvs k v).length≤sizeLine:=by have:=gM kvs k v;omega
  refine wpAny_setItem_pairs (hsz:=hz) (ng ry) dd fun h' dd' hs=>h _ ?_
  have he:∃q,h'.get? a=some q:=let ⟨q,_,_,hq,_⟩:=dd';⟨q,hq⟩
  exact mS I (by rw[e];exact True.intro) hs he (v6 hl hd (rel.put k rv) dd')
 ·subst ey eH;cases (show u=Value.ref b from ry);obtain⟨z,hd,xs,rel,dd⟩:=yy I.hok e;have hz:xs.length≤sizeLine:=by rw[←Paired.length rel];exact z
  have hl:(gu kvs k v).length≤sizeLine:=by have:=gM kvs k v;omega
  refine wpAny_setItem_heap (hsz:=hz) (tupleKind_room_in1 hu) (ku I.hok eb) dd fun h' dd' hs=>h _ ?_
  obtain⟨q,es,ep,hq,h2,h3,h4,_,h5⟩:=dd';refine mS I (by rw[e];exact True.intro) hs ⟨q,hq⟩ ⟨hl,hd,_,(rel.put k eb rv).keeps fun c ys ec=>?_,q,es,ep,hq,h2,h3,h4,h5⟩;rw[aw (kQ ec e (fun z=>nomatch z))];exact ec
end
def rF (i:Expr):Prop:=∀ov iv,subscripted i false ov iv=operate [ov,iv] (getItem ov iv)
theorem sK {prog:Program}{w:World}{A:Around}{E:Value→Shared→Prop}{s:Shared}{env:Env}{value slice:Expr}{pos:Pos}{T id:String}{Q:Value→Shared→Prop}
  (hl:typeLookup (.type T) "__getitem__"=pure (some (.builtin id))) (hs:rF slice)
  (h:wpAny (model prog w) A (eval value env) (fun o s₁=>wpAny (model prog w) A (eval slice env) (fun i s₂=>s₂.TypeIs o T∧wpAny (model prog w) A (getItem o i) Q E s₂) E s₁) E s) :
  wpAny (model prog w) A (eval (.Subscript value slice pos) env) Q E s:=by
 refine Subscript_ (wpAny_mono h (fun o s₁ h₁=>wpAny_mono h₁ (fun i s₂ h₂=>?_) fun _ _ x=>x) fun _ _ x=>x);obtain⟨hT,h₂⟩:=h₂;unfold subscriptTail;refine wpAny_bind ?_;rw[getitemInPython_of_ne hT.not_modules];refine wpAny_bind (wpAny_specialOf hT hl ?_);have fin:wpAny (model prog w) A (subscripted slice false o i) (fun r s₃=>wpAny (model prog w) A (letTemporaryGo value o r >>= fun _=>pure r) Q E s₃) E s₂:=by
  rw[hs o i];exact wpAny_operating (wpAny_mono h₂ (fun r s₃ h₃=>wpAny_bind (wpAny_letTemporaryGo (wpAny_pure h₃))) fun _ _ x=>x)
 first
  | exact wpAny_pure (wpAny_bind fin)
  | exact wpAny_bind (wpAny_pure (wpAny_bind fin))
  | exact wpAny_bind fin
theorem lD {X:Cx}{af:List (Addr×Obj)}{σ:St}{H:Hp}{s:Shared}{a:Addr}{y:V}{o:Option V}(I:Inv X af σ H s)(g:kD H a y o):s.TypeIs (.ref a) "dict":=by
 rcases g with⟨kvs,k,e,_,_⟩|⟨kvs,k,b,e,_,_,_⟩
 ·obtain⟨_,_,vs,_,dd⟩:=nh I.hok e;exact dd.typeIs
 ·obtain⟨_,_,xs,_,dd⟩:=mM I.hok e;exact dd.typeIs
def xN (td ty:TE):TE:=fun σ H Q=>td σ H fun x H1=>ty σ H1 fun y H2=>∃a v,x=.ref a∧kD H2 a y (some v)∧Q v H2
def xy (td ty tv:TE):TS:=fun D σ H=>tv σ H fun v H1=>td σ H1 fun x H2=>ty σ H2 fun y H3=>∃a H4,x=.ref a∧qS H3 a y v H4∧D.nx σ H4
section
variable {X:Cx}{o i e value:Expr}{pos pos' tpos:Pos}{td ty tv:TE}
theorem rl (hu:X.A.units+1<cLine)(ho:PE X o td)(hi:PE X i ty)(hs:rF i):PE X (.Subscript o i pos) (xN td ty):=by
 intro af s σ H Q I h;refine sK PySem.F.slot_dict_getitem.lookup hs (bV (ho af s σ H _ I h) fun u s1 ⟨x,H1,I1,rx,q1⟩=>bV (hi af s1 σ H1 _ I1 q1) fun iv s2 hxx=>?_);obtain⟨y,H2,I2,ry,a,v,ex,g,q2⟩:=hxx;subst ex;obtain rfl:u=Value.ref a:=rx;exact⟨lD I2 g,oD hu I2 g ry fun w' s3 I3 rw'=>⟨v,H2,I3,rw',q2⟩⟩
theorem tH (hu:X.A.units+1<cLine)(ho:PE X o td)(hi:PE X i ty)(hv:PE X value tv)(hs:swapsWith value (some (.Subscript o i pos')) pos.line X.env=pure false) :
  PS X (.Assign [.Subscript o i pos'] value pos) (xy td ty tv):=by
 intro af s σ H D I h;refine wpAny_Assign_Subscript (bV (hv af s σ H _ I h) fun r s1 ⟨v,H1,I1,rv,q1⟩=>bV (ho af s1 σ H1 _ I1 q1) fun u s2 ⟨x,H2,I2,rx,q2⟩=>bV (hi af s2 σ H2 _ I2 q2) fun iv s3 hxx=>?_) hs;obtain⟨y,H3,I3,ry,a,H4,ex,g,q3⟩:=hxx;subst ex;obtain rfl:u=Value.ref a:=rx;exact nM hu I3 g ry rv fun s4 I4=>⟨σ,H4,I4,q3⟩
end
theorem o4 {P:Program}{w:World}{H:Hp}(h:Heap)(hb:sysModules<h.objs.size):bA P w H (h.push {cls:=.type "dict",data:=.dict #[]}) h.objs.size (.dT []):=
 ⟨Nat.zero_le _,beq_eq_false_iff_ne.mpr (Ne.symm (Nat.ne_of_lt hb)),[],.nil,_,#[],0,Heap.get?_push_size _ rfl,⟨rfl,rfl,rfl⟩,rfl,rfl,nodup_nil⟩
def wB:TE:=fun _ H Q=>∀p,H p=none→Q (.ref p) (bS H p (.dT []))
section
variable {X:Cx}{pos:Pos}
theorem pI:PE X (.Dict [] [] pos) wB:=fun af s σ H Q I h=>
 wpAny_Dict_empty ⟨.ref s.heap.objs.size,_,I.laid (a:=s.heap.objs.size) (o:=.dT []) (t':=s.toks) (fun _ _ q=>Heap.get?_push_of_some _ q) (Nat.le_refl _) (o4 s.heap I.big),rfl,h _ (I.hok.fresh (Nat.le_refl _))⟩
end
abbrev VV:List (V×V)→List (Value×Value)→Prop:=Paired fun p q=>aM p.1 q.1∧aM p.2 q.2
structure M1 (X:Cx)(o:Expr)(m:Str)(apos:Pos)(e:Expr)(cpos:Pos):Prop where
 base:attributeBase o m X.env (eval o X.env)=eval o X.env
 few:((backTo cpos (starEach [e] X.env)).all (fun x=>!x.1)&&(backToKw cpos (keywordEach [] X.env)).all (fun x=>x.1.isSome)
  && decide (([e]:List Expr).length+([]:List Keyword).length+(if([]:List Keyword).isEmpty then 0 else 1)<30))=true
 line:(apos.endLine==cpos.line)=true
 trees:backTo cpos (starEach [e] X.env)=[(false,eval e X.env)]
structure M2 (X:Cx)(o:Expr)(m:Str)(apos:Pos)(e f:Expr)(cpos:Pos):Prop where
 base:attributeBase o m X.env (eval o X.env)=eval o X.env
 few:((backTo cpos (starEach [e,f] X.env)).all (fun x=>!x.1)&&(backToKw cpos (keywordEach [] X.env)).all (fun x=>x.1.isSome)
  && decide (([e,f]:List Expr).length+([]:List Keyword).length+(if([]:List Keyword).isEmpty then 0 else 1)<30))=true
 line:(apos.endLine==cpos.line)=true
 trees:backTo cpos (starEach [e,f] X.env)=[(false,eval e X.env),(false,eval f X.env)]
end L2
namespace Att
open PySem PySem.W PySem.Calls PyProof.Rows
end Att
namespace L2
open PySem PySem.Spec PyProof.Rows List
end L2
namespace DL
open PySem PySem.Spec PyProof.Rows L2 List
structure yg (X:Cx)(af:List (Addr×Obj))(H:Hp)(B:Heap):Prop where
 trk:∀b o,H b=some o→∃o',B.get? b=some o'
 pin:∀p∈X.pn++af,∃o',B.get? p.1=some o'
 old:∀b o,X.s₀.heap.get? b=some o→b∉X.ex→b∉iU X.stack→∃o',B.get? b=some o'
def Ad (X:Cx)(H:Hp)(a C:Addr)(s:Shared):Prop:=∃af σ,
 (∃h vs,L2.Inv X af σ H {s with heap:=h}∧Heap.MadeExcOf h s.heap a (.ref C) vs)∨
 (L2.Inv X af σ H s∧H a=none∧∃B a0,Heap.FlyingW B X.stack a (.ref C) a0 s.heap∧yg X af H B)∨
 (L2.Inv X af σ H s∧H a=none∧∃B a0 L,X.env.frame=some L∧Heap.HeldW B X.stack a (.ref C) a0 L s.heap∧yg X af H B)
def iE (K:W.Frag)(c:Str)(C:Addr):Prop:=W.nsIn K mainGlobals c=some (some (.ref C))
theorem iG {P:Program}{w:World}{H:Hp}{h:Heap}{a:Addr}{o:HO}(x:bA P w H h a o):∃u,h.get? a=some u:=by
 cases o with
 | lst xs=>obtain⟨_,_,_,_,e⟩:=x;exact⟨_,e⟩
 | tup xs=>obtain⟨_,_,_,o,e,_⟩:=x;exact⟨_,e⟩
 | dK kvs=>obtain⟨_,_,_,_,o,_,_,e,_⟩:=x;exact⟨_,e⟩
 | dT kvs=>obtain⟨_,_,_,_,o,_,_,e,_⟩:=x;exact⟨_,e⟩
 | set S n=>obtain⟨o,_,_,_,e,_⟩:=x;exact⟨_,e⟩
 | ins C dx fs=>obtain⟨_,_,_,e,_⟩:=x;exact⟨_,e⟩
 | own y=>obtain⟨_,e⟩:=x;exact⟨_,e⟩
 | xd fs=>obtain⟨_,⟨_,_,_,e,_⟩,_⟩:=x;exact⟨_,e⟩
 | rng lo hi=>obtain⟨_,_,_,e⟩:=x;exact⟨_,e⟩
 | frz ob u=>obtain⟨e,_⟩:=x;exact⟨_,e⟩
 | tbl ps=>exact⟨_,show h.get? a=some _ from x⟩
 | met f y=>exact⟨_,show h.get? a=some _ from x⟩
 | ext φ=>obtain⟨_,⟨_,e⟩,_⟩:=x;exact⟨_,e⟩
section
variable {X:Cx}{af:List (Addr×Obj)}{σ:List (Option V)}{H:Hp}{s:Shared}{B h':Heap}{a C:Addr}
theorem jR (I:L2.Inv X af σ H s){b:Addr}{o:Obj}(e:X.s₀.heap.get? b=some o)(n:b∉X.fs):b∉iU X.stack:=fun z=>by
 rcases mem_cons.mp (I.stkSub b z) with q|q
 ·have h1:=Heap.lt_size e;rw[q] at h1;exact absurd (Nat.lt_of_lt_of_le h1 I.ok.above) (Nat.lt_irrefl _)
 ·exact n q
theorem mR {h h':Heap}{c:Addr}{v:Option Value}(u:h.UpToSlots h')(x:h.IsCell c v):h'.IsCell c v:=by
 obtain⟨o,e,d⟩:=x;obtain⟨sl,e'⟩:=u c o e fun vs q=>by rw[d] at q;cases q
 exact⟨_,e',d⟩
theorem oQ (I:L2.Inv X af σ H s)(cov:yg X af H B)(hB:B.StaysIn s.heap)(hB':B.StaysIn h')(up:s.heap.UpToSlots h'):L2.Inv X af σ H {s with heap:=h'}:=by
 have keepB:∀b o o',B.get? b=some o'→s.heap.get? b=some o→h'.get? b=some o:=fun b o o' e1 e2=>by
  have:=hB b o' e1;rw[e2] at this;cases this;exact hB' b _ e1
 refine⟨I.ok,I.os,I.bare,⟨fun b o e n nf nx=>?_,fun b o e n hf nx=>?_,fun b o e n nx=>I.base.free b o e n nx,fun b o e nx=>?_,I.base.tups,I.base.frzs,I.base.tbls⟩,?_,fun x c e=>?_,I.free,I.freeC,fun p hp=>?_,fun b o e=>?_,I.len⟩
 ·obtain⟨o',e'⟩:=cov.old b o e nx (jR I e nf);exact keepB b o o' e' (I.base.keep b o e n nf nx)
 ·obtain⟨sl,e1⟩:=I.base.slot b o e n hf nx;obtain⟨_,ob,e2,nf⟩:=I.funs.mem hf;rw[e1] at e2;cases e2;obtain⟨sl',e3⟩:=up b _ e1 nf;exact⟨sl',e3⟩
 ·by_cases hf:b∈X.fs
  ·obtain⟨_,ob,e2,nf⟩:=I.funs.mem hf;obtain⟨sl',e3⟩:=up b _ e2 nf;exact⟨_,e3⟩
  ·obtain⟨o',e'⟩:=cov.old b o e nx (jR I e hf);exact⟨o',hB' b o' e'⟩
 ·obtain⟨m,hn,hl⟩:=I.loc;refine⟨m,up.ns hn,fun i x v e1 e2 e3=>?_⟩;obtain⟨u,r,lk⟩:=hl i x v e1 e2 e3;refine⟨u,r,?_⟩;rcases lk with lk|⟨k,c,ec,ic⟩
  ·exact .inl lk
  ·exact .inr ⟨k,c,ec,mR up ic⟩
 ·obtain⟨v,ic⟩:=I.cell x c e;exact⟨v,mR up ic⟩
 ·obtain⟨e,n,ne,nf,d⟩:=I.pin p hp;obtain⟨o',e'⟩:=cov.pin p hp;exact⟨keepB p.1 p.2 o' e' e,n,ne,nf,d⟩
 ·refine(I.hok b o e).stay (fun c u hc q=>?_) (fun _ q=>q) fun _ _ q=>q
  have:∃o,H c=some o:=by
   rcases hc with z|z
   ·exact⟨o,by rw[z];exact e⟩
   ·exact⟨_,z⟩
  obtain⟨oc,ec⟩:=this;obtain⟨o',e'⟩:=cov.trk c oc ec;exact keepB c u o' e' q
theorem qC (I:L2.Inv X af σ H s):yg X af H (W.hideAll s.heap (iU X.stack)):=by
 refine⟨fun b o e=>?_,fun p hp=>?_,fun b o e nx nf=>?_⟩
 ·obtain⟨u,q⟩:=iG (I.hok b o e);exact⟨u,W.hideAll_get _ q fun z=>by rw[I.stkFree b z] at e;cases e⟩
 ·obtain⟨e,n,ne,nf,d⟩:=I.pin p hp;exact⟨p.2,W.hideAll_get _ e fun z=>by
   rcases mem_cons.mp (I.stkSub _ z) with q|q
   ·exact ne q
   ·exact nf q⟩
 ·obtain⟨o',e'⟩:=I.base.there b o e nx;exact⟨o',W.hideAll_get _ e' nf⟩
theorem kX (I:L2.Inv X af σ H s):s.heap.FunFrames (W.hideAll s.heap (iU X.stack)) X.stack:=
 W.funFrames_hide I.stack fun env he b hb=>mem_filterMap.mpr ⟨env,he,hb⟩
theorem n5 {vs:List Value}{h:Heap}(I:L2.Inv X af σ H {s with heap:=h})(m:Heap.MadeExcOf h s.heap a (.ref C) vs):H a=none:=by
 cases q:H a with
 | none=>rfl
 | some o=>
  obtain⟨u,e⟩:=iG (I.hok a o q);have e:h.get? a=some u:=e;rw[m.new] at e;cases e
end
def gN (P:Program)(w:World):oF:=fun outer H s E e s'=>∃a C H' B a0,e=.ref a∧s'.os=s.os∧AllBare s'.gens∧Un (iU outer) [] H H' s.heap s'.heap∧fc P w H' s'.heap∧H' a=none∧
 Heap.FlyingW B outer a (.ref C) a0 s'.heap∧(∀b o,H' b=some o→∃o',B.get? b=some o')∧(∀b o,s.heap.get? b=some o→b∉iU outer→∃o',B.get? b=some o')∧E (.ref C) (some a) H'
theorem l7 {P:Program}{w:World}{K:W.Frag}{mg:Str→Option Value}{base:Heap}{N:List Str}{qual:Str}{scope:Scope}{f:Addr}{cdv:Value}{A:Around}{outer:List Env}{s s':Shared}{H H':Hp}{E:XK}{a C:Addr}
  (fl:Ad (fY (gN P w) P w K mg base N qual scope f cdv A outer s H E) H' a C s') (hE:E (.ref C) (some a) H'):(fY (gN P w) P w K mg base N qual scope f cdv A outer s H E).xe (.ref a) s':=by
 show wpAny (model P w) (A.deeper (envOfC qual scope s.heap.objs.size f cdv)) (leaving (envOfC qual scope s.heap.objs.size f cdv) (.ref a)) (fun _ s''=>gN P w outer H s E (.ref a) s'') (fun e' s''=>gN P w outer H s E e' s'') s';obtain⟨af,σ,fl⟩:=fl;have key:∀(B:Heap) (a0:Value) (h':Heap) (I:L2.Inv (fY (gN P w) P w K mg base N qual scope f cdv A outer s H E) af σ H' s'),B.StaysIn s'.heap→yg (fY (gN P w) P w K mg base N qual scope f cdv A outer s H E) af H' B→H' a=none→
   Heap.FlyingW B outer a (.ref C) a0 h'→s'.heap.UpToSlots h'→gN P w outer H s E (.ref a) {s' with heap:=h'}:=fun B a0 h' I hB cov hn fl' up=>by
  have I':=oQ I cov hB fl'.1 up;refine⟨a,C,H',B,a0,rfl,I'.os,I'.bare,I'.base,I'.hok,hn,fl',cov.trk,fun b o e nf=>?_,hE⟩;exact cov.old b o e (by show b∉([]:List Addr);simp) (jR I e nf)
 rcases fl with⟨h,vs,I,m⟩|⟨I,hn,B,a0,fl,cov⟩|⟨I,hn,B,a0,L,hL,held,cov⟩
 ·have cov:=qC I;have hid:∀b o,(W.hideAll h (iU (fY (gN P w) P w K mg base N qual scope f cdv A outer s H E).stack)).get? b=some o→h.get? b=some o:=fun b o q=>W.of_hideAll _ q
  refine wpAny_leaves_madeW (env:=envOfC qual scope s.heap.objs.size f cdv) (outer:=outer) I.ok.frames rfl hid (kX I) m fun h' t x1 x2 x3 x4=>?_
  exact key _ _ h' (I.kept (t':=s'.toks) (h':=s'.heap) m.keeps) (fun b o q=>m.keeps b o (hid b o q)) cov (n5 I m) x1 x4
 ·refine wpAny_leaves_onW (env:=envOfC qual scope s.heap.objs.size f cdv) (outer:=outer) I.ok.frames rfl fl fun h' x1 x2=>?_
  exact key B a0 h' I fl.1 cov hn x1 x2
 ·unfold leaving;refine wpAny_bind (wpAny_noteFrame_againW hL held.2.2.2 ?_);refine wpAny_landsW held fun h' x1 x2=>?_
  obtain⟨k1,k2,⟨_,_,k3⟩,k4⟩:=x1;exact key B a0 h' I held.1 cov hn ⟨k1,k2,k3,k4⟩ x2
theorem nY {X:Cx}{af:List (Addr×Obj)}{σ:L2.St}{H:Hp}{s:Shared}{e:Value}{s':Shared}{E:XK}(I:L2.Inv X af σ H s)(h:gN X.prog X.w X.stack H s E e s'):∃a C H',e=.ref a∧Ad X H' a C s'∧E (.ref C) (some a) H':=by
 obtain⟨a,C,H',B,a0,rfl,os,bare,un,hok,hn,fl,trk,old,hE⟩:=h;refine⟨a,C,H',rfl,⟨af,σ,.inr (.inl ⟨I.call' os un hok bare (fun b z=>absurd z (by simp)),hn,B,a0,fl,trk,fun p hp=>?_,fun b o eb nx nf=>?_⟩)⟩,hE⟩
 ·obtain⟨eb,n,ne,nf,d⟩:=I.pin p hp;exact old p.1 p.2 eb fun z=>by
   rcases mem_cons.mp (I.stkSub _ z) with q|q
   ·exact ne q
   ·exact nf q
 ·obtain⟨o',e'⟩:=I.base.there b o eb nx;exact old b o' e' nf
inductive D where
 | non|bl (b:Bool)|int (i:Int)|str (x:Str)|tup (xs:List D)|lst (xs:List D)|ro (xs:List D)|mr (i:Nat)|exc (c:Str)|any
instance:Inhabited D:=⟨.non⟩
inductive MO where
 | lst (xs:List D)|obj (c:Str) (fs:List (Str×D))|dK (kvs:List (bv×D))|dT (kvs:List (List bv×D))
instance:Inhabited MO:=⟨.lst []⟩
abbrev am:=List MO
abbrev bG:=List (Option D)
inductive aN (α:Type) where
 | ok (a:α) (M:am)
 | err (c:Str) (M:am)
 | bad
def aN.bind {α β:Type}(o:aN α)(f:α→am→aN β):aN β:=
 match o with
 | .ok a M=>f a M
 | .err c M=>.err c M
 | .bad=>.bad
@[simp] theorem ai {α β:Type} (a:α) (M:am) (f:α→am→aN β):(aN.ok a M).bind f=f a M:=by rw[aN.bind]
@[simp] theorem yX {α β:Type} (c:Str) (M:am) (f:α→am→aN β):(aN.err c M:aN α).bind f=.err c M:=by rw[aN.bind]
@[simp] theorem zB {α β:Type} (f:α→am→aN β):(aN.bad:aN α).bind f=.bad:=by rw[aN.bind]
def Bp (K:W.Frag)(a:Addr)(xs:List V):Prop:=∃(o:Obj) (its:Array Value) (n:Nat),K.lookup a=some o∧o.cls=.type "tuple"∧o.data=.seq its n∧its.size≤sizeLine∧aE xs its.toList
def KL (K:W.Frag)(a:Addr)(xs:List V):Prop:=∃(o:Obj) (its:Array Value) (n:Nat),K.lookup a=some o∧o.cls=.type "list"∧o.dict=none∧o.data=.seq its n∧its.size≤sizeLine∧aE xs its.toList
def ie (K:W.Frag)(θ:List Addr)(H:Hp)(a:Addr)(xs:List V):Prop:=H a=some (.tup xs)∧a∉θ
def je (θ:List Addr)(H:Hp)(a:Addr)(xs:List V):Prop:=H a=some (.lst xs)∧a∉θ
def lY (K:W.Frag)(θ:List Addr)(H:Hp)(a:Addr)(xs:List V):Prop:=(Rd H a (.lst xs)∧a∉θ)∨KL K a xs
theorem ie.sq {K:W.Frag}{θ:List Addr}{H:Hp}{a:Addr}{xs:List V}(h:ie K θ H a xs):gP K H a xs:=.inl (.inl h.1)
theorem je.sq {K:W.Frag}{θ:List Addr}{H:Hp}{a:Addr}{xs:List V}(h:je θ H a xs):io K H a xs:=.inl (.inl h.1)
theorem lY.sq {K:W.Frag}{θ:List Addr}{H:Hp}{a:Addr}{xs:List V}(h:lY K θ H a xs):io K H a xs:=by
 rcases h with⟨h,_⟩|h
 ·exact .inl h
 ·exact .inr h
def AB (a C:Addr):HO:=.ext fun h=>∃o,h.get? a=some o∧o.cls=.ref C
mutual
def cw (K:W.Frag)(θ:List Addr)(H:Hp):D→V→Prop
 | .non,v=>v=.non
 | .bl b,v=>v=.bl b
 | .int i,v=>v=.int i
 | .str x,v=>v=.str x
 | .tup ds,v=>∃a vs,v=.ref a∧ie K θ H a vs∧aK K θ H ds vs
 | .lst ds,v=>∃a vs,v=.ref a∧je θ H a vs∧aK K θ H ds vs
 | .ro ds,v=>∃a vs,v=.ref a∧lY K θ H a vs∧aK K θ H ds vs
 | .mr i,v=>∃a,v=.ref a∧θ[i]?=some a
 | .exc c,v=>∃a C,v=.ref a∧iE K c C∧H a=some (AB a C)∧a∉θ
 | .any,_=>True
def aK (K:W.Frag)(θ:List Addr)(H:Hp):List D→List V→Prop
 | [],vs=>vs=[]
 | d::ds,vs=>∃v r,vs=v::r∧cw K θ H d v∧aK K θ H ds r
end
def nl (K:W.Frag)(θ:List Addr)(H:Hp):List (Str×D)→List (Str×V)→Prop
 | [],vs=>vs=[]
 | (f,d)::fs,vs=>∃v r,vs=(f,v)::r∧cw K θ H d v∧nl K θ H fs r
def fS {κ:Type}(K:W.Frag)(θ:List Addr)(H:Hp):List (κ×D)→List (κ×V)→Prop
 | [],vs=>vs=[]
 | (k,d)::fs,vs=>∃v r,vs=(k,v)::r∧cw K θ H d v∧fS K θ H fs r
def i7 (K:W.Frag)(θ:List Addr)(H:Hp):MO→Addr→Prop
 | .lst ds,a=>∃vs,H a=some (.lst vs)∧aK K θ H ds vs
 | .obj c fs,a=>∃C dx vs,iE K c C∧H a=some (.ins C dx vs)∧nl K θ H fs vs
 | .dK kvs,a=>∃vs,H a=some (.dK vs)∧fS K θ H kvs vs
 | .dT kvs,a=>∃vs,H a=some (.dT vs)∧fS K θ H kvs vs
def c7:List Str:=["ink_shown","table_within","slots_given","cast_on_slots"]
def sn (x:Str):Str:=x++(".<locals>.<lambda>":Str)
def zk (c:Addr)(q:Str):HO:=.ext fun h=>h.CodeRec (.ref c) q
def A4 (ob:Obj):HO:=.frz ob (.ext fun _=>True)
structure gq (K:W.Frag)(H:Hp):Prop where
 tab:∀x,x∈c7→∀c P,W.tabIn K x=some (c,P)→∃ps,H P=some (.tbl ps)∧TriplesOk ps.toList∧∀pos cv,codeAmong pos ps.toList=some cv→∃c',cv=.ref c'∧H c'=some (zk c' (sn x))
 bm:∀x,x∈c7→∀c P,W.tabIn K x=some (c,P)→∃bm ob,W.nsIn K mainGlobals "__builtins__"=some (some (.ref bm))∧H bm=some (A4 ob)∧ob.cls=.type "module"∧ob.dict=some builtinsNs∧ob.data=.plain∧bm≠builtinsNs∧bm≠mainGlobals
theorem gq.of {K:W.Frag}{H H':Hp}(t:gq K H)(k1:∀b ps,H b=some (.tbl ps)→H' b=some (.tbl ps))(k2:∀b φ,H b=some (.ext φ)→H' b=some (.ext φ))(k3:∀b o u,H b=some (.frz o u)→H' b=some (.frz o u)):gq K H':=
 ⟨fun x hx c P e=>by
  obtain⟨ps,h1,h2,h3⟩:=t.tab x hx c P e;refine⟨ps,k1 _ _ h1,h2,fun pos cv q=>?_⟩;obtain⟨c',e1,e2⟩:=h3 pos cv q;exact⟨c',e1,k2 _ _ e2⟩,fun x hx c P e=>by
  obtain⟨bm,ob,e1,e2,r⟩:=t.bm x hx c P e;exact⟨bm,ob,e1,k3 _ _ _ e2,r⟩⟩
theorem gq.new {K:W.Frag}{H:Hp}{p:Addr}{o:HO}(t:gq K H)(hp:H p=none):gq K (bS H p o):=
 t.of (fun b ps e=>by rw[aw (a9 e hp)];exact e) (fun b φ e=>by rw[aw (a9 e hp)];exact e) fun b o u e=>by rw[aw (a9 e hp)];exact e
def ma:HO→Bool
 | .tbl _=>false
 | .ext _=>false
 | .frz _ _=>false
 | _=>true
theorem gq.at_ {K:W.Frag}{H:Hp}{a:Addr}{o u:HO}(t:gq K H)(ha:H a=some u)(hu:ma u=true):gq K (bS H a o):=
 t.of (fun b ps e=>by rw[aw (kQ e ha (by intro z;subst z;cases hu))];exact e) (fun b φ e=>by rw[aw (kQ e ha (by intro z;subst z;cases hu))];exact e) fun b o u e=>by rw[aw (kQ e ha (by intro z;subst z;cases hu))];exact e
theorem gq.no {K:W.Frag}{H:Hp}(h:∀x,x∈c7→W.nsIn K mainGlobals x=some none):gq K H:=by
 have no:∀x,x∈c7→∀c P,W.tabIn K x≠some (c,P):=fun x hx c P e=>by
  unfold W.tabIn at e;rw[h x hx] at e;cases e
 exact⟨fun x hx c P e=>absurd e (no x hx c P),fun x hx c P e=>absurd e (no x hx c P)⟩
structure Wr (K:W.Frag)(θ:List Addr)(H:Hp)(M:am):Prop where
 len:θ.length=M.length
 nd:θ.Nodup
 at_:∀(i:Nat) a m,θ[i]?=some a→M[i]?=some m→i7 K θ H m a
 tb:gq K H
structure eM (K:W.Frag)(θ:List Addr)(H:Hp)(σ:L2.St)(ρ:bG):Prop where
 len:ρ.length=σ.length
 at_:∀(i:Nat) d,ρ[i]?=some (some d)→∃v,σ[i]?=some (some v)∧cw K θ H d v
structure Grow (θ:List Addr)(H:Hp)(θ':List Addr)(H':Hp):Prop where
 ext:∃more,θ'=θ++more∧∀a∈more,H a=none
 keep:∀b o,H b=some o→b∉θ→(∀ps,o≠.tbl ps)→H' b=some o
 tkeep:∀b ps,H b=some (.tbl ps)→∃ps',H' b=some (.tbl ps')
structure Go (K:W.Frag)(θ:List Addr)(H:Hp)(θ':List Addr)(H':Hp)(M':am):Prop extends Grow θ H θ' H' where
 wr:Wr K θ' H' M'
section
variable {K:W.Frag}{θ θ' θ1 θ2:List Addr}{H H' H1 H2:Hp}{M M' M1 M2:am}{a p:Addr}{σ:L2.St}{ρ:bG}
theorem Wr.tracked (w:Wr K θ H M)(h:a∈θ):H a≠none:=by
 obtain⟨i,hi,e⟩:=mem_iff_getElem.mp h;have h1:θ[i]?=some a:=by rw[getElem?_eq_getElem hi,e]
 have h2:i<M.length:=by rw[←w.len];exact hi
 have h3:=w.at_ i a _ h1 (getElem?_eq_getElem h2);cases q:M[i] with
 | lst ds=>
  rw[q] at h3;obtain⟨vs,e,_⟩:=h3;rw[e];simp
 | obj c fs=>
  rw[q] at h3;obtain⟨C,dx,vs,_,e,_⟩:=h3;rw[e];simp
 | dK kvs=>
  rw[q] at h3;obtain⟨vs,e,_⟩:=h3;rw[e];simp
 | dT kvs=>
  rw[q] at h3;obtain⟨vs,e,_⟩:=h3;rw[e];simp
theorem i7.plain {m:MO}(h:i7 K θ H m a):∃o,H a=some o∧ma o=true:=by
 cases m with
 | lst ds=>obtain⟨vs,e,_⟩:=h;exact⟨_,e,rfl⟩
 | obj c fs=>obtain⟨C,dx,vs,_,e,_⟩:=h;exact⟨_,e,rfl⟩
 | dK kvs=>obtain⟨vs,e,_⟩:=h;exact⟨_,e,rfl⟩
 | dT kvs=>obtain⟨vs,e,_⟩:=h;exact⟨_,e,rfl⟩
theorem Wr.plain (w:Wr K θ H M){i:Nat}(h:θ[i]?=some a):∃o,H a=some o∧ma o=true:=by
 have h2:i<M.length:=by rw[←w.len];exact(List.getElem?_eq_some_iff.mp h).1
 exact(w.at_ i a _ h (getElem?_eq_getElem h2)).plain
theorem Wr.fresh (w:Wr K θ H M)(h:H p=none):p∉θ:=fun z=>w.tracked z h
theorem Grow.refl (θ:List Addr)(H:Hp):Grow θ H θ H:=⟨⟨[],by simp,fun _ z=>by cases z⟩,fun _ _ h _ _=>h,fun b ps e=>⟨ps,e⟩⟩
theorem Go.refl (w:Wr K θ H M):Go K θ H θ H M:=⟨.refl θ H,w⟩
theorem Go.trans (a:Go K θ H θ1 H1 M1)(b:Go K θ1 H1 θ2 H2 M2):Go K θ H θ2 H2 M2:=by
 obtain⟨m1,e1,f1⟩:=a.ext;obtain⟨m2,e2,f2⟩:=b.ext;refine⟨⟨⟨m1++m2,by rw[e2,e1,append_assoc],fun x hx=>?_⟩,fun x o hx nx nt=>?_,fun x ps e=>?_⟩,b.wr⟩
 ·rcases mem_append.mp hx with z|z
  ·exact f1 x z
  ·cases q:H x with
   | none=>rfl
   | some o=>
    have nx:x∉θ:=by
     intro y;have nd:=b.wr.nd;rw[e2] at nd;have y1:x∈θ1:=by rw[e1];exact mem_append_left _ y
     exact(nodup_append.mp nd).2.2 x y1 x z rfl
    exfalso
    by_cases nt:∃ps,o=.tbl ps
    ·obtain⟨ps,rfl⟩:=nt;obtain⟨ps',e'⟩:=a.tkeep x ps q;rw[f2 x z] at e';cases e'
    ·have:=a.keep x o q nx fun ps e'=>nt ⟨ps,e'⟩
     rw[f2 x z] at this;cases this
 ·have h1:=a.keep x o hx nx nt;refine b.keep x o h1 ?_ nt;rw[e1];intro z;rcases mem_append.mp z with z|z
  ·exact nx z
  ·rw[f1 x z] at hx;cases hx
 ·obtain⟨ps',e'⟩:=a.tkeep x ps e;exact b.tkeep x ps' e'
theorem Grow.notin (g:Grow θ H θ' H'){o:HO}(h:H a=some o)(n:a∉θ):a∉θ':=by
 obtain⟨m,e,f⟩:=g.ext;rw[e];intro z;rcases mem_append.mp z with z|z
 ·exact n z
 ·rw[f a z] at h;cases h
theorem ie.grow {xs:List V}(g:Grow θ H θ' H')(h:ie K θ H a xs):ie K θ' H' a xs:=⟨g.keep _ _ h.1 h.2 (by intro _ z;cases z),g.notin h.1 h.2⟩
theorem je.grow {xs:List V}(g:Grow θ H θ' H')(h:je θ H a xs):je θ' H' a xs:=⟨g.keep _ _ h.1 h.2 (by intro _ z;cases z),g.notin h.1 h.2⟩
theorem lY.grow {xs:List V}(g:Grow θ H θ' H')(h:lY K θ H a xs):lY K θ' H' a xs:=by
 rcases h with⟨h|⟨o,h⟩,n⟩|h
 ·exact .inl ⟨.inl (g.keep _ _ h n (by intro _ z;cases z)),g.notin h n⟩
 ·exact .inl ⟨.inr ⟨o,g.keep _ _ h n (by intro _ z;cases z)⟩,g.notin h n⟩
 ·exact .inr h
mutual
theorem fJ (g:Grow θ H θ' H'):∀(d:D) (v:V),cw K θ H d v→cw K θ' H' d v
 | .non,v,h=>h
 | .bl b,v,h=>h
 | .int i,v,h=>h
 | .str x,v,h=>h
 | .tup ds,v,h=>by
  obtain⟨a,vs,e,t,r⟩:=h;exact⟨a,vs,e,t.grow g,bL g ds vs r⟩
 | .lst ds,v,h=>by
  obtain⟨a,vs,e,t,r⟩:=h;exact⟨a,vs,e,t.grow g,bL g ds vs r⟩
 | .ro ds,v,h=>by
  obtain⟨a,vs,e,t,r⟩:=h;exact⟨a,vs,e,t.grow g,bL g ds vs r⟩
 | .mr i,v,h=>by
  obtain⟨a,e,t⟩:=h;obtain⟨m,em,_⟩:=g.ext;refine⟨a,e,?_⟩;rw[em,getElem?_append_left (List.getElem?_eq_some_iff.mp t).1];exact t
 | .exc c,v,h=>by
  obtain⟨a,C,e,k,t,n⟩:=h;exact⟨a,C,e,k,g.keep _ _ t n (by intro _ z;cases z),g.notin t n⟩
 | .any,v,h=>h
theorem bL (g:Grow θ H θ' H'):∀(ds:List D) (vs:List V),aK K θ H ds vs→aK K θ' H' ds vs
 | [],vs,h=>h
 | d::ds,vs,h=>by
  obtain⟨v,r,e,h1,h2⟩:=h;exact⟨v,r,e,fJ g d v h1,bL g ds r h2⟩
end
theorem cw.go {d:D}{v:V}(h:cw K θ H d v)(g:Go K θ H θ' H' M'):cw K θ' H' d v:=fJ g.toGrow d v h
theorem aK.go {ds:List D}{vs:List V}(h:aK K θ H ds vs)(g:Go K θ H θ' H' M'):aK K θ' H' ds vs:=bL g.toGrow ds vs h
theorem eM.go (h:eM K θ H σ ρ)(g:Go K θ H θ' H' M'):eM K θ' H' σ ρ:=⟨h.len,fun i d e=>let ⟨v,e1,e2⟩:=h.at_ i d e;⟨v,e1,e2.go g⟩⟩
theorem ak:∀{ds:List D} {vs:List V},aK K θ H ds vs→ds.length=vs.length
 | [],vs,h=>by cases (show vs=[] from h);rfl
 | d::ds,vs,h=>by
  obtain⟨v,r,e,_,h2⟩:=h;subst e;rw[length_cons,length_cons,ak h2]
theorem cK:∀{ds es:List D} {vs us:List V},aK K θ H ds vs→aK K θ H es us→aK K θ H (ds++es) (vs++us)
 | [],es,vs,us,h,k=>by cases (show vs=[] from h);exact k
 | d::ds,es,vs,us,h,k=>by
  obtain⟨v,r,e,h1,h2⟩:=h;subst e;exact⟨v,r++us,rfl,h1,cK h2 k⟩
theorem cL:∀{ds:List D} {vs:List V} {i:Nat} {d:D},aK K θ H ds vs→ds[i]?=some d→∃v,vs[i]?=some v∧cw K θ H d v
 | [],vs,i,d,h,e=>by simp at e
 | x::ds,vs,0,d,h,e=>by
  obtain⟨v,r,e1,h1,h2⟩:=h;subst e1;simp at e;subst e;exact⟨v,rfl,h1⟩
 | x::ds,vs,i+1,d,h,e=>by
  obtain⟨v,r,e1,h1,h2⟩:=h;subst e1;obtain⟨u,e2,h3⟩:=cL (i:=i) h2 (by simpa using e);exact⟨u,by simpa using e2,h3⟩
theorem jp:∀{ds:List D} {vs:List V} (n:Nat),aK K θ H ds vs→aK K θ H (ds.take n) (vs.take n)
 | ds,vs,0,h=>by rw[take_zero,take_zero];exact rfl
 | [],vs,n+1,h=>by cases (show vs=[] from h);exact rfl
 | d::ds,vs,n+1,h=>by
  obtain⟨v,r,e,h1,h2⟩:=h;subst e;exact⟨v,r.take n,rfl,h1,jp n h2⟩
theorem jy:∀{ds:List D} {vs:List V} (n:Nat),aK K θ H ds vs→aK K θ H (ds.drop n) (vs.drop n)
 | ds,vs,0,h=>h
 | [],vs,n+1,h=>by cases (show vs=[] from h);exact rfl
 | d::ds,vs,n+1,h=>by
  obtain⟨v,r,e,h1,h2⟩:=h;subst e;exact jy n h2
theorem kG {d:D}{v:V}(hd:cw K θ H d v):∀{ds:List D} {vs:List V} (i:Nat),aK K θ H ds vs→aK K θ H (ds.set i d) (vs.set i v)
 | [],vs,i,h=>by cases (show vs=[] from h);exact rfl
 | x::ds,vs,0,h=>by
  obtain⟨u,r,e,h1,h2⟩:=h;subst e;exact⟨v,r,rfl,hd,h2⟩
 | x::ds,vs,i+1,h=>by
  obtain⟨u,r,e,h1,h2⟩:=h;subst e;exact⟨u,r.set i v,rfl,h1,kG hd i h2⟩
theorem fQ {o:HO}(w:Wr K θ H M)(hp:H p=none):Grow θ H θ (bS H p o):=
 ⟨⟨[],by simp,fun _ z=>by cases z⟩,fun b u h _ _=>by rw[aw (a9 h hp)];exact h,fun b ps h=>⟨ps,by rw[aw (a9 h hp)];exact h⟩⟩
theorem ji (g:Grow θ H θ' H'):∀{fs:List (Str×D)} {vs:List (Str×V)},nl K θ H fs vs→nl K θ' H' fs vs
 | [],vs,h=>h
 | (f,d)::fs,vs,h=>by
  obtain⟨v,r,e,h1,h2⟩:=h;exact⟨v,r,e,fJ g d v h1,ji g h2⟩
theorem eT {κ:Type}(g:Grow θ H θ' H'):∀{fs:List (κ×D)} {vs:List (κ×V)},fS K θ H fs vs→fS K θ' H' fs vs
 | [],vs,h=>h
 | (f,d)::fs,vs,h=>by
  obtain⟨v,r,e,h1,h2⟩:=h;exact⟨v,r,e,fJ g d v h1,eT g h2⟩
theorem i7.grow {m:MO}(g:Grow θ H θ' H')(hs:H' a=H a)(h:i7 K θ H m a):i7 K θ' H' m a:=by
 cases m with
 | lst ds=>
  obtain⟨vs,e,r⟩:=h;exact⟨vs,by rw[hs];exact e,bL g ds vs r⟩
 | obj c fs=>
  obtain⟨C,dx,vs,k,e,r⟩:=h;exact⟨C,dx,vs,k,by rw[hs];exact e,ji g r⟩
 | dK kvs=>
  obtain⟨vs,e,r⟩:=h;exact⟨vs,by rw[hs];exact e,eT g r⟩
 | dT kvs=>
  obtain⟨vs,e,r⟩:=h;exact⟨vs,by rw[hs];exact e,eT g r⟩
theorem cf {o:HO}(w:Wr K θ H M)(hp:H p=none):Go K θ H θ (bS H p o) M:=
 ⟨fQ w hp,w.len,w.nd,fun i a m h1 h2=>by
  have ha:a≠p:=fun e=>w.fresh hp (by rw[←e];exact mem_of_getElem? h1)
  exact(w.at_ i a m h1 h2).grow (fQ w hp) (aw ha),w.tb.new hp⟩
theorem dZ {ds:List D}{vs:List V}(w:Wr K θ H M)(hp:H p=none)(r:aK K θ H ds vs):cw K θ (bS H p (.tup vs)) (.tup ds) (.ref p):=
 ⟨p,vs,rfl,⟨bZ,w.fresh hp⟩,bL (fQ w hp) ds vs r⟩
theorem dN {ds:List D}{vs:List V}(w:Wr K θ H M)(hp:H p=none)(r:aK K θ H ds vs):cw K θ (bS H p (.lst vs)) (.lst ds) (.ref p):=
 ⟨p,vs,rfl,⟨bZ,w.fresh hp⟩,bL (fQ w hp) ds vs r⟩
theorem jw {o:HO}(hp:H p=none):Grow θ H (θ++[p]) (bS H p o):=
 ⟨⟨[p],rfl,fun a ha=>by rw[mem_singleton.mp ha];exact hp⟩,fun b u h _ _=>by rw[aw (a9 h hp)];exact h,fun b ps h=>⟨ps,by rw[aw (a9 h hp)];exact h⟩⟩
theorem mL {m:MO}{o:HO}(w:Wr K θ H M)(hp:H p=none)(hm:i7 K (θ++[p]) (bS H p o) m p):Go K θ H (θ++[p]) (bS H p o) (M++[m]):=by
 have np:=w.fresh hp;have g:Grow θ H (θ++[p]) (bS H p o):=jw hp;refine⟨g,by rw[length_append,length_append,w.len];rfl,?_,fun i a m' h1 h2=>?_,w.tb.new hp⟩
 ·rw[nodup_append];exact⟨w.nd,by simp,fun x hx y hy e=>np (by rw[mem_singleton.mp hy] at e;rw[←e];exact hx)⟩
 ·by_cases hi:i<θ.length
  ·rw[getElem?_append_left hi] at h1;rw[getElem?_append_left (by rw[←w.len];exact hi)] at h2;have ha:a≠p:=fun e=>np (by rw[←e];exact mem_of_getElem? h1)
   exact(w.at_ i a m' h1 h2).grow g (aw ha)
  ·have hi':i=θ.length:=by
    have:=(List.getElem?_eq_some_iff.mp h1).1;rw[length_append,length_singleton] at this;omega
   subst hi';rw[getElem?_append_right (Nat.le_refl _)] at h1;rw[getElem?_append_right (by rw[w.len];exact Nat.le_refl _)] at h2;simp only[Nat.sub_self,w.len,getElem?_cons_zero,Option.some.injEq] at h1 h2;subst h1;subst h2;exact hm
theorem qq {ds:List D}{vs:List V}(w:Wr K θ H M)(hp:H p=none)(r:aK K θ H ds vs):Go K θ H (θ++[p]) (bS H p (.lst vs)) (M++[.lst ds]):=
 mL w hp ⟨vs,bZ,bL (jw hp) ds vs r⟩
theorem ko {i:Nat}{o:HO}(w:Wr K θ H M)(hi:θ[i]?=some a):Grow θ H θ (bS H a o):=by
 have ha:a∈θ:=mem_of_getElem? hi;obtain⟨u,hu,pu⟩:=w.plain hi;exact⟨⟨[],by simp,fun _ z=>by cases z⟩,fun b u h n _=>by rw[aw (fun e=>n (by rw[e];exact ha))];exact h,fun b ps h=>⟨ps,by rw[aw (kQ h hu (by intro z;subst z;cases pu))];exact h⟩⟩
theorem m4 {i:Nat}{m:MO}{o:HO}(w:Wr K θ H M)(hi:θ[i]?=some a)(hm:i7 K θ (bS H a o) m a):Go K θ H θ (bS H a o) (M.set i m):=by
 have g:Grow θ H θ (bS H a o):=ko w hi;obtain⟨u,hu,pu⟩:=w.plain hi;refine⟨g,by rw[length_set];exact w.len,w.nd,fun j b m' h1 h2=>?_,w.tb.at_ hu pu⟩
 by_cases hj:j=i
 ·subst hj;rw[hi] at h1;cases h1;have hl:j<M.length:=by rw[←w.len];exact(List.getElem?_eq_some_iff.mp hi).1
  rw[getElem?_set_self hl] at h2;cases h2;exact hm
 ·rw[getElem?_set_ne (Ne.symm hj)] at h2;have hb:b≠a:=fun e=>by
   subst e;obtain⟨h3,e3⟩:=List.getElem?_eq_some_iff.mp h1;obtain⟨h4,e4⟩:=List.getElem?_eq_some_iff.mp hi;exact hj ((getElem_inj w.nd).mp (e3.trans e4.symm))
  exact(w.at_ j b m' h1 h2).grow g (aw hb)
theorem pj {i:Nat}{ds ds':List D}{vs':List V}(w:Wr K θ H M)(hi:θ[i]?=some a)(r:aK K θ H ds' vs'):Go K θ H θ (bS H a (.lst vs')) (M.set i (.lst ds')):=
 m4 w hi ⟨vs',bZ,bL (ko w hi) ds' vs' r⟩
end
abbrev GE:=bG→am→aN D
abbrev GT:=bG→am→aN Bool
abbrev GA:=bG→am→aN (List D)
inductive Fl where
 | nx (ρ:bG)|rt (d:D)|bk (ρ:bG)|ct (ρ:bG)
abbrev GS:=bG→am→aN Fl
def cp (X:Cx)(θ:List Addr)(H:Hp)(c:Str)(M:am):Prop:=∀C θ' H' a s',iE X.K c C→Go X.K θ H θ' H' M→Ad X H' a C s'→X.xe (.ref a) s'
def aI (X:Cx)(θ:List Addr)(H:Hp)(Q:VK):aN D→Prop
 | .ok d M'=>∀v θ' H',Go X.K θ H θ' H' M'→cw X.K θ' H' d v→Q v H'
 | .err c M'=>cp X θ H c M'
 | .bad=>False
def kj (X:Cx)(θ:List Addr)(H:Hp)(Q:Bool→Hp→Prop):aN Bool→Prop
 | .ok b M'=>∀θ' H',Go X.K θ H θ' H' M'→Q b H'
 | .err c M'=>cp X θ H c M'
 | .bad=>False
def nr (X:Cx)(θ:List Addr)(H:Hp)(Q:List V→Hp→Prop):aN (List D)→Prop
 | .ok ds M'=>∀vs θ' H',Go X.K θ H θ' H' M'→aK X.K θ' H' ds vs→Q vs H'
 | .err c M'=>cp X θ H c M'
 | .bad=>False
def bH (X:Cx)(θ:List Addr)(H:Hp)(D:nC):aN Fl→Prop
 | .ok (.nx ρ) M'=>∀σ θ' H',Go X.K θ H θ' H' M'→eM X.K θ' H' σ ρ→D.nx σ H'
 | .ok (.bk ρ) M'=>∀σ θ' H',Go X.K θ H θ' H' M'→eM X.K θ' H' σ ρ→D.bk σ H'
 | .ok (.ct ρ) M'=>∀σ θ' H',Go X.K θ H θ' H' M'→eM X.K θ' H' σ ρ→D.ct σ H'
 | .ok (.rt d) M'=>∀v θ' H',Go X.K θ H θ' H' M'→cw X.K θ' H' d v→D.rt v H'
 | .err c M'=>cp X θ H c M'
 | .bad=>False
def tE (X:Cx)(g:GE):TE:=fun σ H Q=>∃ρ θ M,eM X.K θ H σ ρ∧Wr X.K θ H M∧aI X θ H Q (g ρ M)
def tT (X:Cx)(g:GT):TT:=fun σ H Q=>∃ρ θ M,eM X.K θ H σ ρ∧Wr X.K θ H M∧kj X θ H Q (g ρ M)
def tA (X:Cx)(g:GA):TA:=fun σ H Q=>∃ρ θ M,eM X.K θ H σ ρ∧Wr X.K θ H M∧nr X θ H Q (g ρ M)
def tS (X:Cx)(g:GS):TS:=fun D σ H=>∃ρ θ M,eM X.K θ H σ ρ∧Wr X.K θ H M∧bH X θ H D (g ρ M)
section
variable {X:Cx}{θ θ':List Addr}{H H':Hp}{M':am}
theorem cp.go {c:Str}{M:am}(g:Go X.K θ H θ' H' M')(h:cp X θ H c M):cp X θ' H' c M:=fun C θ2 H2 a s' k g2 fl=>h C θ2 H2 a s' k (g.trans g2) fl
theorem aI.go {Q:VK}{o:aN D}(g:Go X.K θ H θ' H' M')(h:aI X θ H Q o):aI X θ' H' Q o:=by
 cases o with
 | ok d M=>exact fun v θ2 H2 g2=>h v θ2 H2 (g.trans g2)
 | err c M=>exact cp.go (c:=c) (M:=M) g h
 | bad=>exact h
theorem kj.go {Q:Bool→Hp→Prop}{o:aN Bool}(g:Go X.K θ H θ' H' M')(h:kj X θ H Q o):kj X θ' H' Q o:=by
 cases o with
 | ok d M=>exact fun θ2 H2 g2=>h θ2 H2 (g.trans g2)
 | err c M=>exact cp.go (c:=c) (M:=M) g h
 | bad=>exact h
theorem nr.go {Q:List V→Hp→Prop}{o:aN (List D)}(g:Go X.K θ H θ' H' M')(h:nr X θ H Q o):nr X θ' H' Q o:=by
 cases o with
 | ok d M=>exact fun v θ2 H2 g2=>h v θ2 H2 (g.trans g2)
 | err c M=>exact cp.go (c:=c) (M:=M) g h
 | bad=>exact h
theorem bH.go {D:nC}{o:aN Fl}(g:Go X.K θ H θ' H' M')(h:bH X θ H D o):bH X θ' H' D o:=by
 cases o with
 | ok f M=>cases f <;> exact fun v θ2 H2 g2=>h v θ2 H2 (g.trans g2)
 | err c M=>exact cp.go (c:=c) (M:=M) g h
 | bad=>exact h
end
section
variable {X:Cx}{e:Expr}
theorem _root_.L2.PE.of {t t':TE}(h:PE X e t)(w:∀σ H Q,t' σ H Q→t σ H Q):PE X e t':=fun af s σ H Q I q=>h af s σ H Q I (w σ H Q q)
theorem _root_.L2.PT.of {t t':TT}(h:PT X e t)(w:∀σ H Q,t' σ H Q→t σ H Q):PT X e t':=fun af s σ H Q I q=>h af s σ H Q I (w σ H Q q)
theorem _root_.L2.PW.of {t t':TT}(h:PW X e t)(w:∀σ H Q,t' σ H Q→t σ H Q):PW X e t':=fun wh af s σ H Q I q=>h wh af s σ H Q I (w σ H Q q)
theorem _root_.L2.PA.of {es:List Expr}{t t':TA}(h:PA X es t)(w:∀σ H Q,t' σ H Q→t σ H Q):PA X es t':=fun pos af s σ H Q I q=>h pos af s σ H Q I (w σ H Q q)
theorem _root_.L2.PS.of {st:Stmt}{t t':TS}(h:PS X st t)(w:∀D σ H,t' D σ H→t D σ H):PS X st t':=fun af s σ H D I q=>h af s σ H D I (w D σ H q)
theorem _root_.L2.PSs.of {st:List Stmt}{t t':TS}(h:PSs X st t)(w:∀D σ H,t' D σ H→t D σ H):PSs X st t':=fun af s σ H D I q=>h af s σ H D I (w D σ H q)
theorem bB {g:GE}{σ:L2.St}{H:Hp}{Q:VK}{α:Type}{ρ:bG}{θ:List Addr}{M:am}(hd:eM X.K θ H σ ρ)(hw:Wr X.K θ H M)(F:aN α→Prop)(Fe:∀c M',F (.err c M')→cp X θ H c M')(Fb:F .bad→False)
  {f:D→am→aN α} (h:F ((g ρ M).bind f))
  (k:∀d M1 v θ1 H1,Go X.K θ H θ1 H1 M1→cw X.K θ1 H1 d v→F (f d M1)→Q v H1):tE X g σ H Q:=by
 refine⟨ρ,θ,M,hd,hw,?_⟩;cases q:g ρ M with
 | ok d M1=>
  rw[q] at h;exact fun v θ1 H1 g1 r1=>k d M1 v θ1 H1 g1 r1 h
 | err c M1=>rw[q] at h;exact Fe c M1 h
 | bad=>rw[q] at h;exact(Fb h).elim
def ae (i:Nat):GE:=fun ρ M=>match ρ[i]? with
 | some (some d)=>.ok d M
 | _=>.bad
def gC (d:D):GE:=fun _ M=>.ok d M
theorem xf {i:Nat}(h:PE X e (ym i)):PE X e (tE X (ae i)):=h.of fun σ H Q hxx=>by
 obtain⟨ρ,θ,M,hd,hw,f⟩:=hxx;unfold ae at f;split at f
 ·rename_i d q;obtain⟨v,e1,r⟩:=hd.at_ i d q;exact⟨v,e1,f v θ H (.refl hw) r⟩
 ·exact f.elim
theorem wY {i j pos}:PE X (.Constant (.int i) j pos) (tE X (gC (.int i))):=wj.of fun σ H Q ⟨ρ,θ,M,hd,hw,f⟩=>f _ θ H (.refl hw) rfl
theorem xK {b j pos}:PE X (.Constant (.bool b) j pos) (tE X (gC (.bl b))):=yv.of fun σ H Q ⟨ρ,θ,M,hd,hw,f⟩=>f _ θ H (.refl hw) rfl
theorem vp {j pos}:PE X (.Constant .none j pos) (tE X (gC .non)):=we.of fun σ H Q ⟨ρ,θ,M,hd,hw,f⟩=>f _ θ H (.refl hw) rfl
abbrev F2:=D→D→am→aN D
def g2 (f:F2)(ga gb:GE):GE:=fun ρ M=>(ga ρ M).bind fun x M1=>(gb ρ M1).bind fun y M2=>f x y M2
def rD (X:Cx)(f:F2):R2:=fun x y H Q=>∃θ M dx dy,Wr X.K θ H M∧cw X.K θ H dx x∧cw X.K θ H dy y∧aI X θ H Q (f dx dy M)
theorem m8 {f:F2}{ga gb:GE}{σ:L2.St}{H:Hp}{Q:VK}(h:tE X (g2 f ga gb) σ H Q):zl (rD X f) (tE X ga) (tE X gb) σ H Q:=by
 obtain⟨ρ,θ,M,hd,hw,h⟩:=h;refine bB hd hw (aI X θ H Q) (fun c M' h=>h) (fun h=>h) h fun dx M1 x θ1 H1 g1 r1 h1=>?_
 refine bB (hd.go g1) g1.wr (aI X θ1 H1 Q) (fun c M' h=>h) (fun h=>h) (h1.go g1) fun dy M2 y θ2 H2 g2 r2 h2=>?_
 exact⟨θ2,M2,dx,dy,g2.wr,r1.go g2,r2,h2.go g2⟩
theorem xC {a b:Expr}{op:Operator}{pos:Pos}{f:F2}{ga gb:GE}(ho:dB X (binaryOp op) (rD X f))(ha:PE X a (tE X ga))(hb:PE X b (tE X gb)):PE X (.BinOp a op b pos) (tE X (g2 f ga gb)):=
 (xw ho ha hb).of fun _ _ _ h=>m8 h
theorem vB {a b:Expr}{op:CmpOp}{pos:Pos}{f:F2}{ga gb:GE}(ho:dB X (compareOp op) (rD X f))(ha:PE X a (tE X ga))(hb:PE X b (tE X gb))(hm:behindInMarks op b=false):PE X (.Compare a [op] [b] pos) (tE X (g2 f ga gb)):=
 (ue ho ha hb hm).of fun _ _ _ h=>m8 h
def xZ:D→am→aN Bool
 | .bl b,M=>.ok b M
 | _,_=>.bad
def br (g:GE):GT:=fun ρ M=>(g ρ M).bind xZ
theorem p0 {θ:List Addr}{H:Hp}{Q:Bool→Hp→Prop}{o:aN D}(h:kj X θ H Q (o.bind xZ)):aI X θ H (fun x H'=>∃k,x=.bl k∧Q k H') o:=by
 cases o with
 | ok d M=>
  cases d with
  | bl b=>exact fun v θ1 H1 g1 r1=>⟨b,r1,h θ1 H1 g1⟩
  | _=>exact h.elim
 | err c M=>exact h
 | bad=>exact h
theorem qN {g:GE}{σ:L2.St}{H:Hp}{Q:Bool→Hp→Prop}(h:tT X (br g) σ H Q):tE X g σ H fun x H'=>∃k,x=.bl k∧Q k H':=by
 obtain⟨ρ,θ,M,hd,hw,h⟩:=h;exact⟨ρ,θ,M,hd,hw,p0 h⟩
theorem qL {a b:Expr}{op:CmpOp}{pos:Pos}{f:F2}{ga gb:GE}(ho:dB X (compareOp op) (rD X f))(ha:PE X a (tE X ga))(hb:PE X b (tE X gb))(hm:behindInMarks op b=false):PT X (.Compare a [op] [b] pos) (tT X (br (g2 f ga gb))):=
 (sG ho ha hb hm).of fun σ H Q h=>m8 (qN h)
def ny (f f':F2)(ga gb gc:GE):GE:=fun ρ M=>(ga ρ M).bind fun x M1=>(gb ρ M1).bind fun y M2=>(f x y M2).bind fun z M3=>match z with
 | .bl true=>(gc ρ M3).bind fun w M4=>f' y w M4
 | .bl false=>.ok (.bl false) M3
 | _=>.bad
theorem yO {f f':F2}{ga gb gc:GE}{σ:L2.St}{H:Hp}{Q:VK}(h:tE X (ny f f' ga gb gc) σ H Q):qQ (rD X f) (rD X f') (tE X ga) (tE X gb) (tE X gc) σ H Q:=by
 obtain⟨ρ,θ,M,hd,hw,h⟩:=h;refine bB hd hw (aI X θ H Q) (fun c M' h=>h) (fun h=>h) h fun dx M1 x θ1 H1 g1 r1 h1=>?_
 refine bB (hd.go g1) g1.wr (aI X θ1 H1 Q) (fun c M' h=>h) (fun h=>h) (h1.go g1) fun dy M2 y θ2 H2 g2 r2 h2=>?_
 refine⟨θ2,M2,dx,dy,g2.wr,r1.go g2,r2,?_⟩;have h3:=h2.go g2;cases q:f dx dy M2 with
 | ok z M3=>
  rw[q] at h3;intro v θ3 H3 g3 r3;cases z with
  | bl k=>
   refine⟨k,r3,?_⟩;cases k with
   | true=>
    rw[if_pos rfl];refine bB ((hd.go g1).go (g2.trans g3)) g3.wr (aI X θ3 H3 Q) (fun c M' h=>h) (fun h=>h) (h3.go g3) fun dw M4 w θ4 H4 g4 r4 h4=>?_
    exact⟨θ4,M4,dy,dw,g4.wr,r2.go (g3.trans g4),r4,h4.go g4⟩
   | false=>
    rw[if_neg Bool.false_ne_true];exact h3 _ θ3 H3 g3 rfl
  | _=>exact h3.elim
 | err c M3=>rw[q] at h3;exact h3
 | bad=>rw[q] at h3;exact h3
theorem qM {a b c:Expr}{op op':CmpOp}{pos:Pos}{f f':F2}{ga gb gc:GE}(ho:dB X (compareOp op) (rD X f))(ho':dB X (compareOp op') (rD X f'))(ha:PE X a (tE X ga))(hb:PE X b (tE X gb))(hc:PE X c (tE X gc))
  (hm:lastMarks [op,op'] [b,c]=false:=by with_unfolding_all rfl):PT X (.Compare a [op,op'] [b,c] pos) (tT X (br (ny f f' ga gb gc))):=(qw ho ho' ha hb hc hm).of fun σ H Q h=>yO (qN h)
def d9 (a b:GT):GT:=fun ρ M=>(a ρ M).bind fun c M1=>if c then b ρ M1 else .ok false M1
def iM (a b:GT):GT:=fun ρ M=>(a ρ M).bind fun c M1=>if c then .ok true M1 else b ρ M1
theorem mD {g:GT}{σ:L2.St}{H:Hp}{Q:Bool→Hp→Prop}{α:Type}{ρ:bG}{θ:List Addr}{M:am}(hd:eM X.K θ H σ ρ)(hw:Wr X.K θ H M)(F:aN α→Prop)(Fe:∀c M',F (.err c M')→cp X θ H c M')(Fb:F .bad→False)
  {f:Bool→am→aN α} (h:F ((g ρ M).bind f)) (k:∀d M1 θ1 H1,Go X.K θ H θ1 H1 M1→F (f d M1)→Q d H1):tT X g σ H Q:=by
 refine⟨ρ,θ,M,hd,hw,?_⟩;cases q:g ρ M with
 | ok d M1=>
  rw[q] at h;exact fun θ1 H1 g1=>k d M1 θ1 H1 g1 h
 | err c M1=>rw[q] at h;exact Fe c M1 h
 | bad=>rw[q] at h;exact(Fb h).elim
variable {a b:Expr}{pos:Pos}{rest:List Expr}{ta tb:GT}{ga gb:GE}
theorem rJ (ha:PT X a (tT X ta)):PW X (.BoolOp .And [a] pos) (tT X ta):=si ha
theorem wt (ha:PT X a (tT X ta)):PW X (.BoolOp .Or [a] pos) (tT X ta):=wQ ha
theorem wq (ha:PT X a (tT X ta))(hb:PW X (.BoolOp .And (b::rest) pos) (tT X tb)):PW X (.BoolOp .And (a::b::rest) pos) (tT X (d9 ta tb)):=(wJ ha hb).of fun σ H Q hxx=>by
 obtain⟨ρ,θ,M,hd,hw,h⟩:=hxx;refine mD hd hw (kj X θ H Q) (fun c M' h=>h) (fun h=>h) h fun c M1 θ1 H1 g1 h1=>?_
 cases c with
 | true=>exact⟨ρ,θ1,M1,hd.go g1,g1.wr,kj.go g1 h1⟩
 | false=>exact h1 θ1 H1 g1
theorem zp (ha:PT X a (tT X ta))(hb:PW X (.BoolOp .Or (b::rest) pos) (tT X tb)):PW X (.BoolOp .Or (a::b::rest) pos) (tT X (iM ta tb)):=(yC ha hb).of fun σ H Q hxx=>by
 obtain⟨ρ,θ,M,hd,hw,h⟩:=hxx;refine mD hd hw (kj X θ H Q) (fun c M' h=>h) (fun h=>h) h fun c M1 θ1 H1 g1 h1=>?_
 cases c with
 | true=>exact h1 θ1 H1 g1
 | false=>exact⟨ρ,θ1,M1,hd.go g1,g1.wr,kj.go g1 h1⟩
def ag:GA:=fun _ M=>.ok [] M
def aa (g:GE)(r:GA):GA:=fun ρ M=>(g ρ M).bind fun d M1=>(r ρ M1).bind fun ds M2=>.ok (d::ds) M2
theorem gJ {g:GA}{σ:L2.St}{H:Hp}{Q:List V→Hp→Prop}{α:Type}{ρ:bG}{θ:List Addr}{M:am}(hd:eM X.K θ H σ ρ)(hw:Wr X.K θ H M)(F:aN α→Prop)(Fe:∀c M',F (.err c M')→cp X θ H c M')(Fb:F .bad→False)
  {f:List D→am→aN α} (h:F ((g ρ M).bind f)) (k:∀ds M1 vs θ1 H1,Go X.K θ H θ1 H1 M1→aK X.K θ1 H1 ds vs→F (f ds M1)→Q vs H1):tA X g σ H Q:=by
 refine⟨ρ,θ,M,hd,hw,?_⟩;cases q:g ρ M with
 | ok d M1=>
  rw[q] at h;exact fun v θ1 H1 g1 r1=>k d M1 v θ1 H1 g1 r1 h
 | err c M1=>rw[q] at h;exact Fe c M1 h
 | bad=>rw[q] at h;exact(Fb h).elim
theorem ve:PA X [] (tA X ag):=lK.of fun σ H Q ⟨ρ,θ,M,hd,hw,f⟩=>f [] θ H (.refl hw) rfl
theorem uj {es:List Expr}{gr:GA}(ha:PE X e (tE X ga))(hr:PA X es (tA X gr))(hs:starEach (e::es) X.env=(false,eval e X.env)::starEach es X.env:=by rfl):PA X (e::es) (tA X (aa ga gr)):=
 (jI ha hr hs).of fun σ H Q hxx=>by
  obtain⟨ρ,θ,M,hd,hw,h⟩:=hxx;refine bB hd hw (nr X θ H Q) (fun c M' h=>h) (fun h=>h) h fun d M1 v θ1 H1 g1 r1 h1=>?_
  refine gJ (hd.go g1) g1.wr (nr X θ1 H1 Q) (fun c M' h=>h) (fun h=>h) (h1.go g1) fun ds M2 vs θ2 H2 g2 r2 h2=>?_
  exact h2 (v::vs) θ2 H2 g2 ⟨v,vs,rfl,r1.go g2,r2⟩
def iQ (ds:List D)(M:am):aN D:=if ds.length≤sizeLine then .ok (.tup ds) M else .bad
def bo (ds:List D)(M:am):aN D:=if ds.length≤sizeLine then .ok (.lst ds) M else .bad
def cQ (ds:List D)(M:am):aN D:=if ds.length≤sizeLine then .ok (.mr M.length) (M++[.lst ds]) else .bad
def aL (g:GA):GE:=fun ρ M=>(g ρ M).bind iQ
def dg (g:GA):GE:=fun ρ M=>(g ρ M).bind bo
def dR (g:GA):GE:=fun ρ M=>(g ρ M).bind cQ
theorem aI.tup {θ:List Addr}{H:Hp}{Q:VK}{ds:List D}{M:am}{vs:List V}(h:aI X θ H Q (iQ ds M))(hw:Wr X.K θ H M)(r:aK X.K θ H ds vs):vs.length≤sizeLine∧∀p,H p=none→Q (.ref p) (bS H p (.tup vs)):=by
 unfold iQ at h
 by_cases hl:ds.length≤sizeLine
 ·rw[if_pos hl] at h;exact⟨by rw[←ak r];exact hl,fun p hp=>h _ θ _ (cf hw hp) (dZ hw hp r)⟩
 ·rw[if_neg hl] at h;exact h.elim
theorem aI.lst {θ:List Addr}{H:Hp}{Q:VK}{ds:List D}{M:am}{vs:List V}(h:aI X θ H Q (bo ds M))(hw:Wr X.K θ H M)(r:aK X.K θ H ds vs):vs.length≤sizeLine∧∀p,H p=none→Q (.ref p) (bS H p (.lst vs)):=by
 unfold bo at h
 by_cases hl:ds.length≤sizeLine
 ·rw[if_pos hl] at h;exact⟨by rw[←ak r];exact hl,fun p hp=>h _ θ _ (cf hw hp) (dN hw hp r)⟩
 ·rw[if_neg hl] at h;exact h.elim
theorem aI.mut {θ:List Addr}{H:Hp}{Q:VK}{ds:List D}{M:am}{vs:List V}(h:aI X θ H Q (cQ ds M))(hw:Wr X.K θ H M)(r:aK X.K θ H ds vs):vs.length≤sizeLine∧∀p,H p=none→Q (.ref p) (bS H p (.lst vs)):=by
 unfold cQ at h
 by_cases hl:ds.length≤sizeLine
 ·rw[if_pos hl] at h;refine⟨by rw[←ak r];exact hl,fun p hp=>h _ (θ++[p]) _ (qq hw hp r) ⟨p,rfl,?_⟩⟩;rw[←hw.len,getElem?_append_right (Nat.le_refl _)];simp
 ·rw[if_neg hl] at h;exact h.elim
theorem uV {es:List Expr}{x1}{g:GA}(h:PA X es (tA X g)):PE X (.Tuple es x1 pos) (tE X (aL g)):=(xc h).of fun σ H Q ⟨ρ,θ,M,hd,hw,h⟩=>
 gJ hd hw (aI X θ H Q) (fun c M' h=>h) (fun h=>h) h fun ds M1 vs θ1 H1 g1 r1 h1=>aI.tup (aI.go g1 h1) g1.wr r1
theorem wK {es:List Expr}{g:GA}(h:PA X es (tA X g)):PE X (.List es pos) (tE X (dg g)):=(pJ h).of fun σ H Q ⟨ρ,θ,M,hd,hw,h⟩=>
 gJ hd hw (aI X θ H Q) (fun c M' h=>h) (fun h=>h) h fun ds M1 vs θ1 H1 g1 r1 h1=>aI.lst (aI.go g1 h1) g1.wr r1
theorem wO {es:List Expr}{g:GA}(h:PA X es (tA X g)):PE X (.List es pos) (tE X (dR g)):=(pJ h).of fun σ H Q ⟨ρ,θ,M,hd,hw,h⟩=>
 gJ hd hw (aI X θ H Q) (fun c M' h=>h) (fun h=>h) h fun ds M1 vs θ1 H1 g1 r1 h1=>aI.mut (aI.go g1 h1) g1.wr r1
end
section
variable {K:W.Frag}{θ:List Addr}{H:Hp}{σ:L2.St}{ρ:bG}
theorem eM.set {d:D}{v:V}(h:eM K θ H σ ρ)(r:cw K θ H d v)(i:Nat):eM K θ H (σ.set i (some v)) (ρ.set i (some d)):=by
 refine⟨by rw[length_set,length_set];exact h.len,fun j d' e=>?_⟩
 by_cases hj:j=i
 ·subst hj;have hl:j<ρ.length:=by
   have:=(List.getElem?_eq_some_iff.mp e).1;rw[length_set] at this;exact this
  rw[getElem?_set_self hl] at e;have e':d=d':=by simpa using e
  subst e';exact⟨v,getElem?_set_self (by rw[←h.len];exact hl),r⟩
 ·rw[getElem?_set_ne (Ne.symm hj)] at e;obtain⟨u,e1,r1⟩:=h.at_ j d' e;exact⟨u,by rw[getElem?_set_ne (Ne.symm hj)];exact e1,r1⟩
end
def bx:GS:=fun ρ M=>.ok (.nx ρ) M
def au (a b:GS):GS:=fun ρ M=>(a ρ M).bind fun f M1=>match f with
 | .nx ρ1=>b ρ1 M1
 | .rt d=>.ok (.rt d) M1
 | .bk ρ1=>.ok (.bk ρ1) M1
 | .ct ρ1=>.ok (.ct ρ1) M1
def aC (i:Nat)(g:GE):GS:=fun ρ M=>(g ρ M).bind fun d M1=>.ok (.nx (ρ.set i (some d))) M1
def bc (g:GE):GS:=fun ρ M=>(g ρ M).bind fun d M1=>.ok (.rt d) M1
def d7 (g:GE):GS:=fun ρ M=>(g ρ M).bind fun _ M1=>.ok (.nx ρ) M1
def fz (t:GT)(a b:GS):GS:=fun ρ M=>(t ρ M).bind fun c M1=>if c then a ρ M1 else b ρ M1
section
variable {X:Cx}{st:Stmt}{rest:List Stmt}{e:Expr}{g:GE}{t u:GS}{pos:Pos}
theorem wD:PSs X [] (tS X bx):=tK.of fun D σ H ⟨ρ,θ,M,hd,hw,f⟩=>f σ θ H (.refl hw) hd
theorem ua (h1:PS X st (tS X t))(h2:PSs X rest (tS X u)):PSs X (st::rest) (tS X (au t u)):=(oW h1 h2).of fun D σ H hxx=>by
 obtain⟨ρ,θ,M,hd,hw,h⟩:=hxx;refine⟨ρ,θ,M,hd,hw,?_⟩;unfold au at h;cases q:t ρ M with
 | ok f M1=>
  rw[q] at h;cases f with
  | nx ρ1=>exact fun σ1 θ1 H1 g1 d1=>⟨ρ1,θ1,M1,d1,g1.wr,bH.go g1 h⟩
  | rt d=>exact h
  | bk ρ1=>exact h
  | ct ρ1=>exact h
 | err c M1=>rw[q] at h;exact h
 | bad=>rw[q] at h;exact h
theorem wU (h1:PS X st (tS X t)):PSs X [st] (tS X t):=tD h1
theorem xb {i:Nat}{x:Str}{pos':Pos}(hN:X.N.Nodup)(hi:X.N[i]?=some x)(hx:qW X.env.scope x)(he:PE X e (tE X g))(hs:swapsWith e (some (.Name x pos')) pos.line X.env=pure false:=by rfl)(hf:X.fn x=true∨X.env.scope.names.lookup x=some .local:=by first|exact .inl rfl|exact .inr rfl|assumption) :
  PS X (.Assign [.Name x pos'] e pos) (tS X (aC i g)):=(wa hN hi hx he hs hf).of fun D σ H ⟨ρ,θ,M,hd,hw,h⟩=>
 bB hd hw (bH X θ H D) (fun c M' h=>h) (fun h=>h) h fun d M1 v θ1 H1 g1 r1 h1=>h1 _ θ1 H1 g1 ((hd.go g1).set r1 i)
theorem uT (he:PE X e (tE X g)):PS X (.Return (some e) pos) (tS X (bc g)):=(uU he).of fun D σ H ⟨ρ,θ,M,hd,hw,h⟩=>
 bB hd hw (bH X θ H D) (fun c M' h=>h) (fun h=>h) h fun d M1 v θ1 H1 g1 r1 h1=>h1 v θ1 H1 g1 r1
theorem rX (he:PE X e (tE X g))(hs:swapsWith e none pos.line X.env=pure false:=by rfl):PS X (.Expr e pos) (tS X (d7 g)):=(rS he hs).of fun D σ H ⟨ρ,θ,M,hd,hw,h⟩=>
 bB hd hw (bH X θ H D) (fun c M' h=>h) (fun h=>h) h fun d M1 v θ1 H1 g1 r1 h1=>h1 σ θ1 H1 g1 (hd.go g1)
theorem yq {c:Expr}{a b:List Stmt}{tc:GT}(hc:PT X c (tT X tc))(ha:PSs X a (tS X t))(hb:PSs X b (tS X u)):PS X (.If c a b pos) (tS X (fz tc t u)):=(yH hc ha hb).of fun D σ H hxx=>by
 obtain⟨ρ,θ,M,hd,hw,h⟩:=hxx;refine mD hd hw (bH X θ H D) (fun c M' h=>h) (fun h=>h) h fun c M1 θ1 H1 g1 h1=>?_
 cases c with
 | true=>rw[if_pos rfl];exact⟨ρ,θ1,M1,hd.go g1,g1.wr,bH.go g1 h1⟩
 | false=>rw[if_neg Bool.false_ne_true];exact⟨ρ,θ1,M1,hd.go g1,g1.wr,bH.go g1 h1⟩
abbrev GG:=D→bG→Option bG
def tG (X:Cx)(s:GG):TG:=fun v σ H Q=>∃ρ θ M d,eM X.K θ H σ ρ∧Wr X.K θ H M∧cw X.K θ H d v∧∃ρ',s d ρ=some ρ'∧∀σ',eM X.K θ H σ' ρ'→Q σ' H
def df (i:Nat):GG:=fun d ρ=>some (ρ.set i (some d))
def fL:List Nat→List D→bG→Option bG
 | [],[],ρ=>some ρ
 | i::is,d::ds,ρ=>fL is ds (ρ.set i (some d))
 | _,_,_=>none
def cB (is:List Nat):GG:=fun d ρ=>match d with
 | .tup ds=>fL is ds ρ
 | _=>none
theorem j6 {i:Nat}{x:Str}(hN:X.N.Nodup)(hi:X.N[i]?=some x)(hx:qW X.env.scope x)(hf:X.fn x=true∨X.env.scope.names.lookup x=some .local:=by first|exact .inl rfl|exact .inr rfl|assumption):PG X (.Name x pos) (tG X (df i)):=by
 intro af s σ H v u Q I r h;obtain⟨ρ,θ,M,d,hd,hw,rd,ρ',e,h⟩:=h;cases e;exact tZ hN hi hx hf af s σ H v u Q I r (h _ (hd.set rd i))
def yd (X:Cx)(is:List Nat):uE:=fun vs σ H Q=>∃ρ θ M ds,eM X.K θ H σ ρ∧Wr X.K θ H M∧aK X.K θ H ds vs∧∃ρ',fL is ds ρ=some ρ'∧∀σ',eM X.K θ H σ' ρ'→Q σ' H
theorem rM:tP X [] (yd X []):=by
 intro af s σ H vs us Q I r h;obtain⟨ρ,θ,M,ds,hd,hw,rd,ρ',e,h⟩:=h;cases ds with
 | cons d ds=>cases e
 | nil=>
  have e2:vs=[]:=rd;subst e2;cases e;exact tN af s σ H [] us Q I r ⟨rfl,h σ hd⟩
theorem oS {i:Nat}{is:List Nat}{es:List Expr}(h1:PG X e (tG X (df i)))(h2:tP X es (yd X is))
  (hs:(assignEach (e::es) X.env).map (·.2)=assign e X.env::(assignEach es X.env).map (·.2):=by rfl):tP X (e::es) (yd X (i::is)):=by
 intro af s σ H vs us Q I r h;obtain⟨ρ,θ,M,ds,hd,hw,rd,ρ',e1,h⟩:=h;cases ds with
 | nil=>cases e1
 | cons d ds=>
  obtain⟨v,vr,e2,rv,rr⟩:=rd;subst e2;refine qx h1 h2 hs af s σ H _ us Q I r ⟨v,vr,rfl,ρ,θ,M,d,hd,hw,rv,_,rfl,fun σ1 d1=>?_⟩;exact⟨_,θ,M,ds,d1,hw,rr,ρ',e1,h⟩
theorem vI {is:List Nat}{es:List Expr}{k:Nat}{n:Nat}(hc:X.calm=true)(h:tP X es (yd X is))(hl:is.length=n:=by rfl)
  (hn:(assignEach es X.env).length=n:=by rfl) (hst:(assignEach es X.env).findIdx? (·.1)=none:=by rfl):PG X (.Tuple es k pos) (tG X (cB is)):=by
 intro af s σ H v u Q I r hw;obtain⟨ρ,θ,M,d,hd,hwr,rd,ρ',e1,hw⟩:=hw;cases d with
 | tup ds=>
  obtain⟨a,vs,e2,ta,rs⟩:=rd;have hlen:ds.length=is.length:=by
   have e1:fL is ds ρ=some ρ':=e1;clear hw hd hwr rs hn hst h hl
   induction is generalizing ds ρ with
   | nil=>
    cases ds with
    | nil=>rfl
    | cons _ _=>cases e1
   | cons i is ih=>
    cases ds with
    | nil=>cases e1
    | cons d ds=>rw[length_cons,length_cons,ih _ ds e1 e1]
  refine wZ (n:=n) hc h hn hst af s σ H v u Q I r ⟨a,vs,e2,ta.sq,by rw[←ak rs,hlen,hl],?_⟩;exact⟨ρ,θ,M,ds,hd,hwr,rs,ρ',e1,hw⟩
 | _=>cases e1
def mB:List GG→List D→bG→Option bG
 | [],[],ρ=>some ρ
 | s::ss,d::ds,ρ=>match s d ρ with
  | some ρ1=>mB ss ds ρ1
  | none=>none
 | _,_,_=>none
def dt (s:GG)(g:GE):GS:=fun ρ M=>(g ρ M).bind fun d M1=>match s d ρ with
 | some ρ1=>.ok (.nx ρ1) M1
 | none=>.bad
theorem vK {tg:Expr}{s:GG}(he:PE X e (tE X g))(hg:PG X tg (tG X s))(hs:swapsWithSole [tg] e pos.line X.env=pure false:=by rfl)(hw:swappedStores [tg] e X.env=pure none:=by rfl)
  (h1:(assignEach [tg] X.env).map (·.2)=[assign tg X.env]:=by rfl):PS X (.Assign [tg] e pos) (tS X (dt s g)):=(qF he hg hs hw h1).of fun D σ H hxx=>by
 obtain⟨ρ,θ,M,hd,hwr,h⟩:=hxx;refine bB hd hwr (bH X θ H D) (fun c M' h=>h) (fun h=>h) h fun d M1 v θ1 H1 g1 r1 h1=>?_
 cases q:s d ρ with
 | some ρ1=>
  rw[q] at h1;exact⟨ρ,θ1,M1,d,hd.go g1,g1.wr,r1,ρ1,q,fun σ' d'=>h1 σ' θ1 H1 g1 d'⟩
 | none=>rw[q] at h1;exact h1.elim
def mh (o i x:D)(M:am):aN Unit:=match o,i with
 | .mr k,.int j=>match M[k]? with
  | some (.lst xs)=>match n8 xs.length j with
   | some n=>.ok () (M.set k (.lst (xs.set n x)))
   | none=>.bad
  | _=>.bad
 | _,_=>.bad
def dA (go gi g:GE):GS:=fun ρ M=>(g ρ M).bind fun x M1=>(go ρ M1).bind fun o M2=>(gi ρ M2).bind fun i M3=>(mh o i x M3).bind fun _ M4=>.ok (.nx ρ) M4
theorem vT {o i:Expr}{ip:Pos}{go gi:GE}(he:PE X e (tE X g))(ho:PE X o (tE X go))(hi:PE X i (tE X gi))
  (ha:∀v,assign (.Subscript o i ip) X.env v=(do
   let ov ←holding [v] (eval o X.env)
   let iv ←holding [v,ov] (eval i X.env)
   standAt ip
   holding [v,ov,iv] (setItem ov iv v)
   release [v,ov,iv] []):=by intro _;rfl)
  (hs:swapsWithSole [.Subscript o i ip] e pos.line X.env=pure false:=by rfl) (hw:swappedStores [.Subscript o i ip] e X.env=pure none:=by rfl)
  (h1:(assignEach [.Subscript o i ip] X.env).map (·.2)=[assign (.Subscript o i ip) X.env]:=by rfl):PS X (.Assign [.Subscript o i ip] e pos) (tS X (dA go gi g)):=
 (qF he (uN ho hi pX ha) hs hw h1).of fun D σ H hxx=>by
  obtain⟨ρ,θ,M,hd,hwr,h⟩:=hxx;refine bB hd hwr (bH X θ H D) (fun c M' h=>h) (fun h=>h) h fun dx M1 vx θ1 H1 g1 r1 h1=>?_
  refine bB (hd.go g1) g1.wr (bH X θ1 H1 D) (fun c M' h=>h) (fun h=>h) (h1.go g1) fun dob M2 vo θ2 H2 g2 r2 h2=>?_
  refine bB ((hd.go g1).go g2) g2.wr (bH X θ2 H2 D) (fun c M' h=>h) (fun h=>h) (h2.go g2) fun di M3 vi θ3 H3 g3 r3 h3=>?_
  have h4:=h3.go g3;unfold mh at h4;split at h4
  ·rename_i k j;split at h4
   ·rename_i xs q;split at h4
    ·rename_i n hn;obtain⟨a,ea,ta⟩:=r2.go g3;obtain⟨vs,ev,rv⟩:=g3.wr.at_ k a _ ta q;have ei:vi=.int j:=r3;refine⟨a,vs,j,n,ea,ei,ev,by rw[←ak rv];exact hn,?_⟩;have gs:=pj (ds:=xs) g3.wr ta (kG (r1.go (g2.trans g3)) n rv);exact h4 σ θ3 _ gs ((((hd.go g1).go g2).go g3).go gs)
    ·exact h4.elim
   ·exact h4.elim
  ·exact h4.elim
end
mutual
def wc:D→D→Bool
 | .non,.non=>true
 | .bl a,.bl b=>a==b
 | .int a,.int b=>a==b
 | .str a,.str b=>a==b
 | .tup a,.tup b=>gK a b
 | .lst a,.lst b=>gK a b
 | .ro a,.ro b=>gK a b
 | .mr a,.mr b=>a==b
 | .exc a,.exc b=>a==b
 | .any,.any=>true
 | _,_=>false
def gK:List D→List D→Bool
 | [],[]=>true
 | a::as,b::bs=>wc a b&&gK as bs
 | _,_=>false
end
theorem ff {P:Prop}(h:false=true):P:=absurd h Bool.false_ne_true
mutual
theorem rP:∀(a b:D),wc a b=true→a=b
 | .non,b,h=>by
  cases b with
  | non=>rfl
  | _=>exact ff h
 | .bl x,b,h=>by
  cases b with
  | bl y=>rw[eq_of_beq (show(x==y)=true from h)]
  | _=>exact ff h
 | .int x,b,h=>by
  cases b with
  | int y=>rw[eq_of_beq (show(x==y)=true from h)]
  | _=>exact ff h
 | .str x,b,h=>by
  cases b with
  | str y=>rw[eq_of_beq (show(x==y)=true from h)]
  | _=>exact ff h
 | .tup x,b,h=>by
  cases b with
  | tup y=>rw[eF x y h]
  | _=>exact ff h
 | .lst x,b,h=>by
  cases b with
  | lst y=>rw[eF x y h]
  | _=>exact ff h
 | .ro x,b,h=>by
  cases b with
  | ro y=>rw[eF x y h]
  | _=>exact ff h
 | .mr x,b,h=>by
  cases b with
  | mr y=>rw[eq_of_beq (show(x==y)=true from h)]
  | _=>exact ff h
 | .exc x,b,h=>by
  cases b with
  | exc y=>rw[eq_of_beq (show(x==y)=true from h)]
  | _=>exact ff h
 | .any,b,h=>by
  cases b with
  | any=>rfl
  | _=>exact ff h
theorem eF:∀(a b:List D),gK a b=true→a=b
 | [],b,h=>by
  cases b with
  | nil=>rfl
  | cons _ _=>exact ff h
 | x::xs,b,h=>by
  cases b with
  | nil=>exact ff h
  | cons y ys=>
   have h:=Bool.and_eq_true_iff.mp (show(wc x y&&gK xs ys)=true from h);rw[rP x y h.1,eF xs ys h.2]
end
structure jq where
 ds:List D
 m:Option Nat
def jq.ok (t:jq)(M:am):Bool:=match t.m with
 | none=>true
 | some i=>match M[i]? with
  | some (.lst xs)=>gK xs t.ds
  | _=>false
abbrev GI:=bG→am→aN jq
def uM (K:W.Frag)(J:It)(θ:List Addr)(H:Hp)(t:jq):Prop:=∀θ1 H1 M1,Go K θ H θ1 H1 M1→t.ok M1=true→∀i:Nat,
 (∀d,t.ds[i]?=some d→J.go i H1∧∀x H2,J.yld i H1 x H2→Go K θ1 H1 θ1 H2 M1∧cw K θ1 H2 d x)∧(t.ds.length≤i→J.stop i H1)
def qy (X:Cx)(θ:List Addr)(H:Hp)(R:It→Hp→Prop):aN jq→Prop
 | .ok t M'=>∀J θ' H',Go X.K θ H θ' H' M'→uM X.K J θ' H' t→R J H'
 | .err c M'=>cp X θ H c M'
 | .bad=>False
def tI (X:Cx)(g:GI):TI:=fun σ H R=>∃ρ θ M,eM X.K θ H σ ρ∧Wr X.K θ H M∧qy X θ H R (g ρ M)
def ni (d:D)(M:am):aN jq:=match d with
 | .lst ds=>.ok ⟨ds,none⟩ M
 | .ro ds=>.ok ⟨ds,none⟩ M
 | .tup ds=>.ok ⟨ds,none⟩ M
 | .mr k=>match M[k]? with
  | some (.lst ds)=>.ok ⟨ds,some k⟩ M
  | _=>.bad
 | _=>.bad
def eY (g:GE):GI:=fun ρ M=>(g ρ M).bind ni
section
variable {X:Cx}{tg:Expr}
theorem zw {l:Expr}{tl:TE}(hl:PE X l tl):PI X tg l (fun σ H R=>tl σ H fun x H1=>∃a,x=.ref a∧(((∃xs,io X.K H1 a xs)∧R (zZ X.K a) H1)∨((∃xs,gP X.K H1 a xs)∧R (AI X.K a) H1))):=by
 intro af s σ H R I h;refine bV (hl af s σ H _ I h) fun v s1 hxx=>?_
 obtain⟨x,H1,I1,r1,q1⟩:=hxx;obtain⟨a,e,q1⟩:=q1;subst e;cases r1;rcases q1 with⟨⟨xs,hq⟩,q⟩|⟨⟨xs,hq⟩,q⟩
 ·obtain⟨its,rv,p,hz⟩:=I1.list hq;refine wpAny_pyIter_list p.isList ?_;refine⟨s1.heap.objs.size,[s1.heap.objs.size],_,_,H1,rfl,I1.kept (t':=s1.toks) fun b o e=>Heap.get?_push_of_some _ e,nE a _,⟨_,Heap.get?_push_size _ rfl,rfl,rfl⟩,fun b hb=>?_,q⟩;have e:b=s1.heap.objs.size:=by simpa using hb
  subst e;exact I1.fpOk (Nat.le_refl _) (I1.hok.fresh (Nat.le_refl _))
 ·obtain⟨its,rv,p,hz⟩:=I1.tuple hq;refine wpAny_pyIter_tuple (show s1.heap.IsTuple a its.toArray from p) ?_;refine⟨s1.heap.objs.size,[s1.heap.objs.size],_,_,H1,rfl,I1.kept (t':=s1.toks) fun b o e=>Heap.get?_push_of_some _ e,lP a _,⟨_,Heap.get?_push_size _ rfl,rfl,rfl⟩,fun b hb=>?_,q⟩;have e:b=s1.heap.objs.size:=by simpa using hb
  subst e;exact I1.fpOk (Nat.le_refl _) (I1.hok.fresh (Nat.le_refl _))
theorem mT {K:W.Frag}{θ:List Addr}{H:Hp}{a:Addr}{ds:List D}{vs:List V}(ta:lY K θ H a vs)(r:aK K θ H ds vs):uM K (zZ K a) θ H ⟨ds,none⟩:=by
 intro θ1 H1 M1 g _ i;have t1:=(ta.grow g.toGrow).sq;have r1:=r.go g;refine⟨fun d e=>?_,fun hl=>⟨vs,t1,by rw[←ak r1];exact hl⟩⟩;obtain⟨v,e1,rv⟩:=cL r1 e;refine⟨⟨vs,v,t1,e1⟩,fun x H2 y=>?_⟩;obtain⟨eH,y⟩:=y;subst eH;have e2:=y vs t1;rw[e1] at e2;cases e2;exact⟨.refl g.wr,rv⟩
theorem rQ {K:W.Frag}{θ:List Addr}{H:Hp}{a:Addr}{ds:List D}{vs:List V}(ta:ie K θ H a vs)(r:aK K θ H ds vs):uM K (AI K a) θ H ⟨ds,none⟩:=by
 intro θ1 H1 M1 g _ i;have t1:=(ta.grow g.toGrow).sq;have r1:=r.go g;refine⟨fun d e=>?_,fun hl=>⟨vs,t1,by rw[←ak r1];exact hl⟩⟩;obtain⟨v,e1,rv⟩:=cL r1 e;refine⟨⟨vs,v,t1,e1⟩,fun x H2 y=>?_⟩;obtain⟨eH,y⟩:=y;subst eH;have e2:=y vs t1;rw[e1] at e2;cases e2;exact⟨.refl g.wr,rv⟩
theorem sT {K:W.Frag}{θ:List Addr}{H:Hp}{a:Addr}{ds:List D}{k:Nat}(ta:θ[k]?=some a):uM K (zZ K a) θ H ⟨ds,some k⟩:=by
 intro θ1 H1 M1 g hok i;have t1:θ1[k]?=some a:=by
  obtain⟨m,em,_⟩:=g.ext;rw[em,getElem?_append_left (List.getElem?_eq_some_iff.mp ta).1];exact ta
 have hok':(match M1[k]? with|some (.lst xs)=>gK xs ds|_=>false)=true:=hok;cases q:M1[k]? with
 | none=>rw[q] at hok';cases hok'
 | some m=>
  cases m with
  | lst xs=>
   rw[q] at hok';have e:xs=ds:=eF xs ds hok';subst e;obtain⟨vs,hv,r1⟩:=g.wr.at_ k a _ t1 q;have s1:io K H1 a vs:=.inl (.inl hv);refine⟨fun d e=>?_,fun hl=>⟨vs,s1,by rw[←ak r1];exact hl⟩⟩;obtain⟨v,e1,rv⟩:=cL r1 e;refine⟨⟨vs,v,s1,e1⟩,fun x H2 y=>?_⟩;obtain⟨eH,y⟩:=y;subst eH;have e2:=y vs s1;rw[e1] at e2;cases e2;exact⟨.refl g.wr,rv⟩
  | _=>rw[q] at hok';cases hok'
theorem wA {l:Expr}{g:GE}(hl:PE X l (tE X g)):PI X tg l (tI X (eY g)):=by
 intro af s σ H R I h;refine zw hl af s σ H R I ?_;obtain⟨ρ,θ,M,hd,hw,h⟩:=h;refine bB hd hw (qy X θ H R) (fun c M' h=>h) (fun h=>h) h fun d M1 v θ1 H1 g1 r1 h1=>?_
 cases d with
 | lst ds=>
  obtain⟨a,vs,e,ta,r⟩:=r1;exact⟨a,e,.inl ⟨⟨vs,ta.sq⟩,h1 _ θ1 H1 g1 (mT (.inl ⟨.inl ta.1,ta.2⟩) r)⟩⟩
 | ro ds=>
  obtain⟨a,vs,e,ta,r⟩:=r1;exact⟨a,e,.inl ⟨⟨vs,ta.sq⟩,h1 _ θ1 H1 g1 (mT ta r)⟩⟩
 | tup ds=>
  obtain⟨a,vs,e,ta,r⟩:=r1;exact⟨a,e,.inr ⟨⟨vs,ta.sq⟩,h1 _ θ1 H1 g1 (rQ ta r)⟩⟩
 | mr k=>
  obtain⟨a,e,ta⟩:=r1;have h2:qy X θ H R (match M1[k]? with|some (.lst ds)=>.ok ⟨ds,some k⟩ M1|_=>.bad):=h1;cases q:M1[k]? with
  | none=>rw[q] at h2;exact h2.elim
  | some m=>
   cases m with
   | lst ds=>
    rw[q] at h2;obtain⟨vs,hv,r⟩:=g1.wr.at_ k a _ ta q;exact⟨a,e,.inl ⟨⟨vs,.inl (.inl hv)⟩,h2 _ θ1 H1 g1 (sT ta)⟩⟩
   | _=>rw[q] at h2;exact h2.elim
 | _=>exact h1.elim
def aD (lo:Int)(n:Nat):List D:=(List.range n).map fun(k:Nat)=>D.int (lo+(k:Int))
theorem rm {K:W.Frag}{θ:List Addr}{H:Hp}(lo:Int)(n:Nat):uM K (zR lo n) θ H ⟨aD lo n,none⟩:=by
 intro θ1 H1 M1 g _ i;refine⟨fun d e=>?_,fun hl=>?_⟩
 ·have hi:i<n:=by
   have:=(List.getElem?_eq_some_iff.mp e).1;simpa[aD] using this
  refine⟨hi,fun x H2 y=>?_⟩;obtain⟨eH,y⟩:=y;subst eH;refine⟨.refl g.wr,?_⟩;have e':D.int (lo+(i:Int))=d:=by
   have:(aD lo n)[i]?=some (D.int (lo+(i:Int))):=by simp[aD,hi]
   rw[this] at e;exact Option.some.inj e
  subst e';exact y
 ·have h2:(aD lo n).length≤i:=hl;have h3:n≤i:=by simpa[aD] using h2
  exact h3
def oP (ds:List D)(M:am):aN jq:=match ds with
 | [.int j]=>if -(2 ^ 62)≤j∧j<2 ^ 62 then .ok ⟨aD 0 j.toNat,none⟩ M else .bad
 | _=>.bad
def cx (g:GA):GI:=fun ρ M=>(g ρ M).bind oP
theorem n9 {a:Expr}{g:GA}{p pos:Pos}(hg:Gl X "range")(hm:X.mg "range"=none)(ha:PA X [a] (tA X g))(hs:starEach [a] X.env=[(false,eval a X.env)]:=by rfl):PI X tg (.Call (.Name "range" p) [a] [] pos) (tI X (cx g)):=by
 intro af s σ H R I h;refine oh hg hm ha hs af s σ H R I ?_;obtain⟨ρ,θ,M,hd,hw,h⟩:=h;refine gJ hd hw (qy X θ H R) (fun c M' h=>h) (fun h=>h) h fun ds M1 vs θ1 H1 g1 r1 h1=>?_
 unfold oP at h1;split at h1
 ·rename_i j;obtain⟨v,r,e,rv,rr⟩:=r1;have e2:r=[]:=rr;have e3:v=.int j:=rv;subst e2;subst e3;split at h1
  ·rename_i hj;exact⟨j,e,hj.1,hj.2,h1 _ θ1 H1 g1 (rm 0 j.toNat)⟩
  ·exact h1.elim
 ·exact h1.elim
def bY (t:jq)(s:GG)(body:GS):List D→bG→am→aN Fl
 | [],ρ,M=>if t.ok M then .ok (.nx ρ) M else .bad
 | d::r,ρ,M=>if t.ok M then
   match s d ρ with
   | none=>.bad
   | some ρ1=>(body ρ1 M).bind fun f M1=>match f with
    | .nx ρ2=>bY t s body r ρ2 M1
    | .ct ρ2=>bY t s body r ρ2 M1
    | .bk ρ2=>.ok (.nx ρ2) M1
    | .rt d=>.ok (.rt d) M1
  else .bad
def gT (gi:GI)(s:GG)(body:GS):GS:=fun ρ M=>(gi ρ M).bind fun t M1=>bY t s body t.ds ρ M1
theorem wo {iter:Expr}{body:List Stmt}{gi:GI}{sg:GG}{gb:GS}{pos:Pos}(hp:PassesOwn (model X.prog X.w) X.A X.env X.xe)(hc:X.calm=true)(hi:PI X tg iter (tI X gi))(hg:PG X tg (tG X sg))(hb:PSs X body (tS X gb))
  (hs:∀x,foldedSetIterable iter X.env x=pure x:=by intro _;rfl):PS X (.For tg iter body [] pos) (tS X (gT gi sg gb)):=(uX hp hc hi hg hb hs).of fun D σ H hxx=>by
 obtain⟨ρ,θ,M,hd,hw,h⟩:=hxx;refine⟨ρ,θ,M,hd,hw,?_⟩;unfold gT at h;cases q:gi ρ M with
 | err c M1=>rw[q] at h;exact h
 | bad=>rw[q] at h;exact h
 | ok t M1=>
  rw[q] at h;intro J θ1 H1 g1 hJ;have h:bH X θ H D (bY t sg gb t.ds ρ M1):=h;refine⟨fun i m σ' H'=>m=t.ds.length-i∧i≤t.ds.length∧∃ρ' θ' M',Go X.K θ1 H1 θ' H' M'∧eM X.K θ' H' σ' ρ'∧bH X θ' H' D (bY t sg gb (t.ds.drop i) ρ' M'),
   ⟨t.ds.length,by simp,Nat.zero_le _,ρ,θ1,M1,.refl g1.wr,hd.go g1,bH.go g1 h⟩,?_⟩
  rintro i m σ' H' ⟨rfl,hil,ρ',θ',M',g',hd',h'⟩
  by_cases hok:t.ok M'=true
  ·obtain⟨hy,hst⟩:=hJ θ' H' M' g' hok i
   by_cases hlt:i<t.ds.length
   ·refine .inr ?_;have e1:t.ds[i]?=some t.ds[i]:=getElem?_eq_getElem hlt;obtain⟨hgo,hyl⟩:=hy _ e1;rw[drop_eq_getElem_cons hlt,bY,if_pos hok] at h';refine⟨hgo,fun σ2 H2=>∃ρ2 θ2 M2,Go X.K θ' H' θ2 H2 M2∧eM X.K θ2 H2 σ2 ρ2∧bH X θ2 H2 D (bY t sg gb (t.ds.drop (i+1)) ρ2 M2),fun σ2 H2 ⟨ρ2,θ2,M2,g2,d2,h2⟩=>?_,fun x H2 y=>?_⟩
    ·exact⟨t.ds.length-(i+1),by omega,rfl,hlt,ρ2,θ2,M2,g'.trans g2,d2,h2⟩
    ·obtain⟨gy,rx⟩:=hyl x H2 y;cases qs:sg t.ds[i] ρ' with
     | none=>rw[qs] at h';exact h'.elim
     | some ρ1=>
      rw[qs] at h';refine⟨ρ',θ',M',_,hd'.go gy,gy.wr,rx,ρ1,qs,fun σ1 d1=>⟨ρ1,θ',M',d1,gy.wr,?_⟩⟩;have h':bH X θ' H2 D ((gb ρ1 M').bind _):=bH.go gy h';cases qb:gb ρ1 M' with
      | err c M2=>rw[qb] at h';exact h'
      | bad=>rw[qb] at h';exact h'
      | ok f M2=>
       rw[qb] at h';cases f with
       | nx ρ2=>exact fun σ2 θ2 H3 g2 d2=>⟨ρ2,θ2,M2,gy.trans g2,d2,bH.go g2 h'⟩
       | ct ρ2=>exact fun σ2 θ2 H3 g2 d2=>⟨ρ2,θ2,M2,gy.trans g2,d2,bH.go g2 h'⟩
       | bk ρ2=>exact h'
       | rt d=>exact h'
   ·have e:i=t.ds.length:=by omega
    subst e;rw[drop_length,bY,if_pos hok] at h';exact .inl ⟨hst (Nat.le_refl _),h' σ' θ' H' (.refl g'.wr) hd'⟩
  ·have hz:bH X θ' H' D .bad:=by
    cases hdr:t.ds.drop i with
    | nil=>rw[hdr,bY,if_neg hok] at h';exact h'
    | cons d r=>rw[hdr,bY,if_neg hok] at h';exact h'
   exact hz.elim
end
def u6 (K:W.Frag)(θ:List Addr)(H:Hp)(E:XK)(c:Str)(M:am):Prop:=∀C θ' H' a,iE K c C→Go K θ H θ' H' M→E (.ref C) (some a) H'
def pZ (K:W.Frag)(θ:List Addr)(H:Hp)(Q:VK)(E:XK):aN D→Prop
 | .ok d M'=>∀v θ' H',Go K θ H θ' H' M'→cw K θ' H' d v→Q v H'
 | .err c M'=>u6 K θ H E c M'
 | .bad=>False
abbrev FD:=List D→am→aN D
def l8 (K:W.Frag)(n:Nat)(F:FD):Sp:=fun vs H Q E=>∃θ M ds,ds.length=n∧aK K θ H ds vs∧Wr K θ H M∧pZ K θ H Q E (F ds M)
theorem qX {K:W.Frag}{n:Nat}{F:FD}{ps:List Str}(hn:ps.length=n):∀vs H Q E,l8 K n F vs H Q E→vs.length=ps.length:=fun vs H Q E ⟨θ,M,ds,hl,r,_⟩=>by rw[hn,←hl,ak r]
def iV (k:Nat)(ds:List D):bG:=ds.map some++List.replicate k none
def aQ (o:aN Fl):aN D:=o.bind fun f M=>match f with
 | .rt d=>.ok d M
 | .nx _=>.ok .non M
 | _=>.bad
def cb (k:Nat)(g:GS):FD:=fun ds M=>aQ (g (iV k ds) M)
theorem z8 {K:W.Frag}{θ:List Addr}{H:Hp}{ds:List D}{vs:List V}(r:aK K θ H ds vs)(N:List Str):eM K θ H (L2.start N vs) (iV (N.length-vs.length) ds):=by
 have hl:=ak r;refine⟨by simp[L2.start,iV,hl],fun i d e=>?_⟩;unfold iV at e
 by_cases hi:i<ds.length
 ·rw[getElem?_append_left (by simpa using hi),getElem?_map] at e;cases q:ds[i]? with
  | none=>rw[q] at e;cases e
  | some d'=>
   rw[q] at e;have e':d'=d:=by simpa using e
   subst e';obtain⟨v,e1,rv⟩:=cL r q;refine⟨v,?_,rv⟩;unfold L2.start;rw[getElem?_append_left (by rw[length_map,←hl];exact hi),getElem?_map,e1];rfl
 ·rw[getElem?_append_right (by simpa using hi),getElem?_replicate] at e;split at e <;> cases e
section
variable {P:Program}{w:World}{K:W.Frag}{mg:Str→Option Value}{base:Heap}
theorem AY {x qual:Str}{st:Stmt}{f:Addr}{fd:FuncData}{N ps:List Str}{k n:Nat}{g:GS}(F:vS K x qual st f fd)(S:eP N ps (aZ st))(hn:ps.length=n)
  (hbody:∀(cdv:Value) (A:Around) (outer:List Env) (s:Shared) (H:Hp) (E:XK),cc k (A.deeper (envOfC qual (aZ st) s.heap.objs.size f cdv))→
   PSs (fY (gN P w) P w K mg base N qual (aZ st) f cdv A outer s H E) (cI st) (tS (fY (gN P w) P w K mg base N qual (aZ st) f cdv A outer s H E) g)) :
  dD P w K mg base (gN P w) (k+1) f fd ps (l8 K n (cb (N.length-n) g)):=by
 obtain⟨oc,od,kV,doc,pm,an,cdv,ct,osl,rfl,lk,hcd⟩:=F.ex;refine xL lk hcd S (qX hn) fun A outer s H vs Q E hr h=>⟨_,hbody cdv A outer s H E hr,?_⟩
 obtain⟨θ,M,ds,hl,r,hw,h⟩:=h;have hv:vs.length=n:=by rw[←ak r];exact hl
 refine⟨iV (N.length-n) ds,θ,M,by rw[←hv];exact z8 r N,hw,?_⟩;have h:pZ K θ H Q E (aQ (g (iV (N.length-n) ds) M)):=h;unfold aQ at h;cases q:g (iV (N.length-n) ds) M with
 | bad=>rw[q] at h;exact h
 | err c M1=>
  rw[q] at h;have h:u6 K θ H E c M1:=h;exact fun C θ' H' a s' kC g1 fl=>l7 fl (h C θ' H' a kC g1)
 | ok fl M1=>
  rw[q] at h;cases fl with
  | rt d=>exact h
  | nx ρ1=>exact fun σ1 θ1 H1 g1 _=>h .non θ1 H1 g1 rfl
  | bk ρ1=>exact h.elim
  | ct ρ1=>exact h.elim
end
section
variable {X:Cx}{e:Expr}{es:List Expr}{x:Str}{p pos:Pos}{k n:Nat}{f:Addr}{fd:FuncData}{ps:List Str}{F:FD}{ga:GA}
def aj (n:Nat)(F:FD)(ga:GA):GE:=fun ρ M=>(ga ρ M).bind fun ds M1=>if ds.length=n then F ds M1 else .bad
def ye (X:Cx):XK:=fun cls oa H'=>∃a C c θ M,oa=some a∧cls=.ref C∧iE X.K c C∧Wr X.K θ H' M∧cp X θ H' c M
theorem k7:lT (gN X.prog X.w) X (ye X):=fun af σ H s e s' I h=>by
 obtain⟨a,C,H',rfl,fl,a',C',c,θ,M,e1,e2,kC,hw,ok⟩:=nY I h;cases e1;cases e2;exact ok C θ H' a s' kC (.refl hw) fl
theorem sY {θ:List Addr}{H:Hp}{c:Str}{M:am}(h:cp X θ H c M):u6 X.K θ H (ye X) c M:=fun C θ' H' a kC g=>⟨a,C,c,θ',M,rfl,rfl,kC,g.wr,h.go g⟩
theorem rG (Fn:dD X.prog X.w X.K X.mg X.base (gN X.prog X.w) k f fd ps (l8 X.K n F))(hr:cc k X.A)(hg:Gl X x)(hm:X.mg x=some (.ref f))(hk:W.keepIn X.K (.ref f)=true)(hb:ej X.K fd ps [])
  (ha:PA X (e::es) (tA X ga)) (hdb:(x==("__debug__":Str))=false:=by decide) (he:starEach (e::es) X.env=(false,eval e X.env)::starEach es X.env:=by rfl) (hpl:(backTo pos (starEach es X.env)).any (·.1)=false:=by rfl) :
  PE X (.Call (.Name x p) (e::es) [] pos) (tE X (aj n F ga)):=(rE Fn hr hg hm hk hb .nil k7 ha hdb he hpl).of fun σ H Q hxx=>by
 obtain⟨ρ,θ,M,hd,hw,h⟩:=hxx;refine gJ hd hw (aI X θ H Q) (fun c M' h=>h) (fun h=>h) h fun ds M1 vs θ1 H1 g1 r1 h1=>?_
 by_cases hl:ds.length=n
 ·rw[if_pos hl] at h1;refine⟨θ1,M1,ds,hl,by rw[append_nil];exact r1,g1.wr,?_⟩;have h2:=aI.go g1 h1;cases q:F ds M1 with
  | ok d M2=>rw[q] at h2;exact h2
  | err c M2=>rw[q] at h2;exact sY h2
  | bad=>rw[q] at h2;exact h2
 ·rw[if_neg hl] at h1;exact h1.elim
def rC (X:Cx)(F:FD):List V→Hp→VK→Prop:=fun xs H Q=>∃θ M ds,Wr X.K θ H M∧aK X.K θ H ds xs∧aI X θ H Q (F ds M)
def aH (F:FD)(ga:GA):GE:=fun ρ M=>(ga ρ M).bind F
theorem qR {σ:L2.St}{H:Hp}{Q:VK}(h:tE X (aH F ga) σ H Q):z7 (rC X F) (tA X ga) σ H Q:=by
 obtain⟨ρ,θ,M,hd,hw,h⟩:=h;exact gJ hd hw (aI X θ H Q) (fun c M' h=>h) (fun h=>h) h fun ds M1 vs θ1 H1 g1 r1 h1=>⟨θ1,M1,ds,g1.wr,r1,aI.go g1 h1⟩
theorem oH {id:String}(hc:bN X (.builtin id) (rC X F))(hg:Gl X x)(hm:X.mg x=none)(hv:bootBuiltins x=some (.builtin id))(ha:PA X (e::es) (tA X ga))(hn:x≠"__name__":=by decide)(hdb:(x==("__debug__":Str))=false:=by decide)
  (he:starEach (e::es) X.env=(false,eval e X.env)::starEach es X.env:=by rfl) (hpl:(backTo pos (starEach es X.env)).any (·.1)=false:=by rfl):PE X (.Call (.Name x p) (e::es) [] pos) (tE X (aH F ga)):=
 (pW hc hg hm hv ha hn hdb he hpl).of fun σ H Q h=>qR h
theorem nG {T:String}(hc:bN X (.type T) (rC X F))(hg:Gl X x)(hm:X.mg x=none)(hv:bootBuiltins x=some (.type T))(ha:PA X (e::es) (tA X ga))(hn:x≠"__name__":=by decide)(hdb:(x==("__debug__":Str))=false:=by decide)
  (he:starEach (e::es) X.env=(false,eval e X.env)::starEach es X.env:=by rfl) (hpl:(backTo pos (starEach es X.env)).any (·.1)=false:=by rfl):PE X (.Call (.Name x p) (e::es) [] pos) (tE X (aH F ga)):=
 (nn hc hg hm hv ha hn hdb he hpl).of fun σ H Q h=>qR h
end
section
variable {prog:Program}{w:World}{A:Around}{E:Value→Shared→Prop}{s:Shared}
theorem qu {t b:Addr}{ws:List Value}{Q:Value→Shared→Prop}(ht:IsTup s.heap t #[])(hb:IsTup s.heap b ws.toArray)
  (h:Q (.ref b) s):wpAny (model prog w) A (binaryOp .Add (.ref t) (.ref b)) Q E s:=by
 obtain⟨⟨cls,dd,data,sl⟩,ho,hc,n,hd⟩:=id ht;obtain⟨⟨cls2,dd2,data2,sl2⟩,ho2,hc2,n2,hd2⟩:=id hb;simp only at hc hd hc2 hd2;subst hc hd hc2 hd2;exact concat_meets ⟨_,ho,rfl⟩ ⟨_,ho2,rfl⟩ noFill_tuple_add seq_tuple_add PySem.F.slot_tuple_add PySem.F.entry_tuple_add (PySem.F.args_tuple_add_2 _ _)
   (tuple_addW0 t b #[] ws.toArray n n2 dd dd2 sl sl2 (by simp)) ⟨ho,ho2,h⟩
theorem eZ {t sl:Addr}{items:Array Value}{vl vu:Value}{lo hi:Option Int}{Q:Value→Shared→Prop}(ht:IsTup s.heap t items)(hs:s.heap.IsSliceOf sl vl vu .none)(pl:IsPart vl lo)(pu:IsPart vu hi)
  (hw:HT.sIx items.size 0 lo=0∧HT.sIx items.size items.size hi=items.size) (h:Q (.ref t) s):wpAny (model prog w) A (getItem (.ref t) (.ref sl)) Q E s:=by
 obtain⟨os,hos,hcs,hds⟩:=id hs;have hTs:s.TypeIs (.ref sl) "slice":=⟨os,hos,hcs⟩;unfold getItem
 try with_reducible refine wpAny_holding ?_
 first|refine wpAny_bind (wpAny_pure ?_)|skip
 refine wpAny_bind (wpAny_sequenceKey ht.typeIs (by decide) ?_);refine wpAny_bind (wpAny_callSpecial?_slot (name:=Str.ofString "__getitem__") ht.typeIs PyProof.Rows.slot_tuple_getitem
  (wpAny_call_entry PyProof.Rows.slot_tuple_getitem ht.typeIs entry_tuple_getitem ?_ (args_tuple_getitem _ _)))
 show wpAny _ _ (Builtin.Tuple.tupleItemsOf (.ref t) >>= _) _ _ s;refine wpAny_bind (tupleItemsOf_ ht ?_);refine wpAny_bind (wpAny_typeOf hTs ?_);rw[if_pos (by decide)];refine wpAny_bind (HT.sliceApplied_gen hs pl pu ?_);have hyes:(((HT.sIx items.size 0 lo:Nat):Int)==0&&(1:Int)==1&&(HT.sIx items.size items.size hi-HT.sIx items.size 0 lo)==items.size)=true:=by
  rw[hw.1,hw.2];simp
 show wpAny _ _ (if(((HT.sIx items.size 0 lo:Nat):Int)==0&&(1:Int)==1&&(HT.sIx items.size items.size hi-HT.sIx items.size 0 lo)==items.size)=true then _ else _) _ _ s;rw[if_pos hyes];unfold Builtin.Tuple.tupleIsExact;refine wpAny_bind (wpAny_bind (wpAny_typeOf ht.typeIs (wpAny_pure ?_)));rw[if_pos (by decide)]
 first
  | exact wpAny_bind (wpAny_rule (wpAny_bind (wpAny_pure ⟨_,rfl,wpAny_pure h⟩)))
  | exact wpAny_bind (wpAny_rule (wpAny_pure ⟨_,rfl,wpAny_pure h⟩))
  | exact wpAny_bind (wpAny_rule (wpAny_bind (wpAny_pure (wpAny_pure ⟨_,rfl,wpAny_pure h⟩))))
end
def mv (d:D)(M:am):Option (List D):=match d with
 | .lst xs=>some xs
 | .mr k=>match M[k]? with
  | some (.lst xs)=>some xs
  | _=>none
 | _=>none
def aJ:F2:=fun x y M=>match x,y with
 | .int i,.int j=>.ok (.int (i+j)) M
 | .str a,.str b=>if a.length+b.length≤sizeLine then .ok (.str (a++b)) M else .bad
 | .tup a,.tup b=>if a.length+b.length≤sizeLine then .ok (.tup (a++b)) M else .bad
 | .bl a,.int j=>.ok (.int ((if a=true then 1 else 0)+j)) M
 | x,y=>match mv x M,mv y M with
  | some a,some b=>if a.length+b.length≤sizeLine then .ok (.lst (a++b)) M else .bad
  | _,_=>.bad
theorem uC {K:W.Frag}{θ:List Addr}{H:Hp}{M:am}{d:D}{xs:List D}{v:V}(hw:Wr K θ H M)(r:cw K θ H d v)(e:mv d M=some xs):∃a vs,v=.ref a∧H a=some (.lst vs)∧aK K θ H xs vs:=by
 cases d with
 | lst ys=>cases e;obtain⟨a,vs,ea,ta,ra⟩:=r;exact⟨a,vs,ea,ta.1,ra⟩
 | mr k=>
  obtain⟨a,ea,ta⟩:=r;have e:(match M[k]? with|some (.lst xs)=>some xs|_=>none)=some xs:=e;cases q:M[k]? with
  | none=>rw[q] at e;cases e
  | some m=>
   cases m with
   | lst ys=>
    rw[q] at e;cases e;obtain⟨vs,hv,ra⟩:=hw.at_ k a _ ta q;exact⟨a,vs,ea,hv,ra⟩
   | _=>rw[q] at e;cases e
 | _=>cases e
def cj:F2:=fun x y M=>match x,y with
 | .int i,.int j=>.ok (.int (i-j)) M
 | _,_=>.bad
def cS:F2:=fun x y M=>match x,y with
 | .int i,.int j=>if(-(2 ^ 64)<i∧i<2 ^ 64)∨(-(2 ^ 64)<j∧j<2 ^ 64) then .ok (.int (i*j)) M else .bad
 | _,_=>.bad
def bW:F2:=fun x y M=>match x,y with
 | .int i,.int j=>if 0<j∧j.natAbs.log2<9000 then .ok (.int (i / j)) M else .bad
 | _,_=>.bad
def cU:F2:=fun x y M=>match x,y with
 | .int i,.int j=>if 0<j then .ok (.int (i % j)) M else .bad
 | _,_=>.bad
def fm:F2:=fun x y M=>match x,y with
 | .int i,.int j=>if 0≤j∧j≤1000000∧i.natAbs<2 ^ 64 then .ok (.int (i ^ j.toNat)) M else .bad
 | _,_=>.bad
section
variable {X:Cx}
theorem vP:dB X (binaryOp .Add) (rD X aJ):=by
 intro af s σ H x y v u Q I rx ry h;obtain⟨θ,M,dx,dy,hw,r1,r2,h⟩:=h;unfold aJ at h;split at h
 ·rename_i i j;exact uQ af s σ H x y v u Q I rx ry ⟨i,j,r1,r2,h _ θ H (.refl hw) rfl⟩
 ·rename_i a b;split at h
  ·rename_i hl;exact lR af s σ H x y v u Q I rx ry ⟨a,b,r1,r2,hl,h _ θ H (.refl hw) rfl⟩
  ·exact h.elim
 ·rename_i as bs;split at h
  ·rename_i hl;obtain⟨a,vs,ea,ta,ra⟩:=r1;obtain⟨b,us,eb,tb,rb⟩:=r2
   by_cases hv:vs=[]
   ·subst hv;have e0:as=[]:=length_eq_zero_iff.mp (ak ra);subst e0;subst ea;subst eb;cases rx;cases ry;obtain⟨its,q1,p1,_⟩:=I.tuple ta.sq;obtain⟨its2,q2,p2,_⟩:=I.tuple tb.sq;cases q1;exact qu p1 p2 ⟨.ref b,H,I,rfl,h _ θ H (.refl hw) ⟨b,us,rfl,tb,rb⟩⟩
   ·refine sB af s σ H x y v u Q I rx ry ⟨a,b,vs,us,ea,eb,ta.sq,tb.sq,hv,by rw[←ak ra,←ak rb];exact hl,fun hu=>?_,fun _ p hp=>h _ θ _ (cf hw hp) (dZ hw hp (cK ra rb))⟩;subst hu;have e0:bs=[]:=length_eq_zero_iff.mp (ak rb);subst e0;exact h _ θ H (.refl hw) ⟨a,vs,rfl,ta,by rw[append_nil];exact ra⟩
  ·exact h.elim
 ·rename_i a j;have e1:x=.bl a:=r1;have e2:y=.int j:=r2;subst e1;subst e2;cases rx;obtain⟨t',rfl⟩:=ry;exact IntBool.add_bool_int ⟨.int _,H,I.tok _,⟨_,rfl⟩,h _ θ H (.refl hw) rfl⟩
 ·split at h
  ·rename_i as bs q1 q2;split at h
   ·rename_i hl;obtain⟨a,vs,ea,ta,ra⟩:=uC hw r1 q1;obtain⟨b,us,eb,tb,rb⟩:=uC hw r2 q2;exact xa af s σ H x y v u Q I rx ry ⟨a,b,vs,us,ea,eb,ta,tb,by rw[←ak ra,←ak rb];exact hl,fun p hp=>h _ θ _ (cf hw hp) (dN hw hp (cK ra rb))⟩
   ·exact h.elim
  ·exact h.elim
theorem k9 {K:W.Frag}{θ:List Addr}{H H':Hp}{M:am}{p:Addr}(hw:Wr K θ H M):cw K (θ++[p]) H' (.mr M.length) (.ref p):=by
 refine⟨p,rfl,?_⟩;rw[←hw.len,getElem?_append_right (Nat.le_refl _)];simp
theorem uO:dB X (binaryOp .Sub) (rD X cj):=by
 intro af s σ H x y v u Q I rx ry h;obtain⟨θ,M,dx,dy,hw,r1,r2,h⟩:=h;unfold cj at h;split at h
 ·rename_i i j;exact vJ af s σ H x y v u Q I rx ry ⟨i,j,r1,r2,h _ θ H (.refl hw) rfl⟩
 ·exact h.elim
theorem vU:dB X (binaryOp .Mult) (rD X cS):=by
 intro af s σ H x y v u Q I rx ry h;obtain⟨θ,M,dx,dy,hw,r1,r2,h⟩:=h;unfold cS at h;split at h
 ·rename_i i j;split at h
  ·rename_i hc;exact vk af s σ H x y v u Q I rx ry ⟨i,j,r1,r2,hc,h _ θ H (.refl hw) rfl⟩
  ·exact h.elim
 ·exact h.elim
theorem rA:dB X (binaryOp .FloorDiv) (rD X bW):=by
 intro af s σ H x y v u Q I rx ry h;obtain⟨θ,M,dx,dy,hw,r1,r2,h⟩:=h;unfold bW at h;split at h
 ·rename_i i j;split at h
  ·rename_i hc;have e1:x=.int i:=r1;have e2:y=.int j:=r2;subst e1;subst e2;obtain⟨t,rfl⟩:=rx;obtain⟨t',rfl⟩:=ry;have h1:(0:Int)<j:=hc.1;exact floordiv_int (by omega) (by rw[Int.fdiv_eq_ediv_of_nonneg i (by omega)];exact⟨.int (i / j),H,I.tok _,⟨_,rfl⟩,h _ θ H (.refl hw) rfl⟩) (.inl (PyProof.noPylong_of_log2 hc.2))
  ·exact h.elim
 ·exact h.elim
theorem wV:dB X (binaryOp .Mod) (rD X cU):=by
 intro af s σ H x y v u Q I rx ry h;obtain⟨θ,M,dx,dy,hw,r1,r2,h⟩:=h;unfold cU at h;split at h
 ·rename_i i j;split at h
  ·rename_i hc;exact wx af s σ H x y v u Q I rx ry ⟨i,j,r1,r2,hc,h _ θ H (.refl hw) rfl⟩
  ·exact h.elim
 ·exact h.elim
theorem vz:dB X (binaryOp .Pow) (rD X fm):=by
 intro af s σ H x y v u Q I rx ry h;obtain⟨θ,M,dx,dy,hw,r1,r2,h⟩:=h;unfold fm at h;split at h
 ·rename_i i j;split at h
  ·rename_i hc;exact u9 af s σ H x y v u Q I rx ry ⟨i,j,r1,r2,hc,h _ θ H (.refl hw) rfl⟩
  ·exact h.elim
 ·exact h.elim
def en (g:GE):GE:=fun ρ M=>(g ρ M).bind fun x M1=>match x with
 | .int i=>.ok (.int (-i)) M1
 | _=>.bad
theorem v4 {a:Expr}{pos:Pos}{g:GE}(ha:PE X a (tE X g)):PE X (.UnaryOp .USub a pos) (tE X (en g)):=(xH v5 ha).of fun σ H Q hxx=>by
 obtain⟨ρ,θ,M,hd,hw,h⟩:=hxx;refine bB hd hw (aI X θ H Q) (fun c M' h=>h) (fun h=>h) h fun d M1 v θ1 H1 g1 r1 h1=>?_
 split at h1
 ·rename_i i;exact⟨i,r1,h1 _ θ1 H1 g1 rfl⟩
 ·exact h1.elim
def kU:F2:=fun x y M=>match x,y with
 | .int i,.int j=>.ok (.bl (decide (i<j))) M
 | _,_=>.bad
def mU:F2:=fun x y M=>match x,y with
 | .int i,.int j=>.ok (.bl (decide (i≤j))) M
 | _,_=>.bad
def mZ:F2:=fun x y M=>match x,y with
 | .int i,.int j=>.ok (.bl (decide (j<i))) M
 | _,_=>.bad
def ui:F2:=fun x y M=>match x,y with
 | .int i,.int j=>.ok (.bl (decide (j≤i))) M
 | _,_=>.bad
theorem yh:dB X (compareOp .Lt) (rD X kU):=by
 intro af s σ H x y v u Q I rx ry h;obtain⟨θ,M,dx,dy,hw,r1,r2,h⟩:=h;unfold kU at h;split at h
 ·rename_i i j;exact xR af s σ H x y v u Q I rx ry ⟨i,j,r1,r2,h _ θ H (.refl hw) rfl⟩
 ·exact h.elim
theorem yc:dB X (compareOp .LtE) (rD X mU):=by
 intro af s σ H x y v u Q I rx ry h;obtain⟨θ,M,dx,dy,hw,r1,r2,h⟩:=h;unfold mU at h;split at h
 ·rename_i i j;exact xD af s σ H x y v u Q I rx ry ⟨i,j,r1,r2,h _ θ H (.refl hw) rfl⟩
 ·exact h.elim
theorem yl:dB X (compareOp .Gt) (rD X mZ):=by
 intro af s σ H x y v u Q I rx ry h;obtain⟨θ,M,dx,dy,hw,r1,r2,h⟩:=h;unfold mZ at h;split at h
 ·rename_i i j;exact zc af s σ H x y v u Q I rx ry ⟨i,j,r1,r2,h _ θ H (.refl hw) rfl⟩
 ·exact h.elim
theorem yF:dB X (compareOp .GtE) (rD X ui):=by
 intro af s σ H x y v u Q I rx ry h;obtain⟨θ,M,dx,dy,hw,r1,r2,h⟩:=h;unfold ui at h;split at h
 ·rename_i i j;exact xM af s σ H x y v u Q I rx ry ⟨i,j,r1,r2,h _ θ H (.refl hw) rfl⟩
 ·exact h.elim
def xr (d c:D):Option Bool:=match c,d with
 | .non,.non=>some true
 | .non,.any=>none
 | .non,_=>some false
 | .bl b,.bl b'=>some (b'==b)
 | .bl _,.non=>some false
 | .bl _,.int _=>some false
 | .bl _,.str _=>some false
 | .bl _,.tup _=>some false
 | .bl _,.lst _=>some false
 | .bl _,.ro _=>some false
 | .bl _,.mr _=>some false
 | _,_=>none
def gG (neg:Bool):F2:=fun x y M=>match xr x y with
 | some b=>.ok (.bl (b != neg)) M
 | none=>.bad
def VS:D→Value→Prop
 | .non,v=>v=.none
 | .bl b,v=>v=.bool b
 | .int i,v=>∃t,v=.int i t
 | .str i,v=>∃t,v=.str i t
 | .any,_=>True
 | _,v=>∃a,v=.ref a
theorem uk {K:W.Frag}{θ:List Addr}{H:Hp}{d:D}{x:V}{v:Value}(r:cw K θ H d x)(q:aM x v):VS d v:=by
 cases d with
 | non=>have e:x=.non:=r;rw[e] at q;exact q
 | bl b=>have e:x=.bl b:=r;rw[e] at q;exact q
 | int i=>have e:x=.int i:=r;rw[e] at q;exact q
 | str i=>have e:x=.str i:=r;rw[e] at q;exact q
 | any=>trivial
 | tup ds=>obtain⟨a,_,e,_⟩:=r;rw[e] at q;exact⟨a,q⟩
 | lst ds=>obtain⟨a,_,e,_⟩:=r;rw[e] at q;exact⟨a,q⟩
 | ro ds=>obtain⟨a,_,e,_⟩:=r;rw[e] at q;exact⟨a,q⟩
 | mr k=>obtain⟨a,e,_⟩:=r;rw[e] at q;exact⟨a,q⟩
 | exc c=>obtain⟨a,_,e,_⟩:=r;rw[e] at q;exact⟨a,q⟩
theorem fn {α:Type}{b:α}{P:Prop}(h:none=some b):P:=nomatch h
theorem mI {v u:Value}{b:Bool}(h:some false=some b)(k:plainIs v u=true∧(v==u)=false):plainIs v u=true∧(v==u)=b:=Option.some.inj h▸k
theorem zz {dx dy:D}{v u:Value}{b:Bool}(p:VS dx v)(q:VS dy u)(h:xr dx dy=some b):plainIs v u=true∧(v==u)=b:=by
 cases dy with
 | non=>
  rw[show u=.none from q];cases dx with
  | non=>rw[show v=.none from p];exact Option.some.inj (show some true=some b from h)▸⟨rfl,rfl⟩
  | bl b=>rw[show v=.bool b from p];exact mI h ⟨rfl,rfl⟩
  | any=>exact fn h
  | _=>obtain⟨t,e⟩:=p;rw[e];exact mI h ⟨rfl,rfl⟩
 | bl c=>
  rw[show u=.bool c from q];cases dx with
  | non=>rw[show v=.none from p];exact mI h ⟨rfl,rfl⟩
  | bl b=>
   rw[show v=.bool b from p,←Option.some.inj h];refine⟨rfl,?_⟩;cases b <;> cases c <;> rfl
  | any=>exact fn h
  | exc _=>exact fn h
  | _=>obtain⟨t,e⟩:=p;rw[e];exact mI h ⟨rfl,rfl⟩
 | _=>exact fn h
theorem qV {K:W.Frag}{θ:List Addr}{H:Hp}{dx dy:D}{x y:V}{v u:Value}{b:Bool}(r1:cw K θ H dx x)(r2:cw K θ H dy y)(rx:aM x v)(ry:aM y u)(h:xr dx dy=some b) :
  plainIs v u=true∧(v==u)=b:=zz (uk r1 rx) (uk r2 ry) h
theorem zm:dB X (compareOp .Is) (rD X (gG false)):=by
 intro af s σ H x y v u Q I rx ry h;obtain⟨θ,M,dx,dy,hw,r1,r2,h⟩:=h;unfold gG at h;split at h
 ·rename_i b q;obtain⟨hp,e⟩:=qV r1 r2 rx ry q;refine wpAny_is_plain hp ?_;rw[e];refine⟨.bl b,H,I,rfl,?_⟩;have:=h (.bl (b != false)) θ H (.refl hw) rfl;rw[Bool.bne_false] at this;exact this
 ·exact h.elim
theorem pk:dB X (compareOp .IsNot) (rD X (gG true)):=by
 intro af s σ H x y v u Q I rx ry h;obtain⟨θ,M,dx,dy,hw,r1,r2,h⟩:=h;unfold gG at h;split at h
 ·rename_i b q;obtain⟨hp,e⟩:=qV r1 r2 rx ry q;refine wpAny_isNot_plain hp ?_;rw[e];refine⟨.bl (!b),H,I,rfl,?_⟩;have:=h (.bl (b != true)) θ H (.refl hw) rfl;rw[Bool.bne_true] at this;exact this
 ·exact h.elim
mutual
def eA:D→PyData
 | .non=>.none
 | .bl b=>.bool b
 | .int i=>.int i
 | .str x=>.str x
 | .tup ds=>.tuple (gk ds)
 | .lst ds=>.list (gk ds)
 | .ro ds=>.list (gk ds)
 | .mr _=>.dict []
 | .exc _=>.dict []
 | .any=>.dict []
def gk:List D→List PyData
 | []=>[]
 | d::ds=>eA d::gk ds
end
mutual
def ar:Nat→D→Bool
 | _,.non=>true
 | _,.bl _=>true
 | _,.int _=>true
 | _,.str x=>PyData.strOk x
 | n+1,.tup ds=>aU n ds
 | n+1,.lst ds=>aU n ds
 | n+1,.ro ds=>aU n ds
 | _,_=>false
def aU:Nat→List D→Bool
 | _,[]=>true
 | n,d::ds=>ar n d&&aU n ds
end
mutual
def gm:D→D→Bool
 | .non,.non=>true
 | .bl a,.bl b=>a==b
 | .bl a,.int j=>(if a then 1 else 0)==j
 | .int i,.bl b=>i==(if b then 1 else 0)
 | .int i,.int j=>i==j
 | .str x,.str y=>x==y
 | .lst xs,.lst ys=>dP xs ys
 | .lst xs,.ro ys=>dP xs ys
 | .ro xs,.lst ys=>dP xs ys
 | .ro xs,.ro ys=>dP xs ys
 | .tup xs,.tup ys=>dP xs ys
 | _,_=>false
def dP:List D→List D→Bool
 | [],[]=>true
 | x::xs,y::ys=>gm x y&&dP xs ys
 | _,_=>false
end
mutual
theorem hV:∀(x y:D) (n m:Nat),ar n x=true→ar m y=true→PyData.eqv (eA x) (eA y)=gm x y
 | .non,y,n,m,hx,hy=>by cases y <;> rfl
 | .bl a,y,n,m,hx,hy=>by cases y <;> rfl
 | .int a,y,n,m,hx,hy=>by cases y <;> rfl
 | .str a,y,n,m,hx,hy=>by cases y <;> rfl
 | .tup xs,y,n,m,hx,hy=>by
  cases n with
  | zero=>exact ff hx
  | succ n=>
   cases y with
   | tup ys=>
    cases m with
    | zero=>exact ff hy
    | succ m=>
     exact dE xs ys n m hx hy
   | _=>rfl
 | .lst xs,y,n,m,hx,hy=>by
  cases n with
  | zero=>exact ff hx
  | succ n=>
   cases y with
   | lst ys=>
    cases m with
    | zero=>exact ff hy
    | succ m=>
     exact dE xs ys n m hx hy
   | ro ys=>
    cases m with
    | zero=>exact ff hy
    | succ m=>
     exact dE xs ys n m hx hy
   | _=>rfl
 | .ro xs,y,n,m,hx,hy=>by
  cases n with
  | zero=>exact ff hx
  | succ n=>
   cases y with
   | lst ys=>
    cases m with
    | zero=>exact ff hy
    | succ m=>
     exact dE xs ys n m hx hy
   | ro ys=>
    cases m with
    | zero=>exact ff hy
    | succ m=>
     exact dE xs ys n m hx hy
   | _=>rfl
 | .mr a,y,n,m,hx,hy=>by cases n <;> exact ff hx
 | .exc a,y,n,m,hx,hy=>by cases n <;> exact ff hx
 | .any,y,n,m,hx,hy=>by cases n <;> exact ff hx
theorem dE:∀(x y:List D) (n m:Nat),aU n x=true→aU m y=true→PyData.eqvAll (gk x) (gk y)=dP x y
 | [],y,n,m,hx,hy=>by cases y <;> rfl
 | x::xs,y,n,m,hx,hy=>by
  cases y with
  | nil=>rfl
  | cons y ys=>
   have hx:=Bool.and_eq_true_iff.mp (show(ar n x&&aU n xs)=true from hx);have hy:=Bool.and_eq_true_iff.mp (show(ar m y&&aU m ys)=true from hy);show(PyData.eqv (eA x) (eA y)&&PyData.eqvAll (gk xs) (gk ys))=(gm x y&&dP xs ys);rw[hV x y n m hx.1 hy.1,dE xs ys n m hx.2 hy.2]
end
mutual
theorem eW:∀(d:D) (n:Nat),ar n d=true→(eA d).canLay0=true∧(eA d).depth≤n
 | .non,n,h=>by simp[eA,PyData.canLay0,PyData.depth]
 | .bl a,n,h=>by simp[eA,PyData.canLay0,PyData.depth]
 | .int a,n,h=>by simp[eA,PyData.canLay0,PyData.depth]
 | .str a,n,h=>by
  have:PyData.strOk a=true:=by cases n <;> exact h
  simp[eA,PyData.canLay0,PyData.depth,this]
 | .tup xs,n,h=>by
  cases n with
  | zero=>exact ff h
  | succ n=>
   have:=fD xs n h;simp only[eA,PyData.canLay0,PyData.depth];exact⟨this.1,by omega⟩
 | .lst xs,n,h=>by
  cases n with
  | zero=>exact ff h
  | succ n=>
   have:=fD xs n h;simp only[eA,PyData.canLay0,PyData.depth];exact⟨this.1,by omega⟩
 | .ro xs,n,h=>by
  cases n with
  | zero=>exact ff h
  | succ n=>
   have:=fD xs n h;simp only[eA,PyData.canLay0,PyData.depth];exact⟨this.1,by omega⟩
 | .mr a,n,h=>by cases n <;> exact ff h
 | .exc a,n,h=>by cases n <;> exact ff h
 | .any,n,h=>by cases n <;> exact ff h
theorem fD:∀(ds:List D) (n:Nat),aU n ds=true→PyData.canLayAll0 (gk ds)=true∧PyData.depthAll (gk ds)≤n
 | [],n,h=>by simp[gk,PyData.canLayAll0,PyData.depthAll]
 | d::ds,n,h=>by
  have h:=Bool.and_eq_true_iff.mp (show(ar n d&&aU n ds)=true from h);have h1:=eW d n h.1;have h2:=fD ds n h.2;simp only[gk,PyData.canLayAll0,PyData.depthAll,Bool.and_eq_true];exact⟨⟨h1.1,h2.1⟩,by omega⟩
end
mutual
theorem eD {af:List (Addr×Obj)}{s:Shared}{σ:L2.St}{H:Hp}{θ:List Addr}(I:Inv X af σ H s):∀(d:D) (n:Nat) (v:V) (u:Value),ar n d=true→cw X.K θ H d v→aM v u→∃as,Reads s.heap u (eA d) as
 | .non,n,v,u,h,r,q=>by have e:v=.non:=r;subst e;cases q;exact⟨_,.none⟩
 | .bl a,n,v,u,h,r,q=>by have e:v=.bl a:=r;subst e;cases q;exact⟨_,.bool a⟩
 | .int a,n,v,u,h,r,q=>by have e:v=.int a:=r;subst e;obtain⟨t,rfl⟩:=q;exact⟨_,.int a t⟩
 | .str a,n,v,u,h,r,q=>by have e:v=.str a:=r;subst e;obtain⟨t,rfl⟩:=q;exact⟨_,.str a t⟩
 | .tup xs,n,v,u,h,r,q=>by
  cases n with
  | zero=>exact ff h
  | succ n=>
   obtain⟨a,vs,e,ta,ra⟩:=r;subst e;cases q;obtain⟨its,rv,⟨o,h1,h2,m,h3⟩,_⟩:=I.tuple ta.sq;obtain⟨as,R⟩:=dz I xs n vs its h ra rv;exact⟨_,.tuple h1 h2 h3 (by simpa using R)⟩
 | .lst xs,n,v,u,h,r,q=>by
  cases n with
  | zero=>exact ff h
  | succ n=>
   obtain⟨a,vs,e,ta,ra⟩:=r;subst e;cases q;obtain⟨its,rv,⟨o,m,h1,h2,_,h3⟩,_⟩:=I.list (ta.sq (K:=X.K));obtain⟨as,R⟩:=dz I xs n vs its h ra rv;exact⟨_,.list h1 h2 h3 (by simpa using R)⟩
 | .ro xs,n,v,u,h,r,q=>by
  cases n with
  | zero=>exact ff h
  | succ n=>
   obtain⟨a,vs,e,ta,ra⟩:=r;subst e;cases q;obtain⟨its,rv,⟨o,m,h1,h2,_,h3⟩,_⟩:=I.list ta.sq;obtain⟨as,R⟩:=dz I xs n vs its h ra rv;exact⟨_,.list h1 h2 h3 (by simpa using R)⟩
 | .mr a,n,v,u,h,r,q=>by cases n <;> exact ff h
 | .exc a,n,v,u,h,r,q=>by cases n <;> exact ff h
 | .any,n,v,u,h,r,q=>by cases n <;> exact ff h
theorem dz {af:List (Addr×Obj)}{s:Shared}{σ:L2.St}{H:Hp}{θ:List Addr}(I:Inv X af σ H s):∀(ds:List D) (n:Nat) (vs:List V) (us:List Value),aU n ds=true→aK X.K θ H ds vs→aE vs us→∃as,ReadsAll s.heap us (gk ds) as
 | [],n,vs,us,h,r,q=>by have e:vs=[]:=r;subst e;cases q;exact⟨_,.nil⟩
 | d::ds,n,vs,us,h,r,q=>by
  have h:=Bool.and_eq_true_iff.mp (show(ar n d&&aU n ds)=true from h);obtain⟨v,rr,e,r1,r2⟩:=r;subst e;cases q with
  | cons q1 q2=>
   obtain⟨as,R1⟩:=eD I d n v _ h.1 r1 q1;obtain⟨bs,R2⟩:=dz I ds n rr _ h.2 r2 q2;exact⟨_,.cons R1 R2⟩
end
def iT (d:D)(M:am):D:=match d with
 | .mr k=>match M[k]? with
  | some (.lst xs)=>.lst xs
  | _=>.mr k
 | d=>d
def gW (neg:Bool):F2:=fun x y M=>if ar 40 (iT x M)&&ar 40 (iT y M) then .ok (.bl (gm (iT x M) (iT y M) != neg)) M else .bad
theorem i9 {af:List (Addr×Obj)}{s:Shared}{σ:L2.St}{H:Hp}{θ:List Addr}{M:am}(I:Inv X af σ H s)(hw:Wr X.K θ H M){d:D}{n:Nat}{v:V}{u:Value}(h:ar n (iT d M)=true)(r:cw X.K θ H d v)(q:aM v u):∃as,Reads s.heap u (eA (iT d M)) as:=by
 cases d with
 | mr k=>
  obtain⟨a,e,ta⟩:=r;subst e;cases q;cases qm:M[k]? with
  | none=>
   have e:iT (.mr k) M=.mr k:=by simp[iT,qm]
   rw[e] at h;cases n <;> exact ff h
  | some m=>
   cases m with
   | lst xs=>
    have e:iT (.mr k) M=.lst xs:=by simp[iT,qm]
    rw[e] at h ⊢;cases n with
    | zero=>exact ff h
    | succ n=>
     obtain⟨vs,hv,ra⟩:=hw.at_ k a _ ta qm;obtain⟨its,rv,⟨o,m,h1,h2,_,h3⟩,_⟩:=I.list (X:=X) (xs:=vs) (.inl (.inl hv));obtain⟨as,R⟩:=dz I xs n vs its h ra rv;exact⟨_,.list h1 h2 h3 (by simpa using R)⟩
   | _=>
    have e:iT (.mr k) M=.mr k:=by simp[iT,qm]
    rw[e] at h;cases n <;> exact ff h
 | _=>exact eD I _ n v u h r q
theorem yQ (hu:X.A.units+64<cLine):dB X (compareOp .NotEq) (rD X (gW true)):=by
 intro af s σ H x y v u Q I rx ry h;obtain⟨θ,M,dx,dy,hw,r1,r2,h⟩:=h;unfold gW at h;split at h
 ·rename_i hc;rw[Bool.and_eq_true] at hc;obtain⟨as,R1⟩:=i9 I hw hc.1 r1 rx;obtain⟨bs,R2⟩:=i9 I hw hc.2 r2 ry;have l1:=eW _ _ hc.1;have l2:=eW _ _ hc.2;refine SeqAt.compareNe_reads R1 R2 l1.1 l2.1 (by have:=l1.2;have:min (eA (iT dx M)).depth (eA (iT dy M)).depth≤(eA (iT dx M)).depth:=Nat.min_le_left _ _;omega) ?_;rw[hV _ _ _ _ hc.1 hc.2];refine⟨.bl _,H,I,rfl,?_⟩;have:=h _ θ H (.refl hw) rfl;rw[Bool.bne_true] at this;exact this
 ·exact h.elim
def bn (d:D)(M:am):Option (List D):=match d with
 | .tup xs=>some xs
 | .lst xs=>some xs
 | .ro xs=>some xs
 | .mr k=>match M[k]? with
  | some (.lst xs)=>some xs
  | _=>none
 | _=>none
def aB:F2:=fun x y M=>match bn x M,y with
 | some xs,.int i=>match iS xs i with
  | some d=>.ok d M
  | none=>.bad
 | _,_=>.bad
theorem oY {K:W.Frag}{θ:List Addr}{H:Hp}{ds:List D}{vs:List V}{i:Int}{d:D}(r:aK K θ H ds vs)(e:iS ds i=some d):∃v,iS vs i=some v∧cw K θ H d v:=by
 unfold iS at e ⊢;rw[←ak r];cases q:n8 ds.length i with
 | none=>rw[q] at e;cases e
 | some j=>
  rw[q] at e;exact cL r e
theorem ia {K:W.Frag}{θ:List Addr}{H:Hp}{M:am}{d:D}{xs:List D}{v:V}(hw:Wr K θ H M)(r:cw K θ H d v)(e:bn d M=some xs):∃a vs,v=.ref a∧(io K H a vs∨gP K H a vs)∧aK K θ H xs vs:=by
 cases d with
 | tup ds=>obtain⟨a,vs,e1,ta,ra⟩:=r;cases e;exact⟨a,vs,e1,.inr ta.sq,ra⟩
 | lst ds=>obtain⟨a,vs,e1,ta,ra⟩:=r;cases e;exact⟨a,vs,e1,.inl ta.sq,ra⟩
 | ro ds=>obtain⟨a,vs,e1,ta,ra⟩:=r;cases e;exact⟨a,vs,e1,.inl ta.sq,ra⟩
 | mr k=>
  obtain⟨a,e1,ta⟩:=r;have e:(match M[k]? with|some (.lst xs)=>some xs|_=>none)=some xs:=e;cases qm:M[k]? with
  | none=>rw[qm] at e;cases e
  | some m=>
   cases m with
   | lst ys=>
    rw[qm] at e;cases e;obtain⟨vs,hv,ra⟩:=hw.at_ k a _ ta qm;exact⟨a,vs,e1,.inl (.inl (.inl hv)),ra⟩
   | _=>rw[qm] at e;cases e
 | _=>cases e
theorem xQ:zO X (rD X aB):=by
 intro value slice af s σ H x y v u Q I rx ry h hs;obtain⟨θ,M,dx,dy,hw,r1,r2,h⟩:=h;unfold aB at h;split at h
 ·rename_i xs i q;split at h
  ·rename_i d qd;obtain⟨a,vs,ea,sq,ra⟩:=ia hw r1 q;obtain⟨z,ez,rz⟩:=oY ra qd;have hq:=h z θ H (.refl hw) rz;rcases sq with sq|sq
   ·exact tq value slice af s σ H x y v u Q I rx ry ⟨a,vs,i,z,ea,r2,sq,ez,hq⟩ hs
   ·exact vM value slice af s σ H x y v u Q I rx ry ⟨a,vs,i,z,ea,r2,sq,ez,hq⟩ hs
  ·exact h.elim
 ·exact h.elim
theorem yB {a b:Expr}{pos:Pos}{ga gb:GE}(ha:PE X a (tE X ga))(hb:PE X b (tE X gb))(hs:jU b:=by intro _ _;rfl):PE X (.Subscript a b pos) (tE X (g2 aB ga gb)):=
 (zj xQ ha hb hs).of fun _ _ _ h=>m8 h
def j2 (xs:List D)(lo hi:Option Int):List D:=(xs.drop (HT.sIx xs.length 0 lo)).take (HT.sIx xs.length xs.length hi-HT.sIx xs.length 0 lo)
def iF (x:D)(lo hi:Option Int)(M:am):aN D:=match x with
 | .tup xs=>.ok (.tup (j2 xs lo hi)) M
 | .lst xs=>.ok (.lst (j2 xs lo hi)) M
 | .ro xs=>.ok (.lst (j2 xs lo hi)) M
 | .mr k=>match M[k]? with
  | some (.lst xs)=>.ok (.lst (j2 xs lo hi)) M
  | _=>.bad
 | _=>.bad
abbrev GO:=bG→am→aN (Option Int)
def aV:GO:=fun _ M=>.ok none M
def bX (g:GE):GO:=fun ρ M=>(g ρ M).bind fun d M1=>match d with
 | .int i=>.ok (some i) M1
 | _=>.bad
def zv (X:Cx)(θ:List Addr)(H:Hp)(Q:Option Int→Hp→Prop):aN (Option Int)→Prop
 | .ok b M'=>∀θ' H',Go X.K θ H θ' H' M'→Q b H'
 | .err c M'=>cp X θ H c M'
 | .bad=>False
def tO (X:Cx)(g:GO):TO:=fun σ H Q=>∃ρ θ M,eM X.K θ H σ ρ∧Wr X.K θ H M∧zv X θ H Q (g ρ M)
theorem _root_.L2.PO.of {e:Option Expr}{t t':TO}(h:PO X e t)(w:∀σ H Q,t' σ H Q→t σ H Q):PO X e t':=fun af s σ H Q I q=>h af s σ H Q I (w σ H Q q)
theorem rf:PO X none (tO X aV):=sX.of fun σ H Q ⟨ρ,θ,M,hd,hw,f⟩=>f θ H (.refl hw)
theorem sj {e:Expr}{g:GE}(h:PE X e (tE X g)):PO X (some e) (tO X (bX g)):=(rY h).of fun σ H Q hxx=>by
 obtain⟨ρ,θ,M,hd,hw,h⟩:=hxx;refine bB hd hw (zv X θ H Q) (fun c M' h=>h) (fun h=>h) h fun d M1 v θ1 H1 g1 r1 h1=>?_
 split at h1
 ·rename_i i;exact⟨i,r1,h1 θ1 H1 g1⟩
 ·exact h1.elim
theorem uo {g:GO}{σ:L2.St}{H:Hp}{Q:Option Int→Hp→Prop}{α:Type}{ρ:bG}{θ:List Addr}{M:am}(hd:eM X.K θ H σ ρ)(hw:Wr X.K θ H M)(F:aN α→Prop)(Fe:∀c M',F (.err c M')→cp X θ H c M')(Fb:F .bad→False)
  {f:Option Int→am→aN α} (h:F ((g ρ M).bind f)) (k:∀d M1 θ1 H1,Go X.K θ H θ1 H1 M1→F (f d M1)→Q d H1):tO X g σ H Q:=by
 refine⟨ρ,θ,M,hd,hw,?_⟩;cases q:g ρ M with
 | ok d M1=>
  rw[q] at h;exact fun θ1 H1 g1=>k d M1 θ1 H1 g1 h
 | err c M1=>rw[q] at h;exact Fe c M1 h
 | bad=>rw[q] at h;exact(Fb h).elim
def gS (g:GE)(gl gh:GO):GE:=fun ρ M=>(g ρ M).bind fun x M1=>(gl ρ M1).bind fun lo M2=>(gh ρ M2).bind fun hi M3=>iF x lo hi M3
def Bk (X:Cx):V→Option Int→Option Int→Hp→VK→Prop:=fun x lo hi H Q=>∃θ M d,Wr X.K θ H M∧cw X.K θ H d x∧aI X θ H Q (iF d lo hi M)
theorem fN {K:W.Frag}{θ:List Addr}{H:Hp}{ds:List D}{vs:List V}(r:aK K θ H ds vs)(lo hi:Option Int):aK K θ H (j2 ds lo hi) (lG vs lo hi):=by
 unfold j2 lG;rw[←ak r];exact jp _ (jy _ r)
theorem Ak:zY X (Bk X):=by
 intro af s σ H x v vl vu lo hi sl Q I rx hs pl pu h;obtain⟨θ,M,d,hw,r,h⟩:=h;cases d with
 | tup ds=>
  obtain⟨a,vs,e,ta,ra⟩:=r
  by_cases hc:HT.sIx vs.length 0 lo=0∧HT.sIx vs.length vs.length hi=vs.length
  ·subst e;cases rx;obtain⟨its,rv,ht,hz⟩:=I.tuple ta.sq;have hlen:its.toArray.size=vs.length:=by rw[size_toArray];exact rv.length.symm
   refine⟨"tuple",_,PyProof.Rows.slot_tuple_getitem.lookup,ht.typeIs,?_⟩;refine eZ ht hs pl pu (by rw[hlen];exact hc) ⟨.ref a,H,I,rfl,h _ θ H (.refl hw) ⟨a,vs,rfl,ta,?_⟩⟩;have e:j2 ds lo hi=ds:=by
    unfold j2;rw[ak ra,hc.1,hc.2,drop_zero,Nat.sub_zero,←ak ra,take_length]
   rw[e];exact ra
  ·exact wb af s σ H x v vl vu lo hi sl Q I rx hs pl pu ⟨a,vs,e,ta.sq,hc,fun p hp=>h _ θ _ (cf hw hp) (dZ hw hp (fN ra lo hi))⟩
 | lst ds=>
  obtain⟨a,vs,e,ta,ra⟩:=r;exact j8 af s σ H x v vl vu lo hi sl Q I rx hs pl pu ⟨a,vs,e,ta.sq,fun p hp=>h _ θ _ (cf hw hp) (dN hw hp (fN ra lo hi))⟩
 | ro ds=>
  obtain⟨a,vs,e,ta,ra⟩:=r;exact j8 af s σ H x v vl vu lo hi sl Q I rx hs pl pu ⟨a,vs,e,ta.sq,fun p hp=>h _ θ _ (cf hw hp) (dN hw hp (fN ra lo hi))⟩
 | mr k=>
  obtain⟨a,e,ta⟩:=r;have h:aI X θ H Q (match M[k]? with|some (.lst xs)=>.ok (.lst (j2 xs lo hi)) M|_=>.bad):=h;cases qm:M[k]? with
  | none=>rw[qm] at h;exact h.elim
  | some m=>
   cases m with
   | lst ys=>
    rw[qm] at h;obtain⟨vs,hv,ra⟩:=hw.at_ k a _ ta qm;exact j8 af s σ H x v vl vu lo hi sl Q I rx hs pl pu ⟨a,vs,e,.inl (.inl hv),fun p hp=>h _ θ _ (cf hw hp) (dN hw hp (fN ra lo hi))⟩
   | _=>rw[qm] at h;exact h.elim
 | _=>exact h.elim
theorem oZ {e:Expr}{lo hi:Option Expr}{g:GE}{gl gh:GO}{p2 pos:Pos}(he:PE X e (tE X g))(hl:PO X lo (tO X gl))(hh:PO X hi (tO X gh)):PE X (.Subscript e (.Slice lo hi none p2) pos) (tE X (gS g gl gh)):=
 (oM Ak he hl hh).of fun σ H Q hxx=>by
  obtain⟨ρ,θ,M,hd,hw,h⟩:=hxx;refine bB hd hw (aI X θ H Q) (fun c M' h=>h) (fun h=>h) h fun d M1 v θ1 H1 g1 r1 h1=>?_
  refine uo (hd.go g1) g1.wr (aI X θ1 H1 Q) (fun c M' h=>h) (fun h=>h) (h1.go g1) fun l M2 θ2 H2 g2 h2=>?_
  refine uo ((hd.go g1).go g2) g2.wr (aI X θ2 H2 Q) (fun c M' h=>h) (fun h=>h) (h2.go g2) fun u M3 θ3 H3 g3 h3=>?_
  exact⟨θ3,M3,d,g3.wr,r1.go (g2.trans g3),h3.go g3⟩
def cu:FD:=fun ds M=>match ds with
 | [.str x]=>if x.length≤sizeLine then .ok (.int x.length) M else .bad
 | [d]=>match bn d M with
  | some xs=>.ok (.int xs.length) M
  | none=>.bad
 | _=>.bad
def ki:FD:=fun ds M=>match ds with
 | [.int i,.int j]=>.ok (.int (if j<i then j else i)) M
 | _=>.bad
def kM:FD:=fun ds M=>match ds with
 | [.int i,.int j]=>.ok (.int (if j>i then j else i)) M
 | _=>.bad
def lS:FD:=fun ds M=>match ds with
 | [.int i]=>.ok (.int i) M
 | [.bl b]=>.ok (.int (if b then 1 else 0)) M
 | _=>.bad
def gQ:FD:=fun ds M=>match ds with
 | [d]=>match bn d M with
  | some xs=>.ok (.lst xs) M
  | none=>.bad
 | _=>.bad
def fP:FD:=fun ds M=>match ds with
 | [d]=>match bn d M with
  | some xs=>.ok (.mr M.length) (M++[.lst xs])
  | none=>.bad
 | _=>.bad
def aF:FD:=fun ds M=>match ds with
 | [d]=>match bn d M with
  | some xs=>.ok (.tup xs) M
  | none=>.bad
 | _=>.bad
theorem du {K:W.Frag}{θ:List Addr}{H:Hp}{d:D}{xs:List V}(r:aK K θ H [d] xs):∃v,xs=[v]∧cw K θ H d v:=by
 obtain⟨v,rr,e,h1,h2⟩:=r;have e2:rr=[]:=h2;subst e2;exact⟨v,e,h1⟩
theorem o3 {K:W.Frag}{θ:List Addr}{H:Hp}{d d':D}{xs:List V}(r:aK K θ H [d,d'] xs):∃v v',xs=[v,v']∧cw K θ H d v∧cw K θ H d' v':=by
 obtain⟨v,rr,e,h1,h2⟩:=r;obtain⟨v',e2,h3⟩:=du h2;subst e2;exact⟨v,v',e,h1,h3⟩
theorem v7:bN X (.builtin "len") (rC X cu):=by
 intro af s σ H xs us Q I r h;obtain⟨θ,M,ds,hw,rd,h⟩:=h;unfold cu at h;split at h
 ·rename_i x;split at h
  ·rename_i hl;obtain⟨v,e,rv⟩:=du rd;exact j7 af s σ H xs us Q I r ⟨x,by rw[e,show v=.str x from rv],hl,h _ θ H (.refl hw) rfl⟩
  ·exact h.elim
 ·rename_i d _;split at h
  ·rename_i ys q;obtain⟨v,e,rv⟩:=du rd;obtain⟨a,vs,ea,sq,ra⟩:=ia hw rv q;refine j5 af s σ H xs us Q I r ⟨a,vs,by rw[e,ea],sq,?_⟩;rw[←ak ra];exact h _ θ H (.refl hw) rfl
  ·exact h.elim
 ·exact h.elim
theorem vC (hc:X.calm=true):bN X (.builtin "min") (rC X ki):=by
 intro af s σ H xs us Q I r h;obtain⟨θ,M,ds,hw,rd,h⟩:=h;unfold ki at h;split at h
 ·rename_i i j;obtain⟨v,v',e,rv,rv'⟩:=o3 rd;exact nS hc af s σ H xs us Q I r ⟨i,j,by rw[e,show v=.int i from rv,show v'=.int j from rv'],h _ θ H (.refl hw) rfl⟩
 ·exact h.elim
theorem wy (hc:X.calm=true):bN X (.builtin "max") (rC X kM):=by
 intro af s σ H xs us Q I r h;obtain⟨θ,M,ds,hw,rd,h⟩:=h;unfold kM at h;split at h
 ·rename_i i j;obtain⟨v,v',e,rv,rv'⟩:=o3 rd;exact nF hc af s σ H xs us Q I r ⟨i,j,by rw[e,show v=.int i from rv,show v'=.int j from rv'],h _ θ H (.refl hw) rfl⟩
 ·exact h.elim
theorem vf:bN X (.type "int") (rC X lS):=by
 intro af s σ H xs us Q I r h;obtain⟨θ,M,ds,hw,rd,h⟩:=h;unfold lS at h;split at h
 ·rename_i i;obtain⟨v,e,rv⟩:=du rd;exact jl af s σ H xs us Q I r (.inl ⟨i,by rw[e,show v=.int i from rv],h _ θ H (.refl hw) rfl⟩)
 ·rename_i b;obtain⟨v,e,rv⟩:=du rd;exact jl af s σ H xs us Q I r (.inr ⟨b,by rw[e,show v=.bl b from rv],h _ θ H (.refl hw) rfl⟩)
 ·exact h.elim
theorem sw:bN X (.type "list") (rC X gQ):=by
 intro af s σ H xs us Q I r h;obtain⟨θ,M,ds,hw,rd,h⟩:=h;unfold gQ at h;split at h
 ·rename_i d;split at h
  ·rename_i ys q;obtain⟨v,e,rv⟩:=du rd;obtain⟨a,vs,ea,sq,ra⟩:=ia hw rv q;exact fT af s σ H xs us Q I r ⟨a,vs,by rw[e,ea],sq,fun l hl=>h _ θ _ (cf hw hl) (dN hw hl ra)⟩
  ·exact h.elim
 ·exact h.elim
theorem qB:bN X (.type "list") (rC X fP):=by
 intro af s σ H xs us Q I r h;obtain⟨θ,M,ds,hw,rd,h⟩:=h;unfold fP at h;split at h
 ·rename_i d;split at h
  ·rename_i ys q;obtain⟨v,e,rv⟩:=du rd;obtain⟨a,vs,ea,sq,ra⟩:=ia hw rv q;exact fT af s σ H xs us Q I r ⟨a,vs,by rw[e,ea],sq,fun l hl=>h _ _ _ (qq hw hl ra) (k9 hw)⟩
  ·exact h.elim
 ·exact h.elim
theorem qH:bN X (.type "tuple") (rC X aF):=by
 intro af s σ H xs us Q I r h;obtain⟨θ,M,ds,hw,rd,h⟩:=h;unfold aF at h;split at h
 ·rename_i d;obtain⟨v,e,rv⟩:=du rd;cases d with
  | tup ys=>
   obtain⟨a,vs,ea,ta,ra⟩:=rv;exact cF af s σ H xs us Q I r ⟨a,vs,by rw[e,ea],.inr ⟨ta.sq,h _ θ H (.refl hw) ⟨a,vs,rfl,ta,ra⟩⟩⟩
  | lst ys=>
   obtain⟨a,vs,ea,ta,ra⟩:=rv;exact cF af s σ H xs us Q I r ⟨a,vs,by rw[e,ea],.inl ⟨ta.sq,fun l hl=>h _ θ _ (cf hw hl) (dZ hw hl ra)⟩⟩
  | ro ys=>
   obtain⟨a,vs,ea,ta,ra⟩:=rv;exact cF af s σ H xs us Q I r ⟨a,vs,by rw[e,ea],.inl ⟨ta.sq,fun l hl=>h _ θ _ (cf hw hl) (dZ hw hl ra)⟩⟩
  | mr k=>
   obtain⟨a,ea,ta⟩:=rv;cases qm:M[k]? with
   | none=>simp[bn,qm] at h;exact h.elim
   | some m=>
    cases m with
    | lst ys=>
     simp only[bn,qm] at h;obtain⟨vs,hv,ra⟩:=hw.at_ k a _ ta qm;exact cF af s σ H xs us Q I r ⟨a,vs,by rw[e,ea],.inl ⟨.inl (.inl hv),fun l hl=>h _ θ _ (cf hw hl) (dZ hw hl ra)⟩⟩
    | _=>simp[bn,qm] at h;exact h.elim
  | _=>exact h.elim
 ·exact h.elim
end
def bT (cells:List (Str×Addr)):List (Str×NameKind)→List (Str×Addr)→List (Str×Addr)
 | [],acc=>acc
 | (n,k)::r,acc=>if k==.free then bT cells r ((n,(cells.lookup n).getD 0)::acc) else bT cells r acc
theorem iL {env:Env}:∀(l:List (Str×NameKind)) (cs:List (Str×Addr)),(∀p∈l,p.2=.free→∃c,env.cells.lookup p.1=some c)→
  (forIn (m:=Sem) l cs fun x r=>match x with
   | (name,kind)=>if(kind==NameKind.free)=true then do let __do_lift ←cellOf env name;pure (ForInStep.yield ((name,__do_lift)::r)) else pure (ForInStep.yield r))=pure (bT env.cells l cs)
 | [],cs,h=>rfl
 | (n,k)::r,cs,h=>by
  have ih:=fun cs=>iL (env:=env) r cs fun p hp=>h p (mem_cons_of_mem _ hp)
  rw[forIn_cons]
  by_cases hk:(k==NameKind.free)=true
  ·obtain⟨c,hc⟩:=h (n,k) mem_cons_self (by simpa using hk);have e:cellOf env n=pure c:=by unfold cellOf;rw[show List.lookup n env.cells=some c from hc]
   simp only[hk,if_true,bT,e,pure_bind];rw[ih,show List.lookup n env.cells=some c from hc];rfl
  ·simp only[hk,if_false,bT,pure_bind,Bool.false_eq_true];exact ih cs
theorem jO {env:Env}{scope:Scope}(h:∀p∈scope.names,p.2=.free→∃c,env.cells.lookup p.1=some c):closureFor scope env=pure (bT env.cells scope.names []):=by
 have:=iL (env:=env) scope.names [] h;unfold closureFor;simp only[bind_pure_comp] at this ⊢
 first
  | (rw[this];rfl)
  | (simp[this])
  | exact this
theorem iz {cells:List (Str×Addr)}:∀(l:List (Str×NameKind)) (acc:List (Str×Addr)),(∀p∈acc,cells.lookup p.1=some p.2)→(∀p∈l,p.2=.free→∃c,cells.lookup p.1=some c)→
  ∀p∈bT cells l acc,cells.lookup p.1=some p.2
 | [],acc,ha,h=>ha
 | (n,k)::r,acc,ha,h=>by
  have hr:∀p∈r,p.2=.free→∃c,cells.lookup p.1=some c:=fun p hp=>h p (mem_cons_of_mem _ hp)
  unfold bT
  by_cases hk:(k==NameKind.free)=true
  ·rw[if_pos hk];refine iz r _ (fun p hp=>?_) hr;rcases mem_cons.mp hp with e|hp
   ·subst e;obtain⟨c,hc⟩:=h (n,k) mem_cons_self (by simpa using hk);have hc':cells.lookup n=some c:=hc;show cells.lookup n=some ((cells.lookup n).getD 0);rw[hc'];rfl
   ·exact ha p hp
  ·rw[if_neg hk];exact iz r acc ha hr
theorem iD {cells:List (Str×Addr)}:∀(l:List (Str×NameKind)) (acc:List (Str×Addr)),∀p∈acc,p∈bT cells l acc
 | [],acc,p,h=>h
 | (n,k)::r,acc,p,h=>by
  unfold bT
  by_cases hk:(k==NameKind.free)=true
  ·rw[if_pos hk];exact iD r _ p (mem_cons_of_mem _ h)
  ·rw[if_neg hk];exact iD r acc p h
theorem im {cells:List (Str×Addr)}:∀(l:List (Str×NameKind)) (acc:List (Str×Addr)) (n:Str),(n,NameKind.free)∈l→∃c,(n,c)∈bT cells l acc
 | [],acc,n,h=>by cases h
 | (m,k)::r,acc,n,h=>by
  unfold bT;rcases mem_cons.mp h with e|h
  ·cases e;rw[if_pos (by rfl)];exact⟨_,iD r _ _ mem_cons_self⟩
  ·by_cases hk:(k==NameKind.free)=true
   ·rw[if_pos hk];exact im r _ n h
   ·rw[if_neg hk];exact im r acc n h
theorem fj {l:List (Str×Addr)}{n:Str}{c:Addr}(h:(n,c)∈l):∃c',l.lookup n=some c':=by
 induction l with
 | nil=>cases h
 | cons p r ih=>
  obtain⟨m,d⟩:=p
  by_cases e:(n==m)=true
  ·exact⟨d,by simp[List.lookup,e]⟩
  ·have e':(n==m)=false:=by simpa using e
   rcases mem_cons.mp h with q|q
   ·cases q;simp at e
   ·obtain⟨c',hc⟩:=ih q;exact⟨c',by simp only[List.lookup,e'];exact hc⟩
theorem c5 {env:Env}:∀{names:List (Str×NameKind)} {x:Str} {k:NameKind},
  (names.map fun(n,k)=>if(k==NameKind.free&&env.scope.kind==.function&&env.kindOf n==some .cell) then(n,NameKind.cell) else(n,k)).lookup x=some k→
   names.lookup x=some k∨(k=.cell∧names.lookup x=some .free)
 | [],_,_,h=>by simp at h
 | (n,k')::r,x,k,h=>by
  have ih:=@c5 env r x k;have h:List.lookup x ((if(k'==NameKind.free&&env.scope.kind==.function&&env.kindOf n==some .cell)=true then(n,NameKind.cell) else(n,k'))::_)=some k:=h
  by_cases hc:(k'==NameKind.free&&env.scope.kind==.function&&env.kindOf n==some .cell)=true
  ·rw[if_pos hc] at h;cases hx:x==n with
   | true=>
    simp only[lookup_cons,hx] at h ⊢;cases h;have:k'=.free:=by
     rw[Bool.and_eq_true,Bool.and_eq_true] at hc;simpa using hc.1.1
    subst this;exact .inr ⟨rfl,rfl⟩
   | false=>
    simp only[lookup_cons,hx] at h ⊢;exact ih h
  ·rw[if_neg hc] at h;cases hx:x==n with
   | true=>
    simp only[lookup_cons,hx] at h ⊢;exact .inl h
   | false=>
    simp only[lookup_cons,hx] at h ⊢;exact ih h
def cg (sc:Scope)(fk:Str→Option NameKind)(xs:List Str)(R N:List Str):Bool:=
 decide (sc.kind=.function)&&xs.all (fun x=>sc.names.lookup x==some .local) &&
 sc.names.all (fun p=>match p.2 with
  | .cell=>false
  | .local=>(xs.contains p.1||p.1==(".0":Str))&&sc.names.lookup p.1==some .local
  | .free=>fk p.1==some .cell||fk p.1==some .free
  | _=>true) &&
 decide ((xs++R).Nodup)&&!(R.contains (".0":Str))&&R.length==N.length &&
 (R.zip N).all (fun p=>p.1==p.2||sc.names.lookup p.1 != some .free)
structure bu (sc:Scope)(fk:Str→Option NameKind)(xs:List Str)(R N:List Str):Prop where
 kind:sc.kind=.function
 own:∀x∈xs,sc.names.lookup x=some .local
 nocell:∀p∈sc.names,p.2≠.cell
 locs:∀p∈sc.names,p.2=.local→p.1∈xs∨p.1=(".0":Str)
 lnames:∀p∈sc.names,p.2=.local→sc.names.lookup p.1=some .local
 free:∀p∈sc.names,p.2=.free→fk p.1=some .cell∨fk p.1=some .free
 nd:(xs++R).Nodup
 no0:(".0":Str)∉R
 len:R.length=N.length
 same:∀(i:Nat) y,R[i]?=some y→sc.names.lookup y=some .free→N[i]?=some y
theorem bu.of {sc:Scope}{fk:Str→Option NameKind}{xs:List Str}{R N:List Str}(h:cg sc fk xs R N=true):bu sc fk xs R N:=by
 unfold cg at h;simp only[Bool.and_eq_true,decide_eq_true_eq,all_eq_true,Bool.not_eq_true',beq_iff_eq] at h;obtain⟨⟨⟨⟨⟨⟨h1,h2⟩,h3⟩,h4⟩,h5⟩,h6⟩,h7⟩:=h;refine⟨h1,h2,fun p hp e=>?_,fun p hp e=>?_,fun p hp e=>?_,fun p hp e=>?_,h4,?_,h6,fun i y hy hf=>?_⟩
 ·have:=h3 p hp;rw[e] at this;simp at this
 ·have:=h3 p hp;rw[e] at this;simp at this;exact this.1
 ·have:=h3 p hp;rw[e] at this;simp at this;exact this.2
 ·have:=h3 p hp;rw[e] at this;simp at this;exact this
 ·intro hm;have:R.contains (".0":Str)=true:=by simpa using hm
  rw[this] at h5;cases h5
 ·obtain⟨hi,e⟩:=List.getElem?_eq_some_iff.mp hy;have hn:i<N.length:=by rw[←h6];exact hi
  have hz:(R[i],N[i])∈R.zip N:=by
   rw[mem_iff_getElem];exact⟨i,by simp;omega,by simp⟩
  have:=h7 _ hz;simp only[Bool.or_eq_true,beq_iff_eq,bne_iff_ne,ne_eq] at this;rcases this with q|q
  ·rw[getElem?_eq_getElem hn,←q,e]
  ·rw[e] at q;exact absurd hf q
def ay (X:Cx)(scope:Scope)(xs:List Str)(R:List Str)(fp:List Addr)(s:Shared)(H:Hp)(C:Addr):Cx where
 prog:=X.prog
 w:=X.w
 K:=X.K
 mg:=X.mg
 base:=X.base
 A:=X.A
 N:=xs++R
 s₀:=s
 H₀:=H
 env:=compEnvC scope (bT X.env.cells scope.names []) C X.env
 outer:=X.stack
 stack:=X.stack
 ex:=fp
 fn:=fun _=>false
 calm:=X.calm
 pn:=[]
 xe:=fun _ _=>False
section
variable {X:Cx}{af:List (Addr×Obj)}{σ:L2.St}{H:Hp}{s:Shared}{scope:Scope}{xs:List Str}{R:List Str}{fp:List Addr}{C:Addr}
theorem bu.cells (S:bu scope X.env.kindOf xs R X.N)(I:L2.Inv X af σ H s):∀p∈scope.names,p.2=.free→∃c,X.env.cells.lookup p.1=some c:=fun p hp e=>I.ok.has p.1 (S.free p hp e)
theorem bD (S:bu scope X.env.kindOf xs R X.N)(I:L2.Inv X af σ H s){y:Str}{c:Addr}(h:(bT X.env.cells scope.names []).lookup y=some c):X.env.cells.lookup y=some c:=
 iz scope.names [] (fun _ z=>by cases z) (S.cells I) (y,c) (PySem.mem_of_lookup h)
theorem pN {h4:Heap}{m:Str→Option Value}{tk:Nat}(S:bu scope X.env.kindOf xs R X.N)(I:L2.Inv X af σ H s)(hC:s.heap.objs.size≤C)(k:∀b o,s.heap.get? b=some o→h4.get? b=some o)(hn:h4.Ns C m)
  (hf:∀b∈fp,gX X af H b) (hfl:∀b∈fp,b<s.heap.objs.size):L2.Inv (ay X scope xs R fp s H C) [] (List.replicate xs.length none++σ) H {s with heap:=h4,toks:=tk}:=by
 have hkn:∀y kk,(relabel scope X.env).names.lookup y=some kk→(kk=.cell∨kk=.free)→scope.names.lookup y=some .free:=fun y kk e hk=>by
  rcases c5 e with q|q
  ·rcases hk with z|z
   ·subst z;exact absurd rfl (S.nocell _ (PySem.mem_of_lookup q))
   ·subst z;exact q
  ·exact q.2
 have hasc:∀y,scope.names.lookup y=some .free→∃c,(bT X.env.cells scope.names []).lookup y=some c:=fun y e=>by
  obtain⟨c,hc⟩:=im (cells:=X.env.cells) scope.names [] y (PySem.mem_of_lookup e);exact fj hc
 refine⟨⟨I.ok.mod,S.kind,I.ok.glob,I.ok.blt,hC,fun y z c h1 h2=>I.ok.inj y z c (bD S I h1) (bD S I h2),fun y hy=>?_,fun y c z=>absurd (show false=true from z) Bool.false_ne_true,I.ok.hd,I.ok.frames,.inl rfl,fun b hb=>⟨?_,fun y c e=>?_⟩,I.bs,Nat.le_trans I.ok.bsz I.sz,fun b o e hb=>?_,fun b hb z=>?_,I.stack,I.stkFree⟩,
  rfl,I.bare,Un.kept k,⟨m,hn,fun i y v h1 h2 h3=>?_⟩,fun y c e=>?_,I.hok.fresh hC,fun y c e=>I.freeC y c (bD S I e),fun p hp=>absurd (show p∈([]:List (Addr×Obj)) from hp) (by simp),I.hok.kept k,?_⟩
 ·rcases hy with e|e
  ·exact hasc y (hkn y _ e (.inl rfl))
  ·exact hasc y (hkn y _ e (.inr rfl))
 ·exact Nat.ne_of_lt (Nat.lt_of_lt_of_le (hfl b hb) hC)
 ·exact(hf b hb).2.2.2.2.1 y c (bD S I e)
 ·rcases(hf b hb).2.2.2.1 with z|z
  ·exact I.ok.noex b o e z
  ·exact absurd (Nat.lt_of_lt_of_le (Heap.lt_size e) (Nat.le_trans I.ok.bsz z)) (Nat.lt_irrefl _)
 ·rcases mem_cons.mp (I.stkSub b z) with e|e
  ·exact(hf b hb).2.1 e
  ·exact(hf b hb).2.2.1 e
 ·by_cases hi:i<xs.length
  ·exfalso;rw[getElem?_append_left (by rw[length_replicate];exact hi),getElem?_replicate,if_pos hi] at h2;cases h2
  ·obtain⟨i,rfl⟩:∃j,i=xs.length+j:=⟨i-xs.length,by omega⟩;have h1:R[i]?=some y:=by
    have h1:(xs++R)[xs.length+i]?=some y:=h1;rw[getElem?_append_right (by omega)] at h1;simpa using h1
   have h2:σ[i]?=some (some v):=by
    rw[getElem?_append_right (by rw[length_replicate];omega)] at h2;simpa using h2
   have hyR:y∈R:=mem_of_getElem? h1;have hf':scope.names.lookup y=some .free∧((relabel scope X.env).names.lookup y=some .cell∨(relabel scope X.env).names.lookup y=some .free):=by
    have h3:(relabel scope X.env).names.lookup y=some .local∨(relabel scope X.env).names.lookup y=some .cell∨(relabel scope X.env).names.lookup y=some .free:=h3;rcases h3 with e|e|e
    ·rcases c5 e with q|q
     ·exfalso;rcases S.locs _ (PySem.mem_of_lookup q) rfl with z|z
      ·exact(nodup_append.mp S.nd).2.2 y z y hyR rfl
      ·have z:y=(".0":Str):=z;rw[z] at hyR;exact S.no0 hyR
     ·exact absurd q.1 (by intro z;cases z)
    ·exact⟨hkn y _ e (.inl rfl),.inl e⟩
    ·exact⟨hkn y _ e (.inr rfl),.inr e⟩
   have hN:=S.same i y h1 hf'.1;have hk:=S.free (y,.free) (PySem.mem_of_lookup hf'.1) rfl;obtain⟨mX,hnX,hl⟩:=I.loc;have vis:yM X.env.scope y:=by
    rcases hk with z|z
    ·exact .inr (.inl z)
    ·exact .inr (.inr z)
   obtain⟨u,r,l⟩:=hl i y v hN h2 vis;refine⟨u,r,.inr ⟨hf'.2,?_⟩⟩;rcases l with⟨z,_⟩|⟨_,c,hc,o,ho,hod⟩
   ·exfalso;rcases hk with q|q
    ·have q:X.env.kindOf y=some .cell:=q;rw[z] at q;cases q
    ·have q:X.env.kindOf y=some .free:=q;rw[z] at q;cases q
   ·obtain⟨c',hc'⟩:=hasc y hf'.1;have:c'=c:=by
     have:=bD S I hc';rw[hc] at this;exact(Option.some.inj this).symm
    subst this;exact⟨c',hc',o,k _ _ ho,hod⟩
 ·obtain⟨v,o,ho,hd⟩:=I.cell y c (bD S I e);exact⟨v,o,k _ _ ho,hd⟩
 ·show(List.replicate xs.length none++σ).length=(xs++R).length;rw[length_append,length_append,length_replicate,I.len,S.len]
end
def c6 (t:jq)(gc:GT)(ge:GE):List D→bG→am→aN (List D)
 | [],ρ,M=>if t.ok M then .ok [] M else .bad
 | d::r,ρ,M=>if t.ok M then
   match gc (some d::ρ) M with
   | .ok true M1=>match ge (some d::ρ) M1 with
    | .ok e M2=>(c6 t gc ge r ρ M2).bind fun es M3=>.ok (e::es) M3
    | _=>.bad
   | .ok false M1=>c6 t gc ge r ρ M1
   | _=>.bad
  else .bad
def cP:GT:=fun _ M=>.ok true M
def aG (t:jq)(n:Nat)(sg:GG)(gc:GT)(ge:GE):List D→bG→am→aN (List D)
 | [],ρ,M=>if t.ok M then .ok [] M else .bad
 | d::r,ρ,M=>if t.ok M then
   match sg d (List.replicate n none++ρ) with
   | none=>.bad
   | some ρ1=>match gc ρ1 M with
    | .ok true M1=>match ge ρ1 M1 with
     | .ok e M2=>(aG t n sg gc ge r ρ M2).bind fun es M3=>.ok (e::es) M3
     | _=>.bad
    | .ok false M1=>aG t n sg gc ge r ρ M1
    | _=>.bad
  else .bad
def cy (gi:GI)(n:Nat)(sg:GG)(gc:GT)(ge:GE)(mk:List D→am→aN D):GE:=fun ρ M=>(gi ρ M).bind fun t M1=>(aG t n sg gc ge t.ds ρ M1).bind mk
theorem li (t:jq)(gc:GT)(ge:GE):∀(ds:List D) (ρ:bG) (M:am),c6 t gc ge ds ρ M=aG t 1 (df 0) gc ge ds ρ M
 | [],ρ,M=>rfl
 | d::r,ρ,M=>by
  have ih:=li t gc ge r;unfold c6 aG;show _=(if t.ok M=true then(match gc (some d::ρ) M with
    | .ok true M1=>match ge (some d::ρ) M1 with
     | .ok e M2=>(aG t 1 (df 0) gc ge r ρ M2).bind fun es M3=>.ok (e::es) M3
     | _=>.bad
    | .ok false M1=>aG t 1 (df 0) gc ge r ρ M1
    | _=>.bad) else .bad)
  simp only[ih]
def lQ (n:Nat)(sg:GG):Prop:=∀d ρ ρ',sg d ρ=some ρ'→ρ'.length=ρ.length∧∀i:Nat,n≤i→ρ'[i]?=ρ[i]?
theorem rj {n i:Nat}(h:i<n):lQ n (df i):=fun d ρ ρ' e=>by
 have e:some (ρ.set i (some d))=some ρ':=e;cases e;exact⟨by rw[length_set],fun j hj=>by rw[getElem?_set_ne (by omega)]⟩
theorem kK {n:Nat}:∀{is:List Nat} {ds:List D} {ρ ρ':bG},is.all (fun i=>decide (i<n))=true→fL is ds ρ=some ρ'→ρ'.length=ρ.length∧∀i:Nat,n≤i→ρ'[i]?=ρ[i]?
 | [],[],ρ,ρ',_,e=>by cases e;exact⟨rfl,fun _ _=>rfl⟩
 | [],_::_,_,_,_,e=>by cases e
 | _::_,[],_,_,_,e=>by cases e
 | i::is,d::ds,ρ,ρ',h,e=>by
  rw[all_cons,Bool.and_eq_true] at h;have hi:i<n:=by simpa using h.1
  obtain⟨a,b⟩:=kK h.2 (show fL is ds (ρ.set i (some d))=some ρ' from e);exact⟨by rw[a,length_set],fun j hj=>by rw[b j hj,getElem?_set_ne (by omega)]⟩
theorem rR {n:Nat}{is:List Nat}(h:is.all (fun i=>decide (i<n))=true):lQ n (cB is):=fun d ρ ρ' e=>by
 cases d with
 | tup ds=>exact kK h e
 | _=>cases e
theorem lQ.back {n:Nat}{sg:GG}{K:W.Frag}{θ:List Addr}{H:Hp}{τ:L2.St}{ρ ρ1:bG}{d:D}(o:lQ n sg)(e:sg d (List.replicate n none++ρ)=some ρ1)(h:eM K θ H τ ρ1):eM K θ H τ (List.replicate n none++ρ):=by
 obtain⟨a,b⟩:=o _ _ _ e;refine⟨by rw[←a];exact h.len,fun i d' q=>?_⟩
 by_cases hi:i<n
 ·rw[getElem?_append_left (by rw[length_replicate];exact hi),getElem?_replicate,if_pos hi] at q;cases q
 ·rw[←b i (by omega)] at q;exact h.at_ i d' q
def cr (gi:GI)(gc:GT)(ge:GE)(mk:List D→am→aN D):GE:=fun ρ M=>(gi ρ M).bind fun t M1=>(c6 t gc ge t.ds ρ M1).bind mk
theorem kS (elt target iter:Expr)(ifs:List Expr)(scope:Scope)(pos:Pos)(it acc:Value)(env:Env)(cond:Sem Bool)
  (hc:(forIn (m:=Sem) ifs true fun c r=>if r=true then do let ok ←isTrue c env (eval c env);pure (ForInStep.yield ok) else pure (ForInStep.yield r))=cond) :
  compTurn (.ListComp elt [⟨target,iter,ifs,0⟩] scope pos) 0 it acc env=(standAt iter.pos >>= fun _=>pyNext it >>= fun r=>match r with
   | none=>pure (.done .next)
   | some v=>letOwnedTupleGo target it v >>= fun _=>assign target env v >>= fun _=>cond >>= fun ok=>
    if ok=true then((eval elt env >>= fun x=>call (.builtin "list.append") [acc,x] >>= fun _=>pure ()) >>= fun _=>
     again (.compLoop (.ListComp elt [⟨target,iter,ifs,0⟩] scope pos) 0 it acc env)) else again (.compLoop (.ListComp elt [⟨target,iter,ifs,0⟩] scope pos) 0 it acc env)):=by
 subst hc;rfl
section
variable {prog:Program}{w:World}{A:Around}{R:Result→Shared→Prop}{s:Shared}
theorem eC {elt target iter:Expr}{ifs:List Expr}{scope:Scope}{pos:Pos}{it acc:Value}{env:Env}{cond:Sem Bool}
  (hc:(forIn (m:=Sem) ifs true fun c r=>if r=true then do let ok ←isTrue c env (eval c env);pure (ForInStep.yield ok) else pure (ForInStep.yield r))=cond) (I:Nat→Shared→Prop)
  (turn:∀n s,I n s→wpAny (model prog w) A (pyNext it) (fun r s₁=>match r with
   | none=>R (.ok .next) s₁
   | some v=>wpAny (model prog w) A (letOwnedTupleGo target it v) (fun _ s₂=>wpAny (model prog w) A (assign target env v) (fun _ s₃=>wpAny (model prog w) A cond (fun ok s₄=>if ok=true then
     wpAny (model prog w) A (eval elt env) (fun x s₅=>wpAny (model prog w) A (call (.builtin "list.append") [acc,x]) (fun _ s₆=>∃m,m<n∧I m s₆) (fun _ _=>False) s₅) (fun _ _=>False) s₄
     else∃m,m<n∧I m s₄) (fun _ _=>False) s₃) (fun _ _=>False) s₂) (fun _ _=>False) s₁) (fun _ _=>False) s)
  (n:Nat) (h:I n s):codeAny (model prog w) A (.compLoop (.ListComp elt [⟨target,iter,ifs,0⟩] scope pos) 0 it acc env) R s:=by
 refine codeAny_loop rfl I (fun n s hI=>?_) n h;show wpAny _ _ ((compTurn (.ListComp elt [⟨target,iter,ifs,0⟩] scope pos) 0 it acc env).onRaise (fun x=>do noteFrame x env;theTreesLotGoes x)) _ _ s;refine wpAny_noted ?_;rw[kS _ _ _ _ _ _ _ _ _ _ hc];refine wpAny_bind (wpAny_standAt (wpAny_bind (wpAny_mono (turn n s hI) (fun r s₁ h₁=>?_) fun _ _ z=>z.elim)));cases r with
 | none=>exact wpAny_pure h₁
 | some v=>
  refine wpAny_bind (wpAny_mono h₁ (fun _ s₂ h₂=>?_) fun _ _ z=>z.elim);refine wpAny_bind (wpAny_mono h₂ (fun _ s₃ h₃=>?_) fun _ _ z=>z.elim);refine wpAny_bind (wpAny_mono h₃ (fun ok s₄ h₄=>?_) fun _ _ z=>z.elim);cases ok with
  | true=>
   rw[if_pos rfl] at h₄;rw[if_pos rfl];exact wpAny_bind (wpAny_bind (wpAny_mono h₄ (fun x s₅ h₅=>wpAny_bind (wpAny_mono h₅ (fun _ s₆ h₆=>wpAny_pure (wpAny_pure ⟨rfl,h₆⟩)) fun _ _ z=>z.elim)) fun _ _ z=>z.elim))
  | false=>
   rw[if_neg Bool.false_ne_true] at h₄;rw[if_neg Bool.false_ne_true];exact wpAny_pure ⟨rfl,h₄⟩
theorem lH {env:Env}:(forIn (m:=Sem) ([]:List Expr) true fun c r=>if r=true then do let ok ←isTrue c env (eval c env);pure (ForInStep.yield ok) else pure (ForInStep.yield r))=pure true:=rfl
end
theorem rW {b a c:Nat}(h:b<a)(e:c=a+1):b≠c:=by omega
theorem pR {b a c:Nat}(h:b<c)(e:c=a):a≠b:=by omega
theorem kq {b a c:Nat}(h:b<c)(e:c=a):b≠a:=by omega
abbrev de (its:List Value)(n:Nat):Obj:={cls:=.type "list",data:=.seq its.toArray n}
section
variable {X:Cx}{af:List (Addr×Obj)}{σ:L2.St}{s:Shared}{scope:Scope}{xs:List Str}{tg:Expr}{sg:GG}{R:List Str}{elt iter:Expr}{ifs:List Expr}{pos:Pos}{E:Value→Shared→Prop}
theorem rh {K:W.Frag}{θ:List Addr}{H:Hp}{σ:L2.St}{ρ:bG}{n:Nat}(h:eM K θ H σ ρ):eM K θ H (List.replicate n none++σ) (List.replicate n none++ρ):=by
 refine⟨by rw[length_append,length_append,length_replicate,length_replicate,h.len],fun i d e=>?_⟩
 by_cases hi:i<n
 ·rw[getElem?_append_left (by rw[length_replicate];exact hi),getElem?_replicate,if_pos hi] at e;cases e
 ·rw[getElem?_append_right (by rw[length_replicate];omega),length_replicate] at e ⊢;exact h.at_ _ d e
inductive Bj (X0:Cx) (fp:List Addr) (tn:Nat→Heap→Prop) (K:W.Frag) (acc:Addr) (t:jq) (ρ0:bG) (θ1:List Addr) (H2:Hp) (es:List D) (go:List D→am→aN (List D)) (Mend:am) (n:Nat) (s':Shared):Prop
 | mk (i:Nat) (τ:L2.St) (H':Hp) (θ':List Addr) (M':am) (ds rest:List D) (vs:List V) (its:List Value) (na:Nat) (e1:n=t.ds.length-i) (e2:i≤t.ds.length)
   (e3:L2.Inv X0 [(acc,de its na)] τ H' s') (e4:eM K θ' H' τ ρ0) (e5:tn i s'.heap) (e6:∀b∈fp,H' b=none) (e7:Go K θ1 H2 θ' H' M') (e8:aK K θ' H' ds vs) (e9:aE vs its) (e10:go (t.ds.drop i) M'=.ok rest Mend) (e11:ds++rest=es)
theorem l6 {fp:List Addr}{it:Addr}{tn:Nat→Heap→Prop}{J:It}{H2:Hp}{s2:Shared}{t:jq}{M1:am}{θ1:List Addr}{ρ:bG}{gc:GT}{ge:GE}{es:List D}{Mend:am}{RR:Value→Addr→Result→Shared→Prop}
  (S:bu scope X.env.kindOf xs R X.N) (hc:X.calm=true) (I2:L2.Inv X af σ H2 s2) (T:nZ X.prog X.w X.K tg J fp it tn) (st2:tn 0 s2.heap) (f2:∀b∈fp,gX X af H2 b)
  (hw1:Wr X.K θ1 H2 M1) (hd1:eM X.K θ1 H2 σ ρ) (hJ:uM X.K J θ1 H2 t) (hgo:aG t xs.length sg gc ge t.ds ρ M1=.ok es Mend) (hlen:es.length≤sizeLine)
  (hcd:∀C,∃cond,(forIn (m:=Sem) ifs true fun c r=>if r=true then do let ok ←isTrue c (ay X scope xs R fp s2 H2 C).env (eval c (ay X scope xs R fp s2 H2 C).env);pure (ForInStep.yield ok) else pure (ForInStep.yield r))=cond∧
   ∀(af:List (Addr×Obj)) (s:Shared) (σ:L2.St) (H:Hp) (Q:Bool→Hp→Prop),L2.Inv (ay X scope xs R fp s2 H2 C) af σ H s→tT (ay X scope xs R fp s2 H2 C) gc σ H Q→wpAny (model X.prog X.w) X.A cond (TP (ay X scope xs R fp s2 H2 C) af σ Q) (fun _ _=>False) s)
  (own:lQ xs.length sg) (hg:∀C,PG (ay X scope xs R fp s2 H2 C) tg (tG (ay X scope xs R fp s2 H2 C) sg))
  (he:∀C,PE (ay X scope xs R fp s2 H2 C) elt (tE (ay X scope xs R fp s2 H2 C) ge))
  (fin:∀(acc C:Addr) (s':Shared) (H':Hp) (θ':List Addr) (vs:List V) (m:Str→Option Value),L2.Inv X af σ (bS H' acc (.lst vs)) s'→s'.heap.Ns C m→gX X af (bS H' acc (.lst vs)) C→Go X.K θ1 H2 θ' H' Mend→H' acc=none→aK X.K θ' H' es vs→RR (.ref acc) C (.ok .next) s') :
  wpAny (model X.prog X.w) X.A (newList []) (fun acc s₃=>wpAny (model X.prog X.w) X.A (newFunctionEnv scope X.env.globals (bT X.env.cells scope.names []) [] X.env.qual none .none (some X.env)) (fun cenv s₄=>
   codeAny (model X.prog X.w) X.A (.compStart (.ListComp elt [⟨tg,iter,ifs,0⟩] scope pos) 0 (.ref it) acc {cenv with scope:=relabel scope X.env}) (RR acc cenv.locals) s₄) E s₃) E s2:=by
 refine wpAny_newObj_type (wpAny_newFunctionEnv S.nocell (by intro y hy;simp at hy) (fun h₁ hns₁ hsb₁=>?_) S.kind);dsimp only at hns₁ hsb₁ ⊢;generalize hHp:s2.heap.push {cls:=.type "list",dict:=none,data:=.seq ([]:List Value).toArray}=Hp2 at hns₁ hsb₁ ⊢;have hCe:Hp2.objs.size=s2.heap.objs.size+1:=by rw[←hHp,Heap.size_push]
 generalize hCd:Hp2.objs.size=C at hns₁ hsb₁ hCe ⊢;generalize hAd:s2.heap.objs.size=acc at hCe ⊢;have hDC:acc≠C:=by rw[hCe];exact Nat.ne_of_lt (Nat.lt_succ_self _)
 have old:∀b o,s2.heap.get? b=some o→h₁.get? b=some o:=fun b o e=>by
  have hb:b<acc:=by rw[←hAd];exact Heap.lt_size e
  refine hsb₁.extBut b o (rW hb hCe) (Heap.get?_push_of_some _ ?_);rw[←hHp];exact Heap.get?_push_of_some _ e
 have hacc0:h₁.get? acc=some (de [] 0):=by
  refine hsb₁.extBut acc _ hDC (Heap.get?_push_of_some _ ?_);rw[←hHp,←hAd];exact Heap.get?_push_size _ rfl
 have hfl:∀b∈fp,b<s2.heap.objs.size:=fun b hb=>by
  obtain⟨o,e,_⟩:=T.obj 0 _ st2 b hb;exact Heap.lt_size e
 have hCs:s2.heap.objs.size≤C:=by omega
 have IY0:L2.Inv (ay X scope xs R fp s2 H2 C) [] (List.replicate xs.length none++σ) H2 {s2 with heap:=h₁,toks:=s2.toks+([]:List (Str×Value)).length}:=pN S I2 hCs old hns₁ f2 hfl;obtain⟨cond,hcond,hct⟩:=hcd C;have fpY:∀{H':Hp} {p:Obj},(∀b∈fp,H' b=none)→∀b∈fp,gX (ay X scope xs R fp s2 H2 C) [(acc,p)] H' b:=fun {H' p} hn b hb=>by
  refine⟨hn b hb,?_,fun z=>?_,.inl hb,fun y c e=>?_,fun q hq=>?_⟩
  ·exact Nat.ne_of_lt (Nat.lt_of_lt_of_le (hfl b hb) hCs)
  ·rcases mem_cons.mp (I2.stkSub b z) with e|e
   ·exact(f2 b hb).2.1 e
   ·exact(f2 b hb).2.2.1 e
  ·exact(f2 b hb).2.2.2.2.1 y c (bD S I2 e)
  ·have hq:q∈([]:List (Addr×Obj))++[(acc,p)]:=hq;have e:q=(acc,p):=by simpa using hq
   rw[e];exact pR (hfl b hb) hAd
 have accF:∀b∈iU X.stack,acc≠b:=fun b hb e=>by
  have:acc∉X.env.locals::X.fs:=by
   intro z;rcases mem_cons.mp z with z|z
   ·exact pR I2.lt hAd z
   ·exact I2.nofs (Nat.le_of_eq hAd) z
  exact this (e▸I2.stkSub b hb)
 have loop:∀s₃:Shared,s₃={s2 with heap:=h₁,toks:=s2.toks+([]:List (Str×Value)).length}→
   codeAny (model X.prog X.w) X.A (.compLoop (.ListComp elt [⟨tg,iter,ifs,0⟩] scope pos) 0 (.ref it) (.ref acc) (ay X scope xs R fp s2 H2 C).env) (RR (.ref acc) C) s₃:=by
  rintro s₃ rfl;have pin0:∀{σ':L2.St} {H':Hp} {s':Shared} {its:List Value} {n:Nat},L2.Inv (ay X scope xs R fp s2 H2 C) [] σ' H' s'→s'.heap.get? acc=some (de its n)→H' acc=none→L2.Inv (ay X scope xs R fp s2 H2 C) [(acc,de its n)] σ' H' s':=fun {σ' H' s' its n} I' e hn=>
   I'.pins_of fun p hp=>by
    have ep:p=(acc,de its n):=by simpa using hp
    subst ep;exact⟨e,hn,hDC,fun z=>accF acc z rfl,fun v z=>by cases z⟩
  refine eC hcond (Bj (ay X scope xs R fp s2 H2 C) fp tn X.K acc t (List.replicate xs.length none++ρ) θ1 H2 es (fun l N=>aG t xs.length sg gc ge l ρ N) Mend) ?_ t.ds.length
   ⟨0,_,H2,θ1,M1,[],es,[],[],0,rfl,Nat.zero_le _,pin0 IY0 hacc0 (I2.hok.fresh (Nat.le_of_eq hAd)),rh hd1,T.keep 0 _ _ st2 (fun b hb o e=>old b o e),fun b hb=>(f2 b hb).1,.refl hw1,rfl,.nil,hgo,rfl⟩
  rintro n s' ⟨i,τ,H',θ',M',ds,rest,vs,its,na,rfl,hil,I',dn',st',fr',g',rd',rv',hrest,hes⟩;have hok:t.ok M'=true:=by
   cases hq:t.ok M' with
   | true=>rfl
   | false=>
    exfalso;cases hdr:t.ds.drop i with
    | nil=>rw[hdr,aG,if_neg (by rw[hq];exact Bool.false_ne_true)] at hrest;cases hrest
    | cons d r=>rw[hdr,aG,if_neg (by rw[hq];exact Bool.false_ne_true)] at hrest;cases hrest
  obtain⟨hy,hst⟩:=hJ θ' H' M' g' hok i
  by_cases hlt:i<t.ds.length
  ·have e1:t.ds[i]?=some t.ds[i]:=getElem?_eq_getElem hlt;obtain⟨hgo',hyl⟩:=hy _ e1;rw[drop_eq_getElem_cons hlt,aG,if_pos hok] at hrest;refine bV (T.item (ay X scope xs R fp s2 H2 C) rfl rfl rfl hc i _ s' _ H' _ I' (fpY fr') st' hgo') fun r s4 hxx=>?_
   obtain⟨u,hr,h4⟩:=hxx;subst hr;refine bV h4 fun _ s5 hxx=>?_
   obtain⟨v,H5,I5,r5,y5,st5,fr5⟩:=hxx;obtain⟨gy,rx⟩:=hyl v H5 y5;have I5':=I5.pinned (fpY fr5) (T.obj _ _ st5);cases qs:sg t.ds[i] (List.replicate xs.length none++ρ) with
   | none=>rw[qs] at hrest;cases hrest
   | some ρ1=>
   rw[qs] at hrest;dsimp only at hrest;refine bV (hg C _ s5 _ H5 v u (fun σ6 H6=>eM X.K θ' H6 σ6 ρ1∧H6=H5) I5' r5 ⟨_,θ',M',t.ds[i],dn'.go gy,gy.wr,rx,ρ1,qs,fun σ6 d6=>⟨d6,rfl⟩⟩) fun _ s6 hxx=>?_
   obtain⟨σ6,H6,I6,hdY,eH6⟩:=hxx;subst eH6;cases qc:gc ρ1 M' with
   | bad=>rw[qc] at hrest;cases hrest
   | err c Mx=>rw[qc] at hrest;cases hrest
   | ok b Mb=>
    refine bV (hct _ s6 _ H6 (fun b' H7=>b'=b∧∃θ7,Go X.K θ' H6 θ7 H7 Mb) I6 ⟨_,θ',M',hdY,gy.wr,?_⟩) fun ok s7 ⟨H7,I7,eb,θ7,g7⟩=>?_
    ·rw[qc];exact fun θ7 H7 g7=>⟨rfl,θ7,g7⟩
    subst eb;have fpk:∀{s8:Shared} {σ8:L2.St} {H8:Hp},L2.Inv (ay X scope xs R fp s2 H2 C) ([(acc,de its na)]++ig fp s5.heap) σ8 H8 s8→(∀b∈fp,H8 b=none)∧(∀b∈fp,∀o,s5.heap.get? b=some o→s8.heap.get? b=some o)∧s8.heap.get? acc=some (de its na)∧H8 acc=none:=fun {s8 σ8 H8} I8=>by
     have pa:=I8.pin (acc,de its na) (mem_append_right _ (mem_append_left _ (by simp)));refine⟨fun b hb=>?_,fun b hb o e=>(I8.pin (b,o) (mem_append_right _ (mem_append_right _ (dY hb e)))).1,pa.1,pa.2.1⟩;obtain⟨o,e,d⟩:=T.obj _ _ st5 b hb;exact(I8.pin (b,o) (mem_append_right _ (mem_append_right _ (dY hb e)))).2.1
    cases ok with
    | false=>
     rw[if_neg Bool.false_ne_true];rw[qc] at hrest;obtain⟨k1,k2,k3,k4⟩:=fpk I7;exact⟨t.ds.length-(i+1),by omega,i+1,σ6,H7,θ7,Mb,ds,rest,vs,its,na,rfl,hlt,I7.unpinned,own.back qs (hdY.go g7),T.keep _ _ _ st5 k2,k1,g'.trans (gy.trans g7),rd'.go (gy.trans g7),rv',hrest,hes⟩
    | true=>
     rw[if_pos rfl];rw[qc] at hrest;have hrest:(match ge ρ1 Mb with
      | .ok e M2=>(aG t xs.length sg gc ge (t.ds.drop (i+1)) ρ M2).bind fun es M3=>.ok (e::es) M3
      | _=>.bad)=aN.ok rest Mend:=hrest
     cases qe:ge ρ1 Mb with
     | bad=>rw[qe] at hrest;cases hrest
     | err c Mx=>rw[qe] at hrest;cases hrest
     | ok dv Mv=>
      rw[qe] at hrest;have hrest:((aG t xs.length sg gc ge (t.ds.drop (i+1)) ρ Mv).bind fun es M3=>aN.ok (dv::es) M3)=aN.ok rest Mend:=hrest;refine bV (he C _ s7 _ H7 (fun w H8=>∃θ8,Go X.K θ7 H7 θ8 H8 Mv∧cw X.K θ8 H8 dv w) I7 ⟨_,θ7,Mb,hdY.go g7,g7.wr,?_⟩) fun uv s8 ⟨w,H8,I8,rw8,θ8,g8,rd8⟩=>?_
      ·rw[qe];exact fun w θ8 H8 g8 rd8=>⟨θ8,g8,rd8⟩
      obtain⟨k1,k2,k3,k4⟩:=fpk I8;cases qr:aG t xs.length sg gc ge (t.ds.drop (i+1)) ρ Mv with
      | bad=>rw[qr] at hrest;cases hrest
      | err c Mx=>rw[qr] at hrest;cases hrest
      | ok rest' Mr=>
       rw[qr] at hrest;have hrest:aN.ok (dv::rest') Mr=aN.ok rest Mend:=hrest;cases hrest;have hsz:its.length<sizeLine:=by
        have e2:(ds++dv::rest').length≤sizeLine:=by rw[hes];exact hlen
        rw[length_append,length_cons,ak rd',rv'.length] at e2;omega
       refine call_meets F.slot_list_append ⟨_,k3,rfl⟩ F.entry_list_append (F.args_list_append_2 _ _) (PySem.list_append acc its.toArray na uv (by rw[size_toArray];omega)) ⟨k3,?_⟩;have qup:=PySem.IsL.update k3 (fun a=>a.push uv);have eup:(its.toArray.push uv)=(its++[uv]).toArray:=by simp
       have keepb:∀b o,b≠acc→s8.heap.get? b=some o→(s8.heap.update acc (Obj.mapSeq fun a=>a.push uv)).get? b=some o:=fun b o hb e=>(Heap.get?_update_other s8.heap _ (Ne.symm hb)).trans e
       have I9:L2.Inv (ay X scope xs R fp s2 H2 C) [] σ6 H8 {s8 with heap:=s8.heap.update acc (Obj.mapSeq fun a=>a.push uv),toks:=s8.toks}:=by
        refine Inv.turned (it:=acc) (I8.pins_of (pins':=[]) fun p hp=>absurd hp (by simp)) keepb k4 hDC (.inr (Nat.le_of_eq hAd)) (fun y c e z=>?_) fun p hp=>absurd (show p∈([]:List (Addr×Obj)) from hp) (by simp)
        obtain⟨v',o,ho,hdd⟩:=I2.cell y c (bD S I2 e);exact kq (Heap.lt_size ho) hAd z
       obtain⟨n',eq'⟩:∃n',(s8.heap.update acc (Obj.mapSeq fun a=>a.push uv)).get? acc=some (de (its++[uv]) n'):=by
        have q2:=qup;rw[eup] at q2;exact⟨_,q2⟩
       exact⟨t.ds.length-(i+1),by omega,i+1,σ6,H8,θ8,Mv,ds++[dv],rest',vs++[w],its++[uv],n',rfl,hlt,pin0 I9 eq' k4,own.back qs (hdY.go (g7.trans g8)),T.keep _ _ _ st5 (fun b hb o e=>keepb b o (kq (hfl b hb) hAd) (k2 b hb o e)),k1,g'.trans (gy.trans (g7.trans g8)),cK (rd'.go (gy.trans (g7.trans g8))) ⟨w,[],rfl,rd8,rfl⟩,rv'.append (.cons rw8 .nil),qr,by rw[←hes];simp⟩
  ·have e:i=t.ds.length:=by omega
   subst e;rw[drop_length,aG,if_pos hok] at hrest;cases hrest;have hes:ds=es:=by rw[←hes];simp
   subst hes;refine bV (T.done (ay X scope xs R fp s2 H2 C) rfl rfl rfl hc _ _ s' _ H' _ I' (fpY fr') st' (hst (Nat.le_refl _))) fun r s4 hxx=>?_
   obtain⟨hr,I4⟩:=hxx;subst hr;have pa:=I4.pin (acc,de its na) (mem_append_right _ (by simp));have e4:s4.heap.get? acc=some (de its na):=pa.1;have n4:H' acc=none:=pa.2.1;have lv:vs.length≤sizeLine:=by rw[←ak rd'];exact hlen
   obtain⟨mC,hnC,_⟩:=I4.loc;have hHC:H' C=none:=I4.free;have qT:Un (iU X.stack) fp H2 H' s2.heap s4.heap:=I4.base;have neA:∀{b:Addr} {o:Obj},s2.heap.get? b=some o→b≠acc:=fun {b o} e=>kq (Heap.lt_size e) hAd
   have neH:∀{b:Addr} {u:HO},H' b=some u→b≠acc:=fun {b u} e z=>by rw[z,n4] at e;cases e
   have un4:Un (iU X.stack) fp H2 (bS H' acc (.lst vs)) s2.heap s4.heap:=by
    refine⟨qT.keep,qT.slot,fun b o e n hx=>?_,qT.there,fun b xs e=>?_,fun b o u e=>?_,fun b ps e=>?_⟩
    ·rw[aw (neA e)];exact qT.free b o e n hx
    ·have z:=qT.tups b xs e;rw[aw (neH z)];exact z
    ·have z:=qT.frzs b o u e;rw[aw (neH z)];exact z
    ·obtain⟨more,z⟩:=qT.tbls b ps e;exact⟨more,by rw[aw (neH z)];exact z⟩
   have hok4:fc X.prog X.w (bS H' acc (.lst vs)) s4.heap:=fun b u e=>by
    by_cases hb:b=acc
    ·subst hb;rw[bZ] at e;cases e;exact⟨lv,its,na,rv',e4⟩
    ·rw[aw hb] at e;exact(I4.hok b u e).stay (fun c v _ q=>q) (fun c q=>by rw[aw (neH q)];exact q) fun c xs q=>by rw[aw (neH q)];exact q
   have IX:L2.Inv X af σ (bS H' acc (.lst vs)) s4:=I2.call' (ch:=fp) I4.os un4 hok4 I4.bare fun b hb=>⟨(f2 b hb).2.2.2.1,(f2 b hb).2.1,(f2 b hb).2.2.2.2.1,(f2 b hb).2.2.2.2.2⟩
   refine fin acc C s4 H' θ' vs mC IX hnC (I2.fpOk hCs ?_) g' n4 rd';rw[aw (Ne.symm hDC)];exact hHC
 exact codeAny_compStart_list (loop _ rfl) (T.self _ 0 _ _ _ (T.keep 0 _ _ st2 fun b hb o e=>old b o e) (loop _ rfl))
end
section
variable {X:Cx}{scope:Scope}{xs:List Str}{tg:Expr}{sg:GG}{x:Str}{px:Pos}{R:List Str}{elt iter:Expr}{ifs:List Expr}{pos:Pos}{gi:GI}{gc:GT}{ge:GE}
def wd (mk:List D→am→aN D):Prop:=∀(X:Cx) (θ:List Addr) (H:Hp) (Q:VK) (ds:List D) (M:am) (vs:List V),aI X θ H Q (mk ds M)→Wr X.K θ H M→aK X.K θ H ds vs→vs.length≤sizeLine∧∀p,H p=none→Q (.ref p) (bS H p (.lst vs))
theorem o9:wd bo:=fun X θ H Q ds M vs h hw r=>aI.lst h hw r
theorem pc:wd cQ:=fun X θ H Q ds M vs h hw r=>aI.mut h hw r
theorem wl {mk:List D→am→aN D}(hm:mk=bo∨mk=cQ){X:Cx}{θ:List Addr}{H:Hp}{Q:VK}{ds:List D}{M:am}(h:aI X θ H Q (mk ds M)):ds.length≤sizeLine:=by
 rcases hm with e|e <;> subst e
 ·unfold bo at h;split at h
  ·assumption
  ·exact h.elim
 ·unfold cQ at h;split at h
  ·assumption
  ·exact h.elim
theorem zq {mk:List D→am→aN D}(hm:mk=bo∨mk=cQ):wd mk:=by
 rcases hm with e|e <;> subst e
 ·exact o9
 ·exact pc
def gZ (X:Cx)(scope:Scope)(xs:List Str)(R:List Str)(ifs:List Expr)(gc:GT):Prop:=∀fp s2 H2 C,∃cond,(forIn (m:=Sem) ifs true fun c r=>if r=true then do let ok ←isTrue c (ay X scope xs R fp s2 H2 C).env (eval c (ay X scope xs R fp s2 H2 C).env);pure (ForInStep.yield ok) else pure (ForInStep.yield r))=cond∧
   ∀(af:List (Addr×Obj)) (s:Shared) (σ:L2.St) (H:Hp) (Q:Bool→Hp→Prop),L2.Inv (ay X scope xs R fp s2 H2 C) af σ H s→tT (ay X scope xs R fp s2 H2 C) gc σ H Q→wpAny (model X.prog X.w) X.A cond (TP (ay X scope xs R fp s2 H2 C) af σ Q) (fun _ _=>False) s
theorem pe:gZ X scope xs R [] cP:=fun fp s2 H2 C=>⟨_,lH,fun af s σ H Q I ⟨ρ,θ,M,hd,hw,h⟩=>wpAny_pure ⟨H,I,h θ H (.refl hw)⟩⟩
theorem fu {t:jq}{n:Nat}{sg:GG}{gc:GT}{ge:GE}{ρ:bG}{c:Str}{M':am}:∀(ds:List D) (M:am),aG t n sg gc ge ds ρ M=.err c M'→False
 | [],M,h=>by
  unfold aG at h;split at h <;> cases h
 | d::r,M,h=>by
  unfold aG at h;split at h
  ·split at h
   ·cases h
   ·split at h
    ·rename_i M1 q1;split at h
     ·rename_i e M2 q2;cases q:aG t n sg gc ge r ρ M2 with
      | ok es M3=>rw[q] at h;cases h
      | err c2 M3=>exact fu r M2 q
      | bad=>rw[q] at h;cases h
     ·cases h
    ·rename_i M1 q1;exact fu r M1 h
    ·cases h
  ·cases h
theorem lw {mk:List D→am→aN D}(hS:cg scope X.env.kindOf xs R X.N=true)(hc:X.calm=true)(hm:mk=bo∨mk=cQ)(hi:PI X tg iter (tI X gi))(own:lQ xs.length sg)(hg:∀fp s H C,PG (ay X scope xs R fp s H C) tg (tG (ay X scope xs R fp s H C) sg))(hts:gZ X scope xs R ifs gc)
  (he:∀fp s H C,PE (ay X scope xs R fp s H C) elt (tE (ay X scope xs R fp s H C) ge))
  (hs:∀x,foldedSetIterable iter X.env x=pure x:=by intro _;rfl):PE X (.ListComp elt [⟨tg,iter,ifs,0⟩] scope pos) (tE X (cy gi xs.length sg gc ge mk)):=by
 have S:=bu.of hS;intro af s σ H Q I h;obtain⟨ρ,θ,M,hd,hw,h⟩:=h;rw[eval_ListComp];refine wpAny_comprehension_free (use:=none) rfl hs (jO (S.cells I)) S.kind S.lnames ?_;refine bV (hi af s σ H (fun J H2=>∃t M1 θ1,gi ρ M=.ok t M1∧Go X.K θ H θ1 H2 M1∧uM X.K J θ1 H2 t) I ⟨ρ,θ,M,hd,hw,?_⟩) fun v s1 h1=>bV h1 fun itv s2 h2=>?_
 ·cases q:gi ρ M with
  | ok t M1=>exact fun J θ1 H1 g1 hJ=>⟨t,M1,θ1,rfl,g1,hJ⟩
  | err c M1=>unfold cy at h;rw[q] at h;exact h
  | bad=>unfold cy at h;rw[q] at h;exact h
 obtain⟨it,fp,tn,J,H2,rfl,I2,T,st2,f2,t,M1,θ1,eg,g1,hJ⟩:=h2;unfold cy at h;rw[eg] at h;have h:aI X θ H Q ((aG t xs.length sg gc ge t.ds ρ M1).bind mk):=h;cases q:aG t xs.length sg gc ge t.ds ρ M1 with
 | bad=>rw[q] at h;exact h.elim
 | err c Mx=>exact(fu _ _ q).elim
 | ok es Mend=>
  rw[q] at h;have h:aI X θ H Q (mk es Mend):=h;refine l6 (RR:=fun acc C=>compPost (model X.prog X.w) X.A X.xe none (EP X af σ Q) acc C) S hc I2 T st2 f2 g1.wr (hd.go g1) hJ q (wl hm h) (fun C=>hts fp s2 H2 C) own (fun C=>hg fp s2 H2 C) (fun C=>he fp s2 H2 C) ?_;intro acc C s' H' θ' vs m IX hnC fC g' na rd;refine⟨m,hnC,fun h' sb=>?_⟩;have I3:L2.Inv X af σ (bS H' acc (.lst vs)) {s' with heap:=h',toks:=s'.toks}:=IX.turned (it:=C) (fun b o hb e=>(sb.2 b hb).trans e) fC.1 fC.2.1 fC.2.2.2.1 fC.2.2.2.2.1 fC.2.2.2.2.2;exact⟨.ref acc,_,I3,rfl,(zq hm X θ' H' Q es Mend vs (aI.go (g1.trans g') h) g'.wr rd).2 acc na⟩
theorem tF {px:Pos}(hS:cg scope X.env.kindOf [x] R X.N=true)(fp:List Addr)(s:Shared)(H:Hp)(C:Addr):PG (ay X scope [x] R fp s H C) (.Name x px) (tG (ay X scope [x] R fp s H C) (df 0)):=
 have S:=bu.of hS
 j6 (X:=ay X scope [x] R fp s H C) S.nd rfl (.inl (lookup_relabel_local (S.own x (by simp)))) (.inr (lookup_relabel_local (S.own x (by simp))))
theorem tY (mk:List D→am→aN D):cr gi gc ge mk=cy gi 1 (df 0) gc ge mk:=by
 funext ρ M;unfold cr cy;simp only[li]
theorem tJ {mk:List D→am→aN D}(hS:cg scope X.env.kindOf [x] R X.N=true)(hc:X.calm=true)(hm:mk=bo∨mk=cQ)(hi:PI X (.Name x px) iter (tI X gi))(hts:gZ X scope [x] R ifs gc)
  (he:∀fp s H C,PE (ay X scope [x] R fp s H C) elt (tE (ay X scope [x] R fp s H C) ge))
  (hs:∀x,foldedSetIterable iter X.env x=pure x:=by intro _;rfl):PE X (.ListComp elt [⟨.Name x px,iter,ifs,0⟩] scope pos) (tE X (cr gi gc ge mk)):=by
 rw[tY];exact lw (xs:=[x]) hS hc hm hi (rj (Nat.zero_lt_one)) (tF hS) hts he hs
end
section
variable {X:Cx}
def lu (k:Nat)(x:D)(M:am):aN D:=match M[k]? with
 | some (.lst xs)=>if xs.length<sizeLine then .ok .non (M.set k (.lst (xs++[x]))) else .bad
 | _=>.bad
def fG (go ge:GE):GE:=fun ρ M=>(go ρ M).bind fun o M1=>match o with
 | .mr k=>match M1[k]? with
  | some (.lst _)=>(ge ρ M1).bind (lu k)
  | _=>.bad
 | _=>.bad
theorem nT {o e:Expr}{go ge:GE}{apos cpos:Pos}(ho:PE X o (tE X go))(he:PE X e (tE X ge))
  (hbase:attributeBase o "append" X.env (eval o X.env)=eval o X.env:=by rfl)
  (hfew:((backTo cpos (starEach [e] X.env)).all (fun x=>!x.1)&&(backToKw cpos (keywordEach [] X.env)).all (fun x=>x.1.isSome)
   && decide ([e].length+([]:List Keyword).length+(if([]:List Keyword).isEmpty then 0 else 1)<30))=true:=by rfl)
  (hline:(apos.endLine==cpos.line)=true:=by rfl) (hs:starEach [e] X.env=(false,eval e X.env)::starEach [] X.env:=by rfl) (hplain:(backTo cpos (starEach [] X.env)).any (·.1)=false:=by rfl) :
  PE X (.Call (.Attribute o "append" apos) [e] [] cpos) (tE X (fG go ge)):=
 (ur PySem.F.plainAttrs_list PySem.F.slot_list_append PySem.F.type_list_append nJ ho (jI he lK hs) hbase hfew hline hs hplain).of fun σ H Q hxx=>by
  obtain⟨ρ,θ,M,hd,hw,h⟩:=hxx;refine bB hd hw (aI X θ H Q) (fun c M' h=>h) (fun h=>h) h fun d M1 v θ1 H1 g1 r1 h1=>?_
  have h2:=aI.go g1 h1;cases d with
  | mr k=>
   have h2:aI X θ1 H1 Q (match M1[k]? with|some (.lst _)=>(ge ρ M1).bind (lu k)|_=>.bad):=h2;cases qm1:M1[k]? with
   | none=>rw[qm1] at h2;exact h2.elim
   | some m1=>
    cases m1 with
    | obj _ _=>rw[qm1] at h2;exact h2.elim
    | dK _=>rw[qm1] at h2;exact h2.elim
    | dT _=>rw[qm1] at h2;exact h2.elim
    | lst ys1=>
     rw[qm1] at h2;obtain⟨a1,ea1,ta1⟩:=id r1;obtain⟨vs1,hv1,_⟩:=g1.wr.at_ k a1 _ ta1 qm1;refine⟨by rw[ea1];exact .inl ⟨rfl,vs1,.inl (.inl hv1)⟩,?_⟩;refine bB (hd.go g1) g1.wr (aI X θ1 H1 Q) (fun c M' h=>h) (fun h=>h) h2 fun dx M2 vx θ2 H2 g2 r2 h3=>?_
     have h3:aI X θ1 H1 Q (match M2[k]? with|some (.lst xs)=>if xs.length<sizeLine then .ok .non (M2.set k (.lst (xs++[dx]))) else .bad|_=>.bad):=h3;obtain⟨a,ea,ta⟩:=r1.go g2;cases qm:M2[k]? with
     | none=>rw[qm] at h3;exact h3.elim
     | some m=>
      cases m with
      | obj _ _=>rw[qm] at h3;exact h3.elim
      | dK _=>rw[qm] at h3;exact h3.elim
      | dT _=>rw[qm] at h3;exact h3.elim
      | lst ys=>
       rw[qm] at h3;obtain⟨vs,hv,ra⟩:=g2.wr.at_ k a _ ta qm;have h3:aI X θ1 H1 Q (if ys.length<sizeLine then .ok .non (M2.set k (.lst (ys++[dx]))) else .bad):=h3;split at h3
       ·rename_i hl;have gs:=pj (ds:=ys) g2.wr ta (cK ra (show aK X.K θ2 H2 [dx] [vx] from⟨vx,[],rfl,r2,rfl⟩));exact⟨a,vs,vx,ea,rfl,hv,by rw[←ak ra];exact hl,h3 _ θ2 _ (g2.trans gs) rfl⟩
       ·exact h3.elim
  | _=>exact h2.elim
end
def aT (f:D→Option D):List D→Option (List D)
 | []=>some []
 | d::ds=>match f d,aT f ds with
  | some x,some xs=>some (x::xs)
  | _,_=>none
def frz (n:Nat)(M:am):Nat→D→Option D
 | 0,_=>none
 | f+1,d=>match d with
  | .mr k=>if k<n then some (.mr k) else match M[k]? with
   | some (.lst xs)=>(aT (frz n M f) xs).map .lst
   | _=>none
  | .tup xs=>(aT (frz n M f) xs).map .tup
  | .lst xs=>(aT (frz n M f) xs).map .lst
  | .ro xs=>(aT (frz n M f) xs).map .ro
  | d=>some d
def kF (f:D→Option D):List (Str×D)→Option (List (Str×D))
 | []=>some []
 | (x,d)::r=>match f d,kF f r with
  | some e,some r'=>some ((x,e)::r')
  | _,_=>none
def iZ {κ:Type}(f:D→Option D):List (κ×D)→Option (List (κ×D))
 | []=>some []
 | (x,d)::r=>match f d,iZ f r with
  | some e,some r'=>some ((x,e)::r')
  | _,_=>none
def db (n:Nat)(M:am):List MO→Option (List MO)
 | []=>some []
 | .lst xs::r=>match aT (frz n M 30) xs,db n M r with
  | some ys,some r'=>some (.lst ys::r')
  | _,_=>none
 | .obj c fs::r=>match kF (frz n M 30) fs,db n M r with
  | some gs,some r'=>some (.obj c gs::r')
  | _,_=>none
 | .dK fs::r=>match iZ (frz n M 30) fs,db n M r with
  | some gs,some r'=>some (.dK gs::r')
  | _,_=>none
 | .dT fs::r=>match iZ (frz n M 30) fs,db n M r with
  | some gs,some r'=>some (.dT gs::r')
  | _,_=>none
def fV (n:Nat)(o:aN D):aN D:=match o with
 | .ok d M=>if M.length=n then .ok d M else match frz n M 30 d,db n M (M.take n) with
  | some d',some M'=>.ok d' M'
  | _,_=>.bad
 | .err c M=>if M.length=n then .err c M else match db n M (M.take n) with
  | some M'=>.err c M'
  | none=>.bad
 | .bad=>.bad
section
variable {K:W.Frag}{θ more:List Addr}{H:Hp}{M:am}{n:Nat}
theorem cW {f:D→Option D}{θ':List Addr}:∀{ds es:List D} {vs:List V},aT f ds=some es→aK K θ' H ds vs→(∀d∈ds,∀e v,f d=some e→cw K θ' H d v→cw K θ H e v)→aK K θ H es vs
 | [],es,vs,h,r,k=>by cases h;exact r
 | d::ds,es,vs,h,r,k=>by
  obtain⟨v,rr,e,h1,h2⟩:=r;unfold aT at h;cases q1:f d with
  | none=>rw[q1] at h;cases h
  | some x=>
   cases q2:aT f ds with
   | none=>rw[q1,q2] at h;cases h
   | some xs=>
    rw[q1,q2] at h;cases h;exact⟨v,rr,e,k d mem_cons_self x v q1 h1,cW q2 h2 fun d' hd=>k d' (mem_cons_of_mem _ hd)⟩
theorem gH (hw:Wr K (θ++more) H M)(hn:θ.length=n):∀(f:Nat) (d e:D) (v:V),frz n M f d=some e→cw K (θ++more) H d v→cw K θ H e v
 | 0,d,e,v,h,r=>by cases h
 | f+1,d,e,v,h,r=>by
  have ih:=gH hw hn f;have sub:∀{a:Addr},a∉θ++more→a∉θ:=fun {a} z y=>z (mem_append_left _ y)
  cases d with
  | mr k=>
   obtain⟨a,ea,ta⟩:=r
   by_cases hk:k<n
   ·have h:(if k<n then some (D.mr k) else _)=some e:=h;rw[if_pos hk] at h;cases h;exact⟨a,ea,by rw[getElem?_append_left (by rw[hn];exact hk)] at ta;exact ta⟩
   ·have h:(if k<n then some (D.mr k) else match M[k]? with|some (.lst xs)=>(aT (frz n M f) xs).map .lst|_=>none)=some e:=h;rw[if_neg hk] at h;cases qm:M[k]? with
    | none=>rw[qm] at h;cases h
    | some m=>
     cases m with
     | lst xs=>
      rw[qm] at h;have h:(aT (frz n M f) xs).map D.lst=some e:=h;obtain⟨vs,hv,ra⟩:=hw.at_ k a _ ta qm;cases qo:aT (frz n M f) xs with
      | none=>rw[qo] at h;cases h
      | some ys=>
       rw[qo] at h;cases h;refine⟨a,vs,ea,⟨hv,fun z=>?_⟩,cW qo ra fun d _ e v=>ih d e v⟩;rw[getElem?_append_right (by omega)] at ta;have hm:=mem_of_getElem? ta;exact(nodup_append.mp hw.nd).2.2 a z a hm rfl
     | _=>rw[qm] at h;cases h
  | tup xs=>
   have h:(aT (frz n M f) xs).map D.tup=some e:=h;cases qo:aT (frz n M f) xs with
   | none=>rw[qo] at h;cases h
   | some ys=>
    rw[qo] at h;cases h;obtain⟨a,vs,ea,ta,ra⟩:=r;exact⟨a,vs,ea,⟨ta.1,sub ta.2⟩,cW qo ra fun d _ e v=>ih d e v⟩
  | lst xs=>
   have h:(aT (frz n M f) xs).map D.lst=some e:=h;cases qo:aT (frz n M f) xs with
   | none=>rw[qo] at h;cases h
   | some ys=>
    rw[qo] at h;cases h;obtain⟨a,vs,ea,ta,ra⟩:=r;exact⟨a,vs,ea,⟨ta.1,sub ta.2⟩,cW qo ra fun d _ e v=>ih d e v⟩
  | ro xs=>
   have h:(aT (frz n M f) xs).map D.ro=some e:=h;cases qo:aT (frz n M f) xs with
   | none=>rw[qo] at h;cases h
   | some ys=>
    rw[qo] at h;cases h;obtain⟨a,vs,ea,ta,ra⟩:=r;refine⟨a,vs,ea,?_,cW qo ra fun d _ e v=>ih d e v⟩;rcases ta with⟨t1,t2⟩|t
    ·exact .inl ⟨t1,sub t2⟩
    ·exact .inr t
  | non=>cases h;exact r
  | bl b=>cases h;exact r
  | int b=>cases h;exact r
  | str b=>cases h;exact r
  | exc c=>
   cases h;obtain⟨a,C,ea,kc,t1,t2⟩:=r;exact⟨a,C,ea,kc,t1,sub t2⟩
  | any=>cases h;exact r
theorem mP {f:D→Option D}{θ':List Addr}:∀{fs gs:List (Str×D)} {vs:List (Str×V)},kF f fs=some gs→nl K θ' H fs vs→(∀d e v,f d=some e→cw K θ' H d v→cw K θ H e v)→nl K θ H gs vs
 | [],gs,vs,h,r,k=>by cases h;exact r
 | (x,d)::fs,gs,vs,h,r,k=>by
  obtain⟨v,rr,e,h1,h2⟩:=r;unfold kF at h;cases q1:f d with
  | none=>rw[q1] at h;cases h
  | some y=>
   cases q2:kF f fs with
   | none=>rw[q1,q2] at h;cases h
   | some ys=>
    rw[q1,q2] at h;cases h;exact⟨v,rr,e,k d y v q1 h1,mP q2 h2 k⟩
theorem j1 {κ:Type}{f:D→Option D}{θ':List Addr}:∀{fs gs:List (κ×D)} {vs:List (κ×V)},iZ f fs=some gs→fS K θ' H fs vs→(∀d e v,f d=some e→cw K θ' H d v→cw K θ H e v)→fS K θ H gs vs
 | [],gs,vs,h,r,k=>by cases h;exact r
 | (x,d)::fs,gs,vs,h,r,k=>by
  obtain⟨v,rr,e,h1,h2⟩:=r;unfold iZ at h;cases q1:f d with
  | none=>rw[q1] at h;cases h
  | some y=>
   cases q2:iZ f fs with
   | none=>rw[q1,q2] at h;cases h
   | some ys=>
    rw[q1,q2] at h;cases h;exact⟨v,rr,e,k d y v q1 h1,j1 q2 h2 k⟩
theorem fA (hw:Wr K (θ++more) H M)(hn:θ.length=n):∀(l l':List MO),db n M l=some l'→l'.length=l.length∧∀(i:Nat) m m' a,l[i]?=some m→l'[i]?=some m'→i7 K (θ++more) H m a→i7 K θ H m' a
 | [],l',h=>by cases h;exact⟨rfl,fun i m m' a e=>by simp at e⟩
 | .lst xs::r,l',h=>by
  unfold db at h;cases q1:aT (frz n M 30) xs with
  | none=>rw[q1] at h;cases h
  | some ys=>
   cases q2:db n M r with
   | none=>rw[q1,q2] at h;cases h
   | some r'=>
    rw[q1,q2] at h;cases h;obtain⟨hl,hr⟩:=fA hw hn r r' q2;refine⟨by rw[length_cons,length_cons,hl],fun i m m' a e1 e2 ok=>?_⟩;cases i with
    | zero=>
     have e1:some (MO.lst xs)=some m:=e1;have e2:some (MO.lst ys)=some m':=e2;cases e1;cases e2;obtain⟨vs,hv,ra⟩:=ok;exact⟨vs,hv,cW q1 ra fun d _ e v=>gH hw hn 30 d e v⟩
    | succ i=>exact hr i m m' a e1 e2 ok
 | .obj c fs::r,l',h=>by
  unfold db at h;cases q1:kF (frz n M 30) fs with
  | none=>rw[q1] at h;cases h
  | some gs=>
   cases q2:db n M r with
   | none=>rw[q1,q2] at h;cases h
   | some r'=>
    rw[q1,q2] at h;cases h;obtain⟨hl,hr⟩:=fA hw hn r r' q2;refine⟨by rw[length_cons,length_cons,hl],fun i m m' a e1 e2 ok=>?_⟩;cases i with
    | zero=>
     have e1:some (MO.obj c fs)=some m:=e1;have e2:some (MO.obj c gs)=some m':=e2;cases e1;cases e2;obtain⟨C,dx,vs,kC,hv,ra⟩:=ok;exact⟨C,dx,vs,kC,hv,mP q1 ra fun d e v=>gH hw hn 30 d e v⟩
    | succ i=>exact hr i m m' a e1 e2 ok
 | .dK fs::r,l',h=>by
  unfold db at h;cases q1:iZ (frz n M 30) fs with
  | none=>rw[q1] at h;cases h
  | some gs=>
   cases q2:db n M r with
   | none=>rw[q1,q2] at h;cases h
   | some r'=>
    rw[q1,q2] at h;cases h;obtain⟨hl,hr⟩:=fA hw hn r r' q2;refine⟨by rw[length_cons,length_cons,hl],fun i m m' a e1 e2 ok=>?_⟩;cases i with
    | zero=>
     have e1:some (MO.dK fs)=some m:=e1;have e2:some (MO.dK gs)=some m':=e2;cases e1;cases e2;obtain⟨vs,hv,ra⟩:=ok;exact⟨vs,hv,j1 q1 ra fun d e v=>gH hw hn 30 d e v⟩
    | succ i=>exact hr i m m' a e1 e2 ok
 | .dT fs::r,l',h=>by
  unfold db at h;cases q1:iZ (frz n M 30) fs with
  | none=>rw[q1] at h;cases h
  | some gs=>
   cases q2:db n M r with
   | none=>rw[q1,q2] at h;cases h
   | some r'=>
    rw[q1,q2] at h;cases h;obtain⟨hl,hr⟩:=fA hw hn r r' q2;refine⟨by rw[length_cons,length_cons,hl],fun i m m' a e1 e2 ok=>?_⟩;cases i with
    | zero=>
     have e1:some (MO.dT fs)=some m:=e1;have e2:some (MO.dT gs)=some m':=e2;cases e1;cases e2;obtain⟨vs,hv,ra⟩:=ok;exact⟨vs,hv,j1 q1 ra fun d e v=>gH hw hn 30 d e v⟩
    | succ i=>exact hr i m m' a e1 e2 ok
theorem qi {θ0:List Addr}{H0:Hp}{θ':List Addr}{H':Hp}{M' M2:am}{n:Nat}(hn:θ0.length=n)(g:Go K θ0 H0 θ' H' M')(h:db n M' (M'.take n)=some M2):Go K θ0 H0 θ0 H' M2:=by
 obtain⟨m,em,hm⟩:=g.ext;have hw:=g.wr;rw[em] at hw;obtain⟨hl,hr⟩:=fA hw hn _ _ h;have hlen:n≤M'.length:=by rw[←g.wr.len,em,length_append];omega
 refine⟨⟨⟨[],by simp,fun _ z=>by cases z⟩,g.keep,g.tkeep⟩,by rw[hl,length_take];omega,(nodup_append.mp hw.nd).1,fun i a mo e1 e2=>?_,g.wr.tb⟩;have hi:i<n:=by rw[←hn];exact(List.getElem?_eq_some_iff.mp e1).1
 have hiM:i<M'.length:=by omega
 refine hr i M'[i] mo a (by rw[getElem?_take_of_lt hi];exact getElem?_eq_getElem hiM) e2 (hw.at_ i a _ ?_ (getElem?_eq_getElem hiM));rw[getElem?_append_left (by rw[hn];exact hi)];exact e1
end
theorem ww {P:Program}{w:World}{K:W.Frag}{mg:Str→Option Value}{base:Heap}{k n:Nat}{f:Addr}{fd:FuncData}{ps:List Str}{F:FD}{CX:oF}(h:dD P w K mg base CX k f fd ps (l8 K n F)) :
  dD P w K mg base CX k f fd ps (l8 K n fun ds M=>fV M.length (F ds M)):=h.imp fun vs H Q E hxx=>by
 obtain⟨θ,M,ds,hl,r,hw,q⟩:=hxx;refine⟨θ,M,ds,hl,r,hw,?_⟩;have q:pZ K θ H Q E (fV M.length (F ds M)):=q;cases e:F ds M with
 | bad=>rw[e] at q;exact q
 | err c M1=>
  rw[e] at q;have q:pZ K θ H Q E (if M1.length=M.length then .err c M1 else match db M.length M1 (M1.take M.length) with|some M'=>.err c M'|none=>.bad):=q;split at q
  ·exact q
  ·split at q
   ·rename_i M2 e2;exact fun C θ' H' a kC g=>q C θ H' a kC (qi hw.len g e2)
   ·exact q.elim
 | ok d M1=>
  rw[e] at q;have q:pZ K θ H Q E (if M1.length=M.length then .ok d M1 else match frz M.length M1 30 d,db M.length M1 (M1.take M.length) with|some d',some M'=>.ok d' M'|_,_=>.bad):=q;split at q
  ·exact q
  ·split at q
   ·rename_i d' M2 e1 e2;intro v θ' H' g rd;refine q v θ H' (qi hw.len g e2) ?_;obtain⟨m,em,_⟩:=g.ext;have hw':=g.wr;rw[em] at hw' rd;exact gH hw' hw.len 30 d d' v e1 rd
   ·exact q.elim
structure Fn (K:W.Frag)(mg:Str→Option Value)(x:Str)(st:Stmt)(f:Addr)(fd:FuncData)(ps:List Str):Prop where
 F:vS K x x st f fd
 m:mg x=some (.ref f)
 b:ej K fd ps []
section
variable {X:Cx}
theorem vv (i:Nat){x:Str}{pos:Pos}(hN:X.N[i]?=some x:=by rfl)(hv:yM X.env.scope x:=by first|exact Or.inl rfl|exact Or.inr (Or.inl rfl)|exact Or.inr (Or.inr rfl))(hd:(x==("__debug__":Str))=false:=by decide)
  (hcd:(x==("__classdict__":Str))=false:=by decide):PE X (.Name x pos) (tE X (ae i)):=xf (wn hN hv hd hcd)
theorem ss (i:Nat){x:Str}{pos pos':Pos}{e:Expr}{g:GE}(hN:X.N.Nodup)(he:PE X e (tE X g))(hi:X.N[i]?=some x:=by rfl)(hx:qW X.env.scope x:=by first|exact Or.inl rfl|exact Or.inr rfl)
  (hs:swapsWith e (some (.Name x pos')) pos.line X.env=pure false:=by rfl) (hf:X.fn x=true∨X.env.scope.names.lookup x=some .local:=by first|exact .inl rfl|exact .inr rfl) :
  PS X (.Assign [.Name x pos'] e pos) (tS X (aC i g)):=xb hN hi hx he hs hf
theorem gg (i:Nat){x:Str}{pos:Pos}(hN:X.N.Nodup)(hi:X.N[i]?=some x:=by rfl)(hx:qW X.env.scope x:=by first|exact Or.inl rfl|exact Or.inr rfl)(hf:X.fn x=true∨X.env.scope.names.lookup x=some .local:=by first|exact .inl rfl|exact .inr rfl):PG X (.Name x pos) (tG X (df i)):=j6 hN hi hx hf
end
theorem wC {K:W.Frag}{F:FD}{H:Hp}{a:Addr}{ns:List Int}(tb:gq K H)(hS:io K H a (ns.map V.int))(h:∃M',F [.ro (ns.map D.int)] []=.ok (.bl true) M'){E:XK}:l8 K 1 F [.ref a] H (fun v _=>v=.bl true) E:=by
 obtain⟨M',e⟩:=h;refine⟨[],[],[.ro (ns.map D.int)],rfl,⟨_,[],rfl,⟨a,ns.map V.int,rfl,?_,?_⟩,rfl⟩,⟨rfl,nodup_nil,fun i a m e=>by simp at e,tb⟩,?_⟩
 ·rcases hS with h|h
  ·exact .inl ⟨h,by simp⟩
  ·exact .inr h
 ·clear e
  induction ns with
  | nil=>exact rfl
  | cons n ns ih=>
   refine⟨.int n,ns.map V.int,rfl,rfl,?_⟩;have gen:∀l:List Int,aK K [] H (l.map D.int) (l.map V.int):=by
    intro l
    induction l with
    | nil=>exact rfl
    | cons m l ih=>exact⟨_,_,rfl,rfl,ih⟩
   exact gen ns
 ·rw[e];exact fun v θ' H' g r=>r
def b9 (t:GT)(b:GS):Nat→bG→am→aN Fl
 | 0,_,_=>.bad
 | n+1,ρ,M=>(t ρ M).bind fun c M1=>if c then(b ρ M1).bind fun f M2=>match f with
   | .nx ρ2=>b9 t b n ρ2 M2
   | .ct ρ2=>b9 t b n ρ2 M2
   | .bk ρ2=>.ok (.nx ρ2) M2
   | .rt d=>.ok (.rt d) M2
  else .ok (.nx ρ) M1
def ft (n:Nat)(t:GT)(b:GS):GS:=b9 t b n
theorem qU {X:Cx}{c:Expr}{body:List Stmt}{tc:GT}{gb:GS}{pos:Pos}{n:Nat}(hp:PassesOwn (model X.prog X.w) X.A X.env X.xe)(hc:PT X c (tT X tc))(hb:PSs X body (tS X gb)):PS X (.While c body [] pos) (tS X (ft n tc gb)):=
 (pq hp hc hb).of fun D σ H hxx=>by
  obtain⟨ρ,θ,M,hd,hw,h⟩:=hxx;refine⟨fun m σ' H'=>∃ρ' θ' M',eM X.K θ' H' σ' ρ'∧Wr X.K θ' H' M'∧bH X θ' H' D (b9 tc gb m ρ' M'),⟨n,ρ,θ,M,hd,hw,h⟩,?_⟩;rintro m σ' H' ⟨ρ',θ',M',hd',hw',h'⟩;cases m with
  | zero=>exact h'.elim
  | succ m=>
   have h':bH X θ' H' D ((tc ρ' M').bind _):=h';refine mD hd' hw' (bH X θ' H' D) (fun c M' h=>h) (fun h=>h) h' fun c M1 θ1 H1 g1 h1=>?_
   cases c with
   | false=>
    rw[if_neg Bool.false_ne_true];exact h1 σ' θ1 H1 g1 (hd'.go g1)
   | true=>
    rw[if_pos rfl];refine⟨fun σ2 H2=>∃ρ2 θ2 M2,eM X.K θ2 H2 σ2 ρ2∧Wr X.K θ2 H2 M2∧bH X θ2 H2 D (b9 tc gb m ρ2 M2),fun σ2 H2 q=>⟨m,Nat.lt_succ_self _,q⟩,ρ',θ1,M1,hd'.go g1,g1.wr,?_⟩;have h2:=bH.go g1 h1;have h2:bH X θ1 H1 D ((gb ρ' M1).bind _):=h2;cases q:gb ρ' M1 with
    | bad=>rw[q] at h2;exact h2
    | err c M2=>rw[q] at h2;exact h2
    | ok f M2=>
     rw[q] at h2;cases f with
     | nx ρ2=>exact fun σ2 θ2 H2 g2 d2=>⟨ρ2,θ2,M2,d2,g2.wr,bH.go g2 h2⟩
     | ct ρ2=>exact fun σ2 θ2 H2 g2 d2=>⟨ρ2,θ2,M2,d2,g2.wr,bH.go g2 h2⟩
     | bk ρ2=>exact h2
     | rt d=>exact h2
def bF:Expr→Bool
 | .Starred _ _=>false
 | _=>true
def cm (es:List Expr):Bool:=es.all bF
theorem sE {e:Expr}{es:List Expr}{env:Env}(h:bF e=true):starEach (e::es) env=(false,eval e env)::starEach es env:=by
 cases e <;> first|rfl|(simp[bF] at h)
theorem sS {pos:Pos}{env:Env}:∀{es:List Expr},cm es=true→(backTo pos (starEach es env)).any (·.1)=false
 | [],_=>rfl
 | e::es,h=>by
  unfold cm at h;rw[all_cons,Bool.and_eq_true] at h;have ih:=sS (pos:=pos) (env:=env) (es:=es) h.2;rw[sE h.1];unfold backTo at ih ⊢;rw[map_cons,any_cons,ih];rfl
section
variable {X:Cx}{e:Expr}{es:List Expr}{x:Str}{p pos:Pos}{k n:Nat}{f:Addr}{fd:FuncData}{ps:List Str}{F:FD}{ga:GA}{g:GE}{tg:Expr}
theorem z6 {gr:GA}(ha:PE X e (tE X g))(hr:PA X es (tA X gr))(h:bF e=true:=by rfl):PA X (e::es) (tA X (aa g gr)):=uj ha hr (sE h)
theorem yi (Fn:dD X.prog X.w X.K X.mg X.base (gN X.prog X.w) k f fd ps (l8 X.K n F))(hr:cc k X.A)(hg:Gl X x)(hm:X.mg x=some (.ref f))(hk:W.keepIn X.K (.ref f)=true)(hb:ej X.K fd ps [])
  (ha:PA X (e::es) (tA X ga)) (hdb:(x==("__debug__":Str))=false:=by decide) (h1:bF e=true:=by rfl) (h2:cm es=true:=by rfl) :
  PE X (.Call (.Name x p) (e::es) [] pos) (tE X (aj n F ga)):=rG Fn hr hg hm hk hb ha hdb (sE h1) (sS h2)
theorem xv {id:String}(hc:bN X (.builtin id) (rC X F))(hg:Gl X x)(hm:X.mg x=none)(hv:bootBuiltins x=some (.builtin id))(ha:PA X (e::es) (tA X ga))(hn:x≠"__name__":=by decide)(hdb:(x==("__debug__":Str))=false:=by decide)
  (h1:bF e=true:=by rfl) (h2:cm es=true:=by rfl):PE X (.Call (.Name x p) (e::es) [] pos) (tE X (aH F ga)):=oH hc hg hm hv ha hn hdb (sE h1) (sS h2)
theorem yS {T:String}(hc:bN X (.type T) (rC X F))(hg:Gl X x)(hm:X.mg x=none)(hv:bootBuiltins x=some (.type T))(ha:PA X (e::es) (tA X ga))(hn:x≠"__name__":=by decide)(hdb:(x==("__debug__":Str))=false:=by decide)
  (h1:bF e=true:=by rfl) (h2:cm es=true:=by rfl):PE X (.Call (.Name x p) (e::es) [] pos) (tE X (aH F ga)):=nG hc hg hm hv ha hn hdb (sE h1) (sS h2)
theorem zC {a:Expr}(hg:Gl X "range")(hm:X.mg "range"=none)(ha:PA X [a] (tA X ga))(h1:bF a=true:=by rfl):PI X tg (.Call (.Name "range" p) [a] [] pos) (tI X (cx ga)):=n9 hg hm ha (sE h1)
end
end DL
namespace DL
open PySem L2
theorem jQ {j:Int}(h:-(2 ^ 62)≤j∧j<2 ^ 62)(M:am):oP [.int j] M=.ok ⟨aD 0 j.toNat,none⟩ M:=by
 unfold oP;exact if_pos h
theorem p4 {n:Nat}(h:n≤1000000)(M:am):oP [.int (n:Int)] M=.ok ⟨aD 0 n,none⟩ M:=by
 have:=jQ (j:=(n:Int)) (by omega) M;rw[this];rfl
theorem qP {ds:List D}{M:am}:jq.ok ⟨ds,none⟩ M=true:=rfl
theorem dF {ds0:List D}{ge:GE}{ρ:bG}{P:am→Prop}{Q:D→Prop}:∀(ds:List D),(∀d∈ds,∀M,P M→∃e M',P M'∧Q e∧ge (some d::ρ) M=.ok e M')→∀M,P M→
  ∃es M',P M'∧es.length=ds.length∧(∀e∈es,Q e)∧c6 ⟨ds0,none⟩ cP ge ds ρ M=.ok es M'
 | [],h,M,hM=>⟨[],M,hM,rfl,(fun e he=>by cases he),rfl⟩
 | d::ds,h,M,hM=>by
  obtain⟨e,M1,h1,q1,e1⟩:=h d List.mem_cons_self M hM;obtain⟨es,M2,h2,l2,q2,e2⟩:=dF (ds0:=ds0) ds (fun d' hd=>h d' (List.mem_cons_of_mem _ hd)) M1 h1;refine⟨e::es,M2,h2,by simp[l2],fun x hx=>?_,?_⟩
  ·rcases List.mem_cons.mp hx with z|z
   ·subst z;exact q1
   ·exact q2 x z
  ·simp[c6,qP,cP,e1,e2]
theorem aX (lo:Int)(n:Nat):(aD lo n).length=n:=by simp[aD]
theorem sZ {ds:List D}{Q:Int→Prop}(h:∀d∈ds,∃k,d=.int k∧Q k):∃ks:List Int,ds=ks.map D.int∧∀k∈ks,Q k:=by
 induction ds with
 | nil=>exact⟨[],rfl,fun k hk=>by cases hk⟩
 | cons d ds ih=>
  obtain⟨k,e,q⟩:=h d List.mem_cons_self;obtain⟨ks,e2,q2⟩:=ih fun d' hd=>h d' (List.mem_cons_of_mem _ hd)
  refine⟨k::ks,by rw[e,e2];rfl,fun x hx=>?_⟩;rcases List.mem_cons.mp hx with z|z
  ·subst z;exact q
  ·exact q2 x z
theorem tM {ds:List D}{Q:List Int→Prop}(h:∀d∈ds,∃ks:List Int,d=.tup (ks.map D.int)∧Q ks):∃rs:List (List Int),ds=rs.map (fun r=>D.tup (r.map D.int))∧∀r∈rs,Q r:=by
 induction ds with
 | nil=>exact⟨[],rfl,fun k hk=>by cases hk⟩
 | cons d ds ih=>
  obtain⟨k,e,q⟩:=h d List.mem_cons_self;obtain⟨ks,e2,q2⟩:=ih fun d' hd=>h d' (List.mem_cons_of_mem _ hd)
  refine⟨k::ks,by rw[e,e2];rfl,fun x hx=>?_⟩;rcases List.mem_cons.mp hx with z|z
  ·subst z;exact q
  ·exact q2 x z
theorem bQ {n:Nat}(h:n≤1000000):n≤sizeLine:=Nat.le_trans h (by rw[sizeLine_eq];decide)
theorem eB (n:Nat):∀ks:List Int,aU n (ks.map D.int)=true
 | []=>by cases n <;> rfl
 | k::ks=>Bool.and_eq_true_iff.mpr ⟨by cases n <;> rfl,eB n ks⟩
theorem jj:∀ks ls:List Int,dP (ks.map D.int) (ls.map D.int)=decide (ks=ls)
 | [],[]=>rfl
 | [],l::ls=>rfl
 | k::ks,[]=>rfl
 | k::ks,l::ls=>by
  show((k==l)&&dP (ks.map D.int) (ls.map D.int))=_;rw[jj ks ls]
  by_cases h:k=l <;> simp[h]
end DL
namespace DL
@[simp] theorem AT (i j:Int):gm (.int i) (.int j)=(i==j):=rfl
@[simp] theorem AQ (i j:Bool):gm (.bl i) (.bl j)=(i==j):=rfl
@[simp] theorem A0 (i j:PySem.Str):gm (.str i) (.str j)=(i==j):=rfl
@[simp] theorem AZ:gm .non .non=true:=rfl
@[simp] theorem A1 (i:Int):gm (.int i) .non=false:=rfl
@[simp] theorem Aq (i:Int):gm .non (.int i)=false:=rfl
@[simp] theorem Aw (xs ys:List D):gm (.tup xs) (.tup ys)=dP xs ys:=rfl
@[simp] theorem AF (xs ys:List D):gm (.lst xs) (.lst ys)=dP xs ys:=rfl
@[simp] theorem zF:dP [] []=true:=rfl
@[simp] theorem zV (y:D) (ys:List D):dP [] (y::ys)=false:=rfl
@[simp] theorem zP (y:D) (ys:List D):dP (y::ys) []=false:=rfl
@[simp] theorem z5 (x y:D) (xs ys:List D):dP (x::xs) (y::ys)=(gm x y&&dP xs ys):=rfl
@[simp] theorem xh (n:Nat) (i:Int):ar n (.int i)=true:=by cases n <;> rfl
@[simp] theorem yr (n:Nat) (i:Bool):ar n (.bl i)=true:=by cases n <;> rfl
@[simp] theorem xk (n:Nat):ar n .non=true:=by cases n <;> rfl
@[simp] theorem xj (n:Nat) (x:PySem.Str):ar n (.str x)=PySem.PyData.strOk x:=by cases n <;> rfl
@[simp] theorem nU (n:Nat) (xs:List D):ar (n+1) (.tup xs)=aU n xs:=rfl
@[simp] theorem n6 (n:Nat) (xs:List D):ar (n+1) (.lst xs)=aU n xs:=rfl
@[simp] theorem uw (xs:List D):ar 40 (.tup xs)=aU 39 xs:=nU 39 xs
@[simp] theorem uy (xs:List D):ar 40 (.lst xs)=aU 39 xs:=n6 39 xs
@[simp] theorem wW (n:Nat):aU n []=true:=by cases n <;> rfl
@[simp] theorem uL (n:Nat) (x:D) (xs:List D):aU n (x::xs)=(ar n x&&aU n xs):=by cases n <;> rfl
@[simp] theorem z0 (i:Int) (M:am):iT (.int i) M=.int i:=rfl
@[simp] theorem AM (i:Bool) (M:am):iT (.bl i) M=.bl i:=rfl
@[simp] theorem zN (M:am):iT .non M=.non:=rfl
@[simp] theorem zU (x:PySem.Str) (M:am):iT (.str x) M=.str x:=rfl
@[simp] theorem zS (xs:List D) (M:am):iT (.tup xs) M=.tup xs:=rfl
@[simp] theorem zT (xs:List D) (M:am):iT (.lst xs) M=.lst xs:=rfl
end DL
namespace DL
open PySem PySem.Spec PyProof.Rows L2 PySem.W PySem.Builtin PySem.Builtin.ObjectAttr PySem.Builtin.Getset_descriptor List
structure Al (K:Frag)(C:Addr):Prop where
 cl:(clsIn K C).isSome=true
 ca:findIn K (.ref C) "__class__"=some (some (.builtin "object.__class__"))
 sp:specialIn K (.builtin "object.__class__") "__get__"=some (some (.builtin "getset_descriptor.__get__"))
 tk:takesIn K (.builtin "object.__class__")=some true
 ob:mroIn K C (.type "object")=some true
 ga:findIn K (.ref C) "__getattribute__"=some (some (.builtin "BaseException.__getattribute__"))
 gh:findIn K (.ref C) "__getattr__"=some none
 be:mroIn K C (.type "BaseException")=some true
end DL
namespace DL
open PySem PySem.Spec PyProof.Rows L2 List
abbrev Aj:List Value:=[.type "ValueError",.type "Exception",.type "BaseException",.type "object"]
structure Ec (K:W.Frag)(mg:Str→Option Value)(c:Str)(C:Addr):Prop where
 at_:iE K c C
 m:mg c=some (.ref C)
 k:Al K C
 ex:W.excIn K C Aj "ValueError.__new__"=true
 ty:W.typeIn K (.ref C)=some (.type "type")
 sf:W.mroIn K C (.ref C)=some true
def qT (i:Nat):Fl→Fl
 | .nx ρ=>.nx (ρ.set i none)
 | .bk ρ=>.bk (ρ.set i none)
 | .ct ρ=>.ct (ρ.set i none)
 | .rt d=>.rt d
section
variable {X:Cx}
def et (d:D)(M:am):Option (List D):=match d with
 | .lst xs=>some xs
 | .ro xs=>some xs
 | .mr k=>match M[k]? with
  | some (.lst xs)=>some xs
  | _=>none
 | _=>none
theorem o5 {K:W.Frag}{θ:List Addr}{H:Hp}{M:am}{d:D}{xs:List D}{v:V}(hw:Wr K θ H M)(r:cw K θ H d v)(e:et d M=some xs):∃a vs,v=.ref a∧io K H a vs∧aK K θ H xs vs:=by
 cases d with
 | lst ys=>cases e;obtain⟨a,vs,ea,ta,ra⟩:=r;exact⟨a,vs,ea,ta.sq,ra⟩
 | ro ys=>cases e;obtain⟨a,vs,ea,ta,ra⟩:=r;exact⟨a,vs,ea,ta.sq,ra⟩
 | mr k=>
  obtain⟨a,ea,ta⟩:=r;have e:(match M[k]? with|some (.lst xs)=>some xs|_=>none)=some xs:=e;cases q:M[k]? with
  | none=>rw[q] at e;cases e
  | some m=>
   cases m with
   | lst ys=>
    rw[q] at e;cases e;obtain⟨vs,hv,ra⟩:=hw.at_ k a _ ta q;exact⟨a,vs,ea,.inl (.inl hv),ra⟩
   | _=>rw[q] at e;cases e
 | _=>cases e
def fb (F:List D→D→am→aN D)(go ge:GE):GE:=fun ρ M=>(go ρ M).bind fun o M1=>match et o M1 with
 | some _=>(ge ρ M1).bind fun x M2=>match et o M2 with
  | some xs=>F xs x M2
  | none=>.bad
 | none=>.bad
section
variable {o e:Expr}{go ge:GE}{apos cpos:Pos}
theorem sr {F:List D→D→am→aN D}{rr:V→List V→Hp→VK→Prop}{σ:L2.St}{H:Hp}{Q:VK}(hs:starEach [e] X.env=(false,eval e X.env)::starEach [] X.env)
  (hF:∀θ H M o x xs v y Q,Wr X.K θ H M→cw X.K θ H o v→et o M=some xs→cw X.K θ H x y→aI X θ H Q (F xs x M)→rr v [y] H Q) (h:tE X (fb F go ge) σ H Q):A5 X.K "list" rr (tE X go) (ux (tE X ge) yz) σ H Q:=by
 obtain⟨ρ,θ,M,hd,hw,h⟩:=h;refine bB hd hw (aI X θ H Q) (fun c M' h=>h) (fun h=>h) h fun d M1 v θ1 H1 g1 r1 h1=>?_
 have h2:=aI.go g1 h1;cases ql:et d M1 with
 | none=>rw[ql] at h2;exact h2.elim
 | some xs0=>
  rw[ql] at h2;obtain⟨a,vs,ea,sq,ra⟩:=o5 g1.wr r1 ql;refine⟨by rw[ea];exact .inl ⟨rfl,vs,sq⟩,?_⟩;refine bB (hd.go g1) g1.wr (aI X θ1 H1 Q) (fun c M' h=>h) (fun h=>h) h2 fun dx M2 vx θ2 H2 g2 r2 h3=>?_
  have h4:=aI.go g2 h3;cases ql2:et d M2 with
  | none=>rw[ql2] at h4;exact h4.elim
  | some xs=>
   rw[ql2] at h4;exact hF θ2 H2 M2 d dx xs v vx Q g2.wr (r1.go g2) ql2 r2 h4
theorem p6 {env:Env}(h:bF e=true):((backTo cpos (starEach [e] env)).all (fun x=>!x.1)&&(backToKw cpos (keywordEach [] env)).all (fun x=>x.1.isSome)
   && decide ([e].length+([]:List Keyword).length+(if([]:List Keyword).isEmpty then 0 else 1)<30))=true:=by
 rw[sE h];rfl
end
end
end DL
namespace DL
open PySem L2
theorem yo {P:Program}{w:World}{H:Hp}{s:Shared}{e:Value}{s':Shared}(z:gN P w [] H s (fun _ _ _=>False) e s'):False:=by
 obtain⟨_,_,_,_,_,_,_,_,_,_,_,_,_,_,h⟩:=z;exact h
end DL
namespace DL
open PySem PySem.Spec PyProof.Rows L2 List
structure Kc (K:W.Frag)(mg:Str→Option Value)(c:Str)(C:Addr):Prop where
 at_:iE K c C
 m:mg c=some (.ref C)
 cl:Bf K C
end DL
namespace DL
open PySem PySem.Spec PyProof.Rows L2 List
section
variable {prog:Program}{w:World}{A:Around}{E:Value→Shared→Prop}{s:Shared}
theorem iJ {I a:Addr}{k:Nat}{its:Array Value}{x:Value}{Q:Value→Shared→Prop}(st:s.heap.IsTupleIter I a k)(ta:s.heap.IsTuple a its)(hx:its[k]?=some x)
  (q:∀h',h'.IsTupleIter I a (k+1)→Heap.SameBut I s.heap h'→Q x {s with heap:=h'}):wpAny (model prog w) A (Builtin.SmallTypes.nextOf (.ref I)) Q E s:=by
 obtain⟨u,hu,uc,ud⟩:=id st;obtain⟨oa,hoa,_,na,da⟩:=ta;unfold Builtin.SmallTypes.nextOf;refine wpAny_bind (wpAny_callSpecial?_slot (name:=Str.ofString "__next__") st.typeIs F.slot_tuple_iterator_next (wpAny_call_entry F.slot_tuple_iterator_next st.typeIs F.entry_tuple_iterator_next ?_ (F.args_tuple_iterator_next_1 _)));show wpAny _ _ (field (.ref I) 0 >>= _) _ _ s;refine wpAny_bind (wpAny_field hu ud (x:=.ref a) rfl ?_);show wpAny _ _ (if(Value.ref a==Value.none)=true then _ else _) _ _ s;rw[if_neg (show¬((Value.ref a==Value.none)=true) from Bool.false_ne_true)];show wpAny _ _ (field (.ref I) 1 >>= _) _ _ s;refine wpAny_bind (wpAny_field hu ud (x:=.int k 0) rfl ?_);show wpAny _ _ (seqItems? (.ref a) >>= _) _ _ s;refine wpAny_bind (wpAny_seqItems hoa da ?_);simp only[Int.toNat_natCast,hx];refine wpAny_bind (wpAny_setField hu ud (by simp) (wpAny_pure ⟨x,rfl,wpAny_pure (q _ ?_ (Heap.SameBut.update ..))⟩));exact⟨_,Heap.get?_update_self _ hu (Obj.isFreed_of_fields (Obj.data_mapFields ud _)),(Obj.cls_mapFields ..).trans uc,by rw[Obj.data_mapFields ud];simp[rawInt]⟩
theorem iy {I a:Addr}{k:Nat}{its:Array Value}{Q:Value→Shared→Prop}(hh:A.handled=none)(st:s.heap.IsTupleIter I a k)(ta:s.heap.IsTuple a its)(hx:its[k]?=none)
  (q:∀h' e,Heap.ExtBut I s.heap h'→(∃o,h'.get? e=some o∧o.cls=.type "StopIteration")→E (.ref e) {s with heap:=h'}):wpAny (model prog w) A (Builtin.SmallTypes.nextOf (.ref I)) Q E s:=by
 obtain⟨u,hu,uc,ud⟩:=id st;obtain⟨oa,hoa,_,na,da⟩:=ta;unfold Builtin.SmallTypes.nextOf;refine wpAny_bind (wpAny_callSpecial?_slot (name:=Str.ofString "__next__") st.typeIs F.slot_tuple_iterator_next (wpAny_call_entry F.slot_tuple_iterator_next st.typeIs F.entry_tuple_iterator_next ?_ (F.args_tuple_iterator_next_1 _)));show wpAny _ _ (field (.ref I) 0 >>= _) _ _ s;refine wpAny_bind (wpAny_field hu ud (x:=.ref a) rfl ?_);show wpAny _ _ (if(Value.ref a==Value.none)=true then _ else _) _ _ s;rw[if_neg (show¬((Value.ref a==Value.none)=true) from Bool.false_ne_true)];show wpAny _ _ (field (.ref I) 1 >>= _) _ _ s;refine wpAny_bind (wpAny_field hu ud (x:=.int k 0) rfl ?_);show wpAny _ _ (seqItems? (.ref a) >>= _) _ _ s;refine wpAny_bind (wpAny_seqItems hoa da ?_);simp only[Int.toNat_natCast,hx];refine wpAny_bind (wpAny_rule (wpAny_bind (wpAny_setField hu ud (by simp) ?_)));show wpAny _ _ (newExc (.type "StopIteration") [] >>= _) _ _ _;refine wpAny_bind ?_;simp only[newExc,newTuple];refine wpAny_bind (wpAny_newObj_type ?_ (by size_fits));refine wpAny_bind (m:=firstArgMember _ _) (wpAny_of_eq (a:=Value.none) (by first|rfl|(simp only[firstArgMember];rfl)) ?_);refine wpAny_newObj_type ?_ (by size_fits);simp only[raiseNew];refine wpAny_bind (wpAny_handled ?_)
 first|rw[show A.in1.handled=none from hh]|rw[hh]
 exact wpAny_bind (wpAny_pure (wpAny_throw (q _ _ (((Heap.SameBut.update ..).extBut.push _).push _) ⟨_,Heap.get?_push_size _ rfl,rfl⟩)))
end
open AutoSeq1 (wpAny_loadPart') in
section
variable {X:Cx}{af:List (Addr×Obj)}{σ:L2.St}{H:Hp}{s:Shared}
theorem ky {ch:List Addr}{a:Addr}{o:HO}{h':Heap}{t':Nat}(I:L2.Inv X af σ H s)(hf:∀b∈ch,gX X af H b)(k:∀b u,b∉ch→s.heap.get? b=some u→h'.get? b=some u)
  (hp:s.heap.objs.size≤a) (new:bA X.prog X.w (bS H a o) h' a o):L2.Inv X af σ (bS H a o) {s with heap:=h',toks:=t'}:=by
 have hn:H a=none:=I.hok.fresh hp;have ne:∀{b:Addr} {u:HO},H b=some u→b≠a:=fun {b u} e z=>by rw[z,hn] at e;cases e
 have nch:∀b u,H b=some u→b∉ch:=fun b u e z=>by rw[(hf b z).1] at e;cases e
 refine I.step (g':=s.gens) (d':=s.drawn) (ch:=ch) (fun b hb=>⟨(hf b hb).2.2.2.1,(hf b hb).2.1,(hf b hb).2.2.2.2.1,(hf b hb).2.2.2.2.2⟩) (fun b u _ _ hc e _=>k b u hc e) (fun b u _ _ hc e _=>⟨u.slots,k b u hc e⟩)
  (fun b u _ e n=>by rw[aw (Nat.ne_of_lt (Nat.lt_of_lt_of_le (Heap.lt_size e) hp))];exact n) (fun b u hc e=>⟨u,k b u hc e⟩) (fun b xs e=>by rw[aw (ne e)];exact e) (fun b u v e=>by rw[aw (ne e)];exact e)
  (fun b ps e=>⟨#[],by rw[aw (ne e),e];simp⟩) (fun m hm=>?_) (fun b u e=>?_) I.bare
 ·obtain⟨u,es,ep,ho,r⟩:=hm;exact⟨u,es,ep,k _ u (fun z=>(hf _ z).2.1 rfl) ho,r⟩
 ·by_cases hb:b=a
  ·subst hb;rw[bZ] at e;cases e;exact new
  ·rw[aw hb] at e;refine(I.hok b u e).stay (fun c v hc q=>k c v ?_ q) (fun c q=>by rw[aw (ne q)];exact q) fun c xs q=>by rw[aw (ne q)];exact q
   rcases hc with z|z
   ·rw[z];exact nch b u e
   ·exact nch c _ z
theorem oz {ch:List Addr}{h':Heap}{t':Nat}(I:L2.Inv X af σ H s)(hf:∀b∈ch,gX X af H b)(k:∀b u,b∉ch→s.heap.get? b=some u→h'.get? b=some u):L2.Inv X af σ H {s with heap:=h',toks:=t'}:=by
 have nch:∀b u,H b=some u→b∉ch:=fun b u e z=>by rw[(hf b z).1] at e;cases e
 refine I.step (g':=s.gens) (d':=s.drawn) (ch:=ch) (fun b hb=>⟨(hf b hb).2.2.2.1,(hf b hb).2.1,(hf b hb).2.2.2.2.1,(hf b hb).2.2.2.2.2⟩) (fun b u _ _ hc e _=>k b u hc e) (fun b u _ _ hc e _=>⟨u.slots,k b u hc e⟩)
  (fun b u _ e n=>n) (fun b u hc e=>⟨u,k b u hc e⟩) (fun b xs e=>e) (fun b u v e=>e) (fun b ps e=>⟨#[],by rw[e];simp⟩) (fun m hm=>?_) (fun b u e=>?_) I.bare
 ·obtain⟨u,es,ep,ho,r⟩:=hm;exact⟨u,es,ep,k _ u (fun z=>(hf _ z).2.1 rfl) ho,r⟩
 ·refine(I.hok b u e).stay (fun c v hc q=>k c v ?_ q) (fun c q=>q) fun c xs q=>q
  rcases hc with z|z
  ·rw[z];exact nch b u e
  ·exact nch c _ z
end
end DL
namespace DL
open PySem PySem.Spec PyProof.Rows L2 List
def H0 (K:W.Frag)(a:Addr)(so:Obj)(xs:List V)(ts:List Addr)(bm:Addr)(ob:Obj):Hp:=fun b=>
 if b=a then(if K.lookup a=none then some (.frz so (.lst xs)) else none) else if b∈ts then some (.tbl #[]) else if b=bm then some (A4 ob) else none
structure AH (K:W.Frag)(x:Str)(c P:Addr):Prop where
 mem:x∈c7
 tab:W.tabIn K x=some (c,P)
 uniq:∀y,y∈c7→y≠x→∀c2,W.tabIn K y≠some (c2,P)
 hd:∃o vs file tf flags tg inF text tt,K.lookup c=some o∧o.cls=.type "code"∧o.data=.fields vs∧vs[11]?=some (.ref P)∧vs.getD 11 .none=.ref P∧vs.getD 18 .none=.str file tf∧
  vs.getD 7 .none=.int flags tg∧vs.getD 9 .none=.bool inF∧vs.getD 10 .none=.int text tt∧c≠P
def uu:List D→Option (List Int)
 | []=>some []
 | .int i::r=>(uu r).map (i::·)
 | _=>none
def zD:D→Option (List Int)
 | .tup ds=>uu ds
 | _=>none
end DL
namespace DL
open PySem PySem.Spec PyProof.Rows L2 List
section
open PySem.SeqAt
open PySem.AutoSeq1 (wpAny_loadPart')
open PySem.MeetsSeq PySem.MeetsSeq2 PySem.MeetsSeq3
end
end DL
namespace DL
open PySem PySem.Spec PyProof.Rows L2 List
end DL
namespace DL
open PySem PySem.Spec PyProof.Rows L2 List
section
open Builtin Builtin.Str
end
end DL
namespace DL
open PySem PySem.Spec PyProof.Rows L2 List
structure QE (X:Cx)(e:Expr)(g:GE):Prop where
 h:PE X e (tE X g)
structure QT (X:Cx)(e:Expr)(g:GT):Prop where
 h:PT X e (tT X g)
structure QW (X:Cx)(e:Expr)(g:GT):Prop where
 h:PW X e (tT X g)
structure QA (X:Cx)(es:List Expr)(g:GA):Prop where
 h:PA X es (tA X g)
structure QS (X:Cx)(st:Stmt)(g:GS):Prop where
 h:PS X st (tS X g)
structure QB (X:Cx)(st:List Stmt)(g:GS):Prop where
 h:PSs X st (tS X g)
structure QI (X:Cx)(tg e:Expr)(g:GI):Prop where
 h:PI X tg e (tI X g)
structure QG (X:Cx)(tg:Expr)(s:GG):Prop where
 h:PG X tg (tG X s)
structure zd (X:Cx)(tgs:List Expr)(is:List Nat):Prop where
 h:tP X tgs (yd X is)
structure QP (X:Cx)(e:Option Expr)(g:GO):Prop where
 h:PO X e (tO X g)
structure Q2 (X:Cx)(f:Value→Value→Sem Value)(F:F2):Prop where
 h:dB X f (rD X F)
structure QC (X:Cx)(f:Value)(F:FD):Prop where
 h:bN X f (rC X F)
structure xl (X:Cx)(scope:Scope)(xs:List Str)(R:List Str)(ifs:List Expr)(gc:GT):Prop where
 h:gZ X scope xs R ifs gc
structure QO (n:Nat)(sg:GG):Prop where
 h:lQ n sg
section
variable {X:Cx}{e a b c o i:Expr}{es rest:List Expr}{x:Str}{p p2 pos pos':Pos}{g ga gb gc go gi ge:GE}{ta tb:GT}{gA:GA}
theorem yY:Q2 X (binaryOp .Add) aJ:=⟨vP⟩
theorem xS:Q2 X (binaryOp .Sub) cj:=⟨uO⟩
theorem xV:Q2 X (binaryOp .Mult) cS:=⟨vU⟩
theorem vE:Q2 X (binaryOp .FloorDiv) bW:=⟨rA⟩
theorem zi:Q2 X (binaryOp .Mod) cU:=⟨wV⟩
theorem yn:Q2 X (binaryOp .Pow) fm:=⟨vz⟩
theorem Ap:Q2 X (compareOp .Lt) kU:=⟨yh⟩
theorem AS:Q2 X (compareOp .LtE) mU:=⟨yc⟩
theorem AC:Q2 X (compareOp .Gt) mZ:=⟨yl⟩
theorem An:Q2 X (compareOp .GtE) ui:=⟨yF⟩
theorem AL {k:Nat}(hr:cc k X.A):Q2 X (compareOp .NotEq) (gW true):=⟨yQ hr.units⟩
theorem AD:Q2 X (compareOp .Is) (gG false):=⟨zm⟩
theorem tL:Q2 X (compareOp .IsNot) (gG true):=⟨pk⟩
theorem zE:QC X (.builtin "len") cu:=⟨v7⟩
theorem yP (hc:X.calm=true:=by rfl):QC X (.builtin "min") ki:=⟨vC hc⟩
theorem yW (hc:X.calm=true:=by rfl):QC X (.builtin "max") kM:=⟨wy hc⟩
theorem xx:QC X (.type "int") lS:=⟨vf⟩
theorem vX:QC X (.type "list") gQ:=⟨sw⟩
theorem sA:QC X (.type "list") fP:=⟨qB⟩
theorem tW:QC X (.type "tuple") aF:=⟨qH⟩
theorem qv (i:Nat){x:Str}{pos:Pos}(hN:X.N[i]?=some x:=by rfl)(hv:yM X.env.scope x:=by first|exact Or.inl rfl|exact Or.inr (Or.inl rfl)|exact Or.inr (Or.inr rfl))(hd:(x==("__debug__":Str))=false:=by decide)
  (hcd:(x==("__classdict__":Str))=false:=by decide):QE X (.Name x pos) (ae i):=⟨vv i hN hv hd hcd⟩
theorem wg {i:Int}{j pos}:QE X (.Constant (.int i) j pos) (gC (.int i)):=⟨wY⟩
theorem y9 {b j pos}:QE X (.Constant (.bool b) j pos) (gC (.bl b)):=⟨xK⟩
theorem wL {j pos}:QE X (.Constant .none j pos) (gC .non):=⟨vp⟩
theorem vd (h:QE X a g):QE X (.UnaryOp .USub a pos) (en g):=⟨v4 h.h⟩
theorem zJ {op:Operator}{f:F2}(ho:Q2 X (binaryOp op) f)(ha:QE X a ga)(hb:QE X b gb):QE X (.BinOp a op b pos) (g2 f ga gb):=⟨xC ho.h ha.h hb.h⟩
def vD:CmpOp→Bool
 | .In=>false
 | .NotIn=>false
 | _=>true
theorem js {op:CmpOp}{b:Expr}(h:vD op=true):behindInMarks op b=false:=by
 cases op <;> first|exact vV _|(cases h)
theorem wk {op:CmpOp}{f:F2}(ho:Q2 X (compareOp op) f)(ha:QE X a ga)(hb:QE X b gb)(hm:vD op=true:=by rfl):QE X (.Compare a [op] [b] pos) (g2 f ga gb):=⟨vB ho.h ha.h hb.h (js hm)⟩
theorem u7 {op:CmpOp}{f:F2}(ho:Q2 X (compareOp op) f)(ha:QE X a ga)(hb:QE X b gb)(hm:vD op=true:=by rfl):QT X (.Compare a [op] [b] pos) (br (g2 f ga gb)):=⟨qL ho.h ha.h hb.h (js hm)⟩
theorem tU {op:CmpOp}{f:F2}(ho:Q2 X (compareOp op) f)(ha:QE X a ga)(hb:QE X b gb)(hm:behindInMarks op b=false:=by with_unfolding_all rfl):QT X (.Compare a [op] [b] pos) (br (g2 f ga gb)):=⟨qL ho.h ha.h hb.h hm⟩
theorem pS {op op':CmpOp}{f f':F2}(ho:Q2 X (compareOp op) f)(ho':Q2 X (compareOp op') f')(ha:QE X a ga)(hb:QE X b gb)(hc:QE X c gc)(hm:lastMarks [op,op'] [b,c]=false:=by with_unfolding_all rfl):QT X (.Compare a [op,op'] [b,c] pos) (br (ny f f' ga gb gc)):=⟨qM ho.h ho'.h ha.h hb.h hc.h hm⟩
theorem tQ (ha:QT X a ta):QW X (.BoolOp .And [a] pos) ta:=⟨rJ ha.h⟩
theorem wM (ha:QT X a ta):QW X (.BoolOp .Or [a] pos) ta:=⟨wt ha.h⟩
theorem vR (ha:QT X a ta)(hb:QW X (.BoolOp .And (b::rest) pos) tb):QW X (.BoolOp .And (a::b::rest) pos) (d9 ta tb):=⟨wq ha.h hb.h⟩
theorem zr (ha:QT X a ta)(hb:QW X (.BoolOp .Or (b::rest) pos) tb):QW X (.BoolOp .Or (a::b::rest) pos) (iM ta tb):=⟨zp ha.h hb.h⟩
theorem zA (h:QW X a ta):QT X a ta:=⟨PW.pt h.h⟩
theorem wX:QA X [] ag:=⟨ve⟩
theorem AN {gr:GA}(ha:QE X e g)(hr:QA X es gr)(h:bF e=true:=by rfl):QA X (e::es) (aa g gr):=⟨z6 ha.h hr.h h⟩
theorem vL {x1}(h:QA X es gA):QE X (.Tuple es x1 pos) (aL gA):=⟨uV h.h⟩
theorem wN (h:QA X es gA):QE X (.List es pos) (dg gA):=⟨wK h.h⟩
theorem vH (h:QA X es gA):QE X (.List es pos) (dR gA):=⟨wO h.h⟩
theorem tw:QP X none aV:=⟨rf⟩
theorem rq (h:QE X e g):QP X (some e) (bX g):=⟨sj h.h⟩
theorem pM {lo hi:Option Expr}{gl gh:GO}(he:QE X e g)(hl:QP X lo gl)(hh:QP X hi gh):QE X (.Subscript e (.Slice lo hi none p2) pos) (gS g gl gh):=⟨oZ he.h hl.h hh.h⟩
theorem zo (ha:QE X a ga)(hb:QE X b gb)(hs:jU b:=by intro _ _;rfl):QE X (.Subscript a b pos) (g2 aB ga gb):=⟨yB ha.h hb.h hs⟩
section
variable {apos cpos:Pos}{k n:Nat}{f:Addr}{fd:FuncData}{ps:List Str}{F:FD}{T:String}{id:String}
theorem oj (ho:QE X o go)(he:QE X e ge)(h1:bF e=true:=by rfl)(hbase:attributeBase o "append" X.env (eval o X.env)=eval o X.env:=by rfl)(hline:(apos.endLine==cpos.line)=true:=by rfl):QE X (.Call (.Attribute o "append" apos) [e] [] cpos) (fG go ge):=⟨nT ho.h he.h hbase (p6 h1) hline (sE h1) rfl⟩
theorem xB (Fn:dD X.prog X.w X.K X.mg X.base (gN X.prog X.w) k f fd ps (l8 X.K n F))(hr:cc k X.A)(hg:Gl X x)(hm:X.mg x=some (.ref f))(hk:W.keepIn X.K (.ref f)=true)(hb:ej X.K fd ps [])(ha:QA X (e::es) gA)
  (hdb:(x==("__debug__":Str))=false:=by decide) (h1:bF e=true:=by rfl) (h2:cm es=true:=by rfl):QE X (.Call (.Name x p) (e::es) [] pos) (aj n F gA):=⟨yi Fn hr hg hm hk hb ha.h hdb h1 h2⟩
theorem xY (hc:QC X (.builtin id) F)(hg:Gl X x)(hm:X.mg x=none)(hv:bootBuiltins x=some (.builtin id))(ha:QA X (e::es) gA)(hn:x≠"__name__":=by decide)(hdb:(x==("__debug__":Str))=false:=by decide)
  (h1:bF e=true:=by rfl) (h2:cm es=true:=by rfl):QE X (.Call (.Name x p) (e::es) [] pos) (aH F gA):=⟨xv hc.h hg hm hv ha.h hn hdb h1 h2⟩
theorem yU (hc:QC X (.type T) F)(hg:Gl X x)(hm:X.mg x=none)(hv:bootBuiltins x=some (.type T))(ha:QA X (e::es) gA)(hn:x≠"__name__":=by decide)(hdb:(x==("__debug__":Str))=false:=by decide)
  (h1:bF e=true:=by rfl) (h2:cm es=true:=by rfl):QE X (.Call (.Name x p) (e::es) [] pos) (aH F gA):=⟨yS hc.h hg hm hv ha.h hn hdb h1 h2⟩
end
theorem yD {tg:Expr}(hg:Gl X "range")(hm:X.mg "range"=none)(ha:QA X [a] gA)(h1:bF a=true:=by rfl):QI X tg (.Call (.Name "range" p) [a] [] pos) (cx gA):=⟨zC hg hm ha.h h1⟩
theorem vb {tg:Expr}(h:QE X e g):QI X tg e (eY g):=⟨wA h.h⟩
section
variable {scope:Scope}{R:List Str}{iter elt:Expr}{ifs:List Expr}{gI:GI}{gC:GT}{px:Pos}{mk:List D→am→aN D}
theorem nH {xs:List Str}:xl X scope xs R [] cP:=⟨pe⟩
theorem sI (hS:cg scope X.env.kindOf [x] R X.N=true)(hm:mk=bo∨mk=cQ)(hi:QI X (.Name x px) iter gI)(hts:xl X scope [x] R ifs gC)(he:∀fp s H C,QE (ay X scope [x] R fp s H C) elt ge)
  (hc:X.calm=true:=by rfl) (hs:∀x,foldedSetIterable iter X.env x=pure x:=by intro _;rfl):QE X (.ListComp elt [⟨.Name x px,iter,ifs,0⟩] scope pos) (cr gI gC ge mk):=⟨tJ hS hc hm hi.h hts.h (fun fp s H C=>(he fp s H C).h) hs⟩
theorem vw (n:Nat){is:List Nat}(h:is.all (fun i=>decide (i<n))=true:=by rfl):QO n (cB is):=⟨rR h⟩
theorem jz {xs:List Str}{fp:List Addr}{s:Shared}{H:Hp}{C:Addr}{y:Str}(hS:cg scope X.env.kindOf xs R X.N=true)(h:y∈xs):(ay X scope xs R fp s H C).env.scope.names.lookup y=some .local:=lookup_relabel_local ((bu.of hS).own y h)
theorem Bn {xs:List Str}{fp:List Addr}{s:Shared}{H:Hp}{C:Addr}{y:Str}(i:Nat)(hS:cg scope X.env.kindOf xs R X.N=true)(hi:(xs++R)[i]?=some y:=by rfl)(hx:y∈xs:=by simp):QG (ay X scope xs R fp s H C) (.Name y pos) (df i):=
 ⟨j6 (X:=ay X scope xs R fp s H C) (bu.of hS).nd hi (.inl (jz hS hx)) (.inr (jz hS hx))⟩
theorem qj {tg:Expr}{sg:GG}(xs:List Str)(hS:cg scope X.env.kindOf xs R X.N=true)(hm:mk=bo∨mk=cQ)(own:QO xs.length sg)(hi:QI X tg iter gI)(hg:∀fp s H C,QG (ay X scope xs R fp s H C) tg sg)(hts:xl X scope xs R ifs gC)(he:∀fp s H C,QE (ay X scope xs R fp s H C) elt ge)
  (hc:X.calm=true:=by rfl) (hs:∀x,foldedSetIterable iter X.env x=pure x:=by intro _;rfl):QE X (.ListComp elt [⟨tg,iter,ifs,0⟩] scope pos) (cy gI xs.length sg gC ge mk):=⟨lw hS hc hm hi.h own.h (fun fp s H C=>(hg fp s H C).h) hts.h (fun fp s H C=>(he fp s H C).h) hs⟩
end
def fH:Expr→Bool
 | .ListComp ..=>false
 | .SetComp ..=>false
 | .DictComp ..=>false
 | _=>true
theorem fM {t:Option Expr}{l:Nat}{env:Env}(h:fH e=true):swapsWith e t l env=pure false:=by
 cases e <;> first|rfl|exact ff h
section
variable {st:Stmt}{stmts:List Stmt}{t u:GS}
theorem wG:QB X [] bx:=⟨wD⟩
theorem tm (h1:QS X st t)(h2:QB X stmts u):QB X (st::stmts) (au t u):=⟨ua h1.h h2.h⟩
theorem vG (h1:QS X st t):QB X [st] t:=⟨wU h1.h⟩
theorem uP (i:Nat){x:Str}(hN:X.N.Nodup)(he:QE X e g)(hi:X.N[i]?=some x:=by rfl)(hx:qW X.env.scope x:=by first|exact Or.inl rfl|exact Or.inr rfl)(hs:fH e=true:=by rfl)(hf:X.fn x=true∨X.env.scope.names.lookup x=some .local:=by first|exact .inl rfl|exact .inr rfl) :
  QS X (.Assign [.Name x pos'] e pos) (aC i g):=⟨ss i hN he.h hi hx (fM hs) hf⟩
theorem wF (he:QE X e g):QS X (.Return (some e) pos) (bc g):=⟨uT he.h⟩
theorem tu (he:QE X e g)(hs:fH e=true:=by rfl):QS X (.Expr e pos) (d7 g):=⟨rX he.h (fM hs)⟩
theorem xI {a b:List Stmt}{tc:GT}(hc:QT X c tc)(ha:QB X a t)(hb:QB X b u):QS X (.If c a b pos) (fz tc t u):=⟨yq hc.h ha.h hb.h⟩
theorem qn (i:Nat){x:Str}(hN:X.N.Nodup)(hi:X.N[i]?=some x:=by rfl)(hx:qW X.env.scope x:=by first|exact Or.inl rfl|exact Or.inr rfl)(hf:X.fn x=true∨X.env.scope.names.lookup x=some .local:=by first|exact .inl rfl|exact .inr rfl):QG X (.Name x pos) (df i):=⟨gg i hN hi hx hf⟩
theorem sH:zd X [] []:=⟨rM⟩
theorem xT {i:Nat}{is:List Nat}(h1:QG X e (df i))(h2:zd X es is)(hs:(assignEach (e::es) X.env).map (·.2)=assign e X.env::(assignEach es X.env).map (·.2):=by rfl):zd X (e::es) (i::is):=⟨oS h1.h h2.h hs⟩
theorem uS {is:List Nat}{k n:Nat}(h:zd X es is)(hc:X.calm=true:=by rfl)(hl:is.length=n:=by rfl)(hn:(assignEach es X.env).length=n:=by rfl)(hst:(assignEach es X.env).findIdx? (·.1)=none:=by rfl):QG X (.Tuple es k pos) (cB is):=⟨vI hc h.h hl hn hst⟩
theorem vW {tg:Expr}{s:GG}(he:QE X e g)(hg:QG X tg s)(hs:fH e=true:=by rfl)(hw:swappedStores [tg] e X.env=pure none:=by rfl)(h1:(assignEach [tg] X.env).map (·.2)=[assign tg X.env]:=by rfl):QS X (.Assign [tg] e pos) (dt s g):=⟨vK he.h hg.h (fM hs) hw h1⟩
theorem vA {ip:Pos}(he:QE X e g)(ho:QE X o go)(hi:QE X i gi)
  (ha:∀v,assign (.Subscript o i ip) X.env v=(do
   let ov ←holding [v] (eval o X.env)
   let iv ←holding [v,ov] (eval i X.env)
   standAt ip
   holding [v,ov,iv] (setItem ov iv v)
   release [v,ov,iv] []):=by intro _;rfl)
  (hs:fH e=true:=by rfl) (hw:swappedStores [.Subscript o i ip] e X.env=pure none:=by rfl):QS X (.Assign [.Subscript o i ip] e pos) (dA go gi g):=⟨vT he.h ho.h hi.h ha (by unfold swapsWithSole;exact fM hs) hw rfl⟩
theorem vQ {tg iter:Expr}{body:List Stmt}{gI:GI}{sg:GG}{gB:GS}(hp:PassesOwn (model X.prog X.w) X.A X.env X.xe)(hi:QI X tg iter gI)(hg:QG X tg sg)(hb:QB X body gB)(hc:X.calm=true:=by rfl)(hs:∀x,foldedSetIterable iter X.env x=pure x:=by intro _;rfl) :
  QS X (.For tg iter body [] pos) (gT gI sg gB):=⟨wo hp hc hi.h hg.h hb.h hs⟩
theorem p5 {body:List Stmt}{tc:GT}{gB:GS}{n:Nat}(hp:PassesOwn (model X.prog X.w) X.A X.env X.xe)(hc:QT X c tc)(hb:QB X body gB):QS X (.While c body [] pos) (ft n tc gB):=⟨qU hp hc.h hb.h⟩
end
end
structure Mf (K:W.Frag)(C:Addr)(x qual:Str)(st:Stmt)(f:Addr)(fd:FuncData)(ps:List Str):Prop where
 F:vS K x qual st f fd
 me:Ao K C x f
 b:ej K fd ps []
theorem yx {P:Program}{w:World}{K:W.Frag}{mg:Str→Option Value}{base:Heap}{x qual:Str}{st:Stmt}{f:Addr}{fd:FuncData}{N ps:List Str}{k n:Nat}{g:GS}(F:vS K x qual st f fd)(S:eP N ps (aZ st))(hn:ps.length=n)
  (hbody:∀(cdv:Value) (A:Around) (outer:List Env) (s:Shared) (H:Hp) (E:XK),cc k (A.deeper (envOfC qual (aZ st) s.heap.objs.size f cdv))→QB (fY (gN P w) P w K mg base N qual (aZ st) f cdv A outer s H E) (cI st) g) :
  dD P w K mg base (gN P w) (k+1) f fd ps (l8 K n (cb (N.length-n) g)):=AY F S hn fun cdv A outer s H E hr=>(hbody cdv A outer s H E hr).h
theorem vO {l:W.OpenLaw}{n k:Nat}{q:Program}{loose:List Str}{XP:(Str→Option Value)→Heap→Prop}{YP:World→Heap→Prop}{d:DefRec}{K:Params→W.Frag}{x:Str}{F:FD}
  (hn:l.most=some n) (hn2:n≤sizeLine) (hdf:d.params.defaults=[]) (hr:cc k callerA) (hY:∀(w:World) (h:Heap),YP w h→(K w.params).In h)
  (hF:∀(w:World) (mg:Str→Option Value) (fa:Addr) (h:Heap),(K w.params).In h→h.Ns mainGlobals mg→mg d.name=some (.ref fa)→
   ∃fd:FuncData,(∀(s:Shared) (u:Value),BindsTo s fd ⟨[u],[]⟩ [(x,u)])∧∀base:Heap,(K w.params).In base→base.Ns mainGlobals mg→dD l.prog w (K w.params) mg base (gN l.prog w) k fa fd [x] (l8 (K w.params) 1 F))
  (h1:∀w:World,W.nsIn (K w.params) mainGlobals "ink_shown"=some none) (h2:∀w:World,W.nsIn (K w.params) mainGlobals "table_within"=some none)
  (h3:∀w:World,W.nsIn (K w.params) mainGlobals "slots_given"=some none) (h4:∀w:World,W.nsIn (K w.params) mainGlobals "cast_on_slots"=some none)
  (ht:∀ns:List Int,ns.length≤n→∃M',F [.ro (ns.map D.int)] []=.ok (.bl true) M') :
  W.WalkO q loose XP YP l.row.toRowW d [] (fun f vs=>PySem.call f vs):=
 L2.walk_of (CX:=fun w=>gN l.prog w) (sp:=fun w=>l8 (K w.params) 1 F) hn hn2 hdf hr hY hF (fun w H a ns hl _ hS=>wC (.no fun y hy=>by
  simp only[c7,mem_cons,not_mem_nil,or_false] at hy;rcases hy with rfl|rfl|rfl|rfl
  ·exact h1 w
  ·exact h2 w
  ·exact h3 w
  ·exact h4 w) hS (ht ns hl)) fun w H s e s' z=>yo z
end DL
namespace PySem
end PySem
namespace L2
open PySem PySem.Spec PyProof.Rows List
def sortI (ns:List Int):List Int:=ns.mergeSort fun a b=>decide (a≤b)
end L2
namespace DL
open PySem PySem.Spec PyProof.Rows L2 List
def m3:D→Option bv
 | .int i=>some (.inl i)
 | .str x=>some (.inr x)
 | _=>none
def nD:List D→Option (List bv)
 | []=>some []
 | d::ds=>match m3 d,nD ds with
  | some k,some ks=>some (k::ks)
  | _,_=>none
def iB:D→Option (List bv)
 | .tup ds=>nD ds
 | _=>none
def cz {κ:Type}[DecidableEq κ](kvs:List (κ×D))(k:κ):Option D:=(kvs.find? fun kv=>decide (kv.1=k)).map (·.2)
section
variable {K:W.Frag}{θ:List Addr}{H:Hp}
theorem xF {d:D}{k:bv}{v:V}(e:m3 d=some k)(r:cw K θ H d v):v=kV k:=by
 cases d <;> simp only[m3,Option.some.injEq,reduceCtorEq] at e
 ·subst e;exact r
 ·subst e;exact r
theorem pd:∀{ds:List D} {ks:List bv} {vs:List V},nD ds=some ks→aK K θ H ds vs→vs=ks.map kV
 | [],ks,vs,e,r=>by
  simp only[nD,Option.some.injEq] at e;subst e;exact r
 | d::ds,ks,vs,e,r=>by
  obtain⟨v,us,e1,r1,r2⟩:=r;simp only[nD] at e;cases q1:m3 d with
  | none=>rw[q1] at e;cases e
  | some k=>
   cases q2:nD ds with
   | none=>rw[q1,q2] at e;cases e
   | some ks'=>
    rw[q1,q2] at e;cases e;rw[e1,xF q1 r1,pd q2 r2];rfl
theorem wv {d:D}{ks:List bv}{v:V}(e:iB d=some ks)(r:cw K θ H d v):∃b,v=.ref b∧H b=some (.tup (ks.map kV))∧b∉θ:=by
 cases d with
 | tup ds=>
  obtain⟨a,vs,e1,t,r1⟩:=r;rw[pd e r1] at t;exact⟨a,e1,t.1,t.2⟩
 | _=>cases e
section
variable {κ:Type}[DecidableEq κ]
theorem oI {p:κ×D}{r:List (κ×D)}{k:κ}(e:p.1=k):cz (p::r) k=some p.2:=by simp[cz,find?_cons,e]
theorem oU {p:κ×D}{r:List (κ×D)}{k:κ}(e:¬p.1=k):cz (p::r) k=cz r k:=by simp[cz,find?_cons,e]
theorem fR:∀{fs:List (κ×D)} {vs:List (κ×V)} (k:κ),fS K θ H fs vs→(∀d,cz fs k=some d→∃v,eX vs k=some v∧cw K θ H d v)∧(cz fs k=none→eX vs k=none)
 | [],vs,k,r=>by
  have e:vs=[]:=r;subst e;exact⟨fun d h=>(by cases h),fun _=>rfl⟩
 | p::fs,vs,k,r=>by
  obtain⟨k0,d0⟩:=p;obtain⟨v,us,e,h1,h2⟩:=r;subst e
  by_cases q:k0=k
  ·rw[oI (p:=(k0,d0)) q,fU (p:=(k0,v)) q];exact⟨fun d h=>(by cases h;exact⟨v,rfl,h1⟩),fun h=>(by cases h)⟩
  ·rw[oU (p:=(k0,d0)) q,fW (p:=(k0,v)) q];exact fR k h2
theorem jc {k:κ}{d:D}{v:V}(h:cw K θ H d v):∀{fs:List (κ×D)} {vs:List (κ×V)},fS K θ H fs vs→fS K θ H (fs++[(k,d)]) (vs++[(k,v)])
 | [],vs,r=>by
  have e:vs=[]:=r;subst e;exact⟨v,[],rfl,h,rfl⟩
 | (k0,d0)::fs,vs,r=>by
  obtain⟨u,us,e,h1,h2⟩:=r;subst e;exact⟨u,us++[(k,v)],rfl,h1,jc h h2⟩
theorem dh:∀{fs:List (κ×D)} {vs:List (κ×V)},fS K θ H fs vs→fs.length=vs.length
 | [],vs,r=>by
  have e:vs=[]:=r;subst e;rfl
 | (k0,d0)::fs,vs,r=>by
  obtain⟨u,us,e,h1,h2⟩:=r;subst e;rw[length_cons,length_cons,dh h2]
end
end
section
variable {X:Cx}{pos apos cpos:Pos}{o e f:Expr}
def kN:GE:=fun _ M=>.ok (.mr M.length) (M++[.dT []])
theorem tB:PE X (.Dict [] [] pos) (tE X kN):=pI.of fun σ H Q ⟨ρ,θ,M,hd,hw,h⟩ p hp=>by
 have h:aI X θ H Q (.ok (.mr M.length) (M++[.dT []])):=h;exact h _ _ _ (mL hw hp ⟨[],bZ,rfl⟩) (k9 hw)
def xA:List D→Option (List Int)
 | []=>some []
 | .int i::ds=>(xA ds).map (i::·)
 | _::_=>none
end
section
variable {X:Cx}{pos apos cpos:Pos}{o e f:Expr}{go gy gz:GE}
theorem qY:QE X (.Dict [] [] pos) kN:=⟨tB⟩
end
end DL
namespace L2
open PySem PySem.Spec PyProof.Rows List
end L2
namespace DL
open PySem PySem.Spec PyProof.Rows L2 List
end DL
namespace L2
open PySem PySem.Spec PyProof.Rows List
end L2
namespace DL
open PySem PySem.Spec PyProof.Rows L2 List
theorem bU {N ps:List Str}{sc:Scope}(h1:sc.kind=.function:=by rfl)(h2:sc.isCoroutine=false:=by rfl)(h3:sc.isGenerator=false:=by rfl)(h4:N.Nodup:=by decide +kernel)(h5:N.take ps.length=ps:=by rfl)
  (h6:∀x∈ps,sc.names.lookup x=some .local∨sc.names.lookup x=some .cell:=by decide +kernel) (h7:∀y∈sc.names,y.2≠.free:=by decide +kernel):eP N ps sc:=⟨h1,h2,h3,h4,h5,h6,h7⟩
section
variable {X:Cx}{e:Expr}{es:List Expr}{x:Str}{p pos:Pos}{gA:GA}{k k' n:Nat}{f:Addr}{fd:FuncData}{ps:List Str}{F:FD}{st:Stmt}{id:String}{T:String}
theorem yV (hc:QC X (.builtin id) F)(hm:X.mg x=none)(hv:bootBuiltins x=some (.builtin id))(ha:QA X (e::es) gA)(hg:Gl X x:=by rfl)(hn:x≠"__name__":=by decide)(hdb:(x==("__debug__":Str))=false:=by decide)
  (h1:bF e=true:=by rfl) (h2:cm es=true:=by rfl):QE X (.Call (.Name x p) (e::es) [] pos) (aH F gA):=xY hc hg hm hv ha hn hdb h1 h2
end
def FF (K:W.Frag)(mg:Str→Option Value)(x:Str)(st:Stmt)(ps:List Str):Prop:=∃f fd,Fn K mg x st f fd ps
def KC (K:W.Frag)(mg:Str→Option Value)(c:Str)(C:Addr):Prop:=Kc K mg c C∧W.makesIn K C=true∧W.keepIn K (.ref C)=true
def MF (K:W.Frag)(mg:Str→Option Value)(c m q:Str)(st:Stmt)(ps:List Str):Prop:=∃C f fd,KC K mg c C∧Mf K C m q st f fd ps
def LF (K:W.Frag)(mg:Str→Option Value)(x:Str)(st:Stmt)(ps:List Str):Prop:=∃f fd c P,Fn K mg x st f fd ps∧W.nsIn K mainGlobals x=some (some (.ref f))∧AH K x c P
def NA (K:W.Frag)(mg:Str→Option Value)(c f:Str):Prop:=∃C,KC K mg c C∧wu K C f
def EX (K:W.Frag)(mg:Str→Option Value)(x:Str):Prop:=∃C,Ec K mg x C
def IX (K:W.Frag)(mg:Str→Option Value)(x:Str)(tab:List (Str×Bool)):Prop:=∃G,Ec K mg x G∧∀p∈tab,∃C,Ec K mg p.1 C∧W.mroIn K C (.ref G)=some p.2
def IB (K:W.Frag)(mg:Str→Option Value)(x:String)(tab:List (Str×Bool)):Prop:=∀p∈tab,∃C,Ec K mg p.1 C∧W.mroIn K C (.type x)=some p.2
def Ls {α:Type}(P:α→Prop)(l:List α):Prop:=∀t∈l,P t
section
variable {α β γ:Type}{P:α→Prop}{l:List α}{a:α}
theorem Ls.nil:Ls P []:=fun _ h=>by cases h
theorem Ls.cons (h:P a)(t:Ls P l):Ls P (a::l):=fun x hx=>by
 rcases mem_cons.mp hx with e|e
 ·rw[e];exact h
 ·exact t x e
end
structure RN (l c:Nat)(xs R:List Str):Prop
theorem rn (l c:Nat)(xs R:List Str):RN l c xs R:=⟨⟩
def Ok (P:Program)(w:World)(K:W.Frag)(mg:Str→Option Value)(base:Heap)(x:Str)(k n:Nat)(F:FD):Prop:=
 ∃f fd ps,dD P w K mg base (gN P w) k f fd ps (l8 K n F)∧mg x=some (.ref f)∧W.keepIn K (.ref f)=true∧ej K fd ps []
section
variable {P:Program}{w:World}{K:W.Frag}{mg:Str→Option Value}{base:Heap}{x c m q:Str}{st:Stmt}{N ps:List Str}{k n:Nat}{g:GS}{F:FD}
theorem jT (h:Ok P w K mg base x k n F):Ok P w K mg base x k n fun ds M=>fV M.length (F ds M):=by
 obtain⟨f,fd,ps,h1,h2,h3,h4⟩:=h;exact⟨f,fd,ps,ww h1,h2,h3,h4⟩
theorem dG (T:FF K mg x st ps)(N:List Str)(S:eP N ps (aZ st))(hn:ps.length=n)
  (hb:∀(f:Addr) (cdv:Value) (A:Around) (outer:List Env) (s:Shared) (H:Hp) (E:XK),N.Nodup→cc k (A.deeper (envOfC x (aZ st) s.heap.objs.size f cdv))→QB (fY (gN P w) P w K mg base N x (aZ st) f cdv A outer s H E) (cI st) g) :
  Ok P w K mg base x (k+1) n (cb (N.length-n) g):=by
 obtain⟨f,fd,T⟩:=T;exact⟨f,fd,ps,yx T.F S hn fun cdv A outer s H E hr=>hb f cdv A outer s H E S.nd hr,T.m,T.F.kp,T.b⟩
end
section
variable {X:Cx}{e a o value:Expr}{es:List Expr}{x c m f:Str}{p p2 pos apos pos':Pos}{gA:GA}{g go gv:GE}{k k' n:Nat}{F:FD}{tab:List (Str×Bool)}{bs:List Str}
theorem yb (h:Ok X.prog X.w X.K X.mg X.base x k n F)(hr:cc k' X.A)(ha:QA X (e::es) gA)(hk:k≤k':=by first|decide|omega)(hg:Gl X x:=by rfl)
  (hdb:(x==("__debug__":Str))=false:=by decide) (h1:bF e=true:=by rfl) (h2:cm es=true:=by rfl):QE X (.Call (.Name x p) (e::es) [] pos) (aj n F gA):=by
 obtain⟨f,fd,ps,h1',h2',h3,h4⟩:=h;exact xB h1' (hr.mono hk) hg h2' h3 h4 ha hdb h1 h2
end
section
variable {X:Cx}{x:Str}{pos px:Pos}{ge:GE}{scope:Scope}{xs R:List Str}{iter elt tg:Expr}{ifs:List Expr}{gI:GI}{gC:GT}{sg:GG}{mk:List D→am→aN D}{j:Nat}{y:Str}{py spos:Pos}{n:Nat}
theorem pO (hS:cg scope X.env.kindOf [x] X.N X.N=true)(hm:mk=bo∨mk=cQ)(hi:QI X (.Name x px) iter gI)(hts:xl X scope [x] X.N ifs gC)(he:∀fp s H C,QE (ay X scope [x] X.N fp s H C) elt ge)
  (hc:X.calm=true:=by rfl) (hs:∀x,foldedSetIterable iter X.env x=pure x:=by intro _;rfl):QE X (.ListComp elt [⟨.Name x px,iter,ifs,0⟩] scope pos) (cr gI gC ge mk):=sI hS hm hi hts he hc hs
theorem ot (_:RN pos.line pos.col xs R)(hS:cg scope X.env.kindOf xs R X.N=true)(hm:mk=bo∨mk=cQ)(own:QO xs.length sg)(hi:QI X tg iter gI)(hg:∀fp s H C,QG (ay X scope xs R fp s H C) tg sg)(hts:xl X scope xs R ifs gC)(he:∀fp s H C,QE (ay X scope xs R fp s H C) elt ge)
  (hn:xs.length=n:=by rfl) (hc:X.calm=true:=by rfl) (hs:∀x,foldedSetIterable iter X.env x=pure x:=by intro _;rfl):QE X (.ListComp elt [⟨tg,iter,ifs,0⟩] scope pos) (cy gI n sg gC ge mk):=hn▸qj xs hS hm own hi hg hts he hc hs
end
structure Tx (tab:List (Str×Stmt×List Str))(mtab:List (Str×Str×Str×Stmt×List Str))(ls:List (Str×Stmt×List Str))(zs es:List Str)(rs:List (Str×List (Str×Bool)))(vt:List (Str×Bool))(nas:List (Str×Str))(cs:List (Str×Str))(ci:List (Str×Int))
  (P:Program) (w:World) (K:W.Frag) (mg:Str→Option Value) (base:Heap):Prop where
 f:Ls (fun t=>FF K mg t.1 t.2.1 t.2.2) tab
 m:Ls (fun t=>MF K mg t.1 t.2.1 t.2.2.1 t.2.2.2.1 t.2.2.2.2) mtab
 l:Ls (fun t=>LF K mg t.1 t.2.1 t.2.2) ls
 z:∀x∈zs,mg x=none
 e:∀x∈es,EX K mg x
 r:Ls (fun t=>IX K mg t.1 t.2) rs
 b:IB K mg "ValueError" vt
 a:∀t∈nas,NA K mg t.1 t.2
 s:Ls (fun t=>∃tk,mg t.1=some (.str t.2 tk)) cs
 i:Ls (fun t=>∃tk,mg t.1=some (.int t.2 tk)) ci
theorem ul {K:W.Frag}{mg:Str→Option Value}{l:List (Str×List (Str×Bool))}{x:Str}{t:List (Str×Bool)}(h:Ls (fun t=>IX K mg t.1 t.2) l)(e:l.lookup x=some t):IX K mg x t:=by
 refine h (x,t) ?_
 induction l with
 | nil=>cases e
 | cons p l ih=>
  obtain⟨y,u⟩:=p;rw[lookup_cons] at e;split at e
  ·rename_i q;cases e;rw[eq_of_beq q];exact .head _
  ·exact .tail _ (ih (fun t ht=>h t (.tail _ ht)) e)
section
variable {K:W.Frag}{mg:Str→Option Value}{x c m q:Str}{st:Stmt}{ps:List Str}{l:List (Str×Stmt×List Str)}{l':List (Str×Str×Str×Stmt×List Str)}
theorem dC (h:Ls (fun t=>FF K mg t.1 t.2.1 t.2.2) l)(i:Nat)(e:l[i]?=some (x,st,ps):=by rfl):FF K mg x st ps:=h _ (mem_of_getElem? e)
end
section
variable {K:W.Frag}{h:Heap}{mg:Str→Option Value}{x c m q f':Str}{st:Stmt}{ps:List Str}{f C G:Addr}{oc kV dc pm cd ct:Value}{od an:Option Addr}{sl:Array (Option Value)}
theorem yI (X:K.In h)(Gm:h.Ns mainGlobals mg)(a:W.nsIn K mainGlobals x=some (some (.ref f)))(l:K.lookup f=some ⟨oc,od,.func (W.fnOf x x (dX st) (cI st) (aZ st) .none kV dc pm an cd ct),sl⟩)(c:W.codeIn K cd x=true)(k:W.keepIn K (.ref f)=true)
  (b:∀(kV doc pm:Value) (an:Option Addr) (cdv ct:Value) (us:List Value),us.length=ps.length→bindArgs (W.fnOf x x (dX st) (cI st) (aZ st) .none kV doc pm an cdv ct) ⟨us,[]⟩=pure (ps.zip us)):FF K mg x st ps:=
 ⟨f,_,oG (st:=st) l c k,W.mg_of X Gm a,(oG (st:=st) l c k).binds b⟩
theorem yN (kC:KC K mg c C)(a:W.findIn K (.ref C) f'=some none):NA K mg c f':=⟨C,kC,a⟩
theorem yt (h:Ec K mg x C):EX K mg x:=⟨C,h⟩
theorem x9 {tab:List (Str×Bool)}(h:Ec K mg x G)(t:Ls (fun p=>∃C,Ec K mg p.1 C∧W.mroIn K C (.ref G)=some p.2) tab):IX K mg x tab:=⟨G,h,t⟩
theorem Ar (X:K.In h)(Gm:h.Ns mainGlobals mg)(e:W.nsIn K mainGlobals x=some none):mg x=none:=W.mg_none_of X Gm e
theorem zu {u:Tok→Value}{tk:Tok}(X:K.In h)(Gm:h.Ns mainGlobals mg)(e:W.nsIn K mainGlobals x=some (some (u tk))):∃tk,mg x=some (u tk):=⟨tk,W.mg_of X Gm e⟩
end
section
variable {P:List Value→Prop}
theorem A7 (h:∀a b,P [a,b])(us:List Value)(hl:us.length=2):P us:=by
 match us,hl with
 | [a,b],_=>exact h a b
end
theorem v8 {l:W.OpenLaw}{w:World}{K:W.Frag}{mg:Str→Option Value}{fa:Addr}{st:Stmt}{k:Nat}{F:FD}(hfa:mg "law"=some (.ref fa))(L:FF K mg "law" st ["script"])
  (h:∀(base:Heap) (f:Addr) (fd:FuncData),Fn K mg "law" st f fd ["script"]→dD l.prog w K mg base (gN l.prog w) k f fd ["script"] (l8 K 1 F))
  (hb:∀(kV doc pm:Value) (an:Option Addr) (cdv ct:Value) (v:Value),bindArgs (W.fnOf "law" "law" (dX st) (cI st) (aZ st) .none kV doc pm an cdv ct) ⟨[v],[]⟩=pure [(("script":Str),v)]) :
  ∃fd:FuncData,(∀(s:Shared) (v:Value),BindsTo s fd ⟨[v],[]⟩ [("script",v)])∧∀base:Heap,K.In base→base.Ns mainGlobals mg→dD l.prog w K mg base (gN l.prog w) k fa fd ["script"] (l8 K 1 F):=by
 obtain⟨f,fd,L⟩:=L;have e:=hfa.symm.trans L.m;cases e;refine⟨fd,fun s v=>?_,fun base _ _=>h base _ fd L⟩;obtain⟨oc,od,kV,doc,pm,an,cdv,ct,osl,rfl,lk,hcd⟩:=L.F.ex;exact .of_eq (hb kV doc pm an cdv ct v)
end DL
namespace DL
open PySem PySem.Spec PyProof.Rows PySem.W L2 List
section
variable {key:Nat→Int}{N:Nat}{s:Shared}{cmp:Nat→Nat→(Bool→Shared→Prop)→Shared→Prop}
def kp (key:Nat→Int)(p:Array Nat)(k:Nat):Int:=key (p.getD k 0)
def up (key:Nat→Int)(p:Array Nat)(n:Nat):Prop:=∀k,k+1<n→kp key p k≤kp key p (k+1)
end
section
def rank (zs:List (List Int))(z:List Int):Int:=(zs.countP fun y=>HT.lexLt y z:Nat)
def xU (zs:List (List Int)):List (List Int):=zs.mergeSort fun a b=>!HT.lexLt b a
end
def Av (z:List Int):D:=.tup (z.map D.int)
def uH:List D→Option (List (List Int))
 | []=>some []
 | d::ds=>match zD d,uH ds with
  | some (i::z),some zs=>some ((i::z)::zs)
  | _,_=>none
def A8:FD:=fun ds M=>match ds with
 | [d]=>match mv d M with
  | some xs=>match xA xs with
   | some ns=>if ns.length<64 then .ok (.lst ((L2.sortI ns).map D.int)) M else .bad
   | none=>match uH xs with
    | some zs=>if zs.length<64 then .ok (.lst ((xU zs).map Av)) M else .bad
    | none=>.bad
  | none=>.bad
 | _=>.bad
def xp (neg:Bool):F2:=fun x y M=>match bn y M with
 | some xs=>if ar 40 x&&xs.all (ar 40) then .ok (.bl ((xs.any fun y=>gm y x) != neg)) M else .bad
 | none=>.bad
section
variable {X:Cx}{af:List (Addr×Obj)}{σ:L2.St}{H:Hp}{s:Shared}{θ:List Addr}
noncomputable def inE (h:Heap) (px:PyData) (u:Value):Bool:=open Classical in decide (∃d as,Reads h u d as∧PyData.eqv d px=true)
theorem mq {h:Heap}{px d:PyData}{u:Value}{as:List Addr}(r:Reads h u d as)(l:d.canLay0=true):inE h px u=PyData.eqv d px:=by
 unfold inE;cases e:PyData.eqv d px with
 | true=>exact @decide_eq_true _ (Classical.propDecidable _) ⟨d,as,r,e⟩
 | false=>
  refine @decide_eq_false _ (Classical.propDecidable _) fun hxx=>?_
  obtain⟨d',as',r',e'⟩:=hxx;have:=SeqAt.Reads.unique d d' u as as' l r r';subst this;rw[e] at e';cases e'
theorem hX (I:L2.Inv X af σ H s){x:D}(hx:ar 40 x=true):∀{ds:List D} {vs:List V} {us:List Value},ds.all (ar 40)=true→aK X.K θ H ds vs→aE vs us→us.any (inE s.heap (eA x))=(ds.any fun y=>gm y x)∧∀u∈us,∃d as,Reads s.heap u d as∧d.canLay0=true∧d.depth≤40
 | [],vs,us,_,r,v=>by
  have e:vs=[]:=r;subst e;cases v;exact⟨rfl,fun u hu=>by cases hu⟩
 | d::ds,vs,us,c,r,v=>by
  rw[all_cons,Bool.and_eq_true] at c;obtain⟨v1,vr,e1,r1,r2⟩:=r;subst e1;cases v with
  | cons h1 h2=>
   obtain⟨a,b⟩:=hX I hx c.2 r2 h2;obtain⟨as,R⟩:=eD I d 40 _ _ c.1 r1 h1;have l:=eW d 40 c.1;refine⟨?_,fun u hu=>?_⟩
   ·rw[any_cons,any_cons,a,mq R l.1,hV d x 40 40 c.1 hx]
   ·rcases mem_cons.mp hu with e|e
    ·rw[e];exact⟨_,as,R,l.1,l.2⟩
    ·exact b u e
end
end DL
namespace DL
open PySem PySem.Spec PyProof.Rows L2 List
def xO (x y:D)(M:am)(i:Nat)(kvs:List (List bv×D))(k:List bv):Prop:=x=.mr i∧M[i]?=some (.dT kvs)∧iB y=some k
def dH {α:Type}(f:Nat→List (List bv×D)→List bv→am→aN α)(x y:D)(M:am):aN α:=match x with
 | .mr i=>match M[i]? with
  | some (.dT kvs)=>match iB y with
   | some k=>f i kvs k M
   | none=>.bad
  | _=>.bad
 | _=>.bad
theorem h8 {α:Type}(f:Nat→List (List bv×D)→List bv→am→aN α)(x y:D)(M:am):dH f x y M=.bad∨∃i kvs k,xO x y M i kvs k∧dH f x y M=f i kvs k M:=by
 cases x with
 | mr i=>
  cases q:M[i]? with
  | none=>exact .inl (by unfold dH;dsimp only;rw[q])
  | some m=>
   cases m with
   | dT kvs=>
    cases qk:iB y with
    | none=>exact .inl (by unfold dH;dsimp only;rw[q];dsimp only;rw[qk])
    | some k=>exact .inr ⟨i,kvs,k,⟨rfl,q,qk⟩,by unfold dH;dsimp only;rw[q];dsimp only;rw[qk]⟩
   | _=>exact .inl (by unfold dH;dsimp only;rw[q])
 | _=>exact .inl rfl
def xi (neg:Bool):F2:=fun y x=>dH (fun _ kvs k M=>.ok (.bl ((cz kvs k).isSome != neg)) M) x y
def kW:F2:=dH fun _ kvs k M=>match cz kvs k with
 | some r=>.ok r M
 | none=>.bad
section
variable {K:W.Frag}{θ:List Addr}{H:Hp}{M:am}
theorem p7 {x y:D}{i:Nat}{kvs:List (List bv×D)}{k:List bv}{vx vy:V}(hw:Wr K θ H M)(h:xO x y M i kvs k)(r1:cw K θ H x vx)(r2:cw K θ H y vy) :
  ∃a b vs,vx=.ref a∧vy=.ref b∧θ[i]?=some a∧H a=some (.dT vs)∧H b=some (.tup (k.map kV))∧fS K θ H kvs vs:=by
 rw[h.1] at r1;obtain⟨a,ea,ta⟩:=r1;obtain⟨vs,hv,ra⟩:=hw.at_ i a _ ta h.2.1;obtain⟨b,eb,hb,_⟩:=wv h.2.2 r2;exact⟨a,b,vs,ea,eb,ta,hv,hb,ra⟩
theorem rc {kvs:List (List bv×D)}{vs:List (List bv×V)}(k:List bv)(ra:fS K θ H kvs vs):(eX vs k).isSome=(cz kvs k).isSome:=by
 obtain⟨i1,i2⟩:=fR k ra;cases q:cz kvs k with
 | none=>rw[i2 q];rfl
 | some r=>
  obtain⟨v,e,_⟩:=i1 r q;rw[e];rfl
end
section
variable {X:Cx}{pos:Pos}{o i e:Expr}{go gi ge:GE}
theorem nz (hu:X.A.units+1<cLine):dB X (compareOp .NotIn) (rD X (xi true)):=by
 intro af s σ H x y v u Q I rx ry h;obtain⟨θ,M,dx,dy,hw,r1,r2,h⟩:=h;rcases h8 (fun _ kvs k M=>aN.ok (D.bl ((cz kvs k).isSome != true)) M) dy dx M with e|⟨j,kvs,k,t,e⟩
 ·have h:aI X θ H Q (dH _ dy dx M):=h;rw[e] at h;exact h.elim
 have h:aI X θ H Q (dH _ dy dx M):=h;rw[e] at h;obtain⟨a,b,vs,ea,eb,ta,hv,hb,ra⟩:=p7 hw t r2 r1;rw[ea] at ry;have eu:u=.ref a:=ry;rw[eb] at rx;rw[eu];refine qZ hu I (kD.t hv hb) rx fun s' I'=>⟨.bl (!(eX vs k).isSome),H,I',rfl,?_⟩
 rw[rc k ra,show(!(cz kvs k).isSome)=((cz kvs k).isSome != true) by cases (cz kvs k).isSome <;> rfl];exact h _ θ H (.refl hw) rfl
theorem s9 (hu:X.A.units+1<cLine)(ho:PE X o (tE X go))(hi:PE X i (tE X gi))(hs:rF i):PE X (.Subscript o i pos) (tE X (g2 kW go gi)):=(rl hu ho hi hs).of fun σ H Q hxx=>by
 obtain⟨ρ,θ,M,hd,hw,h⟩:=hxx;refine bB hd hw (aI X θ H Q) (fun c M' h=>h) (fun h=>h) h fun d1 M1 v1 θ1 H1 g1 r1 h1=>?_
 have h1:=aI.go g1 h1;refine bB (hd.go g1) g1.wr (aI X θ1 H1 Q) (fun c M' h=>h) (fun h=>h) h1 fun d2 M2 v2 θ2 H2 g2 r2 h2=>?_
 have h2:=aI.go g2 h2;have r1:=r1.go g2;unfold kW at h2;rcases h8 (fun _ kvs k M=>match cz kvs k with|some r=>aN.ok r M|none=>.bad) d1 d2 M2 with e|⟨j,kvs,k,t,e⟩
 ·rw[e] at h2;exact h2.elim
 rw[e] at h2;obtain⟨a,b,vs,ea,eb,ta,hv,hb,ra⟩:=p7 g2.wr t r1 r2;cases q:cz kvs k with
 | none=>rw[q] at h2;exact h2.elim
 | some r=>
  rw[q] at h2;obtain⟨v,ev,rv⟩:=(fR k ra).1 r q;refine⟨a,v,ea,?_,h2 v θ2 H2 (.refl g2.wr) rv⟩;rw[eb,←ev];exact kD.t hv hb
def vh (z:D):D→D→am→aN Unit:=dH fun i kvs k N=>match cz kvs k with
 | some _=>.bad
 | none=>if kvs.length<sizeLine then .ok () (N.set i (.dT (kvs++[(k,z)]))) else .bad
def jh (gd gy gv:GE):GS:=fun ρ M=>(gv ρ M).bind fun z M1=>(gd ρ M1).bind fun d M2=>(gy ρ M2).bind fun y M3=>(vh z d y M3).bind fun _ M4=>.ok (.nx ρ) M4
theorem sF {pos':Pos}(hu:X.A.units+1<cLine)(ho:PE X o (tE X go))(hi:PE X i (tE X gi))(hv:PE X e (tE X ge))(hs:swapsWith e (some (.Subscript o i pos')) pos.line X.env=pure false:=by rfl) :
  PS X (.Assign [.Subscript o i pos'] e pos) (tS X (jh go gi ge)):=(tH hu ho hi hv hs).of fun D σ H hxx=>by
 obtain⟨ρ,θ,M,hd,hw,h⟩:=hxx;refine bB hd hw (bH X θ H D) (fun c M' h=>h) (fun h=>h) h fun z M1 v1 θ1 H1 g1 r1 h1=>?_
 have h1:=bH.go g1 h1;refine bB (hd.go g1) g1.wr (bH X θ1 H1 D) (fun c M' h=>h) (fun h=>h) h1 fun d M2 v2 θ2 H2 g2 r2 h2=>?_
 have h2:=bH.go g2 h2;refine bB ((hd.go g1).go g2) g2.wr (bH X θ2 H2 D) (fun c M' h=>h) (fun h=>h) h2 fun y M3 v3 θ3 H3 g3 r3 h3=>?_
 have h3:=bH.go g3 h3;have r1:=r1.go (g2.trans g3);have r2:=r2.go g3;unfold vh at h3;rcases h8 (fun i kvs k N=>match cz kvs k with|some _=>aN.bad|none=>if kvs.length<sizeLine then aN.ok () (N.set i (.dT (kvs++[(k,z)]))) else .bad) d y M3 with q|⟨j,kvs,k,t,q⟩
 ·rw[q] at h3;exact h3.elim
 rw[q] at h3;obtain⟨a,b,vs,ea,eb,ta,hva,hb,ra⟩:=p7 g3.wr t r2 r3;cases qg:cz kvs k with
 | some r=>rw[qg] at h3;exact h3.elim
 | none=>
  rw[qg] at h3;dsimp only at h3
  by_cases hl:kvs.length<sizeLine
  ·rw[if_pos hl] at h3;have nv:=(fR k ra).2 qg;refine⟨a,_,ea,by rw[eb];exact qS.t hva hb (by rw[←dh ra];exact hl),?_⟩;rw[oN v1 nv];have gs:=m4 (m:=.dT (kvs++[(k,z)])) (o:=.dT (vs++[(k,v1)])) g3.wr ta ⟨_,bZ,eT (ko g3.wr ta) (jc r1 ra)⟩;exact h3 σ θ3 _ gs ((((hd.go g1).go g2).go g3).go gs)
  ·rw[if_neg hl] at h3;exact h3.elim
end
end DL
namespace DL
open PySem PySem.Spec PyProof.Rows PySem.W L2 List
def ik (h:Heap)(d:Addr)(es:Array DictEntry)(ep:Nat):Prop:=∃o,h.get? d=some o∧o.ExactDict∧o.data=.dict es ep
section
variable {prog:Program}{w:World}{A:Around}{E:Value→Shared→Prop}{s:Shared}{d it:Addr}{es:Array DictEntry}{ep i:Nat}
theorem ik.typeIs (x:ik s.heap d es ep):s.TypeIs (.ref d) "dict":=by
 obtain⟨o,ho,hc,_⟩:=x;exact⟨o,ho,hc.1⟩
theorem qf {Q:Value→Shared→Prop}(hd:(d==sysModules)=false)(x:ik s.heap d es ep)
  (hQ:Q (.ref s.heap.objs.size) {s with heap:=s.heap.push {cls:=.type "dict_keyiterator",data:=.fields #[.ref d,.int 0 0,.int es.size 0,.int ep 0]}}):wpAny (model prog w) A (pyIter (.ref d)) Q E s:=by
 have T:=x.typeIs;obtain⟨o,ho,hc,hx⟩:=x;refine wpAny_pyIter_slot T PySem.F.slot_dict_iter (wpAny_call_entry PySem.F.slot_dict_iter T PySem.F.entry_dict_iter ?_ (PySem.F.args_dict_iter_1 _));unfold Builtin.«dict.__iter__»;refine wpAny_bind ?_;unfold Builtin.Dict.dictSlotNone;refine wpAny_bind (wpAny_notOrdered_dict T ?_);show wpAny _ _ (pure (Value.ref d)) _ _ s;refine wpAny_pure ?_;show wpAny _ _ (Builtin.Dict.showsAll d >>= _) _ _ s;unfold Builtin.Dict.showsAll;rw[if_neg (by rw[hd];exact Bool.false_ne_true)];refine wpAny_bind (wpAny_pure (wpAny_bind (wpAny_dictEntries ho hx (wpAny_bind (wpAny_dictEpoch ho hx (wpAny_bind (wpAny_newObj_type (wpAny_pure ⟨_,rfl,"dict_keyiterator",_,⟨_,Heap.get?_push_size _ rfl,rfl⟩,PySem.F.slot_dict_keyiterator_next.lookup,?_⟩))))))));exact hQ
theorem sk {Q:Value→Shared→Prop}(hd:(d==sysModules)=false)(x:ik s.heap d es ep)(hf:(es.size:Int)<2 ^ 63)(h:Q (.int es.size (s.toks+1)) {s with toks:=s.toks+1+1}):wpAny (model prog w) A (call (.builtin "len") [.ref d]) Q E s:=by
 have T:=x.typeIs;obtain⟨o,ho,hc,hx⟩:=x;have m:MeetsIn prog w (Builtin.«dict.__len__» ⟨[.ref d],[]⟩) (fun _ R s'=>s'.heap=s.heap∧R (.ok (.ret (.int es.size s'.toks))) {s' with toks:=s'.toks+1}):=.of_wp fun A R s' hxx=>by
  obtain⟨eh,h⟩:=hxx;show wpAny _ _ (dictSize d >>= _) _ _ s';unfold dictSize;refine wpAny_bind (wpAny_bind (wpAny_dictEntries (by rw[eh];exact ho) hx (wpAny_pure ?_)));show wpAny _ _ (Builtin.Dict.pendingCount d >>= _) _ _ s';refine wpAny_bind (wpAny_pendingCount_other hd (wpAny_ret_mkInt ?_));rw[Nat.add_zero];exact h
 refine Calls.call_function_entry kind_len plain_len entry_len (args_len1 _) ?_;unfold Builtin.«len»;refine wpAny_bind (m:=oneArg "len" _) (wpAny_pure (wpAny_bind (m:=callSpecial? (.ref d) (Str.ofString "__len__")) (wpAny_callSpecial?_slot (name:=Str.ofString "__len__") T PySem.F.slot_dict_len (call_meetsIn PySem.F.slot_dict_len T PySem.F.entry_dict_len (PySem.F.args_dict_len_1 _) m ⟨rfl,?_⟩))));show wpAny _ _ _ _ _ {s with toks:=s.toks+1};refine wpAny_bind (wpAny_holding (wpAny_pure (wpAny_bind (wpAny_letGo ?_))));show wpAny _ _ (if((es.size:Nat):Int)<0 then _ else _) _ _ _;rw[if_neg (by omega)];show wpAny _ _ (if((es.size:Nat):Int)≥2 ^ 63 then _ else _) _ _ _;rw[if_neg (by omega)];exact wpAny_bind (wpAny_mkInt (wpAny_pure ⟨_,rfl,h⟩))
theorem ik.stay {h h':Heap}(x:ik h d es ep)(k:∀o,h.get? d=some o→h'.get? d=some o):ik h' d es ep:=by
 obtain⟨o,ho,r⟩:=x;exact⟨o,k o ho,r⟩
theorem oR {Q:Option Value→Shared→Prop}(hit:s.heap.IsKeyIter it d i es.size ep)(x:ik s.heap d es ep)(hi:i<es.size)
  (hQ:∀h',h'.IsKeyIter it d (i+1) es.size ep→Heap.SameBut it s.heap h'→Q (some es[i].key) {s with heap:=h'}):wpAny (model prog w) A (pyNext (.ref it)) Q E s:=by
 have T:=hit.typeIs;obtain⟨o,ho,hc,hd⟩:=hit;obtain⟨od,hod,hcd,hx⟩:=x;unfold pyNext;refine wpAny_bind (wpAny_attempt (wpAny_callSpecial?_slot (name:=Str.ofString "__next__") T PySem.F.slot_dict_keyiterator_next (wpAny_call_entry PySem.F.slot_dict_keyiterator_next T PySem.F.entry_dict_keyiterator_next ?_ (PySem.F.args_dict_keyiterator_next_1 _))));refine wpAny_bind (wpAny_pure (wpAny_bind (wpAny_bind ?_)))
 first|refine wpAny_bind (wpAny_typeNameOfWhole_keyiter T (wpAny_pure ?_))|refine wpAny_bind (wpAny_typeNameOf_keyiter T (wpAny_pure ?_))
 refine wpAny_bind (wpAny_fieldsOf ho hd ?_);simp only[show Builtin.Dict_items.ownsTuple "dict_keyiterator"=false by decide,Bool.false_eq_true,if_false];show wpAny _ _ (if(Value.ref d==Value.none)=true then _ else _) _ _ s;rw[if_neg (show¬((Value.ref d==Value.none)=true) from Bool.false_ne_true)];refine wpAny_bind (wpAny_pure (wpAny_bind (wpAny_dictEntries hod hx ?_)));rw[if_neg (by simp)];refine wpAny_bind (wpAny_pure (wpAny_bind (wpAny_dictEpoch hod hx ?_)));rw[if_neg (by simp)];refine wpAny_pure ?_;simp only[show¬((i:Int)<0) from by omega,if_false,Int.toNat_natCast,Array.getElem?_eq_getElem hi];refine wpAny_bind ?_
 first|refine wpAny_bind (wpAny_typeNameOfWhole_keyiter T (wpAny_pure ?_))|refine wpAny_bind (wpAny_typeNameOf_keyiter T (wpAny_pure ?_))
 refine wpAny_bind (wpAny_isOneOf_keyiter T ?_);show wpAny _ _ (setField (.ref it) 1 (rawInt ((i:Int)+1)) >>= _) _ _ s;refine wpAny_bind (wpAny_setField ho hd (by simp) ?_);have hit2:(s.heap.update it (Obj.mapFields (·.setIfInBounds 1 (rawInt ((i:Int)+1))))).IsKeyIter it d (i+1) es.size ep:=
  ⟨_,Heap.get?_update_self _ ho (Obj.isFreed_of_fields (Obj.data_mapFields hd _)),(Obj.cls_mapFields ..).trans hc,by rw[Obj.data_mapFields hd];simp[rawInt]⟩
 refine wpAny_bind (wpAny_holding (wpAny_bind (wpAny_isOneOf_keyiter (s:={s with heap:=s.heap.update it (Obj.mapFields (·.setIfInBounds 1 (rawInt ((i:Int)+1))))}) hit2.typeIs ?_)));show wpAny _ _ (pure es[i].key) _ _ _;exact wpAny_pure (wpAny_pure ⟨_,rfl,wpAny_pure (hQ _ hit2 (Heap.SameBut.update ..))⟩)
theorem sL {Q:Option Value→Shared→Prop}(hh:A.handled=none)(hit:s.heap.IsKeyIter it d es.size es.size ep)(x:ik s.heap d es ep)
  (hQ:∀h',Heap.ExtBut it s.heap h'→Q none {s with heap:=h'}):wpAny (model prog w) A (pyNext (.ref it)) Q E s:=by
 have T:=hit.typeIs;obtain⟨o,ho,hc,hd⟩:=hit;obtain⟨od,hod,hcd,hx⟩:=x;unfold pyNext;refine wpAny_bind (wpAny_attempt (wpAny_callSpecial?_slot (name:=Str.ofString "__next__") T PySem.F.slot_dict_keyiterator_next (wpAny_call_entry PySem.F.slot_dict_keyiterator_next T PySem.F.entry_dict_keyiterator_next ?_ (PySem.F.args_dict_keyiterator_next_1 _))));refine wpAny_bind (wpAny_pure (wpAny_bind (wpAny_bind ?_)))
 first|refine wpAny_bind (wpAny_typeNameOfWhole_keyiter T (wpAny_pure ?_))|refine wpAny_bind (wpAny_typeNameOf_keyiter T (wpAny_pure ?_))
 refine wpAny_bind (wpAny_fieldsOf ho hd ?_);simp only[show Builtin.Dict_items.ownsTuple "dict_keyiterator"=false by decide,Bool.false_eq_true,if_false];show wpAny _ _ (if(Value.ref d==Value.none)=true then _ else _) _ _ s;rw[if_neg (show¬((Value.ref d==Value.none)=true) from Bool.false_ne_true)];refine wpAny_bind (wpAny_pure (wpAny_bind (wpAny_dictEntries hod hx ?_)));rw[if_neg (by simp)];refine wpAny_bind (wpAny_pure (wpAny_bind (wpAny_dictEpoch hod hx ?_)));rw[if_neg (by simp)];refine wpAny_pure ?_;simp only[show¬((es.size:Int)<0) from by omega,if_false,Int.toNat_natCast,Array.getElem?_eq_none (Nat.le_refl es.size)];refine wpAny_bind ?_
 first|refine wpAny_bind (wpAny_typeNameOfWhole_keyiter T (wpAny_pure ?_))|refine wpAny_bind (wpAny_typeNameOf_keyiter T (wpAny_pure ?_))
 show wpAny _ _ (setField (.ref it) 0 .none >>= _) _ _ s;refine wpAny_bind (wpAny_setField ho hd (by simp) ?_);show wpAny _ _ (newExc (.type "StopIteration") [] >>= _) _ _ _;refine wpAny_bind ?_;simp only[newExc,newTuple];refine wpAny_bind (wpAny_newObj_type ?_ (by size_fits));refine wpAny_bind (m:=firstArgMember _ _) (wpAny_of_eq (a:=Value.none) (by first|rfl|(simp only[firstArgMember];rfl)) (wpAny_newObj_type ?_ (by size_fits)));simp only[raiseNew];refine wpAny_bind (wpAny_handled ?_);rw[show A.in1.handled=none from hh];refine wpAny_bind (wpAny_pure (wpAny_throw ?_));refine wpAny_bind (wpAny_isInstance (T:="StopIteration") (b:=true) ⟨_,Heap.get?_push_size _ rfl,rfl⟩ isSubtype_stop (wpAny_pure (hQ _ (((Heap.SameBut.update ..).extBut.push _).push _))))
theorem nR (hh:A.handled=none)(hne:d≠it):Walks prog w A it [it,d] [it] es.size (fun i v=>∃e,es[i]?=some e∧v=e.key) (fun i h=>h.IsKeyIter it d i es.size ep∧ik h d es ep) where
 sub:=fun b hb=>by rw[mem_singleton.mp hb];exact mem_cons_self
 frame:=fun _ _ _ st hk=>⟨st.1.at fun o e=>hk it mem_cons_self o e,st.2.stay fun o e=>hk d (mem_cons_of_mem _ mem_cons_self) o e⟩
 item:=fun i s Q E hi st hQ=>oR st.1 st.2 hi fun h' k1 k2=>hQ _ h' s.toks ⟨_,Array.getElem?_eq_getElem hi,rfl⟩ ⟨k1,st.2.stay fun o e=>k2.extBut d o hne e⟩ fun b o hb e=>k2.extBut b o (fun z=>hb (by rw[z];exact mem_cons_self)) e
 done:=fun s Q E st hQ=>sL hh st.1 st.2 fun h' k=>hQ h' s.toks fun b o hb e=>k b o (fun z=>hb (by rw[z];exact mem_cons_self)) e
 self:=fun _ _ _ _ st hQ=>wpAny_pyIter_keyiter st.1 hQ
theorem sO (lo:(d==sysModules)=false):KdlSrc prog w "dict" d d es.size (fun i v=>∃e,es[i]?=some e∧v=e.key) (fun h=>ik h d es ep) where
 type:=fun _ x=>x.typeIs
 there:=fun _ x=>by obtain⟨o,ho,_⟩:=x;exact⟨Heap.lt_size ho,Heap.lt_size ho⟩
 keep:=fun _ _ x hk=>x.stay fun o e=>hk d (.inl rfl) o e
 notList:=by decide
 notTuple:=by decide
 hint:=fun _ _ _ _ x hq=>kdl_hint_dict x.typeIs hq
 iter:=fun _ s hh x=>⟨_,_,(fun _ _ hq=>qf lo x hq),nR hh (by obtain⟨o,ho,_⟩:=x;exact Nat.ne_of_lt (Heap.lt_size ho)),⟨⟨_,Heap.get?_push_size _ rfl,rfl,rfl⟩,x.stay fun o e=>Heap.get?_push_of_some _ e⟩⟩
end
def lO:bv→D
 | .inl i=>.int i
 | .inr x=>.str x
def gU (f:List (List bv×D)→D):FD:=fun ds M=>match ds with
 | [.mr i]=>match M[i]? with
  | some (.dT kvs)=>.ok (f kvs) M
  | _=>.bad
 | _=>.bad
theorem nj (f:List (List bv×D)→D)(ds:List D)(M:am):gU f ds M=.bad∨∃i kvs,ds=[.mr i]∧M[i]?=some (.dT kvs)∧gU f ds M=.ok (f kvs) M:=by
 match ds with
 | []=>exact .inl rfl
 | _::_::_=>exact .inl (by unfold gU;split <;> first|rfl|(rename_i h;cases h))
 | [x]=>
  cases x with
  | mr i=>
   cases q:M[i]? with
   | none=>exact .inl (by unfold gU;dsimp only;rw[q])
   | some m=>
    cases m with
    | dT kvs=>exact .inr ⟨i,kvs,rfl,q,by unfold gU;dsimp only;rw[q]⟩
    | _=>exact .inl (by unfold gU;dsimp only;rw[q])
  | _=>exact .inl rfl
section
variable {K:W.Frag}{θ:List Addr}{H:Hp}{M:am}
theorem sD (ks:List bv):aK K θ H (ks.map lO) (ks.map kV):=by
 induction ks with
 | nil=>exact rfl
 | cons k ks ih=>exact⟨_,_,rfl,by cases k <;> exact rfl,ih⟩
theorem p3 {a:Addr}{ys:List V}(hw:Wr K θ H M)(h:H a=some (.tup ys)):a∉θ:=fun z=>by
 obtain⟨i,hi,e⟩:=mem_iff_getElem.mp z;have h2:i<M.length:=by rw[←hw.len];exact hi
 have k:=hw.at_ i a M[i] (by rw[getElem?_eq_getElem hi,e]) (getElem?_eq_getElem h2);cases q:M[i] with
 | lst _=>rw[q] at k;obtain⟨_,z,_⟩:=k;rw[h] at z;cases z
 | obj _ _=>rw[q] at k;obtain⟨_,_,_,_,z,_⟩:=k;rw[h] at z;cases z
 | dK _=>rw[q] at k;obtain⟨_,z,_⟩:=k;rw[h] at z;cases z
 | dT _=>rw[q] at k;obtain⟨_,z,_⟩:=k;rw[h] at z;cases z
end
section
variable {X:Cx}
theorem rg:bN X (.builtin "len") (rC X (gU fun kvs=>.int kvs.length)):=by
 intro af s σ H xs us Q I r h;obtain⟨θ,M,ds,hw,rd,h⟩:=h;rcases nj (fun kvs=>.int kvs.length) ds M with e|⟨i,kvs,rfl,q,e⟩
 ·rw[e] at h;exact h.elim
 rw[e] at h;obtain⟨v,ev,a,ea,ta⟩:=du rd;obtain⟨vs,hv,ra⟩:=hw.at_ i a _ ta q;rw[ev,ea] at r;cases r with
 | cons r1 r2=>
  cases r2;rw[show _=Value.ref a from r1];obtain⟨z,lo,ys,rel,o,es,ep,h1,h2,h3,h4,_⟩:=(show bA X.prog X.w H s.heap a (.dT vs) from I.hok a _ hv);have sz:es.size=kvs.length:=by rw[←Array.length_toList,h4,length_map,←rel.length,dh ra]
  have le:kvs.length≤sizeLine:=by rw[dh ra];exact z
  refine sk lo ⟨o,h1,h2,h3⟩ (by rw[sz];rw[sizeLine_eq] at le;omega) ⟨.int kvs.length,H,I.tok _,⟨_,by rw[sz]⟩,h _ θ H (.refl hw) rfl⟩
theorem kP {K:W.Frag}{θ:List Addr}{H:Hp}{M:am}(hw:Wr K θ H M):∀{kvs:List (List bv×D)} {vs:List (List bv×V)} {ys:List (List bv×Addr×Value)},fS K θ H kvs vs→Paired (fun(p:List bv×V) (q:List bv×Addr×Value)=>p.1=q.1∧H q.2.1=some (.tup (p.1.map kV))∧aM p.2 q.2.2) vs ys→aK K θ H (kvs.map fun p=>.tup (p.1.map lO)) (ys.map fun q=>V.ref q.2.1)
 | [],vs,ys,ra,rel=>by
  have e:vs=[]:=ra;subst e;cases rel;exact rfl
 | (k,d)::fs,vs,ys,ra,rel=>by
  obtain⟨v,r,e,_,h2⟩:=ra;subst e;cases rel with
  | cons hq t=>exact⟨_,_,rfl,⟨_,_,rfl,⟨hq.2.1,p3 hw hq.2.1⟩,sD k⟩,kP hw h2 t⟩
theorem lF:∀ys:List (List bv×Addr×Value),aE (ys.map fun q=>V.ref q.2.1) (ys.map fun q=>Value.ref q.2.1)
 | []=>.nil
 | _::ys=>.cons rfl (lF ys)
theorem ph (hc:X.calm=true):bN X (.type "list") (rC X (gU fun kvs=>.lst (kvs.map fun p=>.tup (p.1.map lO)))):=by
 intro af s σ H xs us Q I r h;obtain⟨θ,M,ds,hw,rd,h⟩:=h;rcases nj (fun kvs=>.lst (kvs.map fun p=>.tup (p.1.map lO))) ds M with e|⟨i,kvs,rfl,q,e⟩
 ·rw[e] at h;exact h.elim
 rw[e] at h;obtain⟨v,ev,a,ea,ta⟩:=du rd;obtain⟨vs,hv,ra⟩:=hw.at_ i a _ ta q;rw[ev,ea] at r;cases r with
 | cons r1 r2=>
  cases r2;rw[show _=Value.ref a from r1];obtain⟨z,lo,ys,rel,o,es,ep,h1,h2,h3,h4,_⟩:=(show bA X.prog X.w H s.heap a (.dT vs) from I.hok a _ hv);have sz:es.size=ys.length:=by rw[←Array.length_toList,h4,length_map]
  have ly:ys.length≤sizeLine:=by rw[←rel.length];exact z
  refine kdl_call (sO lo) (show X.A.handled=none from I.ok.hd hc) ⟨o,h1,h2,h3⟩ (by rw[sz];exact ly) fun h' tk acc c hk hS hacc=>?_
  have hp:H s.heap.objs.size=none:=I.hok.fresh (Nat.le_refl _);have el:acc.toList=ys.map fun q=>Value.ref q.2.1:=by
   apply List.ext_getElem?;intro j;rw[Array.getElem?_toList,getElem?_map]
   by_cases hj:j<acc.size
   ·obtain⟨e',he,hx⟩:=hacc.2 j _ (Array.getElem?_eq_getElem hj);rw[Array.getElem?_eq_getElem hj,hx];rw[←Array.getElem?_toList,h4,getElem?_map] at he;obtain⟨y,hy,rfl⟩:=Option.map_eq_some_iff.mp he;rw[hy];rfl
   ·rw[Array.getElem?_eq_none (by omega),getElem?_eq_none (by rw[←sz,←hacc.1];omega)];rfl
  refine⟨.ref s.heap.objs.size,bS H s.heap.objs.size (.lst (ys.map fun q=>V.ref q.2.1)),I.laid (t':=tk) hk (Nat.le_refl _) ⟨by rw[length_map];exact ly,acc.toList,c,by rw[el];exact lF ys,by rw[Array.toArray_toList];exact hS⟩,rfl,h _ θ _ (cf hw hp) (dN hw hp (kP hw ra rel))⟩
end
end DL
namespace DL
open PySem PySem.Spec PyProof.Rows L2 List
section
variable {prog:Program}{w:World}{A:Around}{E:Value→Shared→Prop}{s:Shared}{z TI TO i1 i2 l1 l2:Addr}{k1 k2:Nat}{xs ys:Array Value}{x y a b:Value}
structure nK (h:Heap)(z TI TO i1 i2 l1 l2:Addr)(k:Nat):Prop where
 z:IsZip h z TI TO .none
 ti:IsPair h TI (.ref i1) (.ref i2)
 to:∃a b,IsPair h TO a b
 i1:h.IsTupleIter i1 l1 k
 i2:h.IsTupleIter i2 l2 k
theorem oq {Q:Value→Shared→Prop}{k:Nat}(D:ZipApart z TI TO i1 i2 l1 l2)(t:nK s.heap z TI TO i1 i2 l1 l2 k)(hl1:s.heap.IsTuple l1 xs)(hl2:s.heap.IsTuple l2 ys)(hx:xs[k]?=some x)(hy:ys[k]?=some y)
  (hQ:∀h',IsZip h' z TI TO (rawInt s.heap.objs.size)→IsPair h' TO x y→h'.IsTupleIter i1 l1 (k+1)→h'.IsTupleIter i2 l2 (k+1)→IsPair h' s.heap.objs.size x y→h'.objs.size=s.heap.objs.size+1→
   (∀c o,c∉[z,TO,i1,i2]→s.heap.get? c=some o→h'.get? c=some o)→Q (.ref s.heap.objs.size) {s with heap:=h'}) :
  wpAny (model prog w) A (Builtin.«zip.__next__» ⟨[.ref z],[]⟩) (fun fin s'=>∃v,fin=.done (.ret v)∧Q v s') E s:=by
 obtain⟨hz,hTI,⟨a,b,hTO⟩,h1,h2⟩:=t;show wpAny _ _ (field (.ref z) 2 >>= _) _ _ _;refine wpAny_bind (wpAny_field hz rfl (x:=.bool false) rfl ?_);show wpAny _ _ (field (.ref z) 3 >>= _) _ _ _;refine wpAny_bind (wpAny_field hz rfl (x:=.ref TI) rfl (wpAny_bind (wpAny_seqItems hTI rfl ?_)));show wpAny _ _ (Builtin.SmallTypes.ownedTupleIsFree (.ref z) >>= _) _ _ _;refine wpAny_bind ?_;unfold Builtin.SmallTypes.ownedTupleIsFree;refine wpAny_bind (wpAny_field hz rfl (x:=.none) rfl (wpAny_pure ?_));simp only[if_true];refine wpAny_bind (wpAny_rule (wpAny_bind (wpAny_field hz rfl (x:=.ref TO) rfl (wpAny_bind (wpAny_setField_rec hz (by simp) fun ha za sa=>?_)))));have za:IsZip ha z TI TO .ellipsis:=za;refine wpAny_bind ?_;simp only[List.zipIdx_cons,List.zipIdx_nil,forIn_cons,forIn_nil];refine wpAny_bind (wpAny_bind (wpAny_onRaise ?_));show wpAny _ _ (Builtin.SmallTypes.nextOf (.ref i1) >>= _) _ _ _;refine wpAny_bind (iJ (h1.at fun o e=>sa.extBut _ o D.i1z e) (hl1.extBut sa.extBut D.l1z) hx fun hb ib sb=>wpAny_pure ?_);have tb:IsPair hb TO a b:=sb.extBut _ _ D.TOi1 (sa.extBut _ _ D.TOz hTO);refine wpAny_bind (wpAny_seqItems tb rfl (wpAny_bind (wpAny_updateSeq_pair tb fun hc tc sc=>?_)));have tc:IsPair hc TO x b:=tc;refine wpAny_bind (wpAny_letGo (wpAny_pure (wpAny_bind (wpAny_bind (wpAny_onRaise ?_)))));show wpAny _ _ (Builtin.SmallTypes.nextOf (.ref i2) >>= _) _ _ _;refine wpAny_bind (iJ (h2.at fun o e=>sc.extBut _ o D.TOi2.symm (sb.extBut _ o D.i12.symm (sa.extBut _ o D.i2z e))) (((hl2.extBut sa.extBut D.l2z).extBut sb.extBut D.l2i1).extBut sc.extBut D.l2TO) hy fun hd id sd=>wpAny_pure ?_);have td:IsPair hd TO x b:=sd.extBut _ _ D.TOi2 tc;refine wpAny_bind (wpAny_seqItems td rfl (wpAny_bind (wpAny_updateSeq_pair td fun he te se=>?_)));have te:IsPair he TO x y:=te;refine wpAny_bind (wpAny_letGo (wpAny_pure (wpAny_pure (wpAny_bind (wpAny_seqItems te rfl (wpAny_bind (wpAny_newTuple ?_)))))));have hsz:he.objs.size=s.heap.objs.size:=by rw[se.1,sd.1,sc.1,sb.1,sa.1]
 have ze:IsZip he z TI TO .ellipsis:=se.extBut _ _ D.TOz.symm (sd.extBut _ _ D.i2z.symm (sc.extBut _ _ D.TOz.symm (sb.extBut _ _ D.i1z.symm za)));have ke:∀c o,c∉[z,TO,i1,i2]→s.heap.get? c=some o→he.get? c=some o:=fun c o hc e=>by
  have c1:c≠z:=fun q=>hc (by simp[q])
  have c2:c≠TO:=fun q=>hc (by simp[q])
  have c3:c≠i1:=fun q=>hc (by simp[q])
  have c4:c≠i2:=fun q=>hc (by simp[q])
  exact se.extBut _ _ c2 (sd.extBut _ _ c4 (sc.extBut _ _ c2 (sb.extBut _ _ c3 (sa.extBut _ _ c1 e))))
 have ie1:he.IsTupleIter i1 l1 (k+1):=ib.at fun o e=>se.extBut _ o D.TOi1.symm (sd.extBut _ o D.i12 (sc.extBut _ o D.TOi1.symm e))
 have ie2:he.IsTupleIter i2 l2 (k+1):=id.at fun o e=>se.extBut _ o D.TOi2.symm e
 have zlt:z<he.objs.size:=Heap.lt_size ze;show wpAny _ _ (Builtin.SmallTypes.ownedTupleHandOut (.ref z) (.ref he.objs.size) >>= _) _ _ _;refine wpAny_bind ?_;unfold Builtin.SmallTypes.ownedTupleHandOut;have zf:IsZip (he.push {cls:=.type "tuple",data:=.seq #[x,y]}) z TI TO .ellipsis:=Heap.get?_push_of_some _ ze;refine wpAny_bind (wpAny_setField_rec zf (by simp) fun hg zg sg=>?_);have zg:IsZip hg z TI TO (rawInt he.objs.size):=zg;refine wpAny_setField_rec zg (by simp) fun hh zh sh=>?_
 have zh:IsZip hh z TI TO (rawInt he.objs.size):=zh;have up:∀c o,c≠z→he.get? c=some o→hh.get? c=some o:=fun c o c1 e=>sh.extBut _ _ c1 (sg.extBut _ _ c1 (Heap.get?_push_of_some _ e))
 have th:IsPair hh he.objs.size x y:=sh.extBut _ _ (Nat.ne_of_gt zlt) (sg.extBut _ _ (Nat.ne_of_gt zlt) (Heap.get?_push_size _ rfl));have lh:hh.objs.size=he.objs.size+1:=by rw[sh.1,sg.1,Heap.size_push]
 rw[hsz] at zh th lh;refine wpAny_pure ⟨_,rfl,?_⟩;show Q (.ref he.objs.size) _;rw[hsz];exact hQ hh zh (up _ _ D.TOz te) (ie1.at fun o e=>up _ o D.i1z e) (ie2.at fun o e=>up _ o D.i2z e) th lh fun c o hc e=>up c o (fun q=>hc (by simp[q])) (ke c o hc e)
theorem qa {Q:PySem.Fin→Shared→Prop}{k:Nat}(hh:A.handled=none)(D:ZipApart z TI TO i1 i2 l1 l2)(t:nK s.heap z TI TO i1 i2 l1 l2 k)(hl1:s.heap.IsTuple l1 xs)(hx:xs[k]?=none)
  (hE:∀h' e,(∀c o,c∉[z,TO,i1,i2]→s.heap.get? c=some o→h'.get? c=some o)→(∃o,h'.get? e=some o∧o.cls=.type "StopIteration")→E (.ref e) {s with heap:=h'}) :
  wpAny (model prog w) A (Builtin.«zip.__next__» ⟨[.ref z],[]⟩) Q E s:=by
 obtain⟨hz,hTI,⟨a,b,hTO⟩,h1,h2⟩:=t;show wpAny _ _ (field (.ref z) 2 >>= _) _ _ _;refine wpAny_bind (wpAny_field hz rfl (x:=.bool false) rfl ?_);show wpAny _ _ (field (.ref z) 3 >>= _) _ _ _;refine wpAny_bind (wpAny_field hz rfl (x:=.ref TI) rfl (wpAny_bind (wpAny_seqItems hTI rfl ?_)));show wpAny _ _ (Builtin.SmallTypes.ownedTupleIsFree (.ref z) >>= _) _ _ _;refine wpAny_bind ?_;unfold Builtin.SmallTypes.ownedTupleIsFree;refine wpAny_bind (wpAny_field hz rfl (x:=.none) rfl (wpAny_pure ?_));simp only[if_true];refine wpAny_bind (wpAny_rule (wpAny_bind (wpAny_field hz rfl (x:=.ref TO) rfl (wpAny_bind (wpAny_setField_rec hz (by simp) fun ha za sa=>?_)))));have za:IsZip ha z TI TO .ellipsis:=za;refine wpAny_bind ?_;simp only[List.zipIdx_cons,List.zipIdx_nil,forIn_cons,forIn_nil];refine wpAny_bind (wpAny_bind (wpAny_onRaise ?_));show wpAny _ _ (Builtin.SmallTypes.nextOf (.ref i1) >>= _) _ _ _;refine wpAny_bind (iy hh (h1.at fun o e=>sa.extBut _ o D.i1z e) (hl1.extBut sa.extBut D.l1z) hx fun hb e sb he=>?_);obtain⟨oe,hoe,hce⟩:=he;have zb:IsZip hb z TI TO .ellipsis:=sb _ _ D.i1z.symm za;have ez:e≠z:=fun q=>by rw[q,zb] at hoe;cases hoe;simp at hce
 exact wpAny_setField_rec zb (by simp) fun hc _ sc=>hE hc e (fun c o hx q=>sc.extBut _ _ (fun p=>hx (by simp[p])) (sb _ _ (fun p=>hx (by simp[p])) (sa.extBut _ _ (fun p=>hx (by simp[p])) q))) ⟨oe,sc.extBut _ _ ez hoe,hce⟩
theorem nV {Q:Option Value→Shared→Prop}{k:Nat}(D:ZipApart z TI TO i1 i2 l1 l2)(t:nK s.heap z TI TO i1 i2 l1 l2 k)(hl1:s.heap.IsTuple l1 xs)(hl2:s.heap.IsTuple l2 ys)(hx:xs[k]?=some x)(hy:ys[k]?=some y)
  (hQ:∀h',IsZip h' z TI TO (rawInt s.heap.objs.size)→IsPair h' TO x y→h'.IsTupleIter i1 l1 (k+1)→h'.IsTupleIter i2 l2 (k+1)→IsPair h' s.heap.objs.size x y→h'.objs.size=s.heap.objs.size+1→
   (∀c o,c∉[z,TO,i1,i2]→s.heap.get? c=some o→h'.get? c=some o)→Q (some (.ref s.heap.objs.size)) {s with heap:=h'}):wpAny (model prog w) A (pyNext (.ref z)) Q E s:=by
 have hT:s.TypeIs (.ref z) "zip":=⟨_,t.z,rfl⟩;unfold pyNext;exact wpAny_bind (wpAny_attempt (wpAny_callSpecial?_slot (name:=Str.ofString "__next__") hT PySem.F.slot_zip_next (wpAny_call_entry PySem.F.slot_zip_next hT PySem.F.entry_zip_next (oq D t hl1 hl2 hx hy fun h' b1 b2 b3 b4 b5 b6 b7=>wpAny_pure (hQ h' b1 b2 b3 b4 b5 b6 b7)) (PySem.F.args_zip_next_1 _))))
theorem oy {Q:Option Value→Shared→Prop}{k:Nat}(hh:A.handled=none)(D:ZipApart z TI TO i1 i2 l1 l2)(t:nK s.heap z TI TO i1 i2 l1 l2 k)(hl1:s.heap.IsTuple l1 xs)(hx:xs[k]?=none)
  (hQ:∀h',(∀c o,c∉[z,TO,i1,i2]→s.heap.get? c=some o→h'.get? c=some o)→Q none {s with heap:=h'}):wpAny (model prog w) A (pyNext (.ref z)) Q E s:=by
 have hT:s.TypeIs (.ref z) "zip":=⟨_,t.z,rfl⟩;unfold pyNext;refine wpAny_bind (wpAny_attempt (wpAny_callSpecial?_slot (name:=Str.ofString "__next__") hT PySem.F.slot_zip_next (wpAny_call_entry PySem.F.slot_zip_next hT PySem.F.entry_zip_next (qa hh D t hl1 hx fun h' e hk he=>?_) (PySem.F.args_zip_next_1 _))));obtain⟨o,ho,hc⟩:=he;exact wpAny_bind (wpAny_isInstance (T:="StopIteration") (b:=true) ⟨o,ho,hc⟩ isSubtype_stop (wpAny_pure (hQ _ hk)))
end
def gf (l:Addr):Obj:={cls:=.type "tuple_iterator",data:=.fields #[.ref l,.int 0 0]}
def ou (a b:Value):Obj:={cls:=.type "tuple",data:=.seq #[a,b]}
def Bc (a b:Addr):Obj:={cls:=.type "zip",data:=.fields #[.none,.bool false,.bool false,.ref a,.ref b]}
def zH (h:Heap)(l1 l2:Addr):Heap:=((((h.push (gf l1)).push (gf l2)).push (ou (.ref h.objs.size) (.ref (h.push (gf l1)).objs.size))).push (ou .none .none)).push (Bc ((h.push (gf l1)).push (gf l2)).objs.size (((h.push (gf l1)).push (gf l2)).push (ou (.ref h.objs.size) (.ref (h.push (gf l1)).objs.size))).objs.size)
theorem kR (l1 l2:Addr)(xs ys:Array Value) :
  Meets (Builtin.«zip.__new__» ⟨[.type "zip",.ref l1,.ref l2],[]⟩) (fun _ R s=>s.heap.IsTuple l1 xs∧s.heap.IsTuple l2 ys∧
   R (.ok (.ret (.ref ((((s.heap.push (gf l1)).push (gf l2)).push (ou (.ref s.heap.objs.size) (.ref (s.heap.push (gf l1)).objs.size))).push (ou .none .none)).objs.size))) {s with heap:=zH s.heap l1 l2}):=
 .of_wp fun prog w A R s h=>by
  obtain⟨hp,g,d,tk,os⟩:=s;obtain⟨hl1,hl2,h⟩:=h;have hsub:=sub_zip;have T1:Heap.IsTuple (Shared.heap ⟨hp,g,d,tk,os⟩) l1 xs:=hl1;have T2:Heap.IsTuple (Shared.heap ⟨hp.push {cls:=.type "tuple_iterator",data:=.fields #[.ref l1,.int 0 0]},g,d,tk,os⟩) l2 ys:=by
   obtain⟨o,ho,r⟩:=hl2;exact⟨o,Heap.get?_push_of_some _ ho,r⟩
  wp_walk using wpAny_pyIter_tuple T1,wpAny_pyIter_tuple T2
  exact⟨_,rfl,h⟩
theorem jE {prog:Program}{w:World}{A:Around}{E:Value→Shared→Prop}{s:Shared}{l1 l2:Addr}{xs ys:Array Value}{Q:Value→Shared→Prop}(hl1:s.heap.IsTuple l1 xs)(hl2:s.heap.IsTuple l2 ys)
  (q:∀h',nK h' (s.heap.objs.size+4) (s.heap.objs.size+2) (s.heap.objs.size+3) s.heap.objs.size (s.heap.objs.size+1) l1 l2 0→(∀b o,s.heap.get? b=some o→h'.get? b=some o)→Q (.ref (s.heap.objs.size+4)) {s with heap:=h'}) :
  wpAny (model prog w) A (call (.type "zip") [.ref l1,.ref l2]) Q E s:=by
 refine callType_new PySem.F.called_zip (by decide) (PySem.F.typeCall_zip_2 _ _) (PySem.F.newCall_zip_2 _ _) (fun obj=>PySem.F.args_object_init_3 obj _ _) PySem.F.entry_zip_new (kR l1 l2 xs ys) ⟨hl1,hl2,?_⟩;show _∧_;have z1:(s.heap.push (gf l1)).objs.size=s.heap.objs.size+1:=Heap.size_push ..;have z2:((s.heap.push (gf l1)).push (gf l2)).objs.size=s.heap.objs.size+2:=by rw[Heap.size_push,z1]
 unfold zH;rw[z1,z2];have z3:(((s.heap.push (gf l1)).push (gf l2)).push (ou (.ref s.heap.objs.size) (.ref (s.heap.objs.size+1)))).objs.size=s.heap.objs.size+3:=by rw[Heap.size_push,z2]
 rw[z3];have z4:((((s.heap.push (gf l1)).push (gf l2)).push (ou (.ref s.heap.objs.size) (.ref (s.heap.objs.size+1)))).push (ou .none .none)).objs.size=s.heap.objs.size+4:=by rw[Heap.size_push,z3]
 rw[z4];have g1:(s.heap.push (gf l1)).get? s.heap.objs.size=some (gf l1):=Heap.get?_push_size _ rfl;have g2:=Heap.get?_push_size (s.heap.push (gf l1)) (o:=gf l2) rfl;rw[z1] at g2;have g3:=Heap.get?_push_size ((s.heap.push (gf l1)).push (gf l2)) (o:=ou (.ref s.heap.objs.size) (.ref (s.heap.objs.size+1))) rfl;rw[z2] at g3;have g4:=Heap.get?_push_size (((s.heap.push (gf l1)).push (gf l2)).push (ou (.ref s.heap.objs.size) (.ref (s.heap.objs.size+1)))) (o:=ou .none .none) rfl;rw[z3] at g4;have g5:=Heap.get?_push_size ((((s.heap.push (gf l1)).push (gf l2)).push (ou (.ref s.heap.objs.size) (.ref (s.heap.objs.size+1)))).push (ou .none .none)) (o:=Bc (s.heap.objs.size+2) (s.heap.objs.size+3)) rfl;rw[z4] at g5;refine⟨⟨_,g5,rfl⟩,q _ ⟨g5,Heap.get?_push_of_some _ (Heap.get?_push_of_some _ g3),⟨_,_,Heap.get?_push_of_some _ g4⟩,⟨_,Heap.get?_push_of_some _ (Heap.get?_push_of_some _ (Heap.get?_push_of_some _ (Heap.get?_push_of_some _ g1))),rfl,rfl⟩,⟨_,Heap.get?_push_of_some _ (Heap.get?_push_of_some _ (Heap.get?_push_of_some _ g2)),rfl,rfl⟩⟩ fun b o e=>Heap.get?_push_of_some _ (Heap.get?_push_of_some _ (Heap.get?_push_of_some _ (Heap.get?_push_of_some _ (Heap.get?_push_of_some _ e))))⟩
def AG (K:W.Frag)(a b:Addr):It:=
 ⟨fun i H=>∃xs ys x y,gP K H a xs∧gP K H b ys∧xs[i]?=some x∧ys[i]?=some y,
  fun i H v H'=>∃p x y,H p=none∧H'=bS H p (.tup [x,y])∧v=.ref p∧(∀xs,gP K H a xs→xs[i]?=some x)∧∀ys,gP K H b ys→ys[i]?=some y,
  fun i H=>∃xs,gP K H a xs∧xs.length≤i⟩
theorem qt {P:Program}{w:World}{K:W.Frag}{es:List Expr}{kt:Nat}{pos:Pos}{z TI TO i1 i2 a b:Addr}(D:ZipApart z TI TO i1 i2 a b) :
  nZ P w K (.Tuple es kt pos) (AG K a b) [z,TO,i1,i2,TI] z (fun i h=>nK h z TI TO i1 i2 a b i) where
 mem:=by simp
 obj:=fun i h st c hc=>by
  obtain⟨hz,hTI,⟨x,y,hTO⟩,⟨o1,e1,_,d1⟩,⟨o2,e2,_,d2⟩⟩:=st;simp only[mem_cons,not_mem_nil,or_false] at hc;rcases hc with rfl|rfl|rfl|rfl|rfl
  ·exact⟨_,hz,fun v q=>by cases q⟩
  ·exact⟨_,hTO,fun v q=>by cases q⟩
  ·exact⟨o1,e1,fun v q=>by rw[d1] at q;cases q⟩
  ·exact⟨o2,e2,fun v q=>by rw[d2] at q;cases q⟩
  ·exact⟨_,hTI,fun v q=>by cases q⟩
 keep:=fun i h h' st k=>by
  obtain⟨hz,hTI,⟨x,y,hTO⟩,h1,h2⟩:=st;exact⟨k z (by simp) _ hz,k TI (by simp) _ hTI,⟨x,y,k TO (by simp) _ hTO⟩,h1.at fun o e=>k i1 (by simp) o e,h2.at fun o e=>k i2 (by simp) o e⟩
 item:=by
  intro X hP hw hK hc i af s σ H E I hf st hg;subst hP hw hK;obtain⟨xs,ys,x,y,hq1,hq2,hx,hy⟩:=hg;obtain⟨its1,rv1,p1,_⟩:=I.tuple hq1;obtain⟨its2,rv2,p2,_⟩:=I.tuple hq2;obtain⟨u1,hu1,ru1⟩:=rv1.get hx;obtain⟨u2,hu2,ru2⟩:=rv2.get hy;have p1:s.heap.IsTuple a its1.toArray:=p1;have p2:s.heap.IsTuple b its2.toArray:=p2;refine nV D st p1 p2 (x:=u1) (y:=u2) (by simpa using hu1) (by simpa using hu2) fun h' hz ht h1 h2 hT hsz hk=>⟨_,rfl,wpAny_letOwnedTupleGo_zip hz fun h3 hz3 hs3=>?_⟩
  have hs3:Heap.SameBut z h' h3:=hs3;have zlt:z<s.heap.objs.size:=Heap.lt_size st.z;have fr:H s.heap.objs.size=none:=I.hok.fresh (Nat.le_refl _);have hT3:h3.get? s.heap.objs.size=some {cls:=.type "tuple",data:=.seq #[u1,u2]}:=(hs3.2 _ (Nat.ne_of_gt zlt)).trans hT;have k3:∀c o,c∉[z,TO,i1,i2]→s.heap.get? c=some o→h3.get? c=some o:=fun c o hc e=>(hs3.2 c (fun q=>hc (by simp[q]))).trans (hk c o hc e)
  have new:bA X.prog X.w (bS H s.heap.objs.size (.tup [x,y])) h3 s.heap.objs.size (.tup [x,y]):=
   ⟨Nat.le_trans (by decide:2≤1000) (by rw[sizeLine_eq];decide),[u1,u2],.cons ru1 (.cons ru2 .nil),⟨_,hT3,rfl,_,rfl⟩⟩
  have I3:=ky (t':=s.toks) I hf (fun c o hc e=>k3 c o (fun q=>hc (by simp only[mem_cons,not_mem_nil,or_false] at q ⊢;rcases q with q|q|q|q <;> simp[q])) e) (Nat.le_refl _) new;refine⟨.ref s.heap.objs.size,_,I3,rfl,⟨_,x,y,fr,rfl,rfl,fun zs h=>by rw[I.tuple_inj h hq1];exact hx,fun zs h=>by rw[I.tuple_inj h hq2];exact hy⟩,⟨hz3,?_,⟨u1,u2,(hs3.2 _ D.TOz).trans ht⟩,h1.at fun o e=>(hs3.2 _ D.i1z).trans e,h2.at fun o e=>(hs3.2 _ D.i2z).trans e⟩,fun c hc=>?_⟩
  ·exact k3 TI _ (by simp[D.TIz,D.TITO,D.TIi1,D.TIi2]) st.ti
  ·have lt:c<s.heap.objs.size:=by
    obtain⟨hz,hTI,⟨x,y,hTO⟩,⟨o1,e1,_,d1⟩,⟨o2,e2,_,d2⟩⟩:=st;have hc2:=hc;simp only[mem_cons,not_mem_nil,or_false] at hc2;rcases hc2 with q|q|q|q|q <;> rw[q]
    ·exact Heap.lt_size hz
    ·exact Heap.lt_size hTO
    ·exact Heap.lt_size e1
    ·exact Heap.lt_size e2
    ·exact Heap.lt_size hTI
   rw[aw (Nat.ne_of_lt lt)];exact(hf c hc).1
 done:=by
  intro X hP hw hK hc i af s σ H E I hf st hg;subst hP hw hK;obtain⟨xs,hq1,hx⟩:=hg;obtain⟨its1,rv1,p1,_⟩:=I.tuple hq1;have p1:s.heap.IsTuple a its1.toArray:=p1;have hl:=rv1.length;refine oy (I.ok.hd hc) D st p1 (by simp;omega) fun h' hk=>⟨rfl,oz (t':=s.toks) I hf fun c o hc e=>hk c o (fun q=>hc (by simp only[mem_cons,not_mem_nil,or_false] at q ⊢;rcases q with q|q|q|q <;> simp[q])) e⟩
 self:=fun _ _ _ _ _ st h=>wpAny_pyIter_zip st.z h
theorem v9 {X:Cx}{es:List Expr}{kt:Nat}{tp:Pos}{l r:Expr}{tl:TA}{p pos:Pos}(hg:Gl X "zip")(hm:X.mg "zip"=none)(hv:bootBuiltins "zip"=some (.type "zip"))(hl:PA X [l,r] tl)(hs:starEach [l,r] X.env=(false,eval l X.env)::starEach [r] X.env:=by rfl)(hp:(backTo pos (starEach [r] X.env)).any (·.1)=false:=by rfl) :
  PI X (.Tuple es kt tp) (.Call (.Name "zip" p) [l,r] [] pos) (fun σ H R=>tl σ H fun xs H1=>∃a b,xs=[.ref a,.ref b]∧(∃xs,gP X.K H1 a xs)∧(∃ys,gP X.K H1 b ys)∧R (AG X.K a b) H1):=by
 intro af s σ H R I h;refine Call_ (jM I hg hm hv (PyProof.Rows.callWith_type1 (bV (hl pos af s σ H _ I h) fun us s1 hxx=>?_) hs hp));obtain⟨vs,H1,I1,r1,a,b,e,⟨xs,hq1⟩,⟨ys,hq2⟩,q⟩:=hxx;subst e;cases r1 with
 | cons ra rr=>
  cases rr with
  | cons rb rr=>
   cases rr;rw[show _=Value.ref a from ra,show _=Value.ref b from rb];obtain⟨its1,rv1,p1,_⟩:=I1.tuple hq1;obtain⟨its2,rv2,p2,_⟩:=I1.tuple hq2;have p1:s1.heap.IsTuple a its1.toArray:=p1;have p2:s1.heap.IsTuple b its2.toArray:=p2;refine jE p1 p2 fun h' zt hk=>wpAny_pyIter_zip zt.z ⟨_,[s1.heap.objs.size+4,s1.heap.objs.size+3,s1.heap.objs.size,s1.heap.objs.size+1,s1.heap.objs.size+2],_,_,H1,rfl,I1.kept (t':=s1.toks) hk,qt (zipApart_new (by obtain⟨o,e,_⟩:=p1;exact Heap.lt_size e) (by obtain⟨o,e,_⟩:=p2;exact Heap.lt_size e)),zt,fun c hc=>?_,q⟩
   have hb:s1.heap.objs.size≤c:=by
    simp only[mem_cons,not_mem_nil,or_false] at hc;rcases hc with q|q|q|q|q <;> rw[q] <;> omega
   exact I1.fpOk hb (I1.hok.fresh hb)
def i8 (xs ys:List D):List D:=xs.zipWith (fun x y=>D.tup [x,y]) ys
theorem oO {xs ys:List D}{i:Nat}{d:D}(h:(i8 xs ys)[i]?=some d):∃x y,xs[i]?=some x∧ys[i]?=some y∧d=.tup [x,y]:=by
 unfold i8 at h;rw[getElem?_zipWith] at h;cases q:xs[i]? with
 | none=>rw[q] at h;cases h
 | some x=>
  cases q2:ys[i]? with
  | none=>rw[q,q2] at h;cases h
  | some y=>rw[q,q2] at h;exact⟨x,y,rfl,rfl,(Option.some.inj h).symm⟩
def nc (ds:List D)(M:am):aN jq:=match ds with
 | [.tup xs,.tup ys]=>if xs.length=ys.length then .ok ⟨i8 xs ys,none⟩ M else .bad
 | _=>.bad
theorem pE (ds:List D)(M:am):nc ds M=.bad∨∃xs ys,ds=[.tup xs,.tup ys]∧xs.length=ys.length∧nc ds M=.ok ⟨i8 xs ys,none⟩ M:=by
 match ds with
 | []=>exact .inl rfl
 | [x]=>cases x <;> exact .inl rfl
 | _::_::_::_=>exact .inl (by unfold nc;split <;> first|rfl|(rename_i h;cases h))
 | [x,y]=>
  cases x with
  | tup xs=>
   cases y with
   | tup ys=>
    by_cases h:xs.length=ys.length
    ·exact .inr ⟨xs,ys,rfl,h,if_pos h⟩
    ·exact .inl (if_neg h)
   | _=>exact .inl rfl
  | _=>exact .inl rfl
def mj (g:GA):GI:=fun ρ M=>(g ρ M).bind nc
theorem ug {K:W.Frag}{θ:List Addr}{H:Hp}{a b:Addr}{xs ys:List D}{vs us:List V}(ta:∀θ1 H1,Grow θ H θ1 H1→gP K H1 a vs)(tb:∀θ1 H1,Grow θ H θ1 H1→gP K H1 b us)(hl:xs.length=ys.length)(r1:aK K θ H xs vs)(r2:aK K θ H ys us):uM K (AG K a b) θ H ⟨i8 xs ys,none⟩:=by
 intro θ1 H1 M1 g _ i;have t1:=ta θ1 H1 g.toGrow;have t2:=tb θ1 H1 g.toGrow;have r1:=r1.go g;have r2:=r2.go g;refine⟨fun d e=>?_,fun h=>⟨vs,t1,by
  have h:(i8 xs ys).length≤i:=h;unfold i8 at h;rw[List.length_zipWith,←hl,Nat.min_self,ak r1] at h;exact h⟩⟩
 obtain⟨x,y,ex,ey,ed⟩:=oO e;obtain⟨v,ev,rv⟩:=cL r1 ex;obtain⟨u,eu,ru⟩:=cL r2 ey;refine⟨⟨vs,us,v,u,t1,t2,ev,eu⟩,fun x' H2 q=>?_⟩;obtain⟨p,x2,y2,np,eH,exr,h1,h2⟩:=q;have e1:=h1 vs t1;rw[ev] at e1;cases e1;have e2:=h2 us t2;rw[eu] at e2;cases e2;subst eH exr ed;exact⟨cf g.wr np,dZ (ds:=[x,y]) g.wr np ⟨_,_,rfl,rv,_,_,rfl,ru,rfl⟩⟩
theorem vg {X:Cx}{es:List Expr}{kt:Nat}{tp:Pos}{l r:Expr}{g:GA}{p pos:Pos}(hg:Gl X "zip")(hm:X.mg "zip"=none)(hv:bootBuiltins "zip"=some (.type "zip"))(hl:PA X [l,r] (tA X g))(hs:starEach [l,r] X.env=(false,eval l X.env)::starEach [r] X.env:=by rfl)(hp:(backTo pos (starEach [r] X.env)).any (·.1)=false:=by rfl) :
  PI X (.Tuple es kt tp) (.Call (.Name "zip" p) [l,r] [] pos) (tI X (mj g)):=by
 intro af s σ H R I h;refine v9 hg hm hv hl hs hp af s σ H R I ?_;obtain⟨ρ,θ,M,hd,hw,h⟩:=h;refine gJ hd hw (qy X θ H R) (fun c M' h=>h) (fun h=>h) h fun ds M1 vs θ1 H1 g1 r1 h1=>?_
 rcases pE ds M1 with e|⟨xs,ys,rfl,hl,e⟩
 ·rw[e] at h1;exact h1.elim
 rw[e] at h1;obtain⟨v,rr,ev,⟨a,us,e2,ta,rs⟩,v2,rr2,ev2,⟨b,A7,e3,tb,rs2⟩,rr3⟩:=r1;have rr3:rr2=[]:=rr3;subst rr3 ev2 e2 e3;exact⟨a,b,ev,⟨us,ta.sq⟩,⟨A7,tb.sq⟩,h1 _ θ1 H1 g1 (ug (fun θ2 H2 g2=>(ta.grow g2).sq) (fun θ2 H2 g2=>(tb.grow g2).sq) hl rs rs2)⟩
def nW:FD:=gU fun kvs=>.int kvs.length
def jg:FD:=gU fun kvs=>.lst (kvs.map fun p=>.tup (p.1.map lO))
section
variable {X:Cx}{k:Nat}{o i e a b:Expr}{go gi ge:GE}{gA:GA}{pos p:Pos}
theorem Ai (hr:cc k X.A):X.A.units+1<cLine:=Nat.lt_of_le_of_lt (Nat.add_le_add_left (by decide) _) hr.units
theorem pT (hr:cc k X.A):Q2 X (compareOp .NotIn) (xi true):=⟨nz (Ai hr)⟩
theorem tX (hr:cc k X.A)(ho:QE X o go)(hi:QE X i gi)(hs:rF i:=by intro _ _;rfl):QE X (.Subscript o i pos) (g2 kW go gi):=⟨s9 (Ai hr) ho.h hi.h hs⟩
theorem sU {pos':Pos}(hr:cc k X.A)(ho:QE X o go)(hi:QE X i gi)(hv:QE X e ge)(hs:swapsWith e (some (.Subscript o i pos')) pos.line X.env=pure false:=by rfl):QS X (.Assign [.Subscript o i pos'] e pos) (jh go gi ge):=⟨sF (Ai hr) ho.h hi.h hv.h hs⟩
theorem uY:QC X (.builtin "len") nW:=⟨rg⟩
theorem tj (hc:X.calm=true:=by rfl):QC X (.type "list") jg:=⟨ph hc⟩
theorem vn {es:List Expr}{kt:Nat}{tp:Pos}(hg:Gl X "zip")(hm:X.mg "zip"=none)(hv:bootBuiltins "zip"=some (.type "zip"))(ha:QA X [a,b] gA)(h1:bF a=true:=by rfl)(h2:cm [b]=true:=by rfl):QI X (.Tuple es kt tp) (.Call (.Name "zip" p) [a,b] [] pos) (mj gA):=⟨vg hg hm hv ha.h (sE h1) (sS h2)⟩
end
section
variable {X:Cx}{af:List (Addr×Obj)}{σ:L2.St}{H:Hp}{s:Shared}{θ:List Addr}
theorem kx (hu:X.A.units+64<cLine)(I:L2.Inv X af σ H s){dx:D}{x:V}{v:Value}{ds:List D}{vs:List V}{its:List Value}(hx:ar 40 dx=true)(hc:ds.all (ar 40)=true)(r1:cw X.K θ H dx x)(rx:aM x v)(ra:aK X.K θ H ds vs)(r:aE vs its) :
  ∀w∈its,SeqAt.EqAt X.A.in1 s w v (inE s.heap (eA dx) w):=fun w hw=>by
 obtain⟨bs,RX⟩:=eD I dx 40 x v hx r1 rx;have lx:=eW dx 40 hx;obtain⟨d,as,R,l1,l2⟩:=(hX I hx hc ra r).2 w hw;rw[mq R l1];exact SeqAt.eqAt_reads d (eA dx) X.A.in1 s w v as bs R RX l1 lx.1 (by
  show X.A.units+1+min d.depth (eA dx).depth<cLine;have:min d.depth (eA dx).depth≤d.depth:=Nat.min_le_left _ _;omega)
theorem oB (hu:X.A.units+64<cLine):dB X (compareOp .NotIn) (rD X (xp true)):=by
 intro af s σ H x y v u Q I rx ry h;obtain⟨θ,M,dx,dy,hw,r1,r2,h⟩:=h;unfold xp at h;cases q:bn dy M with
 | none=>rw[q] at h;exact h.elim
 | some xs=>
  rw[q] at h;dsimp only at h
  by_cases hc:(ar 40 dx&&xs.all (ar 40))=true
  ·rw[if_pos hc] at h;rw[Bool.and_eq_true] at hc;obtain⟨a,vs,ea,sq,ra⟩:=ia hw r2 q;subst ea;cases ry;have k:=h _ θ H (.refl hw) rfl;rw[Bool.bne_true] at k;rcases sq with sq|sq
   ·obtain⟨its,r,pl,hz⟩:=I.list sq;refine SeqAt.notIn_listAt (inE s.heap (eA dx)) pl.isList (fun w hw=>kx hu I hc.1 hc.2 r1 rx ra r w (by simpa using hw)) ⟨.bl _,H,I,rfl,?_⟩;rw[show its.toArray.any (inE s.heap (eA dx))=its.any (inE s.heap (eA dx)) by simp,(hX I hc.1 hc.2 ra r).1];exact k
   ·obtain⟨its,r,pl,hz⟩:=I.tuple sq;refine SeqAt.notIn_tupleAt (inE s.heap (eA dx)) pl (fun w hw=>kx hu I hc.1 hc.2 r1 rx ra r w (by simpa using hw)) ⟨.bl _,H,I,rfl,?_⟩;rw[show its.toArray.any (inE s.heap (eA dx))=its.any (inE s.heap (eA dx)) by simp,(hX I hc.1 hc.2 ra r).1];exact k
  ·rw[if_neg hc] at h;exact h.elim
theorem mE (I:L2.Inv X af σ H s){x:D}(hx:ar 40 x=true):∀{ds:List D} {vs:List V} {us:List Value},ds.all (ar 40)=true→aK X.K θ H ds vs→aE vs us→us.map (inE s.heap (eA x))=ds.map fun y=>gm y x
 | [],vs,us,_,r,v=>by
  have e:vs=[]:=r;subst e;cases v;rfl
 | d::ds,vs,us,c,r,v=>by
  rw[all_cons,Bool.and_eq_true] at c;obtain⟨v1,vr,e1,r1,r2⟩:=r;subst e1;cases v with
  | cons h1 h2=>
   obtain⟨as,R⟩:=eD I d 40 _ _ c.1 r1 h1;rw[map_cons,map_cons,mE I hx c.2 r2 h2,mq R (eW d 40 c.1).1,hV d x 40 40 c.1 hx]
theorem eG {α β:Type}(f:α→β)(p:β→Bool):∀l:List α,(l.map f).findIdx? p=l.findIdx? fun x=>p (f x)
 | []=>rfl
 | a::l=>by rw[map_cons,findIdx?_cons,findIdx?_cons,eG f p l]
def fy (xs:List D)(x:D)(M:am):aN D:=if ar 40 x&&xs.all (ar 40) then(match xs.findIdx? fun y=>gm y x with|some j=>.ok (.int (j:Nat)) M|none=>.bad) else .bad
def nk (X:Cx):V→List V→Hp→VK→Prop:=fun x vs H Q=>∃θ p ds us dx y j,x=.ref p∧vs=[y]∧io X.K H p us∧aK X.K θ H ds us∧cw X.K θ H dx y∧ar 40 dx=true∧ds.all (ar 40)=true∧(ds.findIdx? fun z=>gm z dx)=some j∧Q (.int (j:Nat)) H
theorem nI (hu:X.A.units+64<cLine):Bd X "list.index" (nk X):=by
 intro af s σ H x vs v us Q I rx rv h;obtain⟨θ,p,ds,ws,dx,y,j,rfl,rfl,hq,ra,r1,hx,hc,hj,q⟩:=h;cases rx;obtain⟨u,rfl,ru⟩:=rv.one;obtain⟨its,r,⟨o,n,h1,h2,h3,h4⟩,hz⟩:=I.list hq;obtain⟨c,dd,dat,sl⟩:=o;have e1:c=.type "list":=h2;have e2:dat=.seq its.toArray n:=h4;subst e1;subst e2;have hj2:its.findIdx? (inE s.heap (eA dx))=some j:=by
  have a:(its.map (inE s.heap (eA dx))).findIdx? id=its.findIdx? (inE s.heap (eA dx)):=eG _ _ _;have b:(ds.map fun z=>gm z dx).findIdx? id=ds.findIdx? fun z=>gm z dx:=eG _ _ _
  rw[←a,mE I hx hc ra r,b,hj]
 obtain⟨hlt,hhit,hno⟩:=findIdx?_eq_some_iff_getElem.mp hj2;have hsz:j<its.toArray.size:=by simpa using hlt
 have hsmall:(j:Int)<2 ^ 63-1:=by
  have l1:=r.length;have l2:=gE;omega
 refine call_meets PySem.F.slot_list_index ⟨_,h1,rfl⟩ PySem.F.entry_list_index (PySem.F.args_list_index_2 _ _) (SeqAt.list_indexAt p its.toArray n dd sl u (inE s.heap (eA dx)) j hsz hsmall (by simpa using hhit) (fun m hm hmj=>by have:=hno m hmj;simpa using this)) ⟨h1,fun w hw=>kx hu I hx hc r1 ru ra r w (by simpa using hw),?_⟩;exact⟨.int j,H,I.tok _,⟨s.toks,rfl⟩,q⟩
theorem nN {M:am}{o x:D}{xs:List D}{v y:V}{Q:VK}(hw:Wr X.K θ H M)(r:cw X.K θ H o v)(el:et o M=some xs)(ry:cw X.K θ H x y)(h:aI X θ H Q (fy xs x M)):nk X v [y] H Q:=by
 obtain⟨a,vs,ea,sq,ra⟩:=o5 hw r el;unfold fy at h
 by_cases hc:(ar 40 x&&xs.all (ar 40))=true
 ·rw[if_pos hc] at h;rw[Bool.and_eq_true] at hc;cases hj:xs.findIdx? fun y=>gm y x with
  | none=>rw[hj] at h;exact h.elim
  | some j=>rw[hj] at h;exact⟨θ,a,xs,vs,x,y,j,ea,rfl,sq,ra,ry,hc.1,hc.2,hj,h _ θ H (.refl hw) rfl⟩
 ·rw[if_neg hc] at h;exact h.elim
end
section
variable {X:Cx}{k:Nat}{o e:Expr}{go ge:GE}{apos cpos:Pos}
theorem qE (hr:cc k X.A):Q2 X (compareOp .NotIn) (xp true):=⟨oB hr.units⟩
theorem nq (hr:cc k X.A)(ho:QE X o go)(he:QE X e ge)(h1:bF e=true:=by rfl)(hbase:attributeBase o "index" X.env (eval o X.env)=eval o X.env:=by rfl)(hline:(apos.endLine==cpos.line)=true:=by rfl) :
  QE X (.Call (.Attribute o "index" apos) [e] [] cpos) (fb fy go ge):=
 ⟨(ur PySem.F.plainAttrs_list PySem.F.slot_list_index PySem.F.type_list_index (nI hr.units) ho.h (jI he.h lK (sE h1)) hbase (p6 h1) hline (sE h1) rfl).of fun σ H Q h=>sr (sE h1) (fun θ H M o x xs v y Q=>nN) h⟩
end
end DL
namespace DL
open PySem L2
def av:Nat→D→Bool
 | 0,_=>false
 | f+1,d=>match d with
  | .mr _=>false
  | .tup xs=>xs.all (av f)
  | .lst xs=>xs.all (av f)
  | .ro xs=>xs.all (av f)
  | _=>true
theorem bC {f:D→Option D}:∀{xs:List D},(∀x∈xs,f x=some x)→aT f xs=some xs
 | [],_=>rfl
 | x::xs,h=>by
  unfold aT;rw[h x List.mem_cons_self,bC fun y hy=>h y (List.mem_cons_of_mem _ hy)]
theorem fK {n:Nat}{M:am}:∀(f:Nat) (d:D),av f d=true→frz n M f d=some d
 | 0,d,h=>by cases h
 | f+1,d,h=>by
  cases d with
  | mr k=>cases h
  | tup xs=>
   have h:xs.all (av f)=true:=h;show(aT (frz n M f) xs).map D.tup=_;rw[bC fun x hx=>fK f x (List.all_eq_true.mp h x hx)];rfl
  | lst xs=>
   have h:xs.all (av f)=true:=h;show(aT (frz n M f) xs).map D.lst=_;rw[bC fun x hx=>fK f x (List.all_eq_true.mp h x hx)];rfl
  | ro xs=>
   have h:xs.all (av f)=true:=h;show(aT (frz n M f) xs).map D.ro=_;rw[bC fun x hx=>fK f x (List.all_eq_true.mp h x hx)];rfl
  | _=>rfl
def qD:MO→Bool
 | .lst xs=>xs.all (av 30)
 | .obj _ fs=>fs.all fun p=>av 30 p.2
 | .dK fs=>fs.all fun p=>av 30 p.2
 | .dT fs=>fs.all fun p=>av 30 p.2
theorem gF {κ:Type}{f:D→Option D}:∀{fs:List (κ×D)},(∀p∈fs,f p.2=some p.2)→iZ f fs=some fs
 | [],_=>rfl
 | (x,d)::fs,h=>by
  unfold iZ;rw[h (x,d) List.mem_cons_self,gF fun y hy=>h y (List.mem_cons_of_mem _ hy)]
theorem jm {f:D→Option D}:∀{fs:List (Str×D)},(∀p∈fs,f p.2=some p.2)→kF f fs=some fs
 | [],_=>rfl
 | (x,d)::fs,h=>by
  unfold kF;rw[h (x,d) List.mem_cons_self,jm fun y hy=>h y (List.mem_cons_of_mem _ hy)]
@[simp] theorem xm (f:Nat) (i:Int):av (f+1) (.int i)=true:=rfl
@[simp] theorem yk (f:Nat) (i:Bool):av (f+1) (.bl i)=true:=rfl
@[simp] theorem xq (f:Nat):av (f+1) .non=true:=rfl
@[simp] theorem xt (f:Nat) (x:Str):av (f+1) (.str x)=true:=rfl
theorem xo (f:Nat)(xs:List D):av (f+1) (.tup xs)=xs.all (av f):=rfl
theorem gw (f:Nat)(l:List Int):(l.map D.int).all (av (f+1))=true:=by
 rw[List.all_map];exact List.all_eq_true.mpr fun x _=>rfl
theorem sR {α:Type}(xs:List α)(x:α):iS (xs++[x]) (-1)=some x:=by
 unfold iS n8;have h:-((xs++[x]).length:Int)≤-1:=by simp;omega
 rw[if_neg (by decide),if_pos h];have e:(-1+((xs++[x]).length:Int)).toNat=xs.length:=by simp;omega
 rw[e];simp
theorem lr {t:GT}{b:GS}{n:Nat}{ρ ρ2:bG}{M M1 M2:am}(h1:t ρ M=.ok true M1)(h2:b ρ M1=.ok (.nx ρ2) M2):b9 t b (n+1) ρ M=b9 t b n ρ2 M2:=by
 rw[b9,h1,ai,if_pos rfl,h2,ai]
theorem iq {t:GT}{b:GS}{n:Nat}{ρ:bG}{M M1:am}(h1:t ρ M=.ok false M1):b9 t b (n+1) ρ M=.ok (.nx ρ) M1:=by
 rw[b9,h1,ai,if_neg Bool.false_ne_true]
end DL
namespace DL
open PySem L2
theorem aq {a b:GS}{ρ ρ1:bG}{M M1:am}(h:a ρ M=.ok (.nx ρ1) M1):au a b ρ M=b ρ1 M1:=by
 unfold au;rw[h];rfl
theorem lj {a b:GS}{ρ:bG}{d:D}{M M1:am}(h:a ρ M=.ok (.rt d) M1):au a b ρ M=.ok (.rt d) M1:=by
 unfold au;rw[h];rfl
theorem jK {t:GT}{a b:GS}{ρ:bG}{M M1:am}(h:t ρ M=.ok true M1):fz t a b ρ M=a ρ M1:=by
 unfold fz;rw[h,ai,if_pos rfl]
theorem fB {t:GT}{a b:GS}{ρ:bG}{M M1:am}(h:t ρ M=.ok false M1):fz t a b ρ M=b ρ M1:=by
 unfold fz;rw[h,ai,if_neg Bool.false_ne_true]
theorem aA {i:Nat}{g:GE}{ρ:bG}{M M1:am}{d:D}(h:g ρ M=.ok d M1):aC i g ρ M=.ok (.nx (ρ.set i (some d))) M1:=by
 unfold aC;rw[h,ai]
theorem gY {g:GE}{ρ:bG}{M M1:am}{d:D}(h:g ρ M=.ok d M1):d7 g ρ M=.ok (.nx ρ) M1:=by
 unfold d7;rw[h,ai]
theorem ck {g:GE}{ρ:bG}{M M1:am}{d:D}(h:g ρ M=.ok d M1):bc g ρ M=.ok (.rt d) M1:=by
 unfold bc;rw[h,ai]
theorem qh {a b:GT}{ρ:bG}{M:am}{x y:Bool}(ha:a ρ M=.ok x M)(hb:x=false→b ρ M=.ok y M):iM a b ρ M=.ok (x||y) M:=by
 unfold iM;rw[ha,ai];cases x with
 | true=>rfl
 | false=>exact hb rfl
theorem bM {a:GE}{ρ:bG}{M M1:am}{x:Bool}(ha:a ρ M=.ok (.bl x) M1):br a ρ M=.ok x M1:=by
 unfold br;rw[ha,ai];rfl
theorem al {f:F2}{a b:GE}{ρ:bG}{M M1 M2:am}{x y:D}{o:aN D}(ha:a ρ M=.ok x M1)(hb:b ρ M1=.ok y M2)(h:f x y M2=o):g2 f a b ρ M=o:=by
 unfold g2;rw[ha,ai,hb,ai,h]
theorem fg {F:FD}{a:GE}{ρ:bG}{M M1:am}{x:D}{o:aN D}(ha:a ρ M=.ok x M1)(h:F [x] M1=o):aH F (aa a ag) ρ M=o:=by
 unfold aH aa ag;rw[ha,ai,ai,ai,h]
theorem mz {F:FD}{a:GE}{ρ:bG}{M M1:am}{x:D}{o:aN D}(ha:a ρ M=.ok x M1)(h:F [x] M1=o):aj 1 F (aa a ag) ρ M=o:=by
 unfold aj aa ag;rw[ha,ai,ai,ai,if_pos (show [x].length=1 from rfl),h]
theorem bf {F:FD}{a b:GE}{ρ:bG}{M M1 M2:am}{x y:D}{o:aN D}(ha:a ρ M=.ok x M1)(hb:b ρ M1=.ok y M2)(h:F [x,y] M2=o):aj 2 F (aa a (aa b ag)) ρ M=o:=by
 unfold aj aa ag;rw[ha,ai,hb,ai,ai,ai,ai,if_pos (show [x,y].length=2 from rfl),h]
theorem yE {F:FD}{a b c:GE}{ρ:bG}{M M1 M2 M3:am}{x y z:D}{o:aN D}(ha:a ρ M=.ok x M1)(hb:b ρ M1=.ok y M2)(hc:c ρ M2=.ok z M3)(h:F [x,y,z] M3=o):aj 3 F (aa a (aa b (aa c ag))) ρ M=o:=by
 unfold aj aa ag;rw[ha,ai,hb,ai,hc,ai,ai,ai,ai,ai,if_pos (show [x,y,z].length=3 from rfl),h]
theorem mF {i:Nat}{ρ:bG}{M:am}{xs:List D}(h:ρ[i]?=some (some (.tup xs))):eY (ae i) ρ M=.ok ⟨xs,none⟩ M:=by
 unfold eY ae;rw[h];rfl
theorem iN (M:am)(E:List D):(M++[MO.lst E])[M.length]?=some (.lst E):=by simp
theorem vm (M:am)(E E':List D):(M++[MO.lst E]).set M.length (.lst E')=M++[MO.lst E']:=by simp
theorem wH {M:am}{E:List D}{d:D}(h:E.length<1000000):lu M.length d (M++[MO.lst E])=.ok .non (M++[MO.lst (E++[d])]):=by
 have l:E.length<sizeLine:=Nat.lt_of_lt_of_le h (by rw[sizeLine_eq];decide);unfold lu;rw[iN];dsimp only;rw[if_pos l,vm]
theorem vc {go ge:GE}{ρ:bG}{M:am}{E:List D}{d:D}(h1:go ρ (M++[MO.lst E])=.ok (.mr M.length) (M++[MO.lst E]))(h2:ge ρ (M++[MO.lst E])=.ok d (M++[MO.lst E]))(h:E.length<1000000) :
  fG go ge ρ (M++[MO.lst E])=.ok .non (M++[MO.lst (E++[d])]):=by
 unfold fG;rw[h1,ai];dsimp only;rw[iN];dsimp only;rw[h2,ai,wH h]
theorem fi {xs:List D}{k:Nat}{d:D}{M:am}(h:xs[k]?=some d):aB (.lst xs) (.int k) M=.ok d M:=by
 have a:=fZ (xs:=xs) (j:=k) h;unfold aB bn;dsimp only;rw[a]
theorem bj {xs:List D}{k:Nat}{d:D}{M:am}(h:xs[k]?=some d):aB (.tup xs) (.int k) M=.ok d M:=by
 have a:=fZ (xs:=xs) (j:=k) h;unfold aB bn;dsimp only;rw[a]
theorem jS {ρ:bG}{M:am}:dR ag ρ M=.ok (.mr M.length) (M++[.lst []]):=by
 show(if([]:List D).length≤sizeLine then aN.ok (D.mr M.length) (M++[.lst []]) else .bad)=_;rw[if_pos (show([]:List D).length≤sizeLine from Nat.zero_le _)]
theorem bp {ga:GA}{ρ:bG}{M M1:am}{ds:List D}(h:ga ρ M=.ok ds M1)(hl:ds.length≤100000:=by exact Nat.le_of_ble_eq_true rfl):aL ga ρ M=.ok (.tup ds) M1:=by
 have:ds.length≤sizeLine:=bQ (by omega);unfold aL;rw[h,ai];unfold iQ;rw[if_pos this]
theorem fo {ga:GA}{ρ:bG}{M M1:am}{ds:List D}(h:ga ρ M=.ok ds M1)(hl:ds.length≤100000:=by exact Nat.le_of_ble_eq_true rfl):dg ga ρ M=.ok (.lst ds) M1:=by
 have:ds.length≤sizeLine:=bQ (by omega);unfold dg;rw[h,ai];unfold bo;rw[if_pos this]
theorem ao {g:GE}{r:GA}{ρ:bG}{M M1 M2:am}{d:D}{ds:List D}(h:g ρ M=.ok d M1)(hr:r ρ M1=.ok ds M2):aa g r ρ M=.ok (d::ds) M2:=by
 unfold aa;rw[h,ai,hr,ai]
theorem l9 {go ge:GE}{ρ:bG}{M M1:am}{k:Nat}{E E1:List D}{d:D}(h1:go ρ M=.ok (.mr k) M)(h2:M[k]?=some (.lst E))(h3:ge ρ M=.ok d M1)(h4:M1[k]?=some (.lst E1))(h:E1.length<1000000) :
  fG go ge ρ M=.ok .non (M1.set k (.lst (E1++[d]))):=by
 have l:E1.length<sizeLine:=Nat.lt_of_lt_of_le h (by rw[sizeLine_eq];decide);unfold fG;rw[h1,ai];dsimp only;rw[h2];dsimp only;rw[h3,ai];unfold lu;rw[h4];dsimp only;rw[if_pos l]
theorem eR {ga:GA}{ρ:bG}{M M1:am}{n:Nat}(h:ga ρ M=.ok [.int (n:Int)] M1)(hn:n≤1000000):cx ga ρ M=.ok ⟨aD 0 n,none⟩ M1:=by
 unfold cx;rw[h,ai,p4 hn]
theorem fq {gi:GI}{sg:GG}{b:GS}{ρ:bG}{M M1:am}{t:jq}{o:aN Fl}(h:gi ρ M=.ok t M1)(e:bY t sg b t.ds ρ M1=o):gT gi sg b ρ M=o:=by
 unfold gT;rw[h,ai,e]
theorem jY {i j:Int}(h0:0<j)(h1:j≤1000000)(M:am):bW (.int i) (.int j) M=.ok (.int (i / j)) M:=by
 have h2:j.natAbs<2 ^ 20:=by omega
 have h3:j.natAbs≠0:=by omega
 have h4:=(Nat.log2_lt h3).mpr h2;unfold bW;dsimp only;rw[if_pos ⟨h0,by omega⟩]
theorem tR {d:D}(h:ar 40 d=true)(hs:gm d d=true)(hm:∀M,iT d M=d)(M:am):gW true d d M=.ok (.bl false) M:=by
 unfold gW;rw[hm,h,hs];rfl
end DL
namespace DL
open PySem L2
def cN (n:Nat):Nat→D→Bool
 | 0,_=>false
 | f+1,d=>match d with
  | .mr k=>decide (k<n)
  | .tup xs=>xs.all (cN n f)
  | .lst xs=>xs.all (cN n f)
  | .ro xs=>xs.all (cN n f)
  | _=>true
theorem dL {n:Nat}{M:am}:∀(f:Nat) (d:D),cN n f d=true→frz n M f d=some d
 | 0,d,h=>by cases h
 | f+1,d,h=>by
  cases d with
  | mr k=>
   have h:decide (k<n)=true:=h;show(if k<n then some (D.mr k) else _)=_;rw[if_pos (of_decide_eq_true h)]
  | tup xs=>
   have h:xs.all (cN n f)=true:=h;show(aT (frz n M f) xs).map D.tup=_;rw[bC fun x hx=>dL f x (List.all_eq_true.mp h x hx)];rfl
  | lst xs=>
   have h:xs.all (cN n f)=true:=h;show(aT (frz n M f) xs).map D.lst=_;rw[bC fun x hx=>dL f x (List.all_eq_true.mp h x hx)];rfl
  | ro xs=>
   have h:xs.all (cN n f)=true:=h;show(aT (frz n M f) xs).map D.ro=_;rw[bC fun x hx=>dL f x (List.all_eq_true.mp h x hx)];rfl
  | _=>rfl
theorem c8 {n:Nat}:∀(f:Nat) (d:D),av f d=true→cN n f d=true
 | 0,d,h=>by cases h
 | f+1,d,h=>by
  cases d with
  | mr k=>cases h
  | tup xs=>exact List.all_eq_true.mpr fun x hx=>c8 f x (List.all_eq_true.mp (show xs.all (av f)=true from h) x hx)
  | lst xs=>exact List.all_eq_true.mpr fun x hx=>c8 f x (List.all_eq_true.mp (show xs.all (av f)=true from h) x hx)
  | ro xs=>exact List.all_eq_true.mpr fun x hx=>c8 f x (List.all_eq_true.mp (show xs.all (av f)=true from h) x hx)
  | _=>rfl
theorem c9 {n m:Nat}(hn:n≤m):∀(f:Nat) (d:D),cN n f d=true→cN m f d=true
 | 0,d,h=>by cases h
 | f+1,d,h=>by
  cases d with
  | mr k=>exact decide_eq_true (Nat.lt_of_lt_of_le (of_decide_eq_true (show decide (k<n)=true from h)) hn)
  | tup xs=>exact List.all_eq_true.mpr fun x hx=>c9 hn f x (List.all_eq_true.mp (show xs.all (cN n f)=true from h) x hx)
  | lst xs=>exact List.all_eq_true.mpr fun x hx=>c9 hn f x (List.all_eq_true.mp (show xs.all (cN n f)=true from h) x hx)
  | ro xs=>exact List.all_eq_true.mpr fun x hx=>c9 hn f x (List.all_eq_true.mp (show xs.all (cN n f)=true from h) x hx)
  | _=>rfl
def qG (n:Nat):MO→Bool
 | .lst xs=>xs.all (cN n 30)
 | .obj _ fs=>fs.all fun p=>cN n 30 p.2
 | .dK fs=>fs.all fun p=>cN n 30 p.2
 | .dT fs=>fs.all fun p=>cN n 30 p.2
theorem nA {n m:Nat}(hn:n≤m){o:MO}(h:qG n o=true):qG m o=true:=by
 cases o with
 | lst xs=>exact List.all_eq_true.mpr fun x hx=>c9 hn 30 x (List.all_eq_true.mp (show xs.all (cN n 30)=true from h) x hx)
 | obj c fs=>exact List.all_eq_true.mpr fun x hx=>c9 hn 30 x.2 (List.all_eq_true.mp (show(fs.all fun p=>cN n 30 p.2)=true from h) x hx)
 | dK fs=>exact List.all_eq_true.mpr fun x hx=>c9 hn 30 x.2 (List.all_eq_true.mp (show(fs.all fun p=>cN n 30 p.2)=true from h) x hx)
 | dT fs=>exact List.all_eq_true.mpr fun x hx=>c9 hn 30 x.2 (List.all_eq_true.mp (show(fs.all fun p=>cN n 30 p.2)=true from h) x hx)
theorem jb {n:Nat}{o:MO}(h:qD o=true):qG n o=true:=by
 cases o with
 | lst xs=>exact List.all_eq_true.mpr fun x hx=>c8 30 x (List.all_eq_true.mp (show xs.all (av 30)=true from h) x hx)
 | obj c fs=>exact List.all_eq_true.mpr fun x hx=>c8 30 x.2 (List.all_eq_true.mp (show(fs.all fun p=>av 30 p.2)=true from h) x hx)
 | dK fs=>exact List.all_eq_true.mpr fun x hx=>c8 30 x.2 (List.all_eq_true.mp (show(fs.all fun p=>av 30 p.2)=true from h) x hx)
 | dT fs=>exact List.all_eq_true.mpr fun x hx=>c8 30 x.2 (List.all_eq_true.mp (show(fs.all fun p=>av 30 p.2)=true from h) x hx)
theorem eI {n:Nat}{M:am}:∀{l:List MO},l.all (qG n)=true→db n M l=some l
 | [],_=>rfl
 | .lst xs::r,h=>by
  rw[List.all_cons,Bool.and_eq_true] at h;unfold db;rw[eI h.2];have h1:xs.all (cN n 30)=true:=h.1;rw[bC fun x hx=>dL 30 x (List.all_eq_true.mp h1 x hx)]
 | .obj c fs::r,h=>by
  rw[List.all_cons,Bool.and_eq_true] at h;unfold db;rw[eI h.2];have h1:(fs.all fun p=>cN n 30 p.2)=true:=h.1;rw[jm fun p hp=>dL 30 p.2 (List.all_eq_true.mp h1 p hp)]
 | .dK fs::r,h=>by
  rw[List.all_cons,Bool.and_eq_true] at h;unfold db;rw[eI h.2];have h1:(fs.all fun p=>cN n 30 p.2)=true:=h.1;rw[gF fun p hp=>dL 30 p.2 (List.all_eq_true.mp h1 p hp)]
 | .dT fs::r,h=>by
  rw[List.all_cons,Bool.and_eq_true] at h;unfold db;rw[eI h.2];have h1:(fs.all fun p=>cN n 30 p.2)=true:=h.1;rw[gF fun p hp=>dL 30 p.2 (List.all_eq_true.mp h1 p hp)]
def cT (M:am):Prop:=M.all (qG M.length)=true
theorem cT.pure {M:am}(h:M.all qD=true):cT M:=List.all_eq_true.mpr fun x hx=>jb (List.all_eq_true.mp h x hx)
theorem hR {d:D}{M E:am}(hd:av 30 d=true)(hM:cT M):fV M.length (.ok d (M++E))=.ok d M:=by
 unfold fV
 by_cases h:(M++E).length=M.length
 ·have:E=[]:=by
   rw[List.length_append] at h;exact List.length_eq_zero_iff.mp (by omega)
  subst this;simp
 ·simp only[if_neg h];rw[List.take_left,fK 30 d hd,eI hM]
end DL
namespace Hd
open PySem PySem.W PySem.Calls PyProof.Rows
def topRunT (tb:String→Option Builtin)(p:Program)(w:World)(n0:Nat)(ann:Option Value):Nat→SharedT→Thread→Option SharedT
 | 0,_,_=>none
 | n+1,s,t=>match through t with
  | true=>some s
  | false=>match stepOk n0 ann t with
   | false=>none
   | true=>match stepT (denote tb) p w s t with
    | some (s',t')=>topRunT tb p w n0 ann n s' t'
    | none=>none
theorem ju {tb:String→Option Builtin}{p:Program}{w:World}{n0:Nat}{ann:Option Value}:∀{n:Nat} {s s':SharedT} {t:Thread},topRunT tb p w n0 ann n s t=some s'→topRun tb p w n0 ann n s.abs t=some s'.abs
 | 0,_,_,_,h=>by cases h
 | n+1,s,s',t,h=>by
  unfold topRunT at h;unfold topRun;cases he:through t with
  | true=>rw[he] at h;cases h;rfl
  | false=>
   rw[he] at h;cases hk:stepOk n0 ann t with
   | false=>rw[hk] at h;cases h
   | true=>
    rw[hk] at h;cases hs:stepT (denote tb) p w s t with
    | none=>rw[hs] at h;cases h
    | some r=>obtain⟨s2,t2⟩:=r;rw[hs] at h;rw[stepT_spec hs];exact ju h
def grow:List Obj→BT→Nat→BT
 | [],t,_=>t
 | o::r,t,n=>grow r (t.ins n o) (n+1)
def ut:List Obj→BT→Nat→Bool
 | [],_,_=>true
 | o::r,t,n=>((t.ins n o).get n).isSome&&ut r (t.ins n o) (n+1)
theorem lE (life:Life):∀(l:List Obj) (t:BT) (n:Nat),ut l t n=true→absHeap (grow l t n) (n+l.length) life=⟨(absHeap t n life).objs++l.toArray,life⟩
 | [],t,n,_=>by simp[grow,absHeap]
 | o::r,t,n,h=>by
  obtain⟨h1,h2⟩:=Bool.and_eq_true_iff.mp h;have e:=lE life r (t.ins n o) (n+1) h2;have e2:absHeap (t.ins n o) (n+1) life=(absHeap t n life).push o:=absHeap_ins h1;show absHeap (grow r (t.ins n o) (n+1)) (n+(r.length+1)) life=_;rw[show n+(r.length+1)=n+1+r.length by omega,e,e2];simp[Heap.push]
theorem mi {p q:Program}{loose:List Str}{Xt:Shared→Bool}{A:Type}{Yf:Shared→A}{Ya:World→A}{N:Nat}{g0:Bool}{H:Params→Heap}{gs:Array GenState}{d:Drawn}{k:Nat}{m:Nat}{ann:Option Value}{T:Params→BT}{lf:Life}
  (open_:∀w:World,(fencedOpening treeTable p w N).map (fun s=>(s.heap,s.gens,s.drawn,s.toks))=some (H w.params,gs,d,k))
  (size:∀w:World,((H w.params).isNs mainGlobals&&gs.size==0,(H w.params).objs.size,(H w.params).nsMap mainGlobals "__annotations__")=(true,m,ann))
  (tree:∀P,H P=absHeap (T P) m lf)
  (run:∀(w:World) (os:OsState),(topRunT treeTable p w m ann N ⟨T w.params,m,lf,gs,d,k,os⟩ (topStub p)).map (fun s=>
    ((staticsOk (importedModules p.main.body) (H w.params) s.abs.heap&&namesBound p s.abs.heap&&gensDone s.abs&&laidKept (H w.params) s.abs.heap),
    openSeen q loose (importedModules p.main.body) Xt g0 s.abs,Yf s.abs))=some (true,openGood q loose,Ya w)):LeftO p q loose Xt Yf Ya N g0:=fun w=>by
 obtain⟨⟨h,gs',d',k',os⟩,e,e'⟩:=Option.map_eq_some_iff.mp (open_ w);obtain⟨rfl,rfl,rfl,rfl⟩:h=H w.params∧gs'=gs∧d'=d∧k'=k:=by simpa using e'
 obtain⟨z1,z2,z3⟩:_∧_∧_:=by simpa only[Prod.mk.injEq] using size w
 obtain⟨s,r1,r2⟩:=Option.map_eq_some_iff.mp (run w os);obtain⟨l1,l2,l3⟩:_∧_∧_:=by simpa only[Prod.mk.injEq] using r2
 have r:=ju r1;have ea:SharedT.abs ⟨T w.params,m,lf,gs',d',k',os⟩=⟨H w.params,gs',d',k',os⟩:=by rw[tree];rfl
 rw[ea] at r;have t:topFrom treeTable p w N ⟨H w.params,gs',d',k',os⟩=some s.abs:=by
  unfold topFrom;dsimp only;rw[z1,z2,z3,r];show(match staticsOk (importedModules p.main.body) (H w.params) s.abs.heap&&namesBound p s.abs.heap&&gensDone s.abs&&laidKept (H w.params) s.abs.heap with|true=>_|false=>_)=_;rw[l1]
 unfold openEnds;rw[e];show(topFrom treeTable p w N _).map _=_;rw[t];exact congrArg some (Prod.ext l2 l3)
noncomputable def bootT (P:Params):BT:=grow (boot_heap P).objs.toList .nil 0
lay_quick Hd.topRunT W.topStub
theorem ow (P:Params):boot_heap P=absHeap (bootT P) 11 {}:=by
 have h:=lE {} (boot_heap P).objs.toList .nil 0 (by kernel_rfl);exact h.symm
noncomputable def RT (p:Program) (w:World) (N:Nat) (os:OsState):Option SharedT:=topRunT treeTable p w 11 (some (Value.ref 6)) N ⟨bootT w.params,11,{},Array.mk [],boot_drawn,boot_toks,os⟩ (topStub p)
noncomputable def pA (p:Program) (P:Params) (s:Shared):Bool:=staticsOk (importedModules p.main.body) (boot_heap P) s.heap&&namesBound p s.heap&&gensDone s&&laidKept (boot_heap P) s.heap
def pB (q:Program)(mods:List Str)(Xt:Shared→Bool)(s:Shared):Bool:=(s.heap.keysOk (looseW q []) ((recsOf q).map (·.name)) ((litsOf q).map (·.1)) ((clssOf q (looseW q [])).map (·.name))&&s.heap.accountedOkI mods&&s.heap.isNs mainGlobals&&s.heap.isNs builtinsNs&&tablesOk q s.heap&&Xt s&&(if true then s.gens.size==0 else !leftWithCleanup s.gens))&&tabsOk q s
def pC (q:Program)(s:Shared):=(seen ((recsOf q).map (·.name)) (ownsOf q) [] {s with gens:=#[]},s.heap.bltView,wideSeen q s)
def pD (q:Program)(s:Shared):=(pinSeenD q (drecsOf q) s,plainSeenE q (looseW q []) s,plainSeenD q [] s,clsSeenW q [] s)
lay_quick Hd.pB
lay_quick Hd.pC
lay_quick Hd.pD
theorem jG {α A B:Type}{x:Option α}{f:α→A}{g:α→B}{a:A}{b:B}(h1:x.map f=some a)(h2:x.map g=some b):x.map (fun s=>(f s,g s))=some (a,b):=by
 cases x with
 | none=>cases h1
 | some s=>exact congrArg some (Prod.ext (Option.some.inj h1) (Option.some.inj h2))
theorem my {p q:Program}{Xt:Shared→Bool}{A:Type}{Yf:Shared→A}{Ya:World→A}{N:Nat}
  (open_:∀w:World,(fencedOpening treeTable p w N).map (fun s=>(s.heap,s.gens,s.drawn,s.toks))=some (boot_heap w.params,Array.mk [],boot_drawn,boot_toks))
  (size:∀w:World,((boot_heap w.params).isNs mainGlobals&&(Array.mk ([]:List GenState)).size==0,(boot_heap w.params).objs.size,(boot_heap w.params).nsMap mainGlobals "__annotations__")=(true,11,some (Value.ref 6)))
  (r1:∀(w:World) (os:OsState),(RT p w N os).map (fun s=>pA p w.params s.abs&&pB q (importedModules p.main.body) Xt s.abs)=some true)
  (r2:∀(w:World) (os:OsState),(RT p w N os).map (fun s=>pC q s.abs)=some (expectedOf q,bltViewBooted,wideGood q))
  (r3:∀(w:World) (os:OsState),(RT p w N os).map (fun s=>pD q s.abs)=some (pinGoodD (drecsOf q),plainGoodE q (looseW q []),plainGoodD q [],clsGoodW q []))
  (r4:∀(w:World) (os:OsState),(RT p w N os).map (fun s=>Yf s.abs)=some (Ya w)):LeftO p q [] Xt Yf Ya N true:=
 mi open_ size ow fun w os=>by
  show(RT p w N os).map _=_;have h:=jG (jG (r1 w os) (r2 w os)) (jG (r3 w os) (r4 w os));cases e:RT p w N os with
  | none=>rw[e] at h;cases h
  | some s=>
   rw[e] at h;obtain⟨h1,h2⟩:=Prod.mk.inj (Option.some.inj h);obtain⟨h1,h3⟩:=Prod.mk.inj h1;obtain⟨h4,h5⟩:=Prod.mk.inj h2;obtain⟨a,b⟩:=Bool.and_eq_true_iff.mp h1;obtain⟨b,c⟩:=Bool.and_eq_true_iff.mp b;obtain⟨c1,c2⟩:=Prod.mk.inj h3;obtain⟨c2,c3⟩:=Prod.mk.inj c2;obtain⟨d1,d2⟩:=Prod.mk.inj h4;obtain⟨d2,d3⟩:=Prod.mk.inj d2;obtain⟨d3,d4⟩:=Prod.mk.inj d3;exact congrArg some (Prod.ext a (Prod.ext (Prod.ext c1 (Prod.ext c2 (Prod.ext b (Prod.ext c (Prod.ext d1 (Prod.ext d2 (Prod.ext d3 (Prod.ext c3 d4)))))))) h5))
def lk (s:SharedT)(a:Nat):Option Obj:=match Nat.blt a s.n with
 | true=>(match s.tree.get a with
  | some o=>alive o
  | none=>none)
 | false=>none
theorem yj {s:SharedT}{a:Nat}{o:Obj}(h:lk s a=some o):s.abs.heap.get? a=some o:=by
 unfold lk at h;cases b:Nat.blt a s.n with
 | false=>rw[b] at h;cases h
 | true=>
  rw[b] at h;cases g:s.tree.get a with
  | none=>rw[g] at h;cases h
  | some x=>rw[g] at h;exact(abs_get (Nat.blt_eq.mp b) g).trans h
theorem pP {s:SharedT}{β:Type}{f:β→Obj}:∀{as:List Nat} {l:List β},as.map (lk s)=l.map (fun p=>some (f p))→as.map s.abs.heap.get?=l.map (fun p=>some (f p))
 | [],[],_=>rfl
 | [],_::_,h=>by cases h
 | _::_,[],h=>by cases h
 | a::as,p::l,h=>by
  obtain⟨x,y⟩:=List.cons.inj h;show s.abs.heap.get? a::as.map s.abs.heap.get?=_;rw[yj x,pP y];rfl
theorem left_k {p q:Program}{Xt:Shared→Bool}{N:Nat}{K:Params→Frag}{as:List Addr}{e:∀P,as=(K P).map (·.1)}
  (open_:∀w:World,(fencedOpening treeTable p w N).map (fun s=>(s.heap,s.gens,s.drawn,s.toks))=some (boot_heap w.params,Array.mk [],boot_drawn,boot_toks))
  (size:∀w:World,((boot_heap w.params).isNs mainGlobals&&(Array.mk ([]:List GenState)).size==0,(boot_heap w.params).objs.size,(boot_heap w.params).nsMap mainGlobals "__annotations__")=(true,11,some (Value.ref 6)))
  (r1:∀(w:World) (os:OsState),(RT p w N os).map (fun s=>pA p w.params s.abs&&pB q (importedModules p.main.body) Xt s.abs)=some true)
  (r2:∀(w:World) (os:OsState),(RT p w N os).map (fun s=>pC q s.abs)=some (expectedOf q,bltViewBooted,wideGood q))
  (r3:∀(w:World) (os:OsState),(RT p w N os).map (fun s=>pD q s.abs)=some (pinGoodD (drecsOf q),plainGoodE q (looseW q []),plainGoodD q [],clsGoodW q []))
  (r4:∀(w:World) (os:OsState),(RT p w N os).map (fun s=>as.map (lk s))=some ((K w.params).map (fun p=>some p.2))) :
  LeftO p q [] Xt (kHook K as e).obs (kHook K as e).val N true:=
 my open_ size r1 r2 r3 fun w os=>by
  obtain⟨s,h1,h2⟩:=Option.map_eq_some_iff.mp (r4 w os);rw[h1];exact congrArg some (pP h2)
end Hd
namespace K30
open PySem PySem.Spec PyProof.Rows L2 DL List
noncomputable def top (i:Nat):Stmt:=PySem.Challenge.pw_glowrow_k30_films_gone_on.main.body.getD i (.Pass ⟨0,0,0,0⟩)
noncomputable abbrev um:Stmt:=top 22
noncomputable abbrev TX:=Tx (("_law_draw",top 9,["tape","many"])::("_law_size",top 10,["tape","most"])::("_law_frame",top 11,["tape","most"])::("_law_inks",top 12,["tape","wide","thin"])::("_law_inked",top 13,["tape","most"])::("_law_far",top 14,["tape","size"])::("_law_mover",top 15,["tape","frame","shapes"])::("_law_stand",top 16,["tape","frame","movers_most"])::("_law_way",top 17,["tape","at"])::("_law_film",top 18,["tape","most"])::("_law_path_on",top 19,["path"])::("_law_path_far",top 20,["path","many"])::("_law_film_far",top 21,["film","many"])::("path_behind",top 2,["path"])::("run_of",top 3,["path"])::("path_at",top 4,["path","many"])::("pair_at",top 6,["pair","many"])::("places_of",top 1,["pair"])::("mover_on",top 7,["mover","pair"])::("film_at",top 5,["film","many"])::[])
 ([])
 []
 ("int"::"len"::"list"::"max"::"min"::"range"::"tuple"::"zip"::[]) []
 ([]) []
 ([]) [] []
set_option hygiene false
local macro_rules | `(tactic| walk_at "o") => `(tactic| first | with_reducible exact yY | with_reducible exact q_addM | with_reducible exact xS | with_reducible exact xV | with_reducible exact vE | with_reducible exact zi | with_reducible exact yn | with_reducible exact Ap | with_reducible exact AS | with_reducible exact AC | with_reducible exact An | with_reducible exact AD | with_reducible exact tL | with_reducible exact q_in | with_reducible exact q_notin | with_reducible exact q_mulT | with_reducible exact q_inA | ((with_reducible show Q2 _ _ (xp _)); first | exact q_inG hr | exact qE hr) | ((with_reducible show Q2 _ _ (xi _)); first | exact q_din hr | exact pT hr) | ((with_reducible show Q2 _ (compareOp .Eq) _); exact q_eq hr) | exact AL hr)
local macro_rules | `(tactic| walk_at "c") => `(tactic| first | ((with_reducible refine xx)) | ((with_reducible refine uY)) | ((with_reducible refine zE)) | ((with_reducible refine tj ?_); rfl) | ((with_reducible refine sA)) | ((with_reducible refine vX)) | ((with_reducible refine yW ?_); rfl) | ((with_reducible refine yP ?_); rfl) | ((with_reducible refine tW)))
local macro_rules | `(tactic| walk_at "b") => `(tactic| with_reducible first | exact Boot.«int» | exact Boot.«len» | exact Boot.«list» | exact Boot.«max» | exact Boot.«min» | exact Boot.«range» | exact Boot.«tuple» | exact Boot.«zip»)
local macro_rules | `(tactic| walk_at "E") => `(tactic| first
  | ((with_reducible show QE _ _ (ae _));exact qv _)
  | ((with_reducible show QE _ _ (gC _));first|exact wg|exact qe_str|exact wL|exact y9)
  | ((with_reducible show QE _ _ (g2 kW _ _));refine tX hr ?_ ?_)
  | ((with_reducible show QE _ _ (g2 aB _ _));refine zo ?_ ?_)
  | ((with_reducible show QE _ _ (g2 _ _ _));first|refine zJ (by walk_at "o") ?_ ?_|refine wk (by walk_at "o") ?_ ?_|refine qe_cmpI (by walk_at "o") ?_ ?_)
  | ((with_reducible show QE _ _ (aj _ _ _));refine yb (by assumption) hr ?_)
  | ((with_reducible show QE _ _ (aL _));refine vL ?_)
  | ((with_reducible show QE _ _ (aH _ _));first|refine yV (by walk_at "c") (T.z _ (by decide +kernel)) (by walk_at "b") ?_|refine yU (by walk_at "c") (by rfl) (T.z _ (by decide +kernel)) (by walk_at "b") ?_)
  | ((with_reducible show QE _ _ (dg _));refine wN ?_)
  | ((with_reducible show QE _ _ (dR _));refine vH ?_)
  | ((with_reducible show QE _ _ (en _));refine vd ?_)
  | ((with_reducible show QE _ _ (ny _ _ _ _ _));refine qe_chain (by walk_at "o") (by walk_at "o") ?_ ?_ ?_)
  | ((with_reducible show QE _ _ (gS _ _ _));refine pM ?_ ?_ ?_)
  | ((with_reducible show QE _ _ (cr _ _ _ _));first|refine qe_compR (by assumption) (by kernel_rfl) (by first|exact .inl rfl|exact .inr rfl) ?_ ?_ ?_|refine pO (by kernel_rfl) (by first|exact .inl rfl|exact .inr rfl) ?_ ?_ ?_)
  | ((with_reducible show QE _ _ (cy _ _ _ _ _ _));refine ot (by assumption) (by kernel_rfl) (by first|exact .inl rfl|exact .inr rfl) ?_ ?_ ?_ ?_ ?_)
  | ((with_reducible show QE _ _ (fG _ _));refine oj ?_ ?_)
  | ((with_reducible show QE _ _ (fb fy _ _));refine nq hr ?_ ?_)
  | ((with_reducible show QE _ _ (fb _ _ _));first|refine qe_count ?_ ?_|refine qe_index ?_ ?_)
  | ((with_reducible show QE _ _ (kN));exact qY))
local macro_rules | `(tactic| walk_at "S") => `(tactic| first
  | ((with_reducible show QS _ _ (bc _));refine wF ?_)
  | ((with_reducible show QS _ _ (fz _ _ _));refine xI ?_ ?_ ?_)
  | ((with_reducible show QS _ _ (aC _ (cr _ _ _ _)));first|refine qs_setCompR (by assumption) (by kernel_rfl) (by first|exact .inl rfl|exact .inr rfl) nd ?_ ?_ ?_|refine qs_setCompN (by kernel_rfl) (by first|exact .inl rfl|exact .inr rfl) nd ?_ ?_ ?_|refine qs_setC _ nd ?_)
  | ((with_reducible show QS _ _ (aC _ (cy _ _ _ _ _ _)));first|refine qs_setCompTR (by assumption) (by kernel_rfl) (by first|exact .inl rfl|exact .inr rfl) ?_ nd ?_ ?_ ?_ ?_|refine qs_setC _ nd ?_)
  | ((with_reducible show QS _ _ (aC _ _));refine uP _ nd ?_)
  | ((with_reducible show QS _ _ (dt _ _));refine vW ?_ ?_)
  | ((with_reducible show QS _ _ (gT _ _ _));refine vQ PassesOwn.leaving ?_ ?_ ?_)
  | ((with_reducible show QS _ _ (d7 _));refine tu ?_)
  | ((with_reducible show QS _ _ (dA _ _ _));refine vA ?_ ?_ ?_)
  | ((with_reducible show QS _ _ (jh _ _ _));refine sU hr ?_ ?_ ?_)
  | ((with_reducible show QS _ _ (bx));first|exact qs_pass|exact qs_doc)
  | ((with_reducible show QS _ _ (ft _ _ _));refine p5 PassesOwn.leaving ?_ ?_))
local macro_rules | `(tactic| walk_at "Q") => `(tactic| first
  | ((with_reducible show QE _ _ _);first|walk_at "E"|refine qe_one ?_|refine qe_and ?_ ?_|refine qe_or ?_ ?_|refine qe_fstr1 ?_)
  | ((with_reducible show QA _ _ _);first|exact wX|refine AN ?_ ?_)
  | ((with_reducible show QT _ _ _);first
  | ((with_reducible show QT _ _ (br (ny _ _ _ _ _)));refine pS (by walk_at "o") (by walk_at "o") ?_ ?_ ?_)
  | ((with_reducible show QT _ _ (br _));first|refine u7 (by walk_at "o") ?_ ?_|refine tU (by walk_at "o") ?_ ?_)
  | ((with_reducible show QT _ _ (d9 _ _));refine zA ?_)
  | ((with_reducible show QT _ _ (iM _ _));refine zA ?_))
  | ((with_reducible show QB _ _ _);first|exact wG|refine vG ?_|refine tm ?_ ?_)
  | ((with_reducible show QS _ _ _);walk_at "S")
  | ((with_reducible show QW _ _ _);first|refine vR ?_ ?_|refine zr ?_ ?_|refine tQ ?_|refine wM ?_)
  | ((with_reducible show QI _ _ _ _);first|((with_reducible show QI _ _ _ (cx _));refine yD (by rfl) (T.z _ (by decide +kernel)) ?_)|((with_reducible show QI _ _ _ (gRng2 _));refine qi_r2 (by rfl) (T.z _ (by decide +kernel)) ?_)|((with_reducible show QI _ _ _ (gEnum _));refine qi_enum (by rfl) (T.z _ (by decide +kernel)) (by walk_at "b") ?_)|((with_reducible show QI _ _ _ (mj _));refine vn (by rfl) (T.z _ (by decide +kernel)) (by walk_at "b") ?_)|refine vb ?_)
  | ((with_reducible show QG _ _ _);first|exact qn _ nd|exact Bn _ (by kernel_rfl)|refine uS ?_|refine qg_tupG ?_)
  | ((with_reducible show zd _ _ _);first|exact sH|refine xT ?_ ?_)
  | ((with_reducible show QGG _ _ _);first|exact qgg_nil|refine qgg_c ?_ ?_)
  | ((with_reducible show QP _ _ _);first|exact tw|refine rq ?_)
  | ((with_reducible show xl _ _ _ _ _ _);first|exact nH|refine q_onetest ?_)
  | ((with_reducible show QO _ _);first|exact qo_one _ _|exact vw _|refine qo_tupG ?_)
  | ((with_reducible show QOs _ _);first|exact qos_nil|refine qos_c ?_ ?_)
  | ((with_reducible show QF _ _ _);first|exact qf_nil|refine qf_c ?_ ?_)
  | ((with_reducible show QD _ _ _ _ _);first|exact qd_nil|refine qd_c ?_)
  | intro _)
section
variable {P:Program}{w:World}{K:W.Frag}{mg:Str→Option Value}{base:Heap}
noncomputable def dj:GS:=(au (aC 2 (gC (.int 2305843009213693951))) (au (fz (br (g2 kU (g2 aB (ae 0) (gC (.int 2))) (ae 1))) (au (aC 3 (gC (.int 0))) (au (fz (br (g2 mZ (aH cu (aa (g2 aB (ae 0) (gC (.int 0))) ag)) (gC (.int 0)))) (aC 3 (g2 aB (g2 aB (ae 0) (gC (.int 0))) (g2 cU (g2 aB (ae 0) (gC (.int 1))) (aH cu (aa (g2 aB (ae 0) (gC (.int 0))) ag))))) bx) (au (fz (iM (br (g2 ui (g2 aB (ae 0) (gC (.int 1))) (aH cu (aa (g2 aB (ae 0) (gC (.int 0))) ag)))) (br (g2 kU (ae 3) (g2 fm (gC (.int 10)) (gC (.int 18)))))) (au (aC 3 (g2 cU (g2 aJ (ae 3) (g2 cS (gC (.int 1000003)) (g2 aB (ae 0) (gC (.int 1))))) (ae 2))) (au (aC 3 (g2 cU (g2 aJ (g2 aJ (g2 cS (ae 3) (ae 3)) (g2 cS (gC (.int 1181783497276652981)) (ae 3))) (gC (.int 2049848353892358983))) (ae 2))) (aC 3 (g2 cU (g2 aJ (g2 cS (ae 3) (ae 3)) (gC (.int 1442695040888963407))) (ae 2))))) bx) (au (dA (ae 0) (gC (.int 1)) (g2 aJ (g2 aB (ae 0) (gC (.int 1))) (gC (.int 1)))) (dA (ae 0) (gC (.int 2)) (ae 3)))))) bx) (au (aC 4 (g2 cU (g2 aB (ae 0) (gC (.int 2))) (ae 1))) (au (dA (ae 0) (gC (.int 2)) (g2 bW (g2 aB (ae 0) (gC (.int 2))) (ae 1))) (bc (ae 4))))))
noncomputable def ah:FD:=cb 3 dj
theorem aY (T:TX P w K mg base):Ok P w K mg base "_law_draw" 1 2 ah:=dG (dC T.f 0 rfl) ["tape","many","prime","cell","found"] bU rfl fun f _ A _ s H E nd hr=>by delta dj;repeat' walk_at "Q"
noncomputable def eE:GS:=(bc (g2 aJ (gC (.int 1)) (g2 aB (dg (aa (aj 2 ah (aa (ae 0) (aa (aH ki (aa (ae 1) (aa (gC (.int 6)) ag))) ag))) (aa (aj 2 ah (aa (ae 0) (aa (ae 1) ag))) (aa (g2 cj (ae 1) (gC (.int 1))) ag)))) (g2 bW (g2 cS (aj 2 ah (aa (ae 0) (aa (gC (.int 8)) ag))) (gC (.int 3))) (gC (.int 10))))))
noncomputable def bO:FD:=cb 0 eE
theorem fF (T:TX P w K mg base):Ok P w K mg base "_law_size" 2 2 bO:=dG (dC T.f 1 rfl) ["tape","most"] bU rfl fun f _ A _ s H E nd hr=>by have:=aY T;delta eE;repeat' walk_at "Q"
noncomputable def dW:GS:=(au (aC 2 (g2 aB (dg (aa (gC (.int 0)) (aa (aj 2 ah (aa (ae 0) (aa (gC (.int 21)) ag))) ag))) (aj 2 ah (aa (ae 0) (aa (gC (.int 2)) ag))))) (bc (aL (aa (aj 2 bO (aa (ae 0) (aa (ae 1) ag))) (aa (aj 2 bO (aa (ae 0) (aa (ae 1) ag))) (aa (ae 2) (aa (aj 2 ah (aa (ae 0) (aa (gC (.int 13)) ag))) ag)))))))
noncomputable def cV:FD:=cb 1 dW
theorem i4 (T:TX P w K mg base):Ok P w K mg base "_law_frame" 3 2 cV:=dG (dC T.f 2 rfl) ["tape","most","gap"] bU rfl fun f _ A _ s H E nd hr=>by have:=aY T;have:=fF T;delta dW;repeat' walk_at "Q"
noncomputable def cn:GE:=(g2 cS (aj 2 ah (aa (ae 1) (aa (gC (.int 16)) ag))) (aH lS (aa (g2 mZ (aj 2 ah (aa (ae 1) (aa (ae 3) ag))) (gC (.int 0))) ag)))
noncomputable def eK:GS:=(bc (aH aF (aa (cr (cx (aa (ae 1) ag)) cP cn bo) ag)))
noncomputable def dq:FD:=cb 0 eK
theorem jP (T:TX P w K mg base):Ok P w K mg base "_law_inks" 2 3 dq:=dG (dC T.f 3 rfl) ["tape","wide","thin"] bU rfl fun f _ A _ s H E nd hr=>by have:=aY T;delta eK cn;repeat' walk_at "Q"
noncomputable def cJ:GE:=(aj 3 dq (aa (ae 1) (aa (ae 3) (aa (ae 4) ag))))
noncomputable def dM:GS:=(au (aC 2 (aj 2 bO (aa (ae 0) (aa (ae 1) ag)))) (au (aC 3 (g2 aJ (gC (.int 1)) (aj 2 ah (aa (ae 0) (aa (gC (.int 4)) ag))))) (bc (aH aF (aa (cr (cx (aa (aj 2 bO (aa (ae 0) (aa (ae 1) ag))) ag)) cP cJ bo) ag)))))
noncomputable def ce:FD:=cb 2 dM
theorem i5 (T:TX P w K mg base):Ok P w K mg base "_law_inked" 3 2 ce:=dG (dC T.f 4 rfl) ["tape","most","wide","thin"] bU rfl fun f _ A _ s H E nd hr=>by have:=aY T;have:=fF T;have:=jP T;delta dM cJ;repeat' walk_at "Q"
noncomputable def fv:GS:=(bc (g2 aB (dg (aa (g2 cj (aj 2 ah (aa (ae 0) (aa (g2 aJ (ae 1) (gC (.int 16))) ag))) (gC (.int 8))) (aa (g2 cj (aj 2 ah (aa (ae 0) (aa (gC (.int 2001)) ag))) (gC (.int 1000))) ag))) (g2 bW (aj 2 ah (aa (ae 0) (aa (gC (.int 8)) ag))) (gC (.int 7)))))
noncomputable def aS:FD:=cb 0 fv
theorem gO (T:TX P w K mg base):Ok P w K mg base "_law_far" 2 2 aS:=dG (dC T.f 5 rfl) ["tape","size"] bU rfl fun f _ A _ s H E nd hr=>by have:=aY T;delta fv;repeat' walk_at "Q"
noncomputable def bi:GS:=(au (aC 3 (gC .non)) (au (fz (d9 (br (g2 mZ (ae 2) (gC (.int 0)))) (br (g2 mZ (aj 2 ah (aa (ae 0) (aa (gC (.int 8)) ag))) (gC (.int 0))))) (aC 3 (aj 2 ah (aa (ae 0) (aa (ae 2) ag)))) bx) (bc (aL (aa (ae 3) (aa (aj 2 aS (aa (ae 0) (aa (g2 aB (ae 1) (gC (.int 0))) ag))) (aa (aj 2 aS (aa (ae 0) (aa (g2 aB (ae 1) (gC (.int 1))) ag))) (aa (aj 2 ah (aa (ae 0) (aa (gC (.int 4)) ag))) (aa (aj 2 ah (aa (ae 0) (aa (gC (.int 4)) ag))) ag)))))))))
noncomputable def dS:FD:=cb 1 bi
theorem i3 (T:TX P w K mg base):Ok P w K mg base "_law_mover" 3 3 dS:=dG (dC T.f 6 rfl) ["tape","frame","shapes","shape"] bU rfl fun f _ A _ s H E nd hr=>by have:=aY T;have:=gO T;delta bi;repeat' walk_at "Q"
noncomputable def cD:GE:=(aj 2 ce (aa (ae 1) (aa (gC (.int 8)) ag)))
noncomputable def cG:GE:=(aj 3 dS (aa (ae 1) (aa (ae 2) (aa (aH cu (aa (ae 7) ag)) ag))))
noncomputable def cH:GE:=(aj 2 ah (aa (ae 1) (aa (gC (.int 64)) ag)))
noncomputable def cR:GS:=(au (aC 3 (aj 2 ce (aa (ae 0) (aa (gC (.int 16)) ag)))) (au (aC 4 (aL (aa (aj 2 aS (aa (ae 0) (aa (gC (.int 9)) ag))) (aa (aj 2 aS (aa (ae 0) (aa (gC (.int 9)) ag))) ag)))) (au (aC 5 (g2 aB (dg (aa (aj 2 ah (aa (ae 0) (aa (gC (.int 4)) ag))) (aa (aj 2 ah (aa (ae 0) (aa (gC (.int 9)) ag))) ag))) (g2 bW (aj 2 ah (aa (ae 0) (aa (gC (.int 4)) ag))) (gC (.int 3))))) (au (aC 6 (aH aF (aa (cr (cx (aa (ae 5) ag)) cP cD bo) ag))) (au (aC 7 (aH aF (aa (cr (cx (aa (aj 2 ah (aa (ae 0) (aa (g2 aJ (ae 2) (gC (.int 1))) ag))) ag)) cP cG bo) ag))) (bc (aL (aa (ae 3) (aa (ae 4) (aa (ae 6) (aa (ae 7) (aa (aH aF (aa (cr (cx (aa (gC (.int 16)) ag)) cP cH bo) ag)) ag))))))))))))
noncomputable def dQ:FD:=cb 5 cR
theorem iX (T:TX P w K mg base):Ok P w K mg base "_law_stand" 4 3 dQ:=dG (dC T.f 7 rfl) ["tape","frame","movers_most","floor","shift","shapes","book","movers"] bU rfl fun f _ A _ s H E nd hr=>by have:=aY T;have:=i5 T;have:=gO T;have:=i3 T;delta cR cD cG cH;repeat' walk_at "Q"
noncomputable def dO:GS:=(au (aC 2 (g2 aB (dg (aa (aj 2 ah (aa (ae 0) (aa (gC (.int 13)) ag))) (aa (gC (.int 12)) (aa (aj 2 ah (aa (ae 0) (aa (gC (.int 4)) ag))) ag)))) (aj 2 ah (aa (ae 0) (aa (gC (.int 3)) ag))))) (au (aC 3 (g2 cj (ae 1) (aj 2 ah (aa (ae 0) (aa (g2 aJ (ae 2) (gC (.int 1))) ag))))) (au (aC 4 (g2 aB (dg (aa (g2 cj (aj 2 ah (aa (ae 0) (aa (gC (.int 25)) ag))) (gC (.int 12))) (aa (g2 cj (aj 2 ah (aa (ae 0) (aa (gC (.int 5)) ag))) (gC (.int 2))) ag))) (aj 2 ah (aa (ae 0) (aa (gC (.int 2)) ag))))) (bc (aL (aa (ae 3) (aa (g2 aJ (ae 3) (ae 2)) (aa (ae 1) (aa (ae 4) ag)))))))))
noncomputable def cC:FD:=cb 3 dO
theorem lq (T:TX P w K mg base):Ok P w K mg base "_law_way" 2 2 cC:=dG (dC T.f 8 rfl) ["tape","at","span","low","step"] bU rfl fun f _ A _ s H E nd hr=>by have:=aY T;delta dO;repeat' walk_at "Q"
noncomputable def bE:GS:=(au (aC 7 (aH kM (aa (en (gC (.int 880))) (aa (aH ki (aa (gC (.int 880)) (aa (ae 7) ag))) ag)))) (au (aC 8 (aH kM (aa (en (gC (.int 880))) (aa (aH ki (aa (gC (.int 880)) (aa (ae 8) ag))) ag)))) (au (d7 (fG (ae 5) (aL (aa (ae 6) (aa (ae 7) (aa (ae 8) (aa (ae 9) (aa (ae 10) ag)))))))) (d7 (fG (ae 4) (g2 aB (dg (aa (aL (aa (aj 2 cC (aa (ae 0) (aa (ae 7) ag))) (aa (aj 2 cC (aa (ae 0) (aa (ae 8) ag))) ag))) (aa (gC .non) ag))) (g2 bW (aj 2 ah (aa (ae 0) (aa (gC (.int 4)) ag))) (gC (.int 3)))))))))
noncomputable def cM:GS:=(au (aC 2 (aj 2 cV (aa (ae 0) (aa (ae 1) ag)))) (au (aC 3 (aj 3 dQ (aa (ae 0) (aa (ae 2) (aa (g2 aB (dg (aa (gC (.int 4)) (aa (gC (.int 12)) ag))) (g2 bW (aj 2 ah (aa (ae 0) (aa (gC (.int 4)) ag))) (gC (.int 3)))) ag))))) (au (aC 4 (dR ag)) (au (aC 5 (dR ag)) (au (gT (eY (g2 aB (ae 3) (gC (.int 3)))) (cB [6,7,8,9,10]) bE) (bc (aL (aa (ae 2) (aa (g2 aJ (gS (ae 3) aV (bX (gC (.int 3)))) (aL (aa (aH aF (aa (ae 5) ag)) (aa (g2 aB (ae 3) (gC (.int 4))) ag)))) (aa (aH aF (aa (ae 4) ag)) ag))))))))))
noncomputable def eJ:FD:=fun ds M=>fV M.length (cb 9 cM ds M)
theorem jH (T:TX P w K mg base):Ok P w K mg base "_law_film" 5 2 eJ:=jT (F:=cb 9 cM) <| dG (dC T.f 9 rfl) ["tape","most","frame","stand","paths","movers","shape","x","y","rank","turn"] bU rfl fun f _ A _ s H E nd hr=>by have:=aY T;have:=i4 T;have:=iX T;have:=lq T;delta cM bE;repeat' walk_at "Q"
noncomputable def b0:GS:=(fz (br (ny mU mU (ae 1) (g2 aJ (ae 3) (ae 5)) (ae 2))) (bc (aL (aa (ae 1) (aa (ae 2) (aa (g2 aJ (ae 3) (ae 5)) (aa (ae 5) ag)))))) bx)
noncomputable def cq:GS:=(au (dt (cB [1,2,3,4]) (ae 0)) (au (gT (eY (dg (aa (ae 4) (aa (g2 cj (gC (.int 0)) (ae 4)) ag)))) (df 5) b0) (bc (aL (aa (ae 1) (aa (ae 2) (aa (ae 3) (aa (g2 cj (gC (.int 0)) (ae 4)) ag))))))))
noncomputable def bb:FD:=cb 5 cq
theorem gR (T:TX P w K mg base):Ok P w K mg base "_law_path_on" 1 1 bb:=dG (dC T.f 10 rfl) ["path","low","high","at","step","turned"] bU rfl fun f _ A _ s H E nd hr=>by delta cq b0;repeat' walk_at "Q"
noncomputable def bw:GS:=(d7 (fG (ae 2) (aj 1 bb (aa (g2 aB (ae 2) (en (gC (.int 1)))) ag))))
noncomputable def bt:GT:=(br (g2 (xp true) (aj 1 bb (aa (g2 aB (ae 2) (en (gC (.int 1)))) ag)) (ae 2)))
noncomputable def bJ:GS:=(au (aC 2 (dR (aa (ae 0) ag))) (au (ft 100 bt bw) (au (aC 3 (fb fy (ae 2) (aj 1 bb (aa (g2 aB (ae 2) (en (gC (.int 1)))) ag)))) (au (fz (br (g2 kU (ae 1) (aH cu (aa (ae 2) ag)))) (bc (g2 aB (ae 2) (ae 1))) bx) (bc (g2 aB (ae 2) (g2 aJ (ae 3) (g2 cU (g2 cj (ae 1) (ae 3)) (g2 cj (aH cu (aa (ae 2) ag)) (ae 3))))))))))
noncomputable def cO:FD:=fun ds M=>fV M.length (cb 2 bJ ds M)
theorem gD (T:TX P w K mg base):Ok P w K mg base "_law_path_far" 2 2 cO:=jT (F:=cb 2 bJ) <| dG (dC T.f 11 rfl) ["path","many","row","ahead"] bU rfl fun f _ A _ s H E nd hr=>by have:=gR T;delta bJ bw bt;repeat' walk_at "Q"
noncomputable def bP:GE:=(aj 2 cO (aa (ae 0) (aa (ae 2) ag)))
noncomputable def bq:GS:=(au (aC 5 (g2 aB (g2 aB (ae 0) (gC (.int 2))) (ae 4))) (au (fz (br (g2 (gG true) (ae 5) (gC .non))) (au (aC 5 (aH aF (aa (cr (eY (ae 5)) cP bP bo) ag))) (dA (ae 2) (ae 4) (g2 aJ (g2 aJ (gS (g2 aB (ae 2) (ae 4)) aV (bX (gC (.int 1)))) (aL (aa (g2 aB (g2 aB (ae 5) (gC (.int 0))) (gC (.int 2))) (aa (g2 aB (g2 aB (ae 5) (gC (.int 1))) (gC (.int 2))) ag)))) (gS (g2 aB (ae 2) (ae 4)) (bX (gC (.int 3))) aV)))) bx) (d7 (fG (ae 3) (ae 5)))))
noncomputable def bI:GS:=(au (aC 2 (aH fP (aa (g2 aB (g2 aB (ae 0) (gC (.int 1))) (gC (.int 3))) ag))) (au (aC 3 (dR ag)) (au (gT (cx (aa (aH cu (aa (ae 2) ag)) ag)) (df 4) bq) (bc (aL (aa (g2 aB (ae 0) (gC (.int 0))) (aa (g2 aJ (gS (g2 aB (ae 0) (gC (.int 1))) aV (bX (gC (.int 3)))) (aL (aa (aH aF (aa (ae 2) ag)) (aa (g2 aB (g2 aB (ae 0) (gC (.int 1))) (gC (.int 4))) ag)))) (aa (aH aF (aa (ae 3) ag)) ag))))))))
noncomputable def bK:FD:=fun ds M=>fV M.length (cb 4 bI ds M)
theorem gp (T:TX P w K mg base):Ok P w K mg base "_law_film_far" 3 2 bK:=jT (F:=cb 4 bI) <| dG (dC T.f 12 rfl) ["film","many","movers","paths","k","pair"] bU rfl fun f _ A _ s H E nd hr=>by have:=gD T;delta bI bP bq;repeat' walk_at "Q"
noncomputable def cE:GS:=(au (dt (cB [1,2,3,4]) (ae 0)) (au (fz (br (ny mU mU (ae 1) (g2 aJ (ae 3) (ae 4)) (ae 2))) (bc (aL (aa (ae 1) (aa (ae 2) (aa (g2 aJ (ae 3) (ae 4)) (aa (ae 4) ag)))))) bx) (au (fz (br (ny mU mU (ae 1) (g2 cj (ae 3) (ae 4)) (ae 2))) (bc (aL (aa (ae 1) (aa (ae 2) (aa (g2 cj (ae 3) (ae 4)) (aa (en (ae 4)) ag)))))) bx) (bc (aL (aa (ae 1) (aa (ae 2) (aa (ae 3) (aa (en (ae 4)) ag)))))))))
noncomputable def dr:FD:=cb 4 cE
theorem iw (T:TX P w K mg base):Ok P w K mg base "path_behind" 1 1 dr:=dG (dC T.f 13 rfl) ["path","low","high","at","step"] bU rfl fun f _ A _ s H E nd hr=>by delta cE;repeat' walk_at "Q"
noncomputable def cX:GS:=(au (jh (ae 1) (ae 0) (aH nW (aa (ae 1) ag))) (aC 0 (aj 1 dr (aa (ae 0) ag))))
noncomputable def dI:GT:=(br (g2 (xi true) (ae 0) (ae 1)))
noncomputable def eo:GS:=(au (aC 1 kN) (au (ft 100 dI cX) (bc (aL (aa (aH jg (aa (ae 1) ag)) (aa (g2 kW (ae 1) (ae 0)) ag))))))
noncomputable def fO:FD:=fun ds M=>fV M.length (cb 1 eo ds M)
theorem oE (T:TX P w K mg base):Ok P w K mg base "run_of" 2 1 fO:=jT (F:=cb 1 eo) <| dG (dC T.f 14 rfl) ["path","places"] bU rfl fun f _ A _ s H E nd hr=>by have:=iw T;delta eo cX dI;repeat' walk_at "Q"
noncomputable def eU:GS:=(au (dt (cB [2,3]) (aj 1 fO (aa (ae 0) ag))) (au (fz (br (g2 kU (ae 1) (aH cu (aa (ae 2) ag)))) (bc (g2 aB (ae 2) (ae 1))) bx) (bc (g2 aB (ae 2) (g2 aJ (ae 3) (g2 cU (g2 cj (ae 1) (ae 3)) (g2 cj (aH cu (aa (ae 2) ag)) (ae 3))))))))
noncomputable def eQ:FD:=cb 2 eU
theorem mf (T:TX P w K mg base):Ok P w K mg base "path_at" 3 2 eQ:=dG (dC T.f 15 rfl) ["path","many","run","ahead"] bU rfl fun f _ A _ s H E nd hr=>by have:=oE T;delta eU;repeat' walk_at "Q"
noncomputable def eO:GS:=(au (fz (br (g2 (gG false) (ae 0) (gC .non))) (bc (gC .non)) bx) (au (dt (cB [2,3]) (ae 0)) (bc (aL (aa (aj 2 eQ (aa (ae 2) (aa (ae 1) ag))) (aa (aj 2 eQ (aa (ae 3) (aa (ae 1) ag))) ag))))))
noncomputable def gx:FD:=cb 2 eO
theorem mn (T:TX P w K mg base):Ok P w K mg base "pair_at" 4 2 gx:=dG (dC T.f 16 rfl) ["pair","many","across","down"] bU rfl fun f _ A _ s H E nd hr=>by have:=mf T;delta eO;repeat' walk_at "Q"
noncomputable def dm:GS:=(au (dt (cB [1,2]) (ae 0)) (bc (aL (aa (g2 aB (ae 1) (gC (.int 2))) (aa (g2 aB (ae 2) (gC (.int 2))) ag)))))
noncomputable def eL:FD:=cb 2 dm
theorem jJ (T:TX P w K mg base):Ok P w K mg base "places_of" 1 1 eL:=dG (dC T.f 17 rfl) ["pair","across","down"] bU rfl fun f _ A _ s H E nd hr=>by delta dm;repeat' walk_at "Q"
noncomputable def dJ:GS:=(au (fz (br (g2 (gG false) (ae 1) (gC .non))) (bc (ae 0)) bx) (bc (g2 aJ (g2 aJ (gS (ae 0) aV (bX (gC (.int 1)))) (aj 1 eL (aa (ae 1) ag))) (gS (ae 0) (bX (gC (.int 3))) aV))))
noncomputable def fe:FD:=cb 0 dJ
theorem kY (T:TX P w K mg base):Ok P w K mg base "mover_on" 2 2 fe:=dG (dC T.f 18 rfl) ["mover","pair"] bU rfl fun f _ A _ s H E nd hr=>by have:=jJ T;delta dJ;repeat' walk_at "Q"
noncomputable def fh:GE:=(aj 2 gx (aa (ae 0) (aa (ae 2) ag)))
noncomputable def dU:GE:=(aj 2 fe (aa (ae 0) (aa (ae 1) ag)))
noncomputable def eV:GS:=(au (dt (cB [2,3,4]) (ae 0)) (au (dt (cB [5,6,7,8,9]) (ae 3)) (au (aC 10 (aH aF (aa (cr (eY (ae 4)) cP fh bo) ag))) (au (aC 11 (aH aF (aa (cy (mj (aa (ae 8) (aa (ae 10) ag))) 2 (cB [0,1]) cP dU bo) ag))) (bc (aL (aa (ae 2) (aa (aL (aa (ae 5) (aa (ae 6) (aa (ae 7) (aa (ae 11) (aa (ae 9) ag)))))) (aa (ae 10) ag)))))))))
noncomputable def cA:FD:=cb 10 eV
theorem mw (T:TX P w K mg base):Ok P w K mg base "film_at" 5 2 cA:=dG (dC T.f 19 rfl) ["film","many","frame","stand","paths","floor","shift","book","movers","pots","gone","placed"] bU rfl fun f _ A _ s H E nd hr=>by have:=mn T;have:=kY T;have:=rn 27 19 ["mover","pair"] ["film","many","frame","stand","paths","floor","shift","book","movers","pots","gone","placed"];delta eV fh dU;repeat' walk_at "Q"
noncomputable def h9:GS:=(au (fz (br (g2 (gW true) (aj 2 cA (aa (ae 2) (aa (ae 4) ag))) (ae 3))) (bc (gC (.bl false))) bx) (aC 3 (aj 2 bK (aa (ae 3) (aa (gC (.int 1)) ag)))))
noncomputable def iR:GS:=(au (aC 6 (g2 aB (dg (aa (aj 2 ah (aa (ae 1) (aa (g2 fm (gC (.int 10)) (gC (.int 59))) ag))) (aa (aj 2 ah (aa (ae 1) (aa (gC (.int 400)) ag))) ag))) (aj 2 ah (aa (ae 1) (aa (gC (.int 2)) ag))))) (au (aC 7 (g2 aB (dg (aa (aj 2 ah (aa (ae 1) (aa (g2 fm (gC (.int 10)) (gC (.int 59))) ag))) (aa (aj 2 ah (aa (ae 1) (aa (gC (.int 400)) ag))) ag))) (aj 2 ah (aa (ae 1) (aa (gC (.int 2)) ag))))) (au (aC 8 (aj 2 cA (aa (ae 2) (aa (ae 6) ag)))) (fz (iM (br (g2 (gW true) (ae 8) (aj 2 bK (aa (ae 2) (aa (ae 6) ag))))) (br (g2 (gW true) (aj 2 cA (aa (ae 8) (aa (ae 7) ag))) (aj 2 cA (aa (ae 2) (aa (g2 aJ (ae 6) (ae 7)) ag)))))) (bc (gC (.bl false))) bx))))
noncomputable def nb:GS:=(au (aC 1 (dR (aa (aH gQ (aa (ae 0) ag)) (aa (gC (.int 0)) (aa (gC (.int 0)) ag))))) (au (aC 2 (aj 2 eJ (aa (ae 1) (aa (gC (.int 12)) ag)))) (au (aC 3 (ae 2)) (au (gT (cx (aa (g2 aJ (gC (.int 1)) (aj 2 ah (aa (ae 1) (aa (gC (.int 31)) ag)))) ag)) (df 4) h9) (au (gT (cx (aa (gC (.int 4)) ag)) (df 5) iR) (bc (gC (.bl true))))))))
noncomputable def mO:FD:=cb 8 nb
theorem va (T:TX P w K mg base){f:Addr}{fd:FuncData}(F:Fn K mg "law" um f fd ["script"]):dD P w K mg base (gN P w) 6 f fd ["script"] (l8 K 1 mO):=yx F.F (N:=["script","tape","film","here","many","turn","one","other","there"]) bU rfl fun _ A _ s H E hr=>by
 have nd:(["script","tape","film","here","many","turn","one","other","there"]:List Str).Nodup:=by decide +kernel
 have:=aY T;have:=jH T;have:=gp T;have:=mw T;delta nb h9 iR;repeat' walk_at "Q"
end
end K30
section
open PySem PySem.W PyProof.Rows
noncomputable abbrev K30.VV:Program:=(view PySem.Challenge.pw_glowrow_k30_films_gone_on [1,2,3,4,5,6,7,9,10,11,12,13,14,15,16,17,18,19,20,21,22])
set_option maxHeartbeats 0 in
theorem K30.h1:∀(w:World) (os:OsState),(Hd.RT (OpenLaw.row PySem.Challenge.rw_glowrow_k30_films_gone_on).prog w 1460 os).map (fun s=>Hd.pA (OpenLaw.row PySem.Challenge.rw_glowrow_k30_films_gone_on).prog w.params s.abs&&Hd.pB K30.VV (importedModules (OpenLaw.row PySem.Challenge.rw_glowrow_k30_films_gone_on).prog.main.body) (fun s=>xlAt K30.VV [] s&&recOk (RowW.records (OpenRow.toRowW (OpenLaw.row PySem.Challenge.rw_glowrow_k30_films_gone_on))) s) s.abs)=some true:=by
 intro w os;unfold Hd.RT;rw[W.Fast.te15732481512506401174,W.Fast.te2530740449226627131,W.Fast.te13930993214811372802];kernel_rfl
set_option maxHeartbeats 0 in
theorem K30.h2:∀(w:World) (os:OsState),(Hd.RT (OpenLaw.row PySem.Challenge.rw_glowrow_k30_films_gone_on).prog w 1460 os).map (fun s=>Hd.pC K30.VV s.abs)=some (expectedOf K30.VV,bltViewBooted,wideGood K30.VV):=by
 intro w os;unfold Hd.RT;rw[W.Fast.te15732481512506401174,W.Fast.te2530740449226627131,W.Fast.te7338995916957470747];kernel_rfl
set_option maxHeartbeats 0 in
theorem K30.h3:∀(w:World) (os:OsState),(Hd.RT (OpenLaw.row PySem.Challenge.rw_glowrow_k30_films_gone_on).prog w 1460 os).map (fun s=>Hd.pD K30.VV s.abs)=some (pinGoodD (drecsOf K30.VV),plainGoodE K30.VV (looseW K30.VV []),plainGoodD K30.VV [],clsGoodW K30.VV []):=by
 intro w os;unfold Hd.RT;rw[W.Fast.te15732481512506401174,W.Fast.te2530740449226627131,W.Fast.te4913325751328045840];kernel_rfl
local macro_rules | `(tactic| o_head $H) => `(tactic| (
 refine holds_open (q:=K30.VV) (loose:=[]) (Xt:=(fun s=>xlAt K30.VV [] s&&recOk (RowW.records (OpenRow.toRowW (OpenLaw.row PySem.Challenge.rw_glowrow_k30_films_gone_on))) s)) (XP:=XL K30.VV []) (Yf:=Hook.obs $H) (Ya:=Hook.val $H) (YP:=Hook.says $H) (N:=1460) ?hl (Hook.of $H) (Hook.keeps $H) (fun s e=>xl_of s (Bool.and_eq_true_iff.mp e).1) XL.keeps (by rfl) (by rfl) (by rfl) (fun s e=>recFacts_of (Bool.and_eq_true_iff.mp e).2) (by rfl) (by first|assumption|decide +kernel) (by decide +kernel) ⟨rfl,rfl,rfl,rfl,rfl,by decide +kernel⟩ ?hw ?hc;
 (case hl=>
  refine Hd.left_k (boot_open (by kernel_rfl) rfl (fun s=>by kernel_rfl)) (fun w=>by kernel_rfl) K30.h1 K30.h2 K30.h3 ?_;intro w os;unfold Hd.RT;rw[W.Fast.te15732481512506401174,W.Fast.te2530740449226627131];kernel_rfl)))
set_option hygiene false
local macro_rules | `(tactic| walk_at "us") => `(tactic| first | rfl | (exfalso; simp at hl; done) | (cases us with | nil => (first | rfl | cases hl) | cons _ us => walk_at "us"))
local macro_rules | `(tactic| walk_at "kc") => `(tactic| refine' DL.kc_mk KX G ?y0 ?y1 ?y2 ?y3 ?y4 ?y5 ?y6; (case y0 => k_is); (case y1 => k_is); (case y2 => k_is); (case y3 => k_is); (case y4 => k_is); (case y5 => k_is); (case y6 => k_is))
local macro_rules | `(tactic| walk_at "ec") => `(tactic| refine' DL.ec_mk KX G ?w0 ?w1 ?w2 ?w3 ?w4 ?w5 ?w6 ?w7 ?w8 ?w9 ?w10 ?w11; (case w0 => k_is); (case w1 => k_is); (case w2 => k_is); (case w3 => k_is); (case w4 => k_is); (case w5 => k_is); (case w6 => k_is); (case w7 => k_is); (case w8 => k_is); (case w9 => k_exc); (case w10 => k_is); (case w11 => k_is))
local macro_rules | `(tactic| walk_at "ff") => `(tactic| (refine' DL.yI KX G ?x0 ?x1 ?x2 ?x3 ?x4; (case x0 => k_is); (case x1 => k_is); (case x2 => k_is); (case x3 => k_is); (case x4 => (intro _ _ _ _ _ _ us hl; walk_at "us"))))
local macro_rules | `(tactic| walk_at "mf") => `(tactic| (refine' DL.mf_mk ?x0 ?x1 ?x2 ?x3 ?x4 ?x5 ?x6; (case x0 => walk_at "kc"); (case x1 => k_is); (case x2 => k_is); (case x3 => k_is); (case x4 => k_is); (case x5 => k_is); (case x6 => (intro _ _ _ _ _ _ us hl; walk_at "us"))))
local macro_rules | `(tactic| walk_at "im") => `(tactic| (refine' DL.im_mk ?v0 ?v1; (case v0 => walk_at "ec"); (case v1 => k_is)))
set_option maxRecDepth 100000 in
set_option maxHeartbeats 0 in
theorem K30.pre (ht:∀ns:List Int,ns.length≤63→∃M',K30.mO [.ro (ns.map DL.D.int)] []=.ok (.bl true) M'):PySem.Challenge.rw_glowrow_k30_films_gone_on.Holds:=by
 w_on;o_law;k_head;(case hw=>w_witness2)
 k_fill
 refine DL.vO (l:=PySem.Challenge.rw_glowrow_k30_films_gone_on) (n:=63) (k:=6) (x:="script") (F:=K30.mO) rfl (by decide) rfl ⟨rfl,by decide,by decide⟩ (fun w h Y=>W.kIn_of Y) ?F ?t1 ?t2 ?t3 ?t4 ht
 case F=>
  intro w mg fa h KX G hmg;refine DL.v8 (st:=K30.um) hmg ?L (fun base f fd L=>K30.va ?TT L) (fun _ _ _ _ _ _ _=>rfl)
  (case TT=>
   refine DL.Tx.mk ?q0 ?q1 ?q2 ?q3 ?q4 ?q5 ?q6 ?q7 ?q8 ?q9
   (case q0=>((repeat (refine' DL.Ls.cons ?x ?_;(case x=>(walk_at "ff"))));exact DL.Ls.nil))
   (case q1=>((repeat (refine' DL.Ls.cons ?x ?_;(case x=>(walk_at "mf"))));exact DL.Ls.nil))
   (case q2=>((repeat (refine' DL.Ls.cons ?x ?_;(case x=>(walk_at "lf"))));exact DL.Ls.nil))
   (case q3=>((repeat (refine' DL.Ls.cons ?x ?_;(case x=>(refine' DL.Ar KX G ?x0;(case x0=>k_is)))));exact DL.Ls.nil))
   (case q4=>((repeat (refine' DL.Ls.cons ?x ?_;(case x=>(refine' DL.yt ?x0;(case x0=>walk_at "ec")))));exact DL.Ls.nil))
   (case q5=>((repeat (refine' DL.Ls.cons ?x ?_;(case x=>(refine' DL.x9 ?u0 ?u1;(case u0=>walk_at "ec");(case u1=>((repeat (refine' DL.Ls.cons ?u2 ?_;(case u2=>walk_at "im")));exact DL.Ls.nil))))));exact DL.Ls.nil))
   (case q6=>((repeat (refine' DL.Ls.cons ?x ?_;(case x=>(walk_at "im"))));exact DL.Ls.nil))
   (case q7=>((repeat (refine' DL.Ls.cons ?x ?_;(case x=>(refine' DL.yN ?x0 ?x1;(case x0=>walk_at "kc");(case x1=>k_is)))));exact DL.Ls.nil))
   (case q8=>((repeat (refine' DL.Ls.cons ?x ?_;(case x=>(refine' DL.zu (u:=PySem.Value.str _) KX G ?x0;(case x0=>k_is)))));exact DL.Ls.nil))
   (case q9=>((repeat (refine' DL.Ls.cons ?x ?_;(case x=>(refine' DL.zu (u:=PySem.Value.int _) KX G ?x0;(case x0=>k_is)))));exact DL.Ls.nil)))
  (case L=>walk_at "ff")
 case t1=>(intro w;k_is)
 case t2=>(intro w;k_is)
 case t3=>(intro w;k_is)
 case t4=>(intro w;k_is)
end
namespace K30
open PySem PySem.Spec PyProof.Rows L2 DL List
local macro_rules | `(tactic| simp_arith [$args,*] $[$loc]?) => `(tactic| first | (dsimp only [aN.bind, au, aC, fz, bc, dA, d7, bx, dt, ae, gC, DL.g2, aj, aH, aa, ag, br, xZ, iM, d9, aL, dg, dR, iQ, bo, cQ, en, ny, aQ, cb, iV, mh, aJ, cj, cS, bW, cU, fm, kU, mU, mZ, ui, aB, bn, cu, ki, kM, lS, gQ, aF, eY, ni, cx, df, cB, fL, bX, aV, gS, iF, gG, xr, cP, fb, et, lu, fG, fP, qT, mv, mB] $[$loc]?; simp [au, aC, fz, bc, dA, d7, bx, dt, ae, gC, DL.g2, aj, aH, aa, ag, br, xZ, iM, d9, aL, dg, dR, iQ, bo, cQ, en, ny, aQ, cb, iV, mh, aJ, cj, cS, bW, cU, fm, kU, mU, mZ, ui, aB, bn, cu, ki, kM, lS, gQ, aF, eY, ni, cx, df, cB, fL, bX, aV, gS, iF, gG, xr, cP, fb, et, lu, fG, fP, qT, mv, mB, $args,*] $[$loc]?) | simp [au, aC, fz, bc, dA, d7, bx, dt, ae, gC, DL.g2, aj, aH, aa, ag, br, xZ, iM, d9, aL, dg, dR, iQ, bo, cQ, en, ny, aQ, cb, iV, mh, aJ, cj, cS, bW, cU, fm, kU, mU, mZ, ui, aB, bn, cu, ki, kM, lS, gQ, aF, eY, ni, cx, df, cB, fL, bX, aV, gS, iF, gG, xr, cP, fb, et, lu, fG, fP, qT, mv, mB, $args,*] $[$loc]?)
noncomputable def tp (l:List Int)(i c:Int):MO:=.lst [.lst (l.map D.int),.int i,.int c]
noncomputable def ba (l:List Int)(rest:am)(M:am):Prop:=∃i c,0≤i∧M=tp l i c::rest
theorem pY {l:List Int}{k:Int}(h0:0≤k)(h1:k<l.length):∃v,iS (l.map D.int) k=some (.int v):=by
 obtain⟨n,rfl⟩:=Int.eq_ofNat_of_zero_le h0;have hn:n<l.length:=by omega
 exact⟨l[n],fZ (by simp[hn])⟩
noncomputable def Au:GS:=au (aC 4 (g2 cU (g2 aB (ae 0) (gC (.int 2))) (ae 1))) (au (dA (ae 0) (gC (.int 2)) (g2 bW (g2 aB (ae 0) (gC (.int 2))) (ae 1))) (bc (ae 4)))
noncomputable def zX:GS:=au (aC 3 (g2 cU (g2 aJ (ae 3) (g2 cS (gC (.int 1000003)) (g2 aB (ae 0) (gC (.int 1))))) (ae 2))) (au (aC 3 (g2 cU (g2 aJ (g2 aJ (g2 cS (ae 3) (ae 3)) (g2 cS (gC (.int 1181783497276652981)) (ae 3))) (gC (.int 2049848353892358983))) (ae 2))) (aC 3 (g2 cU (g2 aJ (g2 cS (ae 3) (ae 3)) (gC (.int 1442695040888963407))) (ae 2))))
noncomputable def AO:GS:=fz (br (g2 mZ (aH cu (aa (g2 aB (ae 0) (gC (.int 0))) ag)) (gC (.int 0)))) (aC 3 (g2 aB (g2 aB (ae 0) (gC (.int 0))) (g2 cU (g2 aB (ae 0) (gC (.int 1))) (aH cu (aa (g2 aB (ae 0) (gC (.int 0))) ag))))) bx
noncomputable def Bb:GT:=iM (br (g2 ui (g2 aB (ae 0) (gC (.int 1))) (aH cu (aa (g2 aB (ae 0) (gC (.int 0))) ag)))) (br (g2 kU (ae 3) (g2 fm (gC (.int 10)) (gC (.int 18)))))
noncomputable def Af:GS:=au (aC 3 (gC (.int 0))) (au AO (au (fz Bb zX bx) (au (dA (ae 0) (gC (.int 1)) (g2 aJ (g2 aB (ae 0) (gC (.int 1))) (gC (.int 1)))) (dA (ae 0) (gC (.int 2)) (ae 3)))))
theorem xu (ρ:bG)(M:am):dj ρ M=au (aC 2 (gC (.int 2305843009213693951))) (au (fz (br (g2 kU (g2 aB (ae 0) (gC (.int 2))) (ae 1))) Af bx) Au) ρ M:=rfl
theorem hZ {i j:Int}(h:0<j)(M:am):cU (.int i) (.int j) M=.ok (.int (i % j)) M:=by
 unfold cU;dsimp only;rw[if_pos h]
theorem g6 {i j:Int}(h:-18446744073709551616<i∧i<18446744073709551616)(M:am):cS (.int i) (.int j) M=.ok (.int (i*j)) M:=by
 unfold cS;dsimp only;rw[if_pos (.inl ⟨Int.lt_of_le_of_lt (by decide) h.1,Int.lt_of_lt_of_le h.2 (by decide)⟩)]
theorem jZ {go gi g:GE}{ρ:bG}{M M1:am}{x:D}(h:g ρ M=.ok x M)(h2:(go ρ M).bind (fun o M2=>(gi ρ M2).bind fun i M3=>(mh o i x M3).bind fun _ M4=>.ok (Fl.nx ρ) M4)=.ok (Fl.nx ρ) M1):dA go gi g ρ M=.ok (.nx ρ) M1:=by
 unfold dA;rw[h,ai,h2]
theorem aR {l:List Int}{rest M:am}{many:Int}(hm:0<many)(hlog:many.natAbs.log2<9000)(h:ba l rest M) :
  ∃f M',0≤f∧f<many∧ba l rest M'∧ah [.mr 0,.int many] M=.ok (.int f) M':=by
 obtain⟨i,c,hi,rfl⟩:=h;have i0:∀(i c:Int) (x1 x2 x3 x4:Option D),g2 aB (ae 0) (gC (.int 0)) [some (.mr 0),x1,x2,x3,x4] (tp l i c::rest)=.ok (.lst (l.map D.int)) (tp l i c::rest):=fun _ _ _ _ _ _=>rfl
 have i1:∀(i c:Int) (x1 x2 x3 x4:Option D),g2 aB (ae 0) (gC (.int 1)) [some (.mr 0),x1,x2,x3,x4] (tp l i c::rest)=.ok (.int i) (tp l i c::rest):=fun _ _ _ _ _ _=>rfl
 have i2:∀(i c:Int) (x1 x2 x3 x4:Option D),g2 aB (ae 0) (gC (.int 2)) [some (.mr 0),x1,x2,x3,x4] (tp l i c::rest)=.ok (.int c) (tp l i c::rest):=fun _ _ _ _ _ _=>rfl
 have ln:∀(i c:Int) (x1 x2 x3 x4:Option D),aH cu (aa (g2 aB (ae 0) (gC (.int 0))) ag) [some (.mr 0),x1,x2,x3,x4] (tp l i c::rest)=.ok (.int (l.length:Int)) (tp l i c::rest):=fun i c x1 x2 x3 x4=>by
  refine fg (i0 i c x1 x2 x3 x4) ?_;show aN.ok (D.int ((l.map D.int).length:Int)) _=_;rw[length_map]
 have tail:∀(c i:Int) (x2 x3 x4:Option D),0≤i→∃f M',0≤f∧f<many∧ba l rest M'∧aQ (Au [some (.mr 0),some (.int many),x2,x3,x4] (tp l i c::rest))=.ok (.int f) M':=fun c i x2 x3 x4 hi=>by
  refine⟨c % many,tp l i (c / many)::rest,Int.emod_nonneg _ (by omega),Int.emod_lt_of_pos _ hm,⟨i,c / many,hi,rfl⟩,?_⟩;unfold Au;rw[aq (aA (al (i2 i c (some (.int many)) x2 x3 x4) rfl (hZ hm _)))];have fd:bW (.int c) (.int many) (tp l i c::rest)=.ok (.int (c / many)) (tp l i c::rest):=by
   unfold bW;dsimp only;rw[if_pos ⟨hm,hlog⟩]
  have k:dA (ae 0) (gC (.int 2)) (g2 bW (g2 aB (ae 0) (gC (.int 2))) (ae 1)) [some (.mr 0),some (.int many),x2,x3,some (.int (c % many))] (tp l i c::rest)=.ok (.nx [some (.mr 0),some (.int many),x2,x3,some (.int (c % many))]) (tp l i (c / many)::rest):=
   jZ (al (i2 i c (some (.int many)) x2 x3 _) rfl fd) rfl
  exact(congrArg aQ (aq k)).trans rfl
 show∃f M',_∧_∧_∧aQ (dj [some (.mr 0),some (.int many),none,none,none] (tp l i c::rest))=_;rw[xu];have e0:∀b:GS,au (aC 2 (gC (.int 2305843009213693951))) b [some (.mr 0),some (.int many),none,none,none] (tp l i c::rest)=b [some (.mr 0),some (.int many),some (.int 2305843009213693951),none,none] (tp l i c::rest):=fun b=>aq rfl
 rw[e0];have tst:br (g2 kU (g2 aB (ae 0) (gC (.int 2))) (ae 1)) [some (.mr 0),some (.int many),some (.int 2305843009213693951),none,none] (tp l i c::rest)=.ok (decide (c<many)) (tp l i c::rest):=bM (al (i2 i c _ _ _ _) rfl rfl)
 by_cases h1:c<many
 ·rw[decide_eq_true h1] at tst;obtain⟨v,ev⟩:∃v:Int,AO [some (.mr 0),some (.int many),some (.int 2305843009213693951),some (.int 0),none] (tp l i c::rest)=.ok (.nx [some (.mr 0),some (.int many),some (.int 2305843009213693951),some (.int v),none]) (tp l i c::rest):=by
   unfold AO;have t0:br (g2 mZ (aH cu (aa (g2 aB (ae 0) (gC (.int 0))) ag)) (gC (.int 0))) [some (.mr 0),some (.int many),some (.int 2305843009213693951),some (.int 0),none] (tp l i c::rest)=.ok (decide ((l.length:Int)>0)) (tp l i c::rest):=bM (al (ln i c _ _ _ _) rfl rfl)
   by_cases hl:(l.length:Int)>0
   ·rw[decide_eq_true hl] at t0;obtain⟨v,hv⟩:=pY (l:=l) (Int.emod_nonneg _ (by omega)) (Int.emod_lt_of_pos _ hl);refine⟨v,(jK t0).trans (aA (al (f:=aB) (i0 i c _ _ _ _) (al (i1 i c _ _ _ _) (ln i c _ _ _ _) (hZ hl _)) ?_))⟩;show(match iS (l.map D.int) (i % (l.length:Int)) with|some d=>aN.ok d (tp l i c::rest)|none=>.bad)=_;rw[hv]
   ·rw[decide_eq_false hl] at t0;exact⟨0,(fB t0).trans rfl⟩
  have bd:∀x:Int,-18446744073709551616<x % 2305843009213693951∧x % 2305843009213693951<18446744073709551616:=fun x=>by
   have h0:=Int.emod_nonneg x (show(2305843009213693951:Int)≠0 by decide);have h1:=Int.emod_lt_of_pos x (show(0:Int)<2305843009213693951 by decide);omega
  have md:∀x:Int,∀M,cU (.int x) (.int 2305843009213693951) M=.ok (.int (x % 2305843009213693951)) M:=fun x M=>hZ (by decide) M
  obtain⟨u,eu⟩:∃u:Int,fz Bb zX bx [some (.mr 0),some (.int many),some (.int 2305843009213693951),some (.int v),none] (tp l i c::rest)=.ok (.nx [some (.mr 0),some (.int many),some (.int 2305843009213693951),some (.int u),none]) (tp l i c::rest):=by
   have po:∀ρ,g2 fm (gC (.int 10)) (gC (.int 18)) ρ (tp l i c::rest)=.ok (.int (10 ^ 18)) (tp l i c::rest):=fun ρ=>by
    refine al rfl rfl ?_;unfold fm;dsimp only;rw[if_pos (by decide)];rfl
   have to:=qh (bM (al (f:=ui) (i1 i c (some (.int many)) (some (.int 2305843009213693951)) (some (.int v)) none) (ln i c _ _ _ _) rfl)) fun _=>bM (al (f:=kU) (a:=ae 3) rfl (po _) rfl)
   generalize (decide (i≥(l.length:Int))||decide (v<10 ^ 18))=b at to;cases b with
   | false=>exact⟨v,(fB to).trans rfl⟩
   | true=>
    suffices hs:∃u:Int,zX [some (.mr 0),some (.int many),some (.int 2305843009213693951),some (.int v),none] (tp l i c::rest)=.ok (.nx [some (.mr 0),some (.int many),some (.int 2305843009213693951),some (.int u),none]) (tp l i c::rest) from hs.elim fun u e=>⟨u,(jK to).trans e⟩
    unfold zX;rw[aq (aA (al (al (f:=aJ) (a:=ae 3) rfl (al (f:=cS) (a:=gC (.int 1000003)) rfl (i1 i c _ _ _ _) (g6 (by decide) _)) rfl) rfl (md _ _)))];generalize hz:(v+1000003*i) % 2305843009213693951=z;have bz:=hz▸bd (v+1000003*i);have k2:aC 3 (g2 cU (g2 aJ (g2 aJ (g2 cS (ae 3) (ae 3)) (g2 cS (gC (.int 1181783497276652981)) (ae 3))) (gC (.int 2049848353892358983))) (ae 2)) [some (.mr 0),some (.int many),some (.int 2305843009213693951),some (.int z),none] (tp l i c::rest)=.ok (.nx [some (.mr 0),some (.int many),some (.int 2305843009213693951),some (.int ((z*z+1181783497276652981*z+2049848353892358983) % 2305843009213693951)),none]) (tp l i c::rest):=
     aA (al (al (f:=aJ) (al (f:=aJ) (al (f:=cS) (a:=ae 3) rfl rfl (g6 bz _)) (al (f:=cS) (a:=gC (.int 1181783497276652981)) rfl rfl (g6 (by decide) _)) rfl) rfl rfl) rfl (md _ _))
    refine Exists.imp (fun u e=>(aq k2).trans e) ?_;generalize hy:(z*z+1181783497276652981*z+2049848353892358983) % 2305843009213693951=y;have byy:=hy▸bd (z*z+1181783497276652981*z+2049848353892358983);exact⟨_,aA (al (al (f:=aJ) (al (f:=cS) (a:=ae 3) rfl rfl (g6 byy _)) rfl rfl) rfl (md _ _))⟩
  have kb:Af [some (.mr 0),some (.int many),some (.int 2305843009213693951),none,none] (tp l i c::rest)=.ok (.nx [some (.mr 0),some (.int many),some (.int 2305843009213693951),some (.int u),none]) (tp l (i+1) u::rest):=by
   unfold Af;have e3:∀b:GS,au (aC 3 (gC (.int 0))) b [some (.mr 0),some (.int many),some (.int 2305843009213693951),none,none] (tp l i c::rest)=b [some (.mr 0),some (.int many),some (.int 2305843009213693951),some (.int 0),none] (tp l i c::rest):=fun b=>aq rfl
   rw[e3,aq ev,aq eu];have k1:dA (ae 0) (gC (.int 1)) (g2 aJ (g2 aB (ae 0) (gC (.int 1))) (gC (.int 1))) [some (.mr 0),some (.int many),some (.int 2305843009213693951),some (.int u),none] (tp l i c::rest)=.ok (.nx [some (.mr 0),some (.int many),some (.int 2305843009213693951),some (.int u),none]) (tp l (i+1) c::rest):=
    jZ (al (i1 i c _ _ _ _) rfl rfl) rfl
   rw[aq k1];exact jZ rfl rfl
  rw[aq ((jK tst).trans kb)];exact tail u (i+1) _ _ _ (by omega)
 ·rw[decide_eq_false h1] at tst;rw[aq ((fB tst).trans rfl)];exact tail c i _ _ _ hi
theorem ap {x:Int}(h0:0<x)(h1:x≤1000000):x.natAbs.log2<9000:=by
 have h2:x.natAbs<2 ^ 20:=by omega
 have h3:x.natAbs≠0:=by omega
 have:=(Nat.log2_lt h3).mpr h2;omega
theorem hG {l:List Int}{rest M:am}{most:Int}(hm:1≤most)(hm2:most≤1000)(h:ba l rest M) :
  ∃f M',1≤f∧f≤most∧ba l rest M'∧bO [.mr 0,.int most] M=.ok (.int f) M':=by
 have lg:∀x:Int,0<x→x≤1000→x.natAbs.log2<9000:=fun x h0 h1=>by
  have h2:x.natAbs<2 ^ 10:=by omega
  have h3:x.natAbs≠0:=by omega
  have:=(Nat.log2_lt h3).mpr h2;omega
 have hmin:0<(if 6<most then 6 else most)∧(if 6<most then 6 else most)≤most∧(if 6<most then(6:Int) else most)≤1000:=by split <;> omega
 obtain⟨f1,M1,a1,b1,t1,e1⟩:=aR hmin.1 (lg _ hmin.1 hmin.2.2) h;obtain⟨f2,M2,a2,b2,t2,e2⟩:=aR (many:=most) (by omega) (lg _ (by omega) hm2) t1;obtain⟨f3,M3,a3,b3,t3,e3⟩:=aR (many:=8) (by decide) (lg _ (by decide) (by decide)) t2;have l3:(3:Nat)≤sizeLine:=bQ (by decide);have hix:0≤f3*3 / 10∧f3*3 / 10<3:=by omega
 have c3:Nat.log2 10<9000:=by decide
 have c4:-18446744073709551616<f3∧f3<18446744073709551616:=by omega
 have pick:∃f,1≤f∧f≤most∧∃y,f=1+y∧iS [D.int f1,D.int f2,D.int (most-1)] (f3*3 / 10)=some (.int y):=by
  have:f3*3 / 10=0∨f3*3 / 10=1∨f3*3 / 10=2:=by omega
  rcases this with q|q|q <;> rw[q]
  ·exact⟨1+f1,by omega,by omega,f1,rfl,rfl⟩
  ·exact⟨1+f2,by omega,by omega,f2,rfl,rfl⟩
  ·exact⟨1+(most-1),by omega,by omega,most-1,rfl,rfl⟩
 obtain⟨f,hf1,hf2,y,ey,ha⟩:=pick;refine⟨f,M3,hf1,hf2,t3,?_⟩;unfold bO eE;simp_arith [e1,e2,e3,l3,c3,c4,ha,ey]
theorem tV {l:List Int}{rest M:am}{wide thin:Int}(hw:0≤wide)(hw2:wide≤1000)(ht:1≤thin)(ht2:thin≤1000)(h:ba l rest M) :
  ∃(ks:List Int) (M':am),(ks.length:Int)=wide∧(∀k∈ks,0≤k∧k≤15)∧ba l rest M'∧dq [.mr 0,.int wide,.int thin] M=.ok (.tup (ks.map D.int)) M':=by
 obtain⟨es,M',t',le,qe,ee⟩:=dF (ds0:=aD 0 wide.toNat) (ge:=cn) (ρ:=[some (.mr 0),some (.int wide),some (.int thin)])
  (P:=ba l rest) (Q:=fun e=>∃k,e=.int k∧0≤k∧k≤15) (aD 0 wide.toNat) (fun d hd M hM=>by
   obtain⟨f1,M1,a1,b1,t1,e1⟩:=aR (many:=16) (by decide) (ap (by decide) (by decide)) hM;obtain⟨f2,M2,a2,b2,t2,e2⟩:=aR (many:=thin) (by omega) (ap (by omega) (by omega)) t1;have c4:-18446744073709551616<f1∧f1<18446744073709551616:=by omega
   by_cases hz:0<f2
   ·exact⟨.int (f1*1),M2,t2,⟨_,rfl,by omega,by omega⟩,by simp_arith [cn,e1,e2,c4,hz]⟩
   ·exact⟨.int (f1*0),M2,t2,⟨_,rfl,by omega,by omega⟩,by simp_arith [cn,e1,e2,c4,hz]⟩) M h
 obtain⟨ks,ek,qk⟩:=sZ qe;refine⟨ks,M',?_,qk,t',?_⟩
 ·have:ks.length=es.length:=by rw[ek];simp
  rw[aX] at le;omega
 ·have l3:es.length≤sizeLine:=by rw[le,aX];exact bQ (by omega)
  have l4:ks.length≤sizeLine:=by rw[ek] at l3;simpa using l3
  have b1:=fun M=>jQ (j:=wide) (by omega) M
  unfold dq eK;simp_arith [cr,b1,ee,l4,ek]
theorem lz {l:List Int}{rest M:am}{most:Int}(hm:1≤most)(hm2:most≤1000)(h:ba l rest M) :
  ∃(rs:List (List Int)) (w:Nat) (M':am),1≤rs.length∧(rs.length:Int)≤most∧1≤w∧(w:Int)≤most∧(∀r∈rs,r.length=w∧∀k∈r,0≤k∧k≤15)∧ba l rest M'∧
   ce [.mr 0,.int most] M=.ok (.tup (rs.map fun r=>D.tup (r.map D.int))) M':=by
 obtain⟨wide,M1,w1,w2,t1,e1⟩:=hG hm hm2 h;obtain⟨f4,M2,a2,b2,t2,e2⟩:=aR (many:=4) (by decide) (ap (by decide) (by decide)) t1;obtain⟨high,M3,h1,h2,t3,e3⟩:=hG hm hm2 t2;obtain⟨es,M',t',le,qe,ee⟩:=dF (ds0:=aD 0 high.toNat) (ge:=cJ) (ρ:=[some (.mr 0),some (.int most),some (.int wide),some (.int (1+f4))])
  (P:=ba l rest) (Q:=fun e=>∃ks:List Int,e=.tup (ks.map D.int)∧(ks.length:Int)=wide∧∀k∈ks,0≤k∧k≤15) (aD 0 high.toNat) (fun d hd M hM=>by
   obtain⟨ks,M1,lk,qk,t1,e1⟩:=tV (wide:=wide) (thin:=1+f4) (by omega) (by omega) (by omega) (by omega) hM;exact⟨_,M1,t1,⟨ks,rfl,lk,qk⟩,by simp_arith [cJ,e1]⟩) M3 t3
 obtain⟨rs,er,qr⟩:=tM qe;refine⟨rs,wide.toNat,M',?_,?_,by omega,by omega,fun r hr=>⟨by have:=(qr r hr).1;omega,(qr r hr).2⟩,t',?_⟩
 ·have:rs.length=es.length:=by rw[er];simp
  rw[aX] at le;omega
 ·have:rs.length=es.length:=by rw[er];simp
  rw[aX] at le;omega
 ·have l3:es.length≤sizeLine:=by rw[le,aX];exact bQ (by omega)
  have l4:rs.length≤sizeLine:=by rw[er] at l3;simpa using l3
  have b1:=fun M=>jQ (j:=high) (by omega) M
  unfold ce dM;simp_arith [cr,b1,e1,e2,e3,ee,l4,er]
theorem pz {l:List Int}{rest M:am}{most:Int}(hm:1≤most)(hm2:most≤1000)(h:ba l rest M) :
  ∃(w hh g m:Int) (M':am),(1≤w∧w≤most)∧(1≤hh∧hh≤most)∧(0≤g∧g≤20)∧(0≤m∧m≤12)∧ba l rest M'∧cV [.mr 0,.int most] M=.ok (.tup [.int w,.int hh,.int g,.int m]) M':=by
 obtain⟨f1,M1,a1,b1,t1,e1⟩:=aR (many:=21) (by decide) (ap (by decide) (by decide)) h;obtain⟨f2,M2,a2,b2,t2,e2⟩:=aR (many:=2) (by decide) (ap (by decide) (by decide)) t1;obtain⟨w,M3,a3,b3,t3,e3⟩:=hG hm hm2 t2;obtain⟨hh,M4,a4,b4,t4,e4⟩:=hG hm hm2 t3;obtain⟨m,M5,a5,b5,t5,e5⟩:=aR (many:=13) (by decide) (ap (by decide) (by decide)) t4;have l3:(2:Nat)≤sizeLine:=bQ (by decide);have l4:(4:Nat)≤sizeLine:=bQ (by decide);have pick:∃g,0≤g∧g≤20∧iS [D.int 0,D.int f1] f2=some (.int g):=by
  have:f2=0∨f2=1:=by omega
  rcases this with q|q <;> rw[q]
  ·exact⟨0,by omega,by omega,rfl⟩
  ·exact⟨f1,by omega,by omega,rfl⟩
 obtain⟨g,g1,g2,ha⟩:=pick;refine⟨w,hh,g,m,M5,⟨a3,b3⟩,⟨a4,b4⟩,⟨g1,g2⟩,⟨a5,by omega⟩,t5,?_⟩;unfold cV dW;simp_arith [e1,e2,e3,e4,e5,l3,l4,ha]
theorem j4 {l:List Int}{rest M:am}{size:Int}(hm:0≤size)(hm2:size≤900)(h:ba l rest M) :
  ∃(f:Int) (M':am),(-1000≤f∧f≤1000)∧ba l rest M'∧aS [.mr 0,.int size] M=.ok (.int f) M':=by
 obtain⟨f1,M1,a1,b1,t1,e1⟩:=aR (many:=size+16) (by omega) (ap (by omega) (by omega)) h;obtain⟨f2,M2,a2,b2,t2,e2⟩:=aR (many:=2001) (by decide) (ap (by decide) (by decide)) t1;obtain⟨f3,M3,a3,b3,t3,e3⟩:=aR (many:=8) (by decide) (ap (by decide) (by decide)) t2;have l3:(2:Nat)≤sizeLine:=bQ (by decide);have c3:Nat.log2 7<9000:=by decide
 have pick:∃g,-1000≤g∧g≤1000∧iS [D.int (f1-8),D.int (f2-1000)] (f3 / 7)=some (.int g):=by
  have:f3 / 7=0∨f3 / 7=1:=by omega
  rcases this with q|q <;> rw[q]
  ·exact⟨_,by omega,by omega,rfl⟩
  ·exact⟨_,by omega,by omega,rfl⟩
 obtain⟨g,g1,g2,ha⟩:=pick;refine⟨g,M3,⟨g1,g2⟩,t3,?_⟩;unfold aS fv;simp_arith [e1,e2,e3,l3,c3,ha]
structure Mv where
 shape:Option Nat
 x:Int
 y:Int
 rank:Int
 turn:Int
noncomputable def Mv.d (m:Mv):D:=.tup [match m.shape with|some k=>.int k|none=>.non,.int m.x,.int m.y,.int m.rank,.int m.turn]
structure sv (n:Nat)(m:Mv):Prop where
 s:∀k,m.shape=some k→k<n
 x:-1000≤m.x∧m.x≤1000
 y:-1000≤m.y∧m.y≤1000
 r:0≤m.rank∧m.rank≤3
 t:0≤m.turn∧m.turn≤3
theorem p8 {a b:Int}{M:am}(h:b<a):mZ (.int a) (.int b) M=.ok (.bl true) M:=by
 show aN.ok (D.bl (decide (a>b))) M=_;rw[decide_eq_true h]
theorem uF {a b:Int}{M:am}(h:¬b<a):mZ (.int a) (.int b) M=.ok (.bl false) M:=by
 show aN.ok (D.bl (decide (a>b))) M=_;rw[decide_eq_false h]
theorem sJ {a b:GT}{ρ:bG}{M M1:am}(ha:a ρ M=.ok false M1):d9 a b ρ M=.ok false M1:=by
 unfold d9;rw[ha,ai];rfl
theorem kH {a b:GT}{ρ:bG}{M M1:am}{y:Bool}(ha:a ρ M=.ok true M)(hb:b ρ M=.ok y M1):d9 a b ρ M=.ok y M1:=by
 unfold d9;rw[ha,ai];exact hb
theorem f9 {gi:GI}{ge:GE}{ρ:bG}{ds es:List D}{M M1 M2:am}(hi:gi ρ M=.ok ⟨ds,none⟩ M1)(he:c6 ⟨ds,none⟩ cP ge ds ρ M1=.ok es M2)(hl:es.length≤1000000):cr gi cP ge bo ρ M=.ok (.lst es) M2:=by
 unfold cr;rw[hi,ai];dsimp only;rw[he,ai];unfold bo;rw[if_pos (bQ hl)]
theorem lN {w hh x y r t:Int}{more:List D}{d2 d3:D}{M M2 M3 M4 M5:am}(q1:aS [.mr 0,.int w] M=.ok (.int x) M2)(q2:aS [.mr 0,.int hh] M2=.ok (.int y) M3)(q3:ah [.mr 0,.int 4] M3=.ok (.int r) M4)(q4:ah [.mr 0,.int 4] M4=.ok (.int t) M5) :
  bc (aL (aa (ae 3) (aa (aj 2 aS (aa (ae 0) (aa (g2 aB (ae 1) (gC (.int 0))) ag))) (aa (aj 2 aS (aa (ae 0) (aa (g2 aB (ae 1) (gC (.int 1))) ag))) (aa (aj 2 ah (aa (ae 0) (aa (gC (.int 4)) ag))) (aa (aj 2 ah (aa (ae 0) (aa (gC (.int 4)) ag))) ag)))))) [some (.mr 0),some (.tup (.int w::.int hh::more)),some d2,some d3] M=.ok (.rt (.tup [d3,.int x,.int y,.int r,.int t])) M5:=
 ck (bp (ao rfl (ao (bf rfl (al rfl rfl (bj rfl)) q1) (ao (bf rfl (al rfl rfl (bj rfl)) q2) (ao (bf rfl rfl q3) (ao (bf rfl rfl q4) rfl))))))
theorem pK {l:List Int}{rest M:am}{w hh:Int}{more:List D}{n:Nat}(hw:0≤w∧w≤900)(hh2:0≤hh∧hh≤900)(hn:n≤1000)(h:ba l rest M) :
  ∃(m:Mv) (M':am),sv n m∧ba l rest M'∧dS [.mr 0,.tup (.int w::.int hh::more),.int n] M=.ok m.d M':=by
 have go:∀(s:Option Nat) (M:am),ba l rest M→(∀k,s=some k→k<n)→∃(m:Mv) (M':am),sv n m∧m.shape=s∧ba l rest M'∧
   ∃M2 M3 M4,aS [.mr 0,.int w] M=.ok (.int m.x) M2∧aS [.mr 0,.int hh] M2=.ok (.int m.y) M3∧ah [.mr 0,.int 4] M3=.ok (.int m.rank) M4∧ah [.mr 0,.int 4] M4=.ok (.int m.turn) M':=by
  intro s M h hs;obtain⟨x,M2,a2,t2,e2⟩:=j4 hw.1 hw.2 h;obtain⟨y,M3,a3,t3,e3⟩:=j4 hh2.1 hh2.2 t2;obtain⟨r,M4,a4,b4,t4,e4⟩:=aR (many:=4) (by decide) (ap (by decide) (by decide)) t3;obtain⟨t,M5,a5,b5,t5,e5⟩:=aR (many:=4) (by decide) (ap (by decide) (by decide)) t4;have r3:r≤3:=by omega
  have q3:t≤3:=by omega
  exact⟨⟨s,x,y,r,t⟩,M5,⟨hs,a2,a3,⟨a4,r3⟩,⟨a5,q3⟩⟩,rfl,t5,M2,M3,M4,e2,e3,e4,e5⟩
 by_cases h0:0<n
 ·obtain⟨f1,M1,a1,b1,t1,e1⟩:=aR (many:=8) (by decide) (ap (by decide) (by decide)) h;have h0':(0:Int)<n:=by omega
  by_cases hf:0<f1
  ·obtain⟨f2,M2,a2,b2,t2,e2⟩:=aR (many:=(n:Int)) (by omega) (ap (by omega) (by omega)) t1;obtain⟨k,rfl⟩:=Int.eq_ofNat_of_zero_le a2;obtain⟨m,M',ok,sm,t',M3,M4,M5,q1,q2,q3,q4⟩:=go (some k) M2 t2 (fun j hj=>by cases hj;omega);refine⟨m,M',ok,t',?_⟩;show aQ (bi [some (.mr 0),some (.tup (.int w::.int hh::more)),some (.int n),none] M)=_;unfold bi;rw[aq (aA rfl)];rw[aq ((jK (kH (bM (al rfl rfl (p8 (by omega)))) (bM (al (bf rfl rfl e1) rfl (p8 hf))))).trans (aA (bf rfl rfl e2)))];refine(congrArg aQ (lN q1 q2 q3 q4)).trans ?_;unfold Mv.d;rw[sm];rfl
  ·obtain⟨m,M',ok,sm,t',M3,M4,M5,q1,q2,q3,q4⟩:=go none M1 t1 (fun j hj=>by cases hj);refine⟨m,M',ok,t',?_⟩;show aQ (bi [some (.mr 0),some (.tup (.int w::.int hh::more)),some (.int n),none] M)=_;unfold bi;rw[aq (aA rfl)];rw[aq ((fB (kH (bM (al rfl rfl (p8 (by omega)))) (bM (al (bf rfl rfl e1) rfl (uF hf))))).trans rfl)];refine(congrArg aQ (lN q1 q2 q3 q4)).trans ?_;unfold Mv.d;rw[sm];rfl
 ·have h0':¬(0:Int)<n:=by omega
  obtain⟨m,M',ok,sm,t',M3,M4,M5,q1,q2,q3,q4⟩:=go none M h (fun j hj=>by cases hj);refine⟨m,M',ok,t',?_⟩;show aQ (bi [some (.mr 0),some (.tup (.int w::.int hh::more)),some (.int n),none] M)=_;unfold bi;rw[aq (aA rfl)];rw[aq ((fB (sJ (bM (al rfl rfl (uF h0'))))).trans rfl)];refine(congrArg aQ (lN q1 q2 q3 q4)).trans ?_;unfold Mv.d;rw[sm];rfl
theorem jD {α:Type}{f:α→D}{P:α→Prop}:∀{es:List D},(∀e∈es,∃a,e=f a∧P a)→∃as:List α,es=as.map f∧∀a∈as,P a
 | [],_=>⟨[],rfl,fun _ z=>by cases z⟩
 | e::es,h=>by
  obtain⟨a,ea,pa⟩:=h e (mem_cons_self ..);obtain⟨as,eas,pas⟩:=jD fun e' he=>h e' (mem_cons_of_mem _ he)
  refine⟨a::as,by rw[ea,eas];rfl,fun b hb=>?_⟩;rcases mem_cons.mp hb with q|q
  ·rw[q];exact pa
  ·exact pas b q
noncomputable def bg (rs:List (List Int)):D:=.tup (rs.map fun r=>D.tup (r.map D.int))
noncomputable def jV (most:Int)(rs:List (List Int)):Prop:=1≤rs.length∧(rs.length:Int)≤most∧∃w:Nat,1≤w∧(w:Int)≤most∧∀r∈rs,r.length=w∧∀k∈r,0≤k∧k≤15
structure zW where
 floor:List (List Int)
 sx:Int
 sy:Int
 book:List (List (List Int))
 movers:List Mv
 pots:List Int
noncomputable def zW.d (s:zW):D:=.tup [bg s.floor,.tup [.int s.sx,.int s.sy],.tup (s.book.map bg),.tup (s.movers.map Mv.d),.tup (s.pots.map D.int)]
structure yG (most:Int)(s:zW):Prop where
 floor:jV 16 s.floor
 sx:-1000≤s.sx∧s.sx≤1000
 sy:-1000≤s.sy∧s.sy≤1000
 bl:s.book.length≤8
 book:∀b∈s.book,jV 8 b
 ml:(s.movers.length:Int)≤most
 movers:∀m∈s.movers,sv s.book.length m
 pl:s.pots.length=16
 pots:∀k∈s.pots,0≤k∧k≤63
theorem iP {ρ:bG}{M:am}:ag ρ M=.ok [] M:=rfl
theorem ul {xs:List D}{i:Int}{d:D}{M:am}(h:iS xs i=some d):aB (.lst xs) (.int i) M=.ok d M:=by
 unfold aB bn;dsimp only;rw[h]
theorem o6 {l:List Int}{rest M:am}{w hh:Int}{more:List D}{mm:Int}(hw:0≤w∧w≤900)(hh2:0≤hh∧hh≤900)(hm:0≤mm∧mm≤900)(h:ba l rest M) :
  ∃(s:zW) (M':am),yG mm s∧ba l rest M'∧dQ [.mr 0,.tup (.int w::.int hh::more),.int mm] M=.ok s.d M':=by
 obtain⟨fl,fw,M1,f1,f2,f3,f4,f5,t1,e1⟩:=lz (most:=16) (by decide) (by decide) h;obtain⟨sx,M2,a2,t2,e2⟩:=j4 (size:=9) (by decide) (by decide) t1;obtain⟨sy,M3,a3,t3,e3⟩:=j4 (size:=9) (by decide) (by decide) t2;obtain⟨d4,M4,a4,b4,t4,e4⟩:=aR (many:=4) (by decide) (ap (by decide) (by decide)) t3;obtain⟨d5,M5,a5,b5,t5,e5⟩:=aR (many:=9) (by decide) (ap (by decide) (by decide)) t4;obtain⟨d6,M6,a6,b6,t6,e6⟩:=aR (many:=4) (by decide) (ap (by decide) (by decide)) t5;have pick:∃g,0≤g∧g≤8∧iS [D.int d4,D.int d5] (d6 / 3)=some (.int g):=by
  have:d6 / 3=0∨d6 / 3=1:=by omega
  rcases this with q|q <;> rw[q]
  ·exact⟨_,by omega,by omega,rfl⟩
  ·exact⟨_,by omega,by omega,rfl⟩
 obtain⟨g,g1,g2,ha⟩:=pick;obtain⟨eb,M7,t7,lb,qb,ee1⟩:=dF (ds0:=aD 0 g.toNat) (ge:=cD) (ρ:=[some (.mr 0),some (.tup (.int w::.int hh::more)),some (.int mm),some (bg fl),some (.tup [.int sx,.int sy]),some (.int g),none,none])
  (P:=ba l rest) (Q:=fun e=>∃b,e=bg b∧jV 8 b) (aD 0 g.toNat) (fun d hd M hM=>by
   obtain⟨rs,rw',M1,q1,q2,q3,q4,q5,t1,e1⟩:=lz (most:=8) (by decide) (by decide) hM;exact⟨_,M1,t1,⟨rs,rfl,q1,q2,rw',q3,q4,q5⟩,by simp_arith [cD,e1,bg]⟩) M6 t6
 obtain⟨book,hb,okb⟩:=jD qb;have lbk:book.length=g.toNat:=by rw[←aX 0 g.toNat,←lb,hb,length_map]
 obtain⟨d8,M8,a8,b8,t8,e8⟩:=aR (many:=mm+1) (by omega) (ap (by omega) (by omega)) t7;obtain⟨em,M9,t9,lm,qm,ee2⟩:=dF (ds0:=aD 0 d8.toNat) (ge:=cG) (ρ:=[some (.mr 0),some (.tup (.int w::.int hh::more)),some (.int mm),some (bg fl),some (.tup [.int sx,.int sy]),some (.int g),some (.tup (book.map bg)),none])
  (P:=ba l rest) (Q:=fun e=>∃m,e=Mv.d m∧sv book.length m) (aD 0 d8.toNat) (fun d hd M hM=>by
   obtain⟨m,M1,ok,t1,e1⟩:=pK (more:=more) (n:=book.length) hw hh2 (by omega) hM;exact⟨_,M1,t1,⟨m,rfl,ok⟩,by simp_arith [cG,e1]⟩) M8 t8
 obtain⟨movers,hmv,okm⟩:=jD qm;have lmv:movers.length=d8.toNat:=by rw[←aX 0 d8.toNat,←lm,hmv,length_map]
 obtain⟨ep,M10,t10,lp,qp,ee3⟩:=dF (ds0:=aD 0 16) (ge:=cH) (ρ:=[some (.mr 0),some (.tup (.int w::.int hh::more)),some (.int mm),some (bg fl),some (.tup [.int sx,.int sy]),some (.int g),some (.tup (book.map bg)),some (.tup (movers.map Mv.d))])
  (P:=ba l rest) (Q:=fun e=>∃k,e=D.int k∧0≤k∧k≤63) (aD 0 16) (fun d hd M hM=>by
   obtain⟨f1,M1,a1,b1,t1,e1⟩:=aR (many:=64) (by decide) (ap (by decide) (by decide)) hM;exact⟨_,M1,t1,⟨f1,rfl,a1,by omega⟩,by simp_arith [cH,e1]⟩) M9 t9
 obtain⟨pots,hp,okp⟩:=jD qp;have lpt:pots.length=16:=by rw[←aX 0 16,←lp,hp,length_map]
 refine⟨⟨fl,sx,sy,book,movers,pots⟩,M10,⟨⟨f1,f2,fw,f3,f4,f5⟩,a2,a3,?_,okb,?_,okm,lpt,okp⟩,t10,?_⟩
 ·show book.length≤8;omega
 ·show(movers.length:Int)≤mm;omega
 ·rw[hb] at ee1;rw[hmv] at ee2;rw[hp] at ee3;obtain⟨gn,rfl⟩:=Int.eq_ofNat_of_zero_le g1;obtain⟨dn,rfl⟩:=Int.eq_ofNat_of_zero_le a8;rw[Int.toNat_natCast] at ee1 ee2;show aQ (cR [some (.mr 0),some (.tup (.int w::.int hh::more)),some (.int mm),none,none,none,none,none] M)=_;unfold cR;rw[aq (aA (bf rfl rfl e1))];rw[aq (aA (bp (ao (bf rfl rfl e2) (ao (bf rfl rfl e3) iP))))];rw[aq (aA (al (fo (ao (bf rfl rfl e4) (ao (bf rfl rfl e5) iP))) (al (bf rfl rfl e6) rfl (jY (by decide) (by decide) M6)) (ul ha)))];show aQ (au _ _ [some (.mr 0),some (.tup (.int w::.int hh::more)),some (.int mm),some (bg fl),some (.tup [.int sx,.int sy]),some (.int gn),none,none] M6)=_;rw[aq (aA (fg (F:=aF) (f9 (eR (n:=gn) (ao (g:=ae 5) rfl iP) (by omega)) ee1 (by rw[length_map];omega)) rfl))];show aQ (au _ _ [some (.mr 0),some (.tup (.int w::.int hh::more)),some (.int mm),some (bg fl),some (.tup [.int sx,.int sy]),some (.int gn),some (.tup (book.map bg)),none] M7)=_;rw[aq (aA (fg (F:=aF) (f9 (eR (n:=dn) (ao (bf rfl rfl e8) iP) (by omega)) ee2 (by rw[length_map];omega)) rfl))];show aQ (bc _ [some (.mr 0),some (.tup (.int w::.int hh::more)),some (.int mm),some (bg fl),some (.tup [.int sx,.int sy]),some (.int gn),some (.tup (book.map bg)),some (.tup (movers.map Mv.d))] M9)=_;refine(congrArg aQ (ck (bp (ds:=[bg fl,.tup [.int sx,.int sy],.tup (book.map bg),.tup (movers.map Mv.d),.tup (pots.map D.int)]) (ao rfl (ao rfl (ao rfl (ao rfl (ao (fg (F:=aF) (f9 (eR (n:=16) (ao (g:=gC (.int 16)) rfl iP) (by decide)) ee3 (by rw[length_map];omega)) rfl) rfl)))))))).trans ?_;rfl
theorem iH {ds0:List D}{s:GG}{body:GS}{W:Nat→bG→am→Prop}:∀(ds:List D) (i:Nat),(∀j d,ds[j]?=some d→∀ρ M,W (i+j) ρ M→∃ρ1 ρ2 M2,s d ρ=some ρ1∧body ρ1 M=.ok (.nx ρ2) M2∧W (i+j+1) ρ2 M2)→∀ρ M,W i ρ M→
  ∃ρ' M',W (i+ds.length) ρ' M'∧bY ⟨ds0,none⟩ s body ds ρ M=.ok (.nx ρ') M'
 | [],i,h,ρ,M,hW=>⟨ρ,M,hW,rfl⟩
 | d::ds,i,h,ρ,M,hW=>by
  obtain⟨ρ1,ρ2,M2,e1,e2,h2⟩:=h 0 d rfl ρ M hW;obtain⟨ρ',M',h3,e3⟩:=iH (ds0:=ds0) (body:=body) (W:=W) ds (i+1) (fun j d' hd ρ M hW=>by
   have e:i+1+j=i+(j+1):=by omega
   rw[e] at hW ⊢;exact h (j+1) d' hd ρ M hW) ρ2 M2 h2
  refine⟨ρ',M',?_,by simp[bY,qP,e1,e2,e3]⟩;have e:i+(d::ds).length=i+1+ds.length:=by simp;omega
  rw[e];exact h3
theorem iC {lo:Int}{n j:Nat}{d:D}(h:(aD lo n)[j]?=some d):j<n∧d=.int (lo+j):=by
 unfold aD at h;rw[getElem?_map] at h;cases q:(List.range n)[j]? with
 | none=>rw[q] at h;cases h
 | some k=>
  rw[q] at h;obtain⟨hj,ek⟩:=List.getElem?_eq_some_iff.mp q;rw[length_range] at hj;rw[getElem_range] at ek;subst ek;cases h;exact⟨hj,rfl⟩
structure Pt where
 lo:Int
 hi:Int
 at_:Int
 st:Int
deriving DecidableEq
noncomputable def Pt.d (p:Pt):D:=.tup [.int p.lo,.int p.hi,.int p.at_,.int p.st]
structure fx (p:Pt):Prop where
 l:p.lo≤p.at_
 h:p.at_≤p.hi
 w:p.hi≤p.lo+12
noncomputable def cZ (p:Pt):Pt:=if p.lo≤p.at_+p.st∧p.at_+p.st≤p.hi then⟨p.lo,p.hi,p.at_+p.st,p.st⟩ else if p.lo≤p.at_-p.st∧p.at_-p.st≤p.hi then⟨p.lo,p.hi,p.at_-p.st,-p.st⟩ else⟨p.lo,p.hi,p.at_,-p.st⟩
noncomputable def az:Nat→Pt→Pt
 | 0,p=>p
 | n+1,p=>cZ (az n p)
theorem hU (m n:Nat)(p:Pt):az (m+n) p=az m (az n p):=by
 induction m with
 | zero=>rw[Nat.zero_add];rfl
 | succ m ih=>rw[show m+1+n=(m+n)+1 by omega];show cZ (az (m+n) p)=cZ (az m (az n p));rw[ih]
theorem rZ {p:Pt}(h:fx p):fx (cZ p)∧(cZ p).lo=p.lo∧(cZ p).hi=p.hi∧((cZ p).st=p.st∨(cZ p).st=-p.st):=by
 unfold cZ
 by_cases a:p.lo≤p.at_+p.st∧p.at_+p.st≤p.hi
 ·rw[if_pos a];exact⟨⟨a.1,a.2,h.w⟩,rfl,rfl,.inl rfl⟩
 ·rw[if_neg a]
  by_cases b:p.lo≤p.at_-p.st∧p.at_-p.st≤p.hi
  ·rw[if_pos b];exact⟨⟨b.1,b.2,h.w⟩,rfl,rfl,.inr rfl⟩
  ·rw[if_neg b];exact⟨⟨h.l,h.h,h.w⟩,rfl,rfl,.inr rfl⟩
theorem iu {p:Pt}(h:fx p):∀n,fx (az n p)∧(az n p).lo=p.lo∧(az n p).hi=p.hi∧((az n p).st=p.st∨(az n p).st=-p.st)
 | 0=>⟨h,rfl,rfl,.inl rfl⟩
 | n+1=>by
  obtain⟨a,b,c,d⟩:=iu h n;obtain⟨a2,b2,c2,d2⟩:=rZ a;refine⟨a2,b2.trans b,c2.trans c,?_⟩;show(cZ (az n p)).st=p.st∨(cZ (az n p)).st=-p.st;rcases d with d|d <;> rcases d2 with e|e <;> rw[e,d]
  ·exact .inl rfl
  ·exact .inr rfl
  ·exact .inr rfl
  ·exact .inl (Int.neg_neg _)
noncomputable def rK (p q:Pt):Nat:=(q.at_-p.lo).toNat*2+if q.st=p.st then 0 else 1
theorem vZ {p:Pt}(h:fx p)(n:Nat):rK p (az n p)<26:=by
 obtain⟨a,b,c,_⟩:=iu h n;have:=a.l;have:=a.h;have:=a.w;unfold rK;rw[b] at *;split <;> omega
theorem m6 {p:Pt}(h:fx p){m n:Nat}(e:rK p (az m p)=rK p (az n p)):az m p=az n p:=by
 obtain⟨a,b,c,d⟩:=iu h m;obtain⟨a2,b2,c2,d2⟩:=iu h n;have l1:=a.l;have l2:=a2.l;rw[b] at l1;rw[b2] at l2;unfold rK at e;have ea:(az m p).at_=(az n p).at_:=by split at e <;> split at e <;> omega
 have es:(az m p).st=(az n p).st:=by
  split at e <;> split at e
  ·rename_i x y;rw[x,y]
  ·omega
  ·omega
  ·rename_i x y;rcases d with d|d
   ·exact absurd d x
   ·rcases d2 with q|q
    ·exact absurd q y
    ·rw[d,q]
 cases hm:az m p with
 | mk _ _ _ _=>
  cases hn:az n p with
  | mk _ _ _ _=>
   rw[hm] at b c ea es;rw[hn] at b2 c2 ea es;have x1:=b.trans b2.symm;have x2:=c.trans c2.symm;dsimp only at x1 x2 ea es;rw[x1,x2,ea,es]
theorem lL {p:Pt}(h:fx p):∃n j,j<n∧n≤26∧az n p=az j p:=by
 refine Classical.byContradiction fun z=>?_
 have inj:∀i j,i<27→j<27→i≠j→rK p (az i p)≠rK p (az j p):=fun i j hi hj ne e=>by
  rcases Nat.lt_or_gt_of_ne ne with lt|lt
  ·exact z ⟨j,i,lt,by omega,(m6 h e).symm⟩
  ·exact z ⟨i,j,lt,by omega,m6 h e⟩
 have nd:((List.range 27).map fun i=>rK p (az i p)).Nodup:=by
  rw[List.nodup_iff_pairwise_ne,pairwise_map];exact List.nodup_range.imp_of_mem fun {a b} ha hb ne=>inj a b (mem_range.mp ha) (mem_range.mp hb) ne
 have sub:∀x∈(List.range 27).map (fun i=>rK p (az i p)),x∈List.range 26:=fun x hx=>by
  obtain⟨i,_,rfl⟩:=mem_map.mp hx;exact mem_range.mpr (vZ h i)
 have le:=nd.length_le_of_subset sub;rw[length_map,length_range,length_range] at le;omega
structure su (p:Pt)(n j:Nat):Prop where
 lt:j<n
 le:n≤26
 e:az n p=az j p
 new:∀i k,i<k→k<n→az k p≠az i p
theorem qJ {p:Pt}(h:fx p):∃n j,su p n j:=by
 obtain⟨m,j0,hj,hm,e0⟩:=lL h;have:∀b,(∃n j,j<n∧n≤b∧az n p=az j p)→b≤26→∃n j,su p n j:=by
  intro b
  induction b with
  | zero=>intro⟨n,j,a,c,_⟩ _;omega
  | succ b ih=>
   intro⟨n,j,a,c,e⟩ hb
   by_cases q:∃n j,j<n∧n≤b∧az n p=az j p
   ·exact ih q (by omega)
   ·refine⟨n,j,a,by omega,e,fun i k hik hk z=>q ⟨k,i,hik,by omega,z⟩⟩
 exact this 26 ⟨m,j0,hj,hm,e0⟩ (Nat.le_refl _)
theorem oK {p:Pt}{n j:Nat}(o:su p n j)(i:Nat):az (j+(n-j)+i) p=az (j+i) p:=by
 have e:=o.lt;rw[show j+(n-j)+i=i+n by omega,hU,o.e,←hU,Nat.add_comm]
theorem jf {p:Pt}{n j:Nat}(o:su p n j)(i:Nat):∀k,az (j+(n-j)*k+i) p=az (j+i) p
 | 0=>by rw[Nat.mul_zero,Nat.add_zero]
 | k+1=>by
  have:=oK o ((n-j)*k+i);rw[Nat.mul_succ,show j+((n-j)*k+(n-j))+i=j+(n-j)+((n-j)*k+i) by omega,this,←Nat.add_assoc];exact jf o i k
theorem wR {p:Pt}{n j m:Nat}(o:su p n j)(h:n≤m):az (j+(m-j) % (n-j)) p=az m p:=by
 have l:=o.lt;have e:=Nat.div_add_mod (m-j) (n-j);have:=jf o ((m-j) % (n-j)) ((m-j) / (n-j));rw[←this,Nat.add_assoc,e,show j+(m-j)=m by omega]
theorem iK {g:GE}{ρ:bG}{M:am}{d:D}(h:g ρ M=.ok d M):aQ (bc g ρ M)=.ok d M:=by rw[ck h];rfl
theorem jL {a b c:GE}{ρ:bG}{M:am}{x y z:Int}(ha:a ρ M=.ok (.int x) M)(hb:b ρ M=.ok (.int y) M)(hc:c ρ M=.ok (.int z) M):ny mU mU a b c ρ M=.ok (.bl (decide (x≤y)&&decide (y≤z))) M:=by
 unfold ny;rw[ha,ai,hb,ai];show(aN.ok (D.bl (decide (x≤y))) M).bind _=_;rw[ai]
 by_cases q:x≤y
 ·rw[decide_eq_true q];dsimp only;rw[hc,ai];rfl
 ·rw[decide_eq_false q];rfl
theorem jX {ds0:List D}{sg:GG}{b:GS}{d:D}{ds:List D}{ρ ρ1 ρ2:bG}{M M1:am}(h1:sg d ρ=some ρ1)(h2:b ρ1 M=.ok (.nx ρ2) M1):bY ⟨ds0,none⟩ sg b (d::ds) ρ M=bY ⟨ds0,none⟩ sg b ds ρ2 M1:=by
 show(match sg d ρ with|none=>aN.bad|some ρ1=>(b ρ1 M).bind fun f M1=>match f with | .nx ρ2=>bY ⟨ds0,none⟩ sg b ds ρ2 M1 | .ct ρ2=>bY ⟨ds0,none⟩ sg b ds ρ2 M1 | .bk ρ2=>.ok (.nx ρ2) M1 | .rt d=>.ok (.rt d) M1)=_;rw[h1];dsimp only;rw[h2,ai]
theorem mQ {ds0:List D}{sg:GG}{b:GS}{d r:D}{ds:List D}{ρ ρ1:bG}{M M1:am}(h1:sg d ρ=some ρ1)(h2:b ρ1 M=.ok (.rt r) M1):bY ⟨ds0,none⟩ sg b (d::ds) ρ M=.ok (.rt r) M1:=by
 show(match sg d ρ with|none=>aN.bad|some ρ1=>(b ρ1 M).bind fun f M1=>match f with | .nx ρ2=>bY ⟨ds0,none⟩ sg b ds ρ2 M1 | .ct ρ2=>bY ⟨ds0,none⟩ sg b ds ρ2 M1 | .bk ρ2=>.ok (.nx ρ2) M1 | .rt d=>.ok (.rt d) M1)=_;rw[h1];dsimp only;rw[h2,ai]
theorem zM (a b c:Int):(decide (a≤b)&&decide (b≤c))=decide (a≤b∧b≤c):=(Bool.decide_and ..).symm
theorem nP (p:Pt)(M:am):dr [p.d] M=.ok (cZ p).d M:=by
 show aQ (cE [some p.d,none,none,none,none] M)=_;have k1:dt (cB [1,2,3,4]) (ae 0) [some p.d,none,none,none,none] M=.ok (.nx [some p.d,some (.int p.lo),some (.int p.hi),some (.int p.at_),some (.int p.st)]) M:=rfl;unfold cE;rw[aq k1];have t1:=bM (jL (a:=ae 1) (b:=g2 aJ (ae 3) (ae 4)) (c:=ae 2) (ρ:=[some p.d,some (.int p.lo),some (.int p.hi),some (.int p.at_),some (.int p.st)]) (M:=M) (x:=p.lo) (y:=p.at_+p.st) (z:=p.hi) rfl rfl rfl);have t2:=bM (jL (a:=ae 1) (b:=g2 cj (ae 3) (ae 4)) (c:=ae 2) (ρ:=[some p.d,some (.int p.lo),some (.int p.hi),some (.int p.at_),some (.int p.st)]) (M:=M) (x:=p.lo) (y:=p.at_-p.st) (z:=p.hi) rfl rfl rfl);rw[zM] at t1 t2;unfold cZ
 by_cases a:p.lo≤p.at_+p.st∧p.at_+p.st≤p.hi
 ·rw[decide_eq_true a] at t1;rw[if_pos a,lj ((jK t1).trans (ck (bp (ds:=[.int p.lo,.int p.hi,.int (p.at_+p.st),.int p.st]) rfl)))];rfl
 ·rw[decide_eq_false a] at t1;rw[if_neg a,aq ((fB t1).trans rfl)]
  by_cases b:p.lo≤p.at_-p.st∧p.at_-p.st≤p.hi
  ·rw[decide_eq_true b] at t2;rw[if_pos b,lj ((jK t2).trans (ck (bp (ds:=[.int p.lo,.int p.hi,.int (p.at_-p.st),.int (-p.st)]) rfl)))];rfl
  ·rw[decide_eq_false b] at t2;rw[if_neg b,aq ((fB t2).trans rfl)];exact iK (bp (ds:=[.int p.lo,.int p.hi,.int p.at_,.int (-p.st)]) rfl)
theorem zI (p:Pt)(M:am):bb [p.d] M=.ok (cZ p).d M:=by
 show aQ (cq [some p.d,none,none,none,none,none] M)=_;have k1:dt (cB [1,2,3,4]) (ae 0) [some p.d,none,none,none,none,none] M=.ok (.nx [some p.d,some (.int p.lo),some (.int p.hi),some (.int p.at_),some (.int p.st),none]) M:=rfl;unfold cq;rw[aq k1];have kb:∀(v:Int),b0 [some p.d,some (.int p.lo),some (.int p.hi),some (.int p.at_),some (.int p.st),some (.int v)] M=if p.lo≤p.at_+v∧p.at_+v≤p.hi then .ok (.rt (.tup [.int p.lo,.int p.hi,.int (p.at_+v),.int v])) M else .ok (.nx [some p.d,some (.int p.lo),some (.int p.hi),some (.int p.at_),some (.int p.st),some (.int v)]) M:=fun v=>by
  have t1:=bM (jL (a:=ae 1) (b:=g2 aJ (ae 3) (ae 5)) (c:=ae 2) (ρ:=[some p.d,some (.int p.lo),some (.int p.hi),some (.int p.at_),some (.int p.st),some (.int v)]) (M:=M) (x:=p.lo) (y:=p.at_+v) (z:=p.hi) rfl rfl rfl);rw[zM] at t1;unfold b0
  by_cases a:p.lo≤p.at_+v∧p.at_+v≤p.hi
  ·rw[decide_eq_true a] at t1;rw[if_pos a];exact(jK t1).trans (ck (bp (ds:=[.int p.lo,.int p.hi,.int (p.at_+v),.int v]) rfl))
  ·rw[decide_eq_false a] at t1;rw[if_neg a];exact(fB t1).trans rfl
 have its:eY (dg (aa (ae 4) (aa (g2 cj (gC (.int 0)) (ae 4)) ag))) [some p.d,some (.int p.lo),some (.int p.hi),some (.int p.at_),some (.int p.st),none] M=.ok ⟨[.int p.st,.int (0-p.st)],none⟩ M:=by
  unfold eY;rw[fo (ds:=[.int p.st,.int (0-p.st)]) rfl,ai];rfl
 have e0:p.at_+(0-p.st)=p.at_-p.st:=by omega
 have e1:(0:Int)-p.st=-p.st:=by omega
 unfold cZ
 by_cases a:p.lo≤p.at_+p.st∧p.at_+p.st≤p.hi
 ·have k:=kb p.st;rw[if_pos a] at k;rw[if_pos a,lj (fq its (mQ rfl k))];rfl
 ·have k:=kb p.st;rw[if_neg a] at k;have k2:=kb (0-p.st);rw[e0] at k2;rw[if_neg a]
  by_cases b:p.lo≤p.at_-p.st∧p.at_-p.st≤p.hi
  ·rw[if_pos b] at k2;rw[if_pos b,lj (fq its ((jX rfl k).trans (mQ rfl k2))),e1];rfl
  ·rw[if_neg b] at k2;rw[if_neg b,aq (fq its ((jX rfl k).trans ((jX rfl k2).trans rfl)))];refine(iK (bp (ds:=[.int p.lo,.int p.hi,.int p.at_,.int (0-p.st)]) rfl)).trans ?_;rw[e1];rfl
noncomputable def Pt.k (p:Pt):List bv:=[.inl p.lo,.inl p.hi,.inl p.at_,.inl p.st]
theorem yA {p q:Pt}(h:p.k=q.k):p=q:=by
 cases p;cases q;unfold Pt.k at h;simp only[List.cons.injEq,Sum.inl.injEq,and_true] at h;obtain⟨a,b,c,d⟩:=h;rw[a,b,c,d]
theorem Ah (p:Pt):iB p.d=some p.k:=rfl
noncomputable def gj (p:Pt)(i:Nat):List (List bv×D):=(List.range i).map fun k=>((az k p).k,D.int k)
theorem kO (p:Pt)(i:Nat):gj p (i+1)=gj p i++[((az i p).k,D.int i)]:=by
 unfold gj;rw[range_succ,map_append];rfl
theorem rN (p:Pt)(i:Nat):(gj p i).length=i:=by unfold gj;rw[length_map,length_range]
theorem iI {p q:Pt}{i:Nat}(h:∀k,k<i→az k p≠q):cz (gj p i) q.k=none:=by
 unfold cz;rw[List.find?_eq_none.mpr fun x hx=>?_];rfl;obtain⟨k,hk,rfl⟩:=mem_map.mp hx;simp only[decide_eq_true_eq];exact fun z=>h k (mem_range.mp hk) (yA z)
theorem pb {kvs:List (List bv×D)}{k q:List bv}{d:D}:cz (kvs++[(k,d)]) q=(cz kvs q).or (if k=q then some d else none):=by
 unfold cz;rw[List.find?_append];cases kvs.find? fun kv=>decide (kv.1=q) with
 | some x=>rfl
 | none=>
  rw[find?_cons]
  by_cases h:k=q
  ·rw[if_pos h];simp[h]
  ·rw[if_neg h];simp[h]
theorem ir {p:Pt}{j:Nat}(h:∀k,k<j→az k p≠az j p):∀{i:Nat},j<i→cz (gj p i) (az j p).k=some (.int j)
 | 0,hj=>absurd hj (Nat.not_lt_zero _)
 | i+1,hj=>by
  rw[kO,pb]
  by_cases q:j<i
  ·rw[ir h q];rfl
  ·have e:i=j:=by omega
   subst e;rw[iI h,if_pos rfl];rfl
theorem oJ (M:am)(kvs:List (List bv×D)):(M++[MO.dT kvs])[M.length]?=some (.dT kvs):=by simp
theorem iO {α:Type}{f:Nat→List (List bv×D)→List bv→am→aN α}{M:am}{kvs:List (List bv×D)}{q:Pt}:dH f (.mr M.length) q.d (M++[MO.dT kvs])=f M.length kvs q.k (M++[MO.dT kvs]):=by
 unfold dH;dsimp only;rw[oJ];dsimp only;rw[Ah]
theorem sN {M:am}{kvs:List (List bv×D)}:nW [.mr M.length] (M++[MO.dT kvs])=.ok (.int kvs.length) (M++[MO.dT kvs]):=by
 unfold nW gU;dsimp only;rw[oJ]
theorem oX {M:am}{kvs:List (List bv×D)}:jg [.mr M.length] (M++[MO.dT kvs])=.ok (.lst (kvs.map fun p=>.tup (p.1.map lO))) (M++[MO.dT kvs]):=by
 unfold jg gU;dsimp only;rw[oJ]
theorem qK {p:Pt}{M:am}{i:Nat}(hi:i≤1000)(h:∀k,k<i→az k p≠az i p):cX [some (az i p).d,some (.mr M.length)] (M++[.dT (gj p i)])=.ok (.nx [some (az (i+1) p).d,some (.mr M.length)]) (M++[.dT (gj p (i+1))]):=by
 unfold cX;have k1:jh (ae 1) (ae 0) (aH nW (aa (ae 1) ag)) [some (az i p).d,some (.mr M.length)] (M++[.dT (gj p i)])=.ok (.nx [some (az i p).d,some (.mr M.length)]) (M++[.dT (gj p (i+1))]):=by
  unfold jh;rw[fg (F:=nW) (a:=ae 1) (x:=.mr M.length) (M1:=M++[.dT (gj p i)]) rfl sN,ai];rw[show ae 1 [some (az i p).d,some (.mr M.length)] (M++[.dT (gj p i)])=.ok (.mr M.length) (M++[.dT (gj p i)]) from rfl,ai];rw[show ae 0 [some (az i p).d,some (.mr M.length)] (M++[.dT (gj p i)])=.ok (az i p).d (M++[.dT (gj p i)]) from rfl,ai];unfold vh;rw[iO,iI h,rN];dsimp only;rw[if_pos (Nat.lt_of_le_of_lt hi (by rw[sizeLine_eq];decide)),ai,kO];simp
 rw[aq k1];exact aA (mz (a:=ae 0) (x:=(az i p).d) rfl (nP (az i p) _))
theorem kT {p:Pt}{M:am}{i:Nat}{q:Pt}{b:Bool}(h:(cz (gj p i) q.k).isSome=!b):dI [some q.d,some (.mr M.length)] (M++[.dT (gj p i)])=.ok b (M++[.dT (gj p i)]):=by
 refine bM (al (f:=xi true) (a:=ae 0) (b:=ae 1) (x:=q.d) (y:=.mr M.length) rfl rfl ?_);unfold xi;rw[iO,h];cases b <;> rfl
theorem pV {p:Pt}{M:am}{n j:Nat}(o:su p n j):∀(r i:Nat),i+r=n→b9 dI cX (100-i) [some (az i p).d,some (.mr M.length)] (M++[.dT (gj p i)])=.ok (.nx [some (az n p).d,some (.mr M.length)]) (M++[.dT (gj p n)])
 | 0,i,e=>by
  have le:=o.le;have e:i=n:=by omega
  subst e;rw[show 100-i=(99-i)+1 by omega];refine iq (kT ?_);rw[o.e,ir (fun k hk z=>o.new k j hk o.lt z.symm) o.lt];rfl
 | r+1,i,e=>by
  have le:=o.le;rw[show 100-i=(99-i)+1 by omega];have new:∀k,k<i→az k p≠az i p:=fun k hk z=>o.new k i hk (by omega) z.symm
  refine(lr (kT (b:=true) ?_) (qK (by omega) new)).trans ?_
  ·rw[iI new];rfl
  ·rw[show 99-i=100-(i+1) by omega];exact pV o r (i+1) (by omega)
noncomputable def aW (p:Pt)(n:Nat):List D:=(List.range n).map fun k=>(az k p).d
theorem nB (p:Pt)(n m:Nat):(aW p n).all (av (m+2))=true:=all_eq_true.mpr fun x hx=>by
 obtain⟨k,_,rfl⟩:=mem_map.mp hx;rfl
theorem pQ {p:Pt}{M:am}{n j:Nat}(o:su p n j)(hM:cT M):fO [p.d] M=.ok (.tup [.lst (aW p n),.int j]) M:=by
 show fV M.length (aQ (eo [some p.d,none] M))=_;unfold eo;have k1:aC 1 kN [some p.d,none] M=.ok (.nx [some p.d,some (.mr M.length)]) (M++[.dT (gj p 0)]):=rfl;have k2:ft 100 dI cX [some p.d,some (.mr M.length)] (M++[.dT (gj p 0)])=.ok (.nx [some (az n p).d,some (.mr M.length)]) (M++[.dT (gj p n)]):=pV (M:=M) o n 0 (Nat.zero_add _);have el:(gj p n).map (fun q=>D.tup (q.1.map lO))=aW p n:=by
  unfold gj aW;rw[map_map];rfl
 have k3:bc (aL (aa (aH jg (aa (ae 1) ag)) (aa (g2 kW (ae 1) (ae 0)) ag))) [some (az n p).d,some (.mr M.length)] (M++[.dT (gj p n)])=.ok (.rt (.tup [.lst (aW p n),.int j])) (M++[.dT (gj p n)]):=by
  refine ck (bp (ds:=[.lst (aW p n),.int j]) (ao (fg (F:=jg) (a:=ae 1) (x:=.mr M.length) rfl (by rw[oX,el])) (ao (al (f:=kW) (a:=ae 1) (b:=ae 0) (x:=.mr M.length) (y:=(az n p).d) rfl rfl ?_) rfl)));unfold kW;rw[iO,o.e,ir (fun k hk z=>o.new k j hk o.lt z.symm) o.lt]
 rw[aq k1,aq k2,k3];refine hR ?_ hM;show((aW p n).all (av 28)&&([D.int j].all (av 29)))=true;rw[nB];rfl
theorem fI {p:Pt}{n m:Nat}(h:m<n):(aW p n)[m]?=some (az m p).d:=by
 unfold aW;rw[getElem?_map,getElem?_range h];rfl
theorem fX (p:Pt)(n:Nat):(aW p n).length=n:=by unfold aW;rw[length_map,length_range]
theorem kE {p:Pt}{M N:am}{n j m:Nat}{l i:Nat}{ρ:bG}(o:su p n j)(hm:ρ[1]?=some (some (.int m)))(hj:ρ[i]?=some (some (.int j)))(hl:∀k:Nat,k<n→g2 aB (ae l) (gC (.int k)) ρ N=.ok (az k p).d N)
  (hv:∀k:Nat,k<n→∀x,x ρ N=.ok (.int k) N→g2 aB (ae l) x ρ N=.ok (az k p).d N) (hn:aH cu (aa (ae l) ag) ρ N=.ok (.int n) N) :
  au (fz (br (g2 kU (ae 1) (aH cu (aa (ae l) ag)))) (bc (g2 aB (ae l) (ae 1))) bx) (bc (g2 aB (ae l) (g2 aJ (ae i) (g2 cU (g2 cj (ae 1) (ae i)) (g2 cj (aH cu (aa (ae l) ag)) (ae i)))))) ρ N=.ok (.rt (az m p).d) N:=by
 have v1:ae 1 ρ N=.ok (.int m) N:=by unfold ae;rw[hm]
 have vi:ae i ρ N=.ok (.int j) N:=by unfold ae;rw[hj]
 have t1:br (g2 kU (ae 1) (aH cu (aa (ae l) ag))) ρ N=.ok (decide ((m:Int)<n)) N:=bM (al (f:=kU) v1 hn rfl)
 by_cases h:m<n
 ·rw[decide_eq_true (by omega)] at t1;exact lj ((jK t1).trans (ck (hv m h _ v1)))
 ·rw[decide_eq_false (by omega)] at t1;rw[aq ((fB t1).trans rfl)];have lt:=o.lt;have hk:j+(m-j) % (n-j)<n:=by
   have:=Nat.mod_lt (m-j) (show 0<n-j by omega);omega
  refine(ck (hv (j+(m-j) % (n-j)) hk _ (al (f:=aJ) vi (al (f:=cU) (al (f:=cj) v1 vi rfl) (al (f:=cj) hn vi rfl) (hZ (by omega) N)) ?_))).trans ?_
  ·show aN.ok (D.int ((j:Int)+((m:Int)-j) % ((n:Int)-j))) N=_;rw[show(m:Int)-j=((m-j:Nat):Int) by omega,show(n:Int)-j=((n-j:Nat):Int) by omega,←Int.natCast_emod,←Int.natCast_add]
  ·rw[wR o (by omega)]
theorem uB {p:Pt}{M:am}{m:Nat}(h:fx p)(hM:cT M):eQ [p.d,.int m] M=.ok (az m p).d M:=by
 obtain⟨n,j,o⟩:=qJ h;show aQ (eU [some p.d,some (.int m),none,none] M)=_;unfold eU;have k1:dt (cB [2,3]) (aj 1 fO (aa (ae 0) ag)) [some p.d,some (.int m),none,none] M=.ok (.nx [some p.d,some (.int m),some (.lst (aW p n)),some (.int j)]) M:=by
  unfold dt;rw[mz (a:=ae 0) (x:=p.d) rfl (pQ o hM),ai];rfl
 rw[aq k1,kE (l:=2) (i:=3) (M:=M) o rfl rfl (fun k hk=>al (f:=aB) (a:=ae 2) (b:=gC (.int k)) (x:=.lst (aW p n)) (y:=.int k) rfl rfl (fi (fI hk))) (fun k hk x hx=>al (f:=aB) (a:=ae 2) (x:=.lst (aW p n)) rfl hx (fi (fI hk))) (fg (F:=cu) (a:=ae 2) (x:=.lst (aW p n)) rfl (by show aN.ok (D.int ((aW p n).length:Int)) M=_;rw[fX]))];rfl
theorem mH (p:Pt):p.d=.tup ([p.lo,p.hi,p.at_,p.st].map D.int):=rfl
theorem mN (p q:Pt):gm p.d q.d=decide (p=q):=by
 rw[mH,mH];show dP _ _=_;rw[jj];refine decide_eq_decide.mpr ⟨fun h=>?_,fun h=>by rw[h]⟩;simp only[List.cons.injEq,and_true] at h;obtain⟨a,b,c,d⟩:=h;cases p;cases q;dsimp only at a b c d;rw[a,b,c,d]
theorem qz (p:Pt):ar 40 p.d=true:=rfl
theorem mV (p:Pt)(n:Nat):(aW p n).all (ar 40)=true:=all_eq_true.mpr fun x hx=>by
 obtain⟨k,_,rfl⟩:=mem_map.mp hx;rfl
theorem rp {p q:Pt}{n:Nat}{b:Bool}(h:(∃k,k<n∧az k p=q)↔b=true):((aW p n).any fun y=>gm y q.d)=b:=by
 rw[Bool.eq_iff_iff,←h,List.any_eq_true];constructor
 ·intro⟨x,hx,e⟩;obtain⟨k,hk,rfl⟩:=mem_map.mp hx;rw[mN,decide_eq_true_eq] at e;exact⟨k,mem_range.mp hk,e⟩
 ·intro⟨k,hk,e⟩;exact⟨_,mem_map.mpr ⟨k,mem_range.mpr hk,rfl⟩,by rw[mN,decide_eq_true_eq];exact e⟩
theorem rT {p:Pt}{j:Nat}(h:∀k,k<j→az k p≠az j p){n:Nat}(hn:j<n):(aW p n).findIdx? (fun y=>gm y (az j p).d)=some j:=by
 rw[findIdx?_eq_some_iff_getElem];refine⟨by rw[fX];exact hn,?_,fun k hk=>?_⟩
 ·have:=fI (p:=p) hn;rw[List.getElem?_eq_some_iff] at this;obtain⟨_,e⟩:=this;rw[e,mN,decide_eq_true rfl]
 ·have:=fI (p:=p) (Nat.lt_trans hk hn);rw[List.getElem?_eq_some_iff] at this;obtain⟨_,e⟩:=this;rw[e,mN,decide_eq_false (h k hk)];exact Bool.false_ne_true
theorem ja (p:Pt)(i:Nat):aW p (i+1)=aW p i++[(az i p).d]:=by
 unfold aW;rw[range_succ,map_append];rfl
theorem o8 {p:Pt}{M:am}{i:Nat}{x0 x1 x3:Option D}:g2 aB (ae 2) (en (gC (.int 1))) [x0,x1,some (.mr M.length),x3] (M++[.lst (aW p (i+1))])=.ok (az i p).d (M++[.lst (aW p (i+1))]):=by
 refine al (f:=aB) (a:=ae 2) (b:=en (gC (.int 1))) (x:=.mr M.length) (y:=.int (-1)) rfl rfl ?_;show(match (match (M++[MO.lst (aW p (i+1))])[M.length]? with|some (.lst xs)=>some xs|_=>none),D.int (-1) with|some xs,.int z=>(match iS xs z with|some d=>aN.ok d (M++[MO.lst (aW p (i+1))])|none=>.bad)|_,_=>.bad)=_;rw[iN];dsimp only;rw[ja,sR]
theorem j9 {p:Pt}{M:am}{i:Nat}{x0 x1 x3:Option D}:aj 1 bb (aa (g2 aB (ae 2) (en (gC (.int 1)))) ag) [x0,x1,some (.mr M.length),x3] (M++[.lst (aW p (i+1))])=.ok (az (i+1) p).d (M++[.lst (aW p (i+1))]):=mz o8 (zI _ _)
theorem kJ {p:Pt}{M:am}{i:Nat}{x0 x1 x3:Option D}{b:Bool}(h:(∃k,k<i+1∧az k p=az (i+1) p)↔b=false):bt [x0,x1,some (.mr M.length),x3] (M++[.lst (aW p (i+1))])=.ok b (M++[.lst (aW p (i+1))]):=by
 refine bM (al (f:=xp true) (b:=ae 2) j9 rfl ?_);show(match (match (M++[MO.lst (aW p (i+1))])[M.length]? with|some (.lst xs)=>some xs|_=>none) with|some xs=>if(ar 40 (az (i+1) p).d&&xs.all (ar 40))=true then aN.ok (D.bl ((xs.any fun y=>gm y (az (i+1) p).d) != true)) (M++[MO.lst (aW p (i+1))]) else .bad|none=>.bad)=_;rw[iN];dsimp only;rw[mV,qz,if_pos (by rfl),rp (b:=!b) (by rw[h];cases b <;> simp)];cases b <;> rfl
theorem qI {p:Pt}{M:am}{i:Nat}{x0 x1 x3:Option D}(hi:i≤1000):bw [x0,x1,some (.mr M.length),x3] (M++[.lst (aW p (i+1))])=.ok (.nx [x0,x1,some (.mr M.length),x3]) (M++[.lst (aW p (i+2))]):=by
 refine(gY (vc (go:=ae 2) (M:=M) (E:=aW p (i+1)) rfl j9 (by rw[fX];omega))).trans ?_;rw[←ja]
theorem pp {p:Pt}{M:am}{n j:Nat}{x0 x1 x3:Option D}(o:su p n j):∀(r i:Nat),i+1+r=n→b9 bt bw (100-i) [x0,x1,some (.mr M.length),x3] (M++[.lst (aW p (i+1))])=.ok (.nx [x0,x1,some (.mr M.length),x3]) (M++[.lst (aW p n)])
 | 0,i,e=>by
  have le:=o.le;have e:n=i+1:=by omega
  subst e;rw[show 100-i=(99-i)+1 by omega];exact iq (kJ (b:=false) ⟨fun _=>rfl,fun _=>⟨j,o.lt,o.e.symm⟩⟩)
 | r+1,i,e=>by
  have le:=o.le;rw[show 100-i=(99-i)+1 by omega];refine(lr (kJ (b:=true) ⟨fun⟨k,hk,z⟩=>absurd z.symm (o.new k (i+1) hk (by omega)),fun z=>by cases z⟩) (qI (by omega))).trans ?_;rw[show 99-i=100-(i+1) by omega];exact pp o r (i+1) (by omega)
theorem uh {p:Pt}{M:am}{m:Nat}(h:fx p)(hM:cT M):cO [p.d,.int m] M=.ok (az m p).d M:=by
 obtain⟨n,j,o⟩:=qJ h;obtain⟨n,rfl⟩:∃n',n=n'+1:=⟨n-1,by have:=o.lt;omega⟩;show fV M.length (aQ (bJ [some p.d,some (.int m),none,none] M))=_;unfold bJ;have k1:aC 2 (dR (aa (ae 0) ag)) [some p.d,some (.int m),none,none] M=.ok (.nx [some p.d,some (.int m),some (.mr M.length),none]) (M++[.lst (aW p 1)]):=by
  refine aA ?_;unfold dR;rw[ao (d:=p.d) (M1:=M) (ds:=[]) (M2:=M) rfl rfl,ai];exact if_pos (bQ (show 1≤1000000 by decide))
 have k2:ft 100 bt bw [some p.d,some (.int m),some (.mr M.length),none] (M++[.lst (aW p 1)])=.ok (.nx [some p.d,some (.int m),some (.mr M.length),none]) (M++[.lst (aW p (n+1))]):=pp o n 0 (by omega);have lo:et (.mr M.length) (M++[MO.lst (aW p (n+1))])=some (aW p (n+1)):=by
  show(match (M++[MO.lst (aW p (n+1))])[M.length]? with|some (.lst xs)=>some xs|_=>none)=_;rw[iN]
 have k3:aC 3 (fb fy (ae 2) (aj 1 bb (aa (g2 aB (ae 2) (en (gC (.int 1)))) ag))) [some p.d,some (.int m),some (.mr M.length),none] (M++[.lst (aW p (n+1))])=.ok (.nx [some p.d,some (.int m),some (.mr M.length),some (.int j)]) (M++[.lst (aW p (n+1))]):=by
  refine aA ?_;unfold fb;rw[show ae 2 [some p.d,some (.int m),some (.mr M.length),none] (M++[MO.lst (aW p (n+1))])=.ok (.mr M.length) (M++[MO.lst (aW p (n+1))]) from rfl,ai,lo];dsimp only;rw[j9,ai,lo];dsimp only;unfold fy;rw[mV,qz,if_pos (by rfl),o.e,rT (fun k hk z=>o.new k j hk o.lt z.symm) o.lt]
 have ix:∀k:Nat,k<n+1→aB (.mr M.length) (.int k) (M++[.lst (aW p (n+1))])=.ok (az k p).d (M++[.lst (aW p (n+1))]):=fun k hk=>by
  show(match (match (M++[MO.lst (aW p (n+1))])[M.length]? with|some (.lst xs)=>some xs|_=>none),D.int k with|some xs,.int i=>(match iS xs i with|some d=>aN.ok d (M++[MO.lst (aW p (n+1))])|none=>.bad)|_,_=>.bad)=_;rw[iN];dsimp only;rw[fZ (fI hk)]
 rw[aq k1,aq k2,aq k3,kE (l:=2) (i:=3) (M:=M) o rfl rfl (fun k hk=>al (f:=aB) (a:=ae 2) (b:=gC (.int k)) (x:=.mr M.length) (y:=.int k) rfl rfl (ix k hk)) (fun k hk x hx=>al (f:=aB) (a:=ae 2) (x:=.mr M.length) rfl hx (ix k hk)) (fg (F:=cu) (a:=ae 2) (x:=.mr M.length) (M1:=M++[.lst (aW p (n+1))]) rfl (by
  show(match (match (M++[MO.lst (aW p (n+1))])[M.length]? with|some (.lst xs)=>some xs|_=>none) with|some xs=>aN.ok (D.int (xs.length:Int)) (M++[MO.lst (aW p (n+1))])|none=>.bad)=_;rw[iN];dsimp only;rw[fX]))]
 exact hR rfl hM
structure aO where
 sh:D
 x:Int
 y:Int
 rk:D
 tn:D
 pr:Option (Pt×Pt)
noncomputable def aO.m (i:aO):D:=.tup [i.sh,.int i.x,.int i.y,i.rk,i.tn]
noncomputable def dk:Option (Pt×Pt)→D
 | none=>.non
 | some (a,b)=>.tup [a.d,b.d]
noncomputable def iW (n:Nat):Option (Pt×Pt)→Option (Pt×Pt)
 | none=>none
 | some (a,b)=>some (az n a,az n b)
noncomputable def aO.go (n:Nat)(i:aO):aO:=match i.pr with
 | none=>i
 | some (a,b)=>{i with x:=(az n a).at_,y:=(az n b).at_,pr:=some (az n a,az n b)}
theorem mG (n:Nat)(i:aO):(i.go n).pr=iW n i.pr:=by
 unfold aO.go;cases h:i.pr with
 | none=>exact h
 | some q=>rfl
noncomputable def rV (q:Option (Pt×Pt)):Prop:=∀a b,q=some (a,b)→fx a∧fx b
noncomputable def ax (fr fl s bk ps:D)(is:List aO):D:=.tup [fr,.tup [fl,s,bk,.tup (is.map aO.m),ps],.tup (is.map fun i=>dk i.pr)]
theorem jW {α:Type}{ds0:List D}{ge:GE}{ρ:bG}{M:am}{g h:α→D}:∀l:List α,(∀a∈l,ge (some (g a)::ρ) M=.ok (h a) M)→c6 ⟨ds0,none⟩ cP ge (l.map g) ρ M=.ok (l.map h) M
 | [],_=>rfl
 | a::l,k=>by
  have ih:=jW (ds0:=ds0) (ge:=ge) (ρ:=ρ) (M:=M) (g:=g) (h:=h) l fun x hx=>k x (mem_cons_of_mem _ hx)
  show c6 ⟨ds0,none⟩ cP ge (g a::l.map g) ρ M=_;unfold c6;rw[show jq.ok ⟨ds0,none⟩ M=true from rfl,if_pos rfl,show cP (some (g a)::ρ) M=.ok true M from rfl];dsimp only;rw[k a mem_cons_self];dsimp only;rw[ih];rfl
theorem lA {α:Type}{ds0:List D}{n:Nat}{sg:GG}{ge:GE}{ρ:bG}{M:am}{g h:α→D}:∀l:List α,(∀a∈l,∃ρ1,sg (g a) (List.replicate n none++ρ)=some ρ1∧ge ρ1 M=.ok (h a) M)→aG ⟨ds0,none⟩ n sg cP ge (l.map g) ρ M=.ok (l.map h) M
 | [],_=>rfl
 | a::l,k=>by
  obtain⟨ρ1,e1,e2⟩:=k a mem_cons_self;have ih:=lA (ds0:=ds0) (n:=n) (sg:=sg) (ge:=ge) (ρ:=ρ) (M:=M) (g:=g) (h:=h) l fun x hx=>k x (mem_cons_of_mem _ hx)
  show aG ⟨ds0,none⟩ n sg cP ge (g a::l.map g) ρ M=_;unfold aG;rw[show jq.ok ⟨ds0,none⟩ M=true from rfl,if_pos rfl,e1];dsimp only;rw[show cP ρ1 M=.ok true M from rfl];dsimp only;rw[e2];dsimp only;rw[ih];rfl
theorem nO {q:Option (Pt×Pt)}{n:Nat}{M:am}(h:rV q)(hM:cT M):gx [dk q,.int n] M=.ok (dk (iW n q)) M:=by
 cases q with
 | none=>exact rfl
 | some ab=>
  obtain⟨a,b⟩:=ab;obtain⟨ha,hb⟩:=h a b rfl;show aQ (eO [some (.tup [a.d,b.d]),some (.int n),none,none] M)=_;unfold eO;rw[aq ((fB (M1:=M) rfl).trans rfl),aq (show dt (cB [2,3]) (ae 0) [some (.tup [a.d,b.d]),some (.int n),none,none] M=.ok (.nx [some (.tup [a.d,b.d]),some (.int n),some a.d,some b.d]) M from rfl)];exact iK (bp (ds:=[(az n a).d,(az n b).d]) (ao (bf (a:=ae 2) (b:=ae 1) rfl rfl (uB ha hM)) (ao (bf (a:=ae 3) (b:=ae 1) rfl rfl (uB hb hM)) rfl)))
theorem nQ {a b:List D}{M:am}(h:a.length+b.length≤1000):aJ (.tup a) (.tup b) M=.ok (.tup (a++b)) M:=by
 unfold aJ;dsimp only;rw[if_pos (bQ (by omega))]
theorem ol (a b:Pt)(M:am):eL [.tup [a.d,b.d]] M=.ok (.tup [.int a.at_,.int b.at_]) M:=by
 show aQ (dm [some (.tup [a.d,b.d]),none,none] M)=_;unfold dm;rw[aq (show dt (cB [1,2]) (ae 0) [some (.tup [a.d,b.d]),none,none] M=.ok (.nx [some (.tup [a.d,b.d]),some a.d,some b.d]) M from rfl)];exact iK (bp (ds:=[.int a.at_,.int b.at_]) (ao (al (f:=aB) (a:=ae 1) (b:=gC (.int 2)) (x:=a.d) (y:=.int 2) rfl rfl (bj (k:=2) rfl)) (ao (al (f:=aB) (a:=ae 2) (b:=gC (.int 2)) (x:=b.d) (y:=.int 2) rfl rfl (bj (k:=2) rfl)) rfl)))
theorem lW {i:aO}{n:Nat}{M:am}:fe [i.m,dk (iW n i.pr)] M=.ok (i.go n).m M:=by
 unfold aO.go;cases h:i.pr with
 | none=>exact rfl
 | some ab=>
  obtain⟨a,b⟩:=ab;show aQ (dJ [some i.m,some (.tup [(az n a).d,(az n b).d])] M)=_;unfold dJ;rw[aq ((fB (M1:=M) rfl).trans rfl)];exact iK (al (f:=aJ) (x:=.tup [i.sh,.int (az n a).at_,.int (az n b).at_]) (y:=.tup [i.rk,i.tn]) (al (f:=aJ) (x:=.tup [i.sh]) (y:=.tup [.int (az n a).at_,.int (az n b).at_]) rfl (mz (a:=ae 1) rfl (ol _ _ M)) (nQ (a:=[i.sh]) (b:=[.int (az n a).at_,.int (az n b).at_]) (show 1+2≤1000 by decide))) rfl (nQ (a:=[i.sh,.int (az n a).at_,.int (az n b).at_]) (b:=[i.rk,i.tn]) (show 3+2≤1000 by decide)))
theorem m7 {α:Type}(f g:α→D):∀l:List α,i8 (l.map f) (l.map g)=l.map fun a=>.tup [f a,g a]
 | []=>rfl
 | a::l=>by
  have:=m7 f g l;unfold i8 at this ⊢;rw[map_cons,map_cons,List.zipWith_cons_cons,this];rfl
theorem oC {fr fl s bk ps:D}{is:List aO}{n:Nat}{M:am}(h:∀i∈is,rV i.pr)(hl:is.length≤1000)(hM:cT M):cA [ax fr fl s bk ps is,.int n] M=.ok (ax fr fl s bk ps (is.map (aO.go n))) M:=by
 show aQ (eV [some (ax fr fl s bk ps is),some (.int n),none,none,none,none,none,none,none,none,none,none] M)=_;unfold eV;rw[aq (show dt (cB [2,3,4]) (ae 0) [some (ax fr fl s bk ps is),some (.int n),none,none,none,none,none,none,none,none,none,none] M=.ok (.nx [some (ax fr fl s bk ps is),some (.int n),some fr,some (.tup [fl,s,bk,.tup (is.map aO.m),ps]),some (.tup (is.map fun i=>dk i.pr)),none,none,none,none,none,none,none]) M from rfl)];rw[aq (show dt (cB [5,6,7,8,9]) (ae 3) [some (ax fr fl s bk ps is),some (.int n),some fr,some (.tup [fl,s,bk,.tup (is.map aO.m),ps]),some (.tup (is.map fun i=>dk i.pr)),none,none,none,none,none,none,none] M=.ok (.nx [some (ax fr fl s bk ps is),some (.int n),some fr,some (.tup [fl,s,bk,.tup (is.map aO.m),ps]),some (.tup (is.map fun i=>dk i.pr)),some fl,some s,some bk,some (.tup (is.map aO.m)),some ps,none,none]) M from rfl)];have k10:=f9 (mF (i:=4) (ρ:=[some (ax fr fl s bk ps is),some (.int n),some fr,some (.tup [fl,s,bk,.tup (is.map aO.m),ps]),some (.tup (is.map fun i=>dk i.pr)),some fl,some s,some bk,some (.tup (is.map aO.m)),some ps,none,none]) (M:=M) rfl) (jW (ge:=fh) (g:=fun i=>dk i.pr) (h:=fun i=>dk (iW n i.pr)) is fun i hi=>bf (a:=ae 0) (b:=ae 2) rfl rfl (nO (h i hi) hM)) (by rw[length_map];omega);have kz:mj (aa (ae 8) (aa (ae 10) ag)) [some (ax fr fl s bk ps is),some (.int n),some fr,some (.tup [fl,s,bk,.tup (is.map aO.m),ps]),some (.tup (is.map fun i=>dk i.pr)),some fl,some s,some bk,some (.tup (is.map aO.m)),some ps,some (.tup (is.map fun i=>dk (iW n i.pr))),none] M=.ok ⟨is.map fun i=>.tup [i.m,dk (iW n i.pr)],none⟩ M:=by
  unfold mj;rw[ao (d:=.tup (is.map aO.m)) (M1:=M) (ds:=[.tup (is.map fun i=>dk (iW n i.pr))]) (M2:=M) rfl rfl,ai];show(if(is.map aO.m).length=(is.map fun i=>dk (iW n i.pr)).length then aN.ok (jq.mk (i8 (is.map aO.m) (is.map fun i=>dk (iW n i.pr))) none) M else .bad)=_;rw[if_pos (by rw[length_map,length_map]),m7]
 have k11:cy (mj (aa (ae 8) (aa (ae 10) ag))) 2 (cB [0,1]) cP dU bo [some (ax fr fl s bk ps is),some (.int n),some fr,some (.tup [fl,s,bk,.tup (is.map aO.m),ps]),some (.tup (is.map fun i=>dk i.pr)),some fl,some s,some bk,some (.tup (is.map aO.m)),some ps,some (.tup (is.map fun i=>dk (iW n i.pr))),none] M=.ok (.lst (is.map fun i=>(i.go n).m)) M:=by
  unfold cy;rw[kz,ai];dsimp only;rw[lA (ge:=dU) (g:=fun i=>.tup [i.m,dk (iW n i.pr)]) (h:=fun i=>(i.go n).m) is fun i hi=>⟨_,rfl,bf (a:=ae 0) (b:=ae 1) rfl rfl lW⟩,ai];exact if_pos (bQ (by rw[length_map];omega))
 refine(congrArg aQ ((aq (aA (d:=.tup (is.map fun i=>dk (iW n i.pr))) (fg (F:=aF) k10 rfl))).trans ((aq (aA (d:=.tup (is.map fun i=>(i.go n).m)) (fg (F:=aF) k11 rfl))).trans (ck (bp (ds:=[fr,.tup [fl,s,bk,.tup (is.map fun i=>(i.go n).m),ps],.tup (is.map fun i=>dk (iW n i.pr))]) (ao rfl (ao (bp (ds:=[fl,s,bk,.tup (is.map fun i=>(i.go n).m),ps]) rfl) (ao rfl rfl)))))))).trans ?_;show aN.ok (D.tup [fr,.tup [fl,s,bk,.tup (is.map fun i=>(i.go n).m),ps],.tup (is.map fun i=>dk (iW n i.pr))]) M=_;unfold ax;rw[map_map,map_map];congr 4;exact congrArg (fun z=>[D.tup z]) (map_congr_left fun i _=>by show _=dk (i.go n).pr;rw[mG])
theorem lc {M:am}{xs:List D}(hM:cT M)(hx:xs.all (av 30)=true):cT (M++[.lst xs]):=by
 unfold cT at *;rw[all_append,Bool.and_eq_true];refine⟨all_eq_true.mpr fun o ho=>nA (by simp) (all_eq_true.mp hM o ho),?_⟩;rw[all_cons,jb (show qD (.lst xs)=true from hx)];rfl
structure kn (i:aO):Prop where
 pr:rV i.pr
 sh:av 26 i.sh=true
 rk:av 26 i.rk=true
 tn:av 26 i.tn=true
theorem p9 {p:Pt}(h:fx p)(n:Nat):fx (az n p):=(iu h n).1
theorem kn.go {i:aO}(h:kn i)(n:Nat):kn (i.go n):=by
 have e:=mG n i;refine⟨fun a b q=>?_,?_,?_,?_⟩
 ·rw[e] at q;cases hp:i.pr with
  | none=>rw[hp] at q;cases q
  | some ab=>
   obtain⟨c,d⟩:=ab;rw[hp] at q;have q:some (az n c,az n d)=some (a,b):=q;cases q;obtain⟨h1,h2⟩:=h.pr c d hp;exact⟨p9 h1 n,p9 h2 n⟩
 all_goals
  unfold aO.go;cases i.pr with
  | none=>first|exact h.sh|exact h.rk|exact h.tn
  | some ab=>first|exact h.sh|exact h.rk|exact h.tn
theorem lI {i:aO}(h:kn i):av 27 i.m=true:=by
 show(av 26 i.sh&&(true&&(true&&(av 26 i.rk&&(av 26 i.tn&&true)))))=true;rw[h.sh,h.rk,h.tn];rfl
theorem mW (q:Option (Pt×Pt))(n:Nat):av (n+3) (dk q)=true:=by
 cases q with
 | none=>rfl
 | some ab=>rfl
theorem jF:∀{n m:Nat} {d:D},n≤m→av n d=true→av m d=true
 | 0,_,_,_,h=>by cases h
 | n+1,0,_,hl,_=>absurd hl (Nat.not_succ_le_zero _)
 | n+1,m+1,d,hl,h=>by
  have up:∀xs:List D,xs.all (av n)=true→xs.all (av m)=true:=fun xs hx=>all_eq_true.mpr fun x h=>jF (Nat.le_of_succ_le_succ hl) (all_eq_true.mp hx x h)
  cases d with
  | tup xs=>exact up xs h
  | lst xs=>exact up xs h
  | ro xs=>exact up xs h
  | mr k=>cases h
  | _=>rfl
structure uD (fr fl s bk ps:D)(is:List aO):Prop where
 fr:av 29 fr=true
 fl:av 28 fl=true
 s:av 28 s=true
 bk:av 28 bk=true
 ps:av 28 ps=true
 i:∀i∈is,kn i
 l:is.length≤1000
theorem rB {is:List aO}(h:∀i∈is,kn i):(is.map aO.m).all (av 27)=true:=all_eq_true.mpr fun x hx=>by
 obtain⟨i,hi,rfl⟩:=mem_map.mp hx;exact lI (h i hi)
theorem pL (is:List aO)(n:Nat):(is.map fun i=>dk i.pr).all (av (n+3))=true:=all_eq_true.mpr fun x hx=>by
 obtain⟨i,hi,rfl⟩:=mem_map.mp hx;exact mW _ _
theorem uD.pure {fr fl s bk ps:D}{is:List aO}(f:uD fr fl s bk ps is):av 30 (ax fr fl s bk ps is)=true:=by
 show(av 29 fr&&((av 28 fl&&(av 28 s&&(av 28 bk&&((is.map aO.m).all (av 27)&&(av 28 ps&&true)))))&&((is.map fun i=>dk i.pr).all (av 28)&&true)))=true;rw[f.fr,f.fl,f.s,f.bk,f.ps,rB f.i,pL is 25];rfl
theorem uD.go {fr fl s bk ps:D}{is:List aO}(f:uD fr fl s bk ps is)(n:Nat):uD fr fl s bk ps (is.map (aO.go n)):=
 ⟨f.fr,f.fl,f.s,f.bk,f.ps,fun i hi=>by obtain⟨j,hj,rfl⟩:=mem_map.mp hi;exact(f.i j hj).go n,by rw[length_map];exact f.l⟩
noncomputable def Bg (M:am)(is:List aO)(n k:Nat):am:=M++[.lst ((is.take k).map (fun i=>(i.go n).m)++(is.drop k).map aO.m)]++[.lst ((is.take k).map fun i=>dk (iW n i.pr))]
theorem pw {M:am}{is:List aO}{n k:Nat}(hM:cT M)(h:∀i∈is,kn i):cT (Bg M is n k):=by
 refine lc (lc hM ?_) ?_
 ·refine all_eq_true.mpr fun x hx=>?_
  rcases mem_append.mp hx with q|q
  ·obtain⟨i,hi,rfl⟩:=mem_map.mp q;exact jF (by decide) (lI ((h i (mem_of_mem_take hi)).go n))
  ·obtain⟨i,hi,rfl⟩:=mem_map.mp q;exact jF (by decide) (lI (h i (mem_of_mem_drop hi)))
 ·refine all_eq_true.mpr fun x hx=>?_
  obtain⟨i,hi,rfl⟩:=mem_map.mp hx;exact mW _ _
theorem g9 {is:List aO}{k:Nat}{i:aO}(h:is[k]?=some i):is.drop k=i::is.drop (k+1)∧is.take (k+1)=is.take k++[i]:=by
 obtain⟨hk,e⟩:=List.getElem?_eq_some_iff.mp h;refine⟨by rw[drop_eq_getElem_cons hk,e],by rw[take_succ,h];rfl⟩
noncomputable def cY (is:List aO)(n k:Nat):List D:=(is.take k).map (fun i=>(i.go n).m)++(is.drop k).map aO.m
theorem uq {is:List aO}{n k:Nat}{i:aO}(h:is[k]?=some i):(cY is n k)[k]?=some i.m:=by
 have hk:=(List.getElem?_eq_some_iff.mp h).1;unfold cY;rw[(g9 h).1,getElem?_append_right (by rw[length_map,length_take];omega),length_map,length_take,Nat.min_eq_left (by omega),Nat.sub_self];rfl
theorem qA {is:List aO}{n k:Nat}{i:aO}(h:is[k]?=some i):(cY is n k).set k (i.go n).m=cY is n (k+1):=by
 have hk:=(List.getElem?_eq_some_iff.mp h).1;unfold cY;rw[(g9 h).1,(g9 h).2,map_append,map_cons,set_append_right _ _ (by rw[length_map,length_take];omega),length_map,length_take,Nat.min_eq_left (by omega),Nat.sub_self,append_assoc];rfl
theorem pF (is:List aO)(n k:Nat):(cY is n k).length=is.length:=by
 unfold cY;rw[length_append,length_map,length_map,length_take,length_drop];omega
theorem sW {is:List aO}{n k:Nat}{i:aO}(h:is[k]?=some i)(e:(i.go n).m=i.m):cY is n (k+1)=cY is n k:=by
 rw[←qA h,e];apply List.ext_getElem?;intro j;rw[List.getElem?_set];split
 ·rename_i q;subst q;have:=uq (n:=n) h;have l:=(List.getElem?_eq_some_iff.mp this).1;rw[if_pos l,this]
 ·rfl
noncomputable def aP (M:am)(A B:List D):am:=M++[.lst A]++[.lst B]
theorem ka {M:am}{A B:List D}:(aP M A B)[M.length]?=some (.lst A):=by unfold aP;simp
theorem lU {M:am}{A B:List D}:(aP M A B)[M.length+1]?=some (.lst B):=by unfold aP;simp
theorem rL {M:am}{A B C:List D}:(aP M A B).set M.length (.lst C)=aP M C B:=by unfold aP;simp
theorem sP {M:am}{A B C:List D}:(aP M A B).set (M.length+1) (.lst C)=aP M A C:=by unfold aP;simp
noncomputable abbrev fE (F:D)(n:Nat)(M:am)(k:Nat)(x:Option D):bG:=[some F,some (.int n),some (.mr M.length),some (.mr (M.length+1)),some (.int k),x]
noncomputable def Bh:GS:=(fz (br (g2 (gG true) (ae 5) (gC .non))) (au (aC 5 (aH aF (aa (cr (eY (ae 5)) cP bP bo) ag))) (dA (ae 2) (ae 4) (g2 aJ (g2 aJ (gS (g2 aB (ae 2) (ae 4)) aV (bX (gC (.int 1)))) (aL (aa (g2 aB (g2 aB (ae 5) (gC (.int 0))) (gC (.int 2))) (aa (g2 aB (g2 aB (ae 5) (gC (.int 1))) (gC (.int 2))) ag)))) (gS (g2 aB (ae 2) (ae 4)) (bX (gC (.int 3))) aV)))) bx)
theorem uR {F:D}{is:List aO}{n k:Nat}{M:am}{i:aO}{B:List D}(h:is[k]?=some i)(hi:rV i.pr)(sM:cT (aP M (cY is n k) B)):Bh (fE F n M k (some (dk i.pr))) (aP M (cY is n k) B)=.ok (.nx (fE F n M k (some (dk (iW n i.pr))))) (aP M (cY is n (k+1)) B):=by
 have hk:=(List.getElem?_eq_some_iff.mp h).1;cases hp:i.pr with
 | none=>
  rw[sW h (by unfold aO.go;rw[hp])];exact(fB (M1:=aP M (cY is n k) B) rfl).trans rfl
 | some ab=>
  obtain⟨a,b⟩:=ab;obtain⟨ha,hb⟩:=hi a b hp;refine(jK (M1:=aP M (cY is n k) B) rfl).trans ?_;have k5:=f9 (mF (i:=5) (ρ:=fE F n M k (some (.tup [a.d,b.d]))) (M:=aP M (cY is n k) B) rfl) (jW (ge:=bP) (g:=Pt.d) (h:=fun q=>(az n q).d) [a,b] fun q hq=>by
   refine bf (a:=ae 0) (b:=ae 2) rfl rfl (uh ?_ sM);rcases mem_cons.mp hq with z|z
   ·rw[z];exact ha
   ·rw[mem_singleton.mp z];exact hb) (show 2≤1000000 by decide)
  refine(aq (aA (d:=.tup [(az n a).d,(az n b).d]) (fg (F:=aF) k5 rfl))).trans ?_;have mk:g2 aB (ae 2) (ae 4) (fE F n M k (some (.tup [(az n a).d,(az n b).d]))) (aP M (cY is n k) B)=.ok i.m (aP M (cY is n k) B):=by
   refine al (f:=aB) (a:=ae 2) (b:=ae 4) (x:=.mr M.length) (y:=.int k) rfl rfl ?_;show(match (match (aP M (cY is n k) B)[M.length]? with|some (.lst xs)=>some xs|_=>none),D.int k with|some xs,.int z=>(match iS xs z with|some d=>aN.ok d (aP M (cY is n k) B)|none=>.bad)|_,_=>.bad)=_;rw[ka];dsimp only;rw[fZ (uq h)]
  have v:(g2 aJ (g2 aJ (gS (g2 aB (ae 2) (ae 4)) aV (bX (gC (.int 1)))) (aL (aa (g2 aB (g2 aB (ae 5) (gC (.int 0))) (gC (.int 2))) (aa (g2 aB (g2 aB (ae 5) (gC (.int 1))) (gC (.int 2))) ag)))) (gS (g2 aB (ae 2) (ae 4)) (bX (gC (.int 3))) aV)) (fE F n M k (some (.tup [(az n a).d,(az n b).d]))) (aP M (cY is n k) B)=.ok (i.go n).m (aP M (cY is n k) B):=by
   have s1:gS (g2 aB (ae 2) (ae 4)) aV (bX (gC (.int 1))) (fE F n M k (some (.tup [(az n a).d,(az n b).d]))) (aP M (cY is n k) B)=.ok (.tup [i.sh]) (aP M (cY is n k) B):=by
    unfold gS;rw[mk,ai];rfl
   have s2:gS (g2 aB (ae 2) (ae 4)) (bX (gC (.int 3))) aV (fE F n M k (some (.tup [(az n a).d,(az n b).d]))) (aP M (cY is n k) B)=.ok (.tup [i.rk,i.tn]) (aP M (cY is n k) B):=by
    unfold gS;rw[mk,ai];rfl
   have e:(i.go n).m=.tup [i.sh,.int (az n a).at_,.int (az n b).at_,i.rk,i.tn]:=by unfold aO.go;rw[hp];rfl
   rw[e];exact al (f:=aJ) (x:=.tup [i.sh,.int (az n a).at_,.int (az n b).at_]) (y:=.tup [i.rk,i.tn]) (al (f:=aJ) (x:=.tup [i.sh]) (y:=.tup [.int (az n a).at_,.int (az n b).at_]) s1 (bp (ds:=[.int (az n a).at_,.int (az n b).at_]) (ao (al (f:=aB) (x:=(az n a).d) (y:=.int 2) (al (f:=aB) (a:=ae 5) (b:=gC (.int 0)) (x:=.tup [(az n a).d,(az n b).d]) (y:=.int 0) rfl rfl (bj (k:=0) rfl)) rfl (bj (k:=2) rfl)) (ao (al (f:=aB) (x:=(az n b).d) (y:=.int 2) (al (f:=aB) (a:=ae 5) (b:=gC (.int 1)) (x:=.tup [(az n a).d,(az n b).d]) (y:=.int 1) rfl rfl (bj (k:=1) rfl)) rfl (bj (k:=2) rfl)) rfl))) (nQ (a:=[i.sh]) (b:=[.int (az n a).at_,.int (az n b).at_]) (show 1+2≤1000 by decide))) s2 (nQ (a:=[i.sh,.int (az n a).at_,.int (az n b).at_]) (b:=[i.rk,i.tn]) (show 3+2≤1000 by decide))
  have sd:mh (.mr M.length) (.int k) (i.go n).m (aP M (cY is n k) B)=.ok () (aP M (cY is n (k+1)) B):=by
   show(match (aP M (cY is n k) B)[M.length]? with|some (.lst xs)=>(match n8 xs.length (k:Int) with|some z=>aN.ok () ((aP M (cY is n k) B).set M.length (.lst (xs.set z (i.go n).m)))|none=>.bad)|_=>.bad)=_;rw[ka];dsimp only;rw[show n8 (cY is n k).length (k:Int)=some k by unfold n8;rw[pF,if_pos (by omega),if_pos (by omega)];simp];dsimp only;rw[qA h,rL]
  show dA (ae 2) (ae 4) _ (fE F n M k (some (.tup [(az n a).d,(az n b).d]))) (aP M (cY is n k) B)=_;unfold dA;rw[v,ai,show ae 2 (fE F n M k (some (.tup [(az n a).d,(az n b).d]))) (aP M (cY is n k) B)=.ok (.mr M.length) (aP M (cY is n k) B) from rfl,ai,show ae 4 (fE F n M k (some (.tup [(az n a).d,(az n b).d]))) (aP M (cY is n k) B)=.ok (.int k) (aP M (cY is n k) B) from rfl,ai,sd,ai];rfl
noncomputable def jB (is:List aO)(n k:Nat):List D:=(is.take k).map fun i=>dk (iW n i.pr)
theorem oV {is:List aO}{n k:Nat}{i:aO}(h:is[k]?=some i):jB is n (k+1)=jB is n k++[dk (iW n i.pr)]:=by
 unfold jB;rw[(g9 h).2,map_append];rfl
theorem re (is:List aO)(n k:Nat):(jB is n k).length≤is.length:=by unfold jB;rw[length_map,length_take];omega
theorem oi {M:am}{is:List aO}{n k:Nat}(hM:cT M)(h:∀i∈is,kn i):cT (aP M (cY is n k) (jB is n k)):=pw hM h
theorem oT {fr fl s bk ps:D}{is:List aO}{n k:Nat}{M:am}{i:aO}{x:Option D}(f:uD fr fl s bk ps is)(hM:cT M)(h:is[k]?=some i):bq (fE (ax fr fl s bk ps is) n M k x) (aP M (cY is n k) (jB is n k))=.ok (.nx (fE (ax fr fl s bk ps is) n M k (some (dk (iW n i.pr))))) (aP M (cY is n (k+1)) (jB is n (k+1))):=by
 have hi:=f.i i (mem_of_getElem? h);have l:=f.l;have lp:=re is n k;unfold bq;refine(aq (aA (d:=dk i.pr) (al (f:=aB) (b:=ae 4) (x:=.tup (is.map fun i=>dk i.pr)) (y:=.int k) (al (f:=aB) (a:=ae 0) (b:=gC (.int 2)) (x:=ax fr fl s bk ps is) (y:=.int 2) rfl rfl (bj (k:=2) rfl)) rfl (bj (by rw[getElem?_map,h];rfl))))).trans ?_;refine(aq (uR h hi.pr (oi hM f.i))).trans ?_;refine(gY (l9 (go:=ae 3) (ge:=ae 5) (k:=M.length+1) (E:=jB is n k) (E1:=jB is n k) rfl lU rfl lU (by omega))).trans ?_;rw[sP,oV h]
theorem l0 {fr fl s bk ps:D}{is:List aO}{n:Nat}{M:am}(f:uD fr fl s bk ps is)(hM:cT M):bK [ax fr fl s bk ps is,.int n] M=.ok (ax fr fl s bk ps (is.map (aO.go n))) M:=by
 have l:=f.l;show fV M.length (aQ (bI [some (ax fr fl s bk ps is),some (.int n),none,none,none,none] M))=_;unfold bI;have k2:aC 2 (aH fP (aa (g2 aB (g2 aB (ae 0) (gC (.int 1))) (gC (.int 3))) ag)) [some (ax fr fl s bk ps is),some (.int n),none,none,none,none] M=.ok (.nx [some (ax fr fl s bk ps is),some (.int n),some (.mr M.length),none,none,none]) (M++[.lst (is.map aO.m)]):=aA (fg (F:=fP) (x:=.tup (is.map aO.m)) (al (f:=aB) (x:=.tup [fl,s,bk,.tup (is.map aO.m),ps]) (y:=.int 3) (al (f:=aB) (a:=ae 0) (b:=gC (.int 1)) (x:=ax fr fl s bk ps is) (y:=.int 1) rfl rfl (bj (k:=1) rfl)) rfl (bj (k:=3) rfl)) rfl);have ll:(M++[MO.lst (is.map aO.m)]).length=M.length+1:=by rw[length_append];rfl
 have k3:aC 3 (dR ag) [some (ax fr fl s bk ps is),some (.int n),some (.mr M.length),none,none,none] (M++[.lst (is.map aO.m)])=.ok (.nx [some (ax fr fl s bk ps is),some (.int n),some (.mr M.length),some (.mr (M.length+1)),none,none]) (aP M (cY is n 0) (jB is n 0)):=by
  rw[←ll];exact aA jS
 have kl:cx (aa (aH cu (aa (ae 2) ag)) ag) [some (ax fr fl s bk ps is),some (.int n),some (.mr M.length),some (.mr (M.length+1)),none,none] (aP M (cY is n 0) (jB is n 0))=.ok ⟨aD 0 is.length,none⟩ (aP M (cY is n 0) (jB is n 0)):=by
  refine eR (ao (fg (F:=cu) (a:=ae 2) (x:=.mr M.length) (M1:=aP M (cY is n 0) (jB is n 0)) rfl ?_) rfl) (by omega);show(match (match (aP M (cY is n 0) (jB is n 0))[M.length]? with|some (.lst xs)=>some xs|_=>none) with|some xs=>aN.ok (D.int (xs.length:Int)) (aP M (cY is n 0) (jB is n 0))|none=>.bad)=_;rw[ka];dsimp only;rw[pF]
 obtain⟨ρ',N',⟨x4,x5,rfl,rfl⟩,ef⟩:=iH (ds0:=aD 0 is.length) (s:=df 4) (body:=bq) (W:=fun j ρ N=>∃x4 x5,ρ=[some (ax fr fl s bk ps is),some (.int n),some (.mr M.length),some (.mr (M.length+1)),x4,x5]∧N=aP M (cY is n j) (jB is n j)) (aD 0 is.length) 0 (fun j d hd ρ N hW=>by
  obtain⟨x4,x5,rfl,rfl⟩:=hW;obtain⟨hj,rfl⟩:=iC hd;rw[Nat.zero_add,Int.zero_add];exact⟨_,_,_,rfl,oT f hM (getElem?_eq_getElem hj),_,_,rfl,rfl⟩) [some (ax fr fl s bk ps is),some (.int n),some (.mr M.length),some (.mr (M.length+1)),none,none] (aP M (cY is n 0) (jB is n 0)) ⟨_,_,rfl,rfl⟩
 rw[aX,Nat.zero_add] at ef;have em:cY is n is.length=is.map fun i=>(i.go n).m:=by unfold cY;rw[take_length,drop_length];exact append_nil _
 have ep:jB is n is.length=is.map fun i=>dk (iW n i.pr):=by unfold jB;rw[take_length]
 rw[em,ep] at ef;generalize hA:(is.map fun i=>(i.go n).m)=A at *;generalize hB:(is.map fun i=>dk (iW n i.pr))=B at *;have t0:∀(k:Nat) (xs:List D),(aP M A B)[k]?=some (.lst xs)→aF [.mr k] (aP M A B)=.ok (.tup xs) (aP M A B):=fun k xs h=>by
  show(match (match (aP M A B)[k]? with|some (.lst xs)=>some xs|_=>none) with|some xs=>aN.ok (D.tup xs) (aP M A B)|none=>.bad)=_;rw[h]
 have f1:g2 aB (ae 0) (gC (.int 1)) [some (ax fr fl s bk ps is),some (.int n),some (.mr M.length),some (.mr (M.length+1)),x4,x5] (aP M A B)=.ok (.tup [fl,s,bk,.tup (is.map aO.m),ps]) (aP M A B):=al (f:=aB) (a:=ae 0) (b:=gC (.int 1)) (x:=ax fr fl s bk ps is) (y:=.int 1) rfl rfl (bj (k:=1) rfl);have s3:gS (g2 aB (ae 0) (gC (.int 1))) aV (bX (gC (.int 3))) [some (ax fr fl s bk ps is),some (.int n),some (.mr M.length),some (.mr (M.length+1)),x4,x5] (aP M A B)=.ok (.tup [fl,s,bk]) (aP M A B):=by
  unfold gS;rw[f1,ai];rfl
 have kr:bc (aL (aa (g2 aB (ae 0) (gC (.int 0))) (aa (g2 aJ (gS (g2 aB (ae 0) (gC (.int 1))) aV (bX (gC (.int 3)))) (aL (aa (aH aF (aa (ae 2) ag)) (aa (g2 aB (g2 aB (ae 0) (gC (.int 1))) (gC (.int 4))) ag)))) (aa (aH aF (aa (ae 3) ag)) ag)))) [some (ax fr fl s bk ps is),some (.int n),some (.mr M.length),some (.mr (M.length+1)),x4,x5] (aP M A B)=.ok (.rt (.tup [fr,.tup [fl,s,bk,.tup A,ps],.tup B])) (aP M A B):=
  ck (bp (ds:=[fr,.tup [fl,s,bk,.tup A,ps],.tup B]) (ao (al (f:=aB) (a:=ae 0) (b:=gC (.int 0)) (x:=ax fr fl s bk ps is) (y:=.int 0) rfl rfl (bj (k:=0) rfl)) (ao (al (f:=aJ) (x:=.tup [fl,s,bk]) (y:=.tup [.tup A,ps]) s3 (bp (ds:=[.tup A,ps]) (ao (fg (F:=aF) (a:=ae 2) (x:=.mr M.length) rfl (t0 _ _ ka)) (ao (al (f:=aB) f1 (b:=gC (.int 4)) (y:=.int 4) rfl (bj (k:=4) rfl)) rfl))) (nQ (a:=[fl,s,bk]) (b:=[.tup A,ps]) (show 3+2≤1000 by decide))) (ao (fg (F:=aF) (a:=ae 3) (x:=.mr (M.length+1)) rfl (t0 _ _ lU)) rfl))))
 have e:D.tup [fr,.tup [fl,s,bk,.tup A,ps],.tup B]=ax fr fl s bk ps (is.map (aO.go n)):=by
  have e1:(is.map (aO.go n)).map aO.m=A:=by rw[map_map,←hA];rfl
  have e2:(is.map (aO.go n)).map (fun i=>dk i.pr)=B:=by
   rw[map_map,←hB];exact map_congr_left fun i _=>by show dk (aO.go n i).pr=_;rw[mG]
  unfold ax;rw[e1,e2]
 rw[aq k2,aq k3,aq (fq kl ef),kr,e];unfold aP;rw[append_assoc];exact hR (f.go n).pure hM
theorem pH {a b c f:Int}(h0:0≤f)(h1:f<3):∃v,(v=a∨v=b∨v=c)∧∀M,aB (.lst [.int a,.int b,.int c]) (.int f) M=.ok (.int v) M:=by
 have:f=0∨f=1∨f=2:=by omega
 rcases this with rfl|rfl|rfl
 ·exact⟨a,.inl rfl,fun M=>fi (k:=0) rfl⟩
 ·exact⟨b,.inr (.inl rfl),fun M=>fi (k:=1) rfl⟩
 ·exact⟨c,.inr (.inr rfl),fun M=>fi (k:=2) rfl⟩
theorem jN {a b:D}{f:Int}(h0:0≤f)(h1:f<2):∃v,(v=a∨v=b)∧∀M,aB (.lst [a,b]) (.int f) M=.ok v M:=by
 have:f=0∨f=1:=by omega
 rcases this with rfl|rfl
 ·exact⟨a,.inl rfl,fun M=>fi (k:=0) rfl⟩
 ·exact⟨b,.inr rfl,fun M=>fi (k:=1) rfl⟩
theorem nu {l:List Int}{rest N:am}{ρ:bG}{i:Nat}{many:Int}(t:ba l rest N)(hi:ρ[i]?=some (some (.mr 0)))(h0:0<many)(h1:many.natAbs.log2<9000):∃f N1,0≤f∧f<many∧ba l rest N1∧∀g:GE,g ρ N=.ok (.int many) N→aj 2 ah (aa (ae i) (aa g ag)) ρ N=.ok (.int f) N1:=by
 obtain⟨f,N1,a,b,t1,e⟩:=aR h0 h1 t;exact⟨f,N1,a,b,t1,fun g hg=>bf (a:=ae i) (by unfold ae;rw[hi]) hg e⟩
theorem pU {l:List Int}{rest M:am}{x:Int}(t:ba l rest M):∃p M',fx p∧p.at_=x∧ba l rest M'∧cC [.mr 0,.int x] M=.ok p.d M':=by
 obtain⟨f1,N1,a1,b1,t1,e1⟩:=nu (ρ:=[some (.mr 0),some (.int x),none,none,none]) (i:=0) (many:=13) t rfl (by decide) (ap (by decide) (by decide));obtain⟨f2,N2,a2,b2,t2,e2⟩:=nu (ρ:=[some (.mr 0),some (.int x),none,none,none]) (i:=0) (many:=4) t1 rfl (by decide) (ap (by decide) (by decide));obtain⟨f3,N3,a3,b3,t3,e3⟩:=nu (ρ:=[some (.mr 0),some (.int x),none,none,none]) (i:=0) (many:=3) t2 rfl (by decide) (ap (by decide) (by decide));obtain⟨sp,hs,es⟩:=pH (a:=f1) (b:=12) (c:=f2) a3 b3;have s0:0≤sp∧sp≤12:=by rcases hs with h|h|h <;> omega
 obtain⟨f4,N4,a4,b4,t4,e4⟩:=nu (ρ:=[some (.mr 0),some (.int x),some (.int sp),none,none]) (i:=0) (many:=sp+1) t3 rfl (by omega) (ap (by omega) (by omega));obtain⟨f5,N5,a5,b5,t5,e5⟩:=nu (ρ:=[some (.mr 0),some (.int x),some (.int sp),some (.int (x-f4)),none]) (i:=0) (many:=25) t4 rfl (by decide) (ap (by decide) (by decide));obtain⟨f6,N6,a6,b6,t6,e6⟩:=nu (ρ:=[some (.mr 0),some (.int x),some (.int sp),some (.int (x-f4)),none]) (i:=0) (many:=5) t5 rfl (by decide) (ap (by decide) (by decide));obtain⟨f7,N7,a7,b7,t7,e7⟩:=nu (ρ:=[some (.mr 0),some (.int x),some (.int sp),some (.int (x-f4)),none]) (i:=0) (many:=2) t6 rfl (by decide) (ap (by decide) (by decide));obtain⟨v,hv,ev⟩:=jN (a:=.int (f5-12)) (b:=.int (f6-2)) a7 b7;obtain⟨st,hst⟩:∃st:Int,v=.int st:=by rcases hv with h|h <;> exact⟨_,h⟩
 subst hst;refine⟨⟨x-f4,x-f4+sp,x,st⟩,N7,⟨by show x-f4≤x;omega,by show x≤x-f4+sp;omega,by show x-f4+sp≤x-f4+12;omega⟩,rfl,t7,?_⟩;show aQ (dO [some (.mr 0),some (.int x),none,none,none] M)=_;unfold dO;refine(congrArg aQ ((aq (aA (al (f:=aB) (fo (ds:=[.int f1,.int 12,.int f2]) (ao (e1 _ rfl) (ao rfl (ao (e2 _ rfl) rfl)))) (e3 _ rfl) (es N3)))).trans ((aq (aA (al (f:=cj) (a:=ae 1) (x:=.int x) rfl (e4 _ rfl) rfl))).trans ((aq (aA (al (f:=aB) (fo (ds:=[.int (f5-12),.int (f6-2)]) (ao (al (f:=cj) (e5 _ rfl) (b:=gC (.int 12)) (y:=.int 12) rfl rfl) (ao (al (f:=cj) (e6 _ rfl) (b:=gC (.int 2)) (y:=.int 2) rfl rfl) rfl))) (e7 _ rfl) (ev N7)))).trans (ck (bp (ds:=[.int (x-f4),.int (x-f4+sp),.int x,.int st]) rfl)))))).trans rfl
section
variable {l:List Int}{rest N:am}{P A C:List D}
theorem yR (t:ba l (rest++[.lst P]++[.lst A]) N):N[rest.length+1]?=some (.lst P):=by
 obtain⟨i,c,_,rfl⟩:=t;simp
theorem yZ (t:ba l (rest++[.lst P]++[.lst A]) N):N[rest.length+2]?=some (.lst A):=by
 obtain⟨i,c,_,rfl⟩:=t;simp
theorem zL (t:ba l (rest++[.lst P]++[.lst A]) N):ba l (rest++[.lst C]++[.lst A]) (N.set (rest.length+1) (.lst C)):=by
 obtain⟨i,c,h,rfl⟩:=t;exact⟨i,c,h,by simp⟩
theorem yp (t:ba l (rest++[.lst P]++[.lst A]) N):ba l (rest++[.lst P]++[.lst C]) (N.set (rest.length+2) (.lst C)):=by
 obtain⟨i,c,h,rfl⟩:=t;exact⟨i,c,h,by simp⟩
end
noncomputable def mx (x:Int):Int:=if(if x<880 then x else 880)>-880 then(if x<880 then x else 880) else -880
structure zQ (i:aO):Prop where
 ok:kn i
 at0:i.go 0=i
 sh:ar 36 i.sh=true
 rk:ar 36 i.rk=true
 tn:ar 36 i.tn=true
theorem n1 {l:List Int}{rest N:am}{P A:List D}{x2 x3:Option D}{sh:D}{x y rk tn:Int}(hp:av 26 sh=true)(hc:ar 36 sh=true)(lp:P.length<1000)(la:A.length<1000)(t:ba l (rest++[.lst P]++[.lst A]) N) :
  ∃it N' y7 y8,zQ it∧ba l (rest++[.lst (P++[dk it.pr])]++[.lst (A++[it.m])]) N'∧bE [some (.mr 0),some (.int 12),x2,x3,some (.mr (rest.length+1)),some (.mr (rest.length+2)),some sh,some (.int x),some (.int y),some (.int rk),some (.int tn)] N=.ok (.nx [some (.mr 0),some (.int 12),x2,x3,some (.mr (rest.length+1)),some (.mr (rest.length+2)),some sh,y7,y8,some (.int rk),some (.int tn)]) N':=by
 have t1:=yp (C:=A++[.tup [sh,.int (mx x),.int (mx y),.int rk,.int tn]]) t;obtain⟨a,N2,oa,ea,u2,w2⟩:=pU (x:=mx x) t1;obtain⟨b,N3,ob,eb,u3,w3⟩:=pU (x:=mx y) u2;obtain⟨f,N4,a4,b4,u4,w4⟩:=nu (ρ:=[some (.mr 0),some (.int 12),x2,x3,some (.mr (rest.length+1)),some (.mr (rest.length+2)),some sh,some (.int (mx x)),some (.int (mx y)),some (.int rk),some (.int tn)]) (i:=0) (many:=4) u3 rfl (by decide) (ap (by decide) (by decide));obtain⟨v,hv,ev⟩:=jN (a:=.tup [a.d,b.d]) (b:=.non) (f:=f / 3) (by omega) (by omega);have ap1:=gY (l9 (go:=ae 5) (ge:=aL (aa (ae 6) (aa (ae 7) (aa (ae 8) (aa (ae 9) (aa (ae 10) ag)))))) (ρ:=[some (.mr 0),some (.int 12),x2,x3,some (.mr (rest.length+1)),some (.mr (rest.length+2)),some sh,some (.int (mx x)),some (.int (mx y)),some (.int rk),some (.int tn)]) rfl (yZ t) (bp (ds:=[sh,.int (mx x),.int (mx y),.int rk,.int tn]) rfl) (yZ t) (by omega));have ap2:=gY (l9 (go:=ae 4) (ge:=g2 aB (dg (aa (aL (aa (aj 2 cC (aa (ae 0) (aa (ae 7) ag))) (aa (aj 2 cC (aa (ae 0) (aa (ae 8) ag))) ag))) (aa (gC .non) ag))) (g2 bW (aj 2 ah (aa (ae 0) (aa (gC (.int 4)) ag))) (gC (.int 3)))) (ρ:=[some (.mr 0),some (.int 12),x2,x3,some (.mr (rest.length+1)),some (.mr (rest.length+2)),some sh,some (.int (mx x)),some (.int (mx y)),some (.int rk),some (.int tn)]) (d:=v) rfl (yR t1) (al (f:=aB) (fo (ds:=[.tup [a.d,b.d],.non]) (ao (bp (ds:=[a.d,b.d]) (ao (bf (a:=ae 0) (b:=ae 7) rfl rfl w2) (ao (bf (a:=ae 0) (b:=ae 8) rfl rfl w3) rfl))) (ao (d:=.non) rfl rfl))) (al (f:=bW) (w4 _ rfl) (b:=gC (.int 3)) (y:=.int 3) rfl (jY (by decide) (by decide) N4)) (ev N4)) (yR u4) (by omega));have u5:=zL (C:=P++[v]) u4;have run:bE [some (.mr 0),some (.int 12),x2,x3,some (.mr (rest.length+1)),some (.mr (rest.length+2)),some sh,some (.int x),some (.int y),some (.int rk),some (.int tn)] N=_:=(aq (aA (d:=.int (mx x)) rfl)).trans ((aq (aA (d:=.int (mx y)) rfl)).trans ((aq ap1).trans ap2));rcases hv with hv|hv
 ·subst hv;refine⟨⟨sh,mx x,mx y,.int rk,.int tn,some (a,b)⟩,_,_,_,⟨⟨fun c d q=>by cases q;exact⟨oa,ob⟩,hp,rfl,rfl⟩,?_,hc,rfl,rfl⟩,u5,run⟩;show aO.mk sh (az 0 a).at_ (az 0 b).at_ (.int rk) (.int tn) (some (az 0 a,az 0 b))=_;rw[show az 0 a=a from rfl,show az 0 b=b from rfl,ea,eb]
 ·subst hv;exact⟨⟨sh,mx x,mx y,.int rk,.int tn,none⟩,_,_,_,⟨⟨(fun c d q=>by cases q),hp,rfl,rfl⟩,rfl,hc,rfl,rfl⟩,u5,run⟩
mutual
theorem kB:∀(d:D) (n:Nat),ar n d=true→gm d d=true
 | .non,n,h=>rfl
 | .bl a,n,h=>beq_self_eq_true a
 | .int a,n,h=>beq_self_eq_true a
 | .str a,n,h=>beq_self_eq_true a
 | .tup xs,n,h=>by
  cases n with
  | zero=>exact ff h
  | succ n=>exact eS xs n h
 | .lst xs,n,h=>by
  cases n with
  | zero=>exact ff h
  | succ n=>exact eS xs n h
 | .ro xs,n,h=>by
  cases n with
  | zero=>exact ff h
  | succ n=>exact eS xs n h
 | .mr a,n,h=>by cases n <;> exact ff h
 | .exc a,n,h=>by cases n <;> exact ff h
 | .any,n,h=>by cases n <;> exact ff h
theorem eS:∀(ds:List D) (n:Nat),aU n ds=true→dP ds ds=true
 | [],n,h=>rfl
 | d::ds,n,h=>
  have h:=Bool.and_eq_true_iff.mp (show(ar n d&&aU n ds)=true from h)
  Bool.and_eq_true_iff.mpr ⟨kB d n h.1,eS ds n h.2⟩
end
theorem c0 {n:Nat}:∀{ds:List D},(∀d∈ds,ar n d=true)→aU n ds=true
 | [],_=>rfl
 | d::ds,h=>Bool.and_eq_true_iff.mpr ⟨h d mem_cons_self,c0 fun e he=>h e (mem_cons_of_mem _ he)⟩
structure FN (fr fl s bk ps:D)(is:List aO):Prop where
 ok:uD fr fl s bk ps is
 it:∀i∈is,zQ i
 fr:ar 39 fr=true
 fl:ar 38 fl=true
 s:ar 38 s=true
 bk:ar 38 bk=true
 ps:ar 38 ps=true
theorem jo (rs:List (List Int))(n:Nat):av (n+3) (bg rs)=true:=all_eq_true.mpr fun x hx=>by
 obtain⟨r,_,rfl⟩:=mem_map.mp hx;exact gw n r
theorem lC (rs:List (List Int))(n:Nat):ar (n+2) (bg rs)=true:=c0 (n:=n+1) fun x hx=>by
 obtain⟨r,_,rfl⟩:=mem_map.mp hx;exact eB n r
theorem mK (l:List Int)(i c:Int):cT [tp l i c]:=by
 refine cT.pure ?_;show((D.lst (l.map D.int)::[D.int i,D.int c]).all (av 30)&&true)=true;have:=gw 28 l;simp[av,this]
theorem lX {l:List Int}{x2 x3:Option D}(ms:List Mv)(hms:ms.length≤900){N:am}(t:ba l ([]++[.lst []]++[.lst []]) N):∃(is:List aO) (N':am) (y:Nat→Option D),is.length=ms.length∧(∀i∈is,zQ i)∧ba l ([]++[.lst (is.map fun i=>dk i.pr)]++[.lst (is.map aO.m)]) N'∧
  bY ⟨ms.map Mv.d,none⟩ (cB [6,7,8,9,10]) bE (ms.map Mv.d) [some (.mr 0),some (.int 12),x2,x3,some (.mr 1),some (.mr 2),none,none,none,none,none] N=.ok (.nx [some (.mr 0),some (.int 12),x2,x3,some (.mr 1),some (.mr 2),y 6,y 7,y 8,y 9,y 10]) N':=by
 obtain⟨ρ',N',⟨is,y,rfl,hl,hi,t'⟩,ef⟩:=iH (ds0:=ms.map Mv.d) (s:=cB [6,7,8,9,10]) (body:=bE) (W:=fun j ρ N=>∃(is:List aO) (y:Nat→Option D),ρ=[some (.mr 0),some (.int 12),x2,x3,some (.mr 1),some (.mr 2),y 6,y 7,y 8,y 9,y 10]∧is.length=j∧(∀i∈is,zQ i)∧ba l ([]++[.lst (is.map fun i=>dk i.pr)]++[.lst (is.map aO.m)]) N) (ms.map Mv.d) 0 (fun j d hd ρ N hW=>by
  obtain⟨is,y,rfl,hl,hi,t⟩:=hW;have hj:=(List.getElem?_eq_some_iff.mp hd).1;rw[length_map] at hj;rw[getElem?_map] at hd;obtain⟨m,hm,rfl⟩:=Option.map_eq_some_iff.mp hd;obtain⟨it,N',y7,y8,k,t',e⟩:=n1 (rest:=[]) (x2:=x2) (x3:=x3) (sh:=match m.shape with|some k=>.int k|none=>.non) (x:=m.x) (y:=m.y) (rk:=m.rank) (tn:=m.turn) (by cases m.shape <;> rfl) (by cases m.shape <;> rfl) (by rw[length_map];omega) (by rw[length_map];omega) t;refine⟨_,_,N',rfl,e,is++[it],fun z=>[some (match m.shape with|some k=>D.int k|none=>.non),y7,y8,some (.int m.rank),some (.int m.turn)][z-6]?.getD none,rfl,?_,?_,?_⟩
  ·rw[length_append,hl];rfl
  ·intro i h;rcases mem_append.mp h with q|q
   ·exact hi i q
   ·rw[mem_singleton.mp q];exact k
  ·rw[map_append,map_append];exact t') [some (.mr 0),some (.int 12),x2,x3,some (.mr 1),some (.mr 2),none,none,none,none,none] N ⟨[],fun _=>none,rfl,rfl,(fun i h=>by cases h),t⟩
 rw[Nat.zero_add,length_map] at hl;exact⟨is,N',y,hl,hi,t',ef⟩
theorem tx {l:List Int}{M:am}(t:ba l [] M):∃fr fl s bk ps is M',FN fr fl s bk ps is∧ba l [] M'∧eJ [.mr 0,.int 12] M=.ok (ax fr fl s bk ps is) M':=by
 obtain⟨w,hh,g,m,M1,kw,kh,kg,km,t1,e1⟩:=pz (most:=12) (by decide) (by decide) t;obtain⟨f,M2,a2,b2,t2,e2⟩:=nu (ρ:=[some (.mr 0),some (.int 12),some (.tup [.int w,.int hh,.int g,.int m]),none,none,none,none,none,none,none,none]) (i:=0) (many:=4) t1 rfl (by decide) (ap (by decide) (by decide));obtain⟨v,hv,ev⟩:=jN (a:=.int 4) (b:=.int 12) (f:=f / 3) (by omega) (by omega);obtain⟨mm,hmm,h4⟩:∃mm:Int,v=.int mm∧0≤mm∧mm≤12:=by rcases hv with h|h <;> exact⟨_,h,by decide,by decide⟩
 subst hmm;obtain⟨st,M3,ok,t3,e3⟩:=o6 (w:=w) (hh:=hh) (more:=[.int g,.int m]) (mm:=mm) ⟨by omega,by omega⟩ ⟨by omega,by omega⟩ ⟨h4.1,by omega⟩ t2;have ml:=ok.ml;have t5:ba l ([]++[.lst []]++[.lst []]) (M3++[.lst []]++[.lst []]):=by
  obtain⟨i,c,h,rfl⟩:=t3;exact⟨i,c,h,rfl⟩
 obtain⟨is,N,y,il,ii,t6,ef⟩:=lX (x2:=some (.tup [.int w,.int hh,.int g,.int m])) (x3:=some st.d) st.movers (by omega) t5;obtain⟨i,c,hi,rfl⟩:=t6;have l3:M3.length=1:=by obtain⟨i,c,h,rfl⟩:=t3;rfl
 have lM:M.length=1:=by obtain⟨i,c,h,rfl⟩:=t;rfl
 have fn:FN (.tup [.int w,.int hh,.int g,.int m]) (bg st.floor) (.tup [.int st.sx,.int st.sy]) (.tup (st.book.map bg)) (.tup (st.pots.map D.int)) is:=by
  refine⟨⟨rfl,jo st.floor 25,rfl,?_,gw 26 st.pots,fun i h=>(ii i h).ok,by omega⟩,ii,rfl,lC st.floor 36,rfl,?_,eB 37 st.pots⟩
  ·exact all_eq_true.mpr fun x hx=>by
    obtain⟨r,_,rfl⟩:=mem_map.mp hx;exact jo r 24
  ·exact c0 (n:=37) fun x hx=>by
    obtain⟨r,_,rfl⟩:=mem_map.mp hx;exact lC r 35
 refine⟨_,_,_,_,_,is,[tp l i c],fn,⟨i,c,hi,rfl⟩,?_⟩;show fV M.length (aQ (cM [some (.mr 0),some (.int 12),none,none,none,none,none,none,none,none,none] M))=_;unfold cM;have k4:aC 4 (dR ag) [some (.mr 0),some (.int 12),some (.tup [.int w,.int hh,.int g,.int m]),some st.d,none,none,none,none,none,none,none] M3=.ok (.nx [some (.mr 0),some (.int 12),some (.tup [.int w,.int hh,.int g,.int m]),some st.d,some (.mr 1),none,none,none,none,none,none]) (M3++[.lst []]):=by
  rw[←l3];exact aA jS
 have k5:aC 5 (dR ag) [some (.mr 0),some (.int 12),some (.tup [.int w,.int hh,.int g,.int m]),some st.d,some (.mr 1),none,none,none,none,none,none] (M3++[.lst []])=.ok (.nx [some (.mr 0),some (.int 12),some (.tup [.int w,.int hh,.int g,.int m]),some st.d,some (.mr 1),some (.mr 2),none,none,none,none,none]) (M3++[.lst []]++[.lst []]):=by
  rw[show(2:Nat)=(M3++[MO.lst []]).length by rw[length_append,l3];rfl];exact aA jS
 have kf:gT (eY (g2 aB (ae 3) (gC (.int 3)))) (cB [6,7,8,9,10]) bE [some (.mr 0),some (.int 12),some (.tup [.int w,.int hh,.int g,.int m]),some st.d,some (.mr 1),some (.mr 2),none,none,none,none,none] (M3++[.lst []]++[.lst []])=_:=fq (t:=⟨st.movers.map Mv.d,none⟩) (by
  unfold eY;rw[al (f:=aB) (a:=ae 3) (b:=gC (.int 3)) (x:=st.d) (y:=.int 3) (o:=.ok (.tup (st.movers.map Mv.d)) (M3++[.lst []]++[.lst []])) rfl rfl (bj (k:=3) rfl),ai];rfl) ef
 generalize hP:(is.map fun i=>dk i.pr)=P at *;generalize hA:is.map aO.m=A at *;have s3:gS (ae 3) aV (bX (gC (.int 3))) [some (.mr 0),some (.int 12),some (.tup [.int w,.int hh,.int g,.int m]),some st.d,some (.mr 1),some (.mr 2),y 6,y 7,y 8,y 9,y 10] (tp l i c::([]++[.lst P]++[.lst A]))=.ok (.tup [bg st.floor,.tup [.int st.sx,.int st.sy],.tup (st.book.map bg)]) (tp l i c::([]++[.lst P]++[.lst A])):=rfl;have kr:bc (aL (aa (ae 2) (aa (g2 aJ (gS (ae 3) aV (bX (gC (.int 3)))) (aL (aa (aH aF (aa (ae 5) ag)) (aa (g2 aB (ae 3) (gC (.int 4))) ag)))) (aa (aH aF (aa (ae 4) ag)) ag)))) [some (.mr 0),some (.int 12),some (.tup [.int w,.int hh,.int g,.int m]),some st.d,some (.mr 1),some (.mr 2),y 6,y 7,y 8,y 9,y 10] (tp l i c::([]++[.lst P]++[.lst A]))=.ok (.rt (.tup [.tup [.int w,.int hh,.int g,.int m],.tup [bg st.floor,.tup [.int st.sx,.int st.sy],.tup (st.book.map bg),.tup A,.tup (st.pots.map D.int)],.tup P])) (tp l i c::([]++[.lst P]++[.lst A])):=ck (bp (ds:=[.tup [.int w,.int hh,.int g,.int m],.tup [bg st.floor,.tup [.int st.sx,.int st.sy],.tup (st.book.map bg),.tup A,.tup (st.pots.map D.int)],.tup P]) (ao rfl (ao (al (f:=aJ) (x:=.tup [bg st.floor,.tup [.int st.sx,.int st.sy],.tup (st.book.map bg)]) (y:=.tup [.tup A,.tup (st.pots.map D.int)]) s3 (bp (ds:=[.tup A,.tup (st.pots.map D.int)]) (ao rfl (ao (al (f:=aB) (a:=ae 3) (b:=gC (.int 4)) (x:=st.d) (y:=.int 4) rfl rfl (bj (k:=4) rfl)) rfl))) (nQ (a:=[bg st.floor,.tup [.int st.sx,.int st.sy],.tup (st.book.map bg)]) (b:=[.tup A,.tup (st.pots.map D.int)]) (show 3+2≤1000 by decide))) (ao rfl rfl))));refine(congrArg (fun o=>fV M.length (aQ o)) ((aq (aA (bf (a:=ae 0) (b:=ae 1) rfl rfl e1))).trans ((aq (aA (yE (a:=ae 0) (b:=ae 2) rfl rfl (al (f:=aB) (fo (ds:=[.int 4,.int 12]) rfl) (al (f:=bW) (e2 _ rfl) (b:=gC (.int 3)) (y:=.int 3) rfl (jY (by decide) (by decide) M2)) (ev M2)) e3))).trans ((aq k4).trans ((aq k5).trans ((aq kf).trans kr)))))).trans ?_;have pf:=fn.ok.pure;unfold ax at pf ⊢;rw[hP,hA] at pf ⊢;rw[lM];exact hR (M:=[tp l i c]) (E:=[.lst P,.lst A]) pf (mK l i c)
theorem xW (n:Nat)(i:aO):(i.go n).sh=i.sh∧(i.go n).rk=i.rk∧(i.go n).tn=i.tn:=by
 unfold aO.go;cases i.pr with
 | none=>exact⟨rfl,rfl,rfl⟩
 | some ab=>exact⟨rfl,rfl,rfl⟩
theorem zx (m n:Nat)(i:aO):(i.go m).go n=i.go (n+m):=by
 have e:=mG m i;cases h:i.pr with
 | none=>
  have e1:∀k,i.go k=i:=fun k=>by unfold aO.go;rw[h]
  rw[e1,e1,e1]
 | some ab=>
  obtain⟨a,b⟩:=ab;have e1:∀k,i.go k=⟨i.sh,(az k a).at_,(az k b).at_,i.rk,i.tn,some (az k a,az k b)⟩:=fun k=>by unfold aO.go;rw[h]
  rw[e1 m,e1 (n+m)];show aO.mk i.sh (az n (az m a)).at_ (az n (az m b)).at_ i.rk i.tn (some (az n (az m a),az n (az m b)))=_;rw[←hU,←hU]
theorem A6 (is:List aO)(m n:Nat):(is.map (aO.go m)).map (aO.go n)=is.map (aO.go (n+m)):=by
 rw[map_map];exact map_congr_left fun i _=>zx m n i
theorem kZ {fr fl s bk ps:D}{is:List aO}(f:FN fr fl s bk ps is)(n:Nat):ar 40 (ax fr fl s bk ps (is.map (aO.go n)))=true:=by
 have c1:aU 37 ((is.map (aO.go n)).map aO.m)=true:=c0 fun x hx=>by
  obtain⟨j,hj,rfl⟩:=mem_map.mp hx;obtain⟨i,hi,rfl⟩:=mem_map.mp hj;have k:=f.it i hi;obtain⟨g1,g2,g3⟩:=xW n i;show(ar 36 (i.go n).sh&&(true&&(true&&(ar 36 (i.go n).rk&&(ar 36 (i.go n).tn&&true)))))=true;rw[g1,g2,g3,k.sh,k.rk,k.tn];rfl
 have c2:aU 38 ((is.map (aO.go n)).map fun i=>dk i.pr)=true:=c0 fun x hx=>by
  obtain⟨j,hj,rfl⟩:=mem_map.mp hx;cases j.pr with
  | none=>rfl
  | some ab=>rfl
 show(ar 39 fr&&((ar 38 fl&&(ar 38 s&&(ar 38 bk&&(aU 37 ((is.map (aO.go n)).map aO.m)&&(ar 38 ps&&true)))))&&(aU 38 ((is.map (aO.go n)).map fun i=>dk i.pr)&&true)))=true;rw[f.fr,f.fl,f.s,f.bk,f.ps,c1,c2];rfl
theorem kd {fr fl s bk ps:D}{is:List aO}(f:FN fr fl s bk ps is)(n:Nat)(M:am):gW true (ax fr fl s bk ps (is.map (aO.go n))) (ax fr fl s bk ps (is.map (aO.go n))) M=.ok (.bl false) M:=tR (kZ f n) (kB _ _ (kZ f n)) (fun _=>rfl) M
theorem Ay {fr fl s bk ps:D}{is:List aO}(f:FN fr fl s bk ps is):is.map (aO.go 0)=is:=(map_congr_left fun i hi=>(f.it i hi).at0).trans (map_id _)
theorem sQ {fr fl s bk ps:D}{is:List aO}{M:am}(f:FN fr fl s bk ps is)(hM:cT M)(m n:Nat):cA [ax fr fl s bk ps (is.map (aO.go m)),.int n] M=.ok (ax fr fl s bk ps (is.map (aO.go (n+m)))) M:=by
 have k:=f.ok.go m;rw[oC (fun i hi=>(k.i i hi).pr) k.l hM,A6]
theorem uJ {fr fl s bk ps:D}{is:List aO}{M:am}(f:FN fr fl s bk ps is)(hM:cT M)(m n:Nat):bK [ax fr fl s bk ps (is.map (aO.go m)),.int n] M=.ok (ax fr fl s bk ps (is.map (aO.go (n+m)))) M:=by
 rw[l0 (f.ok.go m) hM,A6]
theorem jr {l:List Int}{M:am}(t:ba l [] M):cT M:=by
 obtain⟨i,c,_,rfl⟩:=t;exact mK l i c
theorem yu {ρ:bG}{M:am}:g2 fm (gC (.int 10)) (gC (.int 59)) ρ M=.ok (.int (10 ^ 59)) M:=by
 refine al (f:=fm) (a:=gC (.int 10)) (b:=gC (.int 59)) (x:=.int 10) (y:=.int 59) rfl rfl ?_;show(if 0≤(59:Int)∧(59:Int)≤1000000∧(10:Int).natAbs<2 ^ 64 then aN.ok (D.int (10 ^ (59:Int).toNat)) M else .bad)=_;rw[if_pos ⟨by decide,by decide,by decide⟩];rfl
theorem m5 {l:List Int}{N:am}{ρ:bG}(t:ba l [] N)(h1:ρ[1]?=some (some (.mr 0))):∃(a:Nat) (N':am),ba l [] N'∧g2 aB (dg (aa (aj 2 ah (aa (ae 1) (aa (g2 fm (gC (.int 10)) (gC (.int 59))) ag))) (aa (aj 2 ah (aa (ae 1) (aa (gC (.int 400)) ag))) ag))) (aj 2 ah (aa (ae 1) (aa (gC (.int 2)) ag))) ρ N=.ok (.int a) N':=by
 obtain⟨f1,N1,a1,b1,t1,e1⟩:=nu (many:=10 ^ 59) t h1 (by decide) (by decide +kernel);obtain⟨f2,N2,a2,b2,t2,e2⟩:=nu (many:=400) t1 h1 (by decide) (ap (by decide) (by decide));obtain⟨f3,N3,a3,b3,t3,e3⟩:=nu (many:=2) t2 h1 (by decide) (ap (by decide) (by decide));obtain⟨v,hv,ev⟩:=jN (a:=.int f1) (b:=.int f2) a3 b3;obtain⟨a,ha⟩:∃a:Nat,v=.int a:=by
  rcases hv with h|h
  ·obtain⟨n,rfl⟩:=Int.eq_ofNat_of_zero_le a1;exact⟨n,h⟩
  ·obtain⟨n,rfl⟩:=Int.eq_ofNat_of_zero_le a2;exact⟨n,h⟩
 rw[ha] at ev;exact⟨a,N3,t3,al (f:=aB) (fo (ds:=[.int f1,.int f2]) (ao (e1 _ yu) (ao (e2 _ rfl) rfl))) (e3 _ rfl) (ev N3)⟩
section
variable {fr fl s bk ps:D}{is:List aO}{x0:Option D}
theorem xJ {M:am}{j:Nat}{x5 x6 x7 x8:Option D}(f:FN fr fl s bk ps is)(hM:cT M):h9 [x0,some (.mr 0),some (ax fr fl s bk ps is),some (ax fr fl s bk ps (is.map (aO.go j))),some (.int j),x5,x6,x7,x8] M=.ok (.nx [x0,some (.mr 0),some (ax fr fl s bk ps is),some (ax fr fl s bk ps (is.map (aO.go (j+1)))),some (.int j),x5,x6,x7,x8]) M:=by
 have a:=sQ f hM 0 j;rw[Ay f,Nat.add_zero] at a;have b:=uJ f hM j 1;rw[Nat.add_comm 1 j] at b;unfold h9;exact(aq ((fB (bM (al (f:=gW true) (b:=ae 3) (bf (a:=ae 2) (b:=ae 4) rfl rfl a) rfl (kd f j M)))).trans rfl)).trans (aA (bf (a:=ae 3) (b:=gC (.int 1)) rfl rfl b))
theorem zy {l:List Int}{N:am}{x3 x4 x5 x6 x7 x8:Option D}(f:FN fr fl s bk ps is)(t:ba l [] N):∃N' y6 y7 y8,ba l [] N'∧iR [x0,some (.mr 0),some (ax fr fl s bk ps is),x3,x4,x5,x6,x7,x8] N=.ok (.nx [x0,some (.mr 0),some (ax fr fl s bk ps is),x3,x4,x5,y6,y7,y8]) N':=by
 obtain⟨a,N1,t1,e1⟩:=m5 (ρ:=[x0,some (.mr 0),some (ax fr fl s bk ps is),x3,x4,x5,x6,x7,x8]) t rfl;obtain⟨b,N2,t2,e2⟩:=m5 (ρ:=[x0,some (.mr 0),some (ax fr fl s bk ps is),x3,x4,x5,some (.int a),x7,x8]) t1 rfl;have hM:=jr t2;have c1:=sQ f hM 0 a;have c2:=uJ f hM 0 a;have c3:=sQ f hM a b;have c4:=sQ f hM 0 (a+b);rw[Ay f,Nat.add_zero] at c1 c2 c4;rw[Nat.add_comm b a] at c3;refine⟨N2,some (.int a),some (.int b),some (ax fr fl s bk ps (is.map (aO.go a))),t2,?_⟩;unfold iR;refine(aq (aA e1)).trans ((aq (aA e2)).trans ((aq (aA (bf (a:=ae 2) (b:=ae 6) rfl rfl c1))).trans ((fB (qh (x:=false) (y:=false) (bM (al (f:=gW true) (a:=ae 8) rfl (bf (a:=ae 2) (b:=ae 6) rfl rfl c2) (kd f a N2))) fun _=>bM (al (f:=gW true) (bf (a:=ae 8) (b:=ae 7) rfl rfl c3) (bf (a:=ae 2) (b:=g2 aJ (ae 6) (ae 7)) (y:=.int ((a+b:Nat):Int)) rfl rfl c4) (kd f (a+b) N2)))).trans rfl)))
end
theorem law_true (ns:List Int)(hl:ns.length≤63):∃M',mO [.ro (ns.map D.int)] []=.ok (.bl true) M':=by
 have t0:ba ns [] [tp ns 0 0]:=⟨0,0,by decide,rfl⟩;obtain⟨fr,fl,s,bk,ps,is,M1,f,t1,e1⟩:=tx t0;obtain⟨r,M2,a2,b2,t2,e2⟩:=nu (ρ:=[some (.ro (ns.map D.int)),some (.mr 0),some (ax fr fl s bk ps is),some (ax fr fl s bk ps is),none,none,none,none,none]) (i:=1) (many:=31) t1 rfl (by decide) (ap (by decide) (by decide));obtain⟨r,rfl⟩:=Int.eq_ofNat_of_zero_le a2;have hM:=jr t2;obtain⟨ρ1,N1,⟨x3,x4,rfl,eN,_⟩,ef1⟩:=iH (ds0:=aD 0 (r+1)) (s:=df 4) (body:=h9) (W:=fun j ρ N=>∃x3 x4,ρ=[some (.ro (ns.map D.int)),some (.mr 0),some (ax fr fl s bk ps is),x3,x4,none,none,none,none]∧N=M2∧x3=some (ax fr fl s bk ps (is.map (aO.go j)))) (aD 0 (r+1)) 0 (fun j d hd ρ N hW=>by
  obtain⟨x3,x4,rfl,rfl,rfl⟩:=hW;obtain⟨hj,rfl⟩:=iC hd;rw[Nat.zero_add,Int.zero_add];exact⟨_,_,_,rfl,xJ f hM,_,_,rfl,rfl,rfl⟩) [some (.ro (ns.map D.int)),some (.mr 0),some (ax fr fl s bk ps is),some (ax fr fl s bk ps is),none,none,none,none,none] M2 ⟨_,_,rfl,rfl,by rw[Ay f]⟩
 subst eN;obtain⟨ρ2,N2,⟨y,rfl,t3⟩,ef2⟩:=iH (ds0:=aD 0 4) (s:=df 5) (body:=iR) (W:=fun _ ρ N=>∃y:Nat→Option D,ρ=[some (.ro (ns.map D.int)),some (.mr 0),some (ax fr fl s bk ps is),x3,x4,y 5,y 6,y 7,y 8]∧ba ns [] N) (aD 0 4) 0 (fun j d hd ρ N hW=>by
  obtain⟨y,rfl,t⟩:=hW;obtain⟨N',y6,y7,y8,t',e⟩:=zy (x0:=some (.ro (ns.map D.int))) (x3:=x3) (x4:=x4) (x5:=some d) (x6:=y 6) (x7:=y 7) (x8:=y 8) f t;exact⟨_,_,_,rfl,e,fun i=>[some d,y6,y7,y8][i-5]?.getD none,rfl,t'⟩) [some (.ro (ns.map D.int)),some (.mr 0),some (ax fr fl s bk ps is),x3,x4,none,none,none,none] N1 ⟨fun _=>none,rfl,t2⟩
 refine⟨N2,?_⟩;show aQ (nb [some (.ro (ns.map D.int)),none,none,none,none,none,none,none,none] [])=_;unfold nb;have k1:aC 1 (dR (aa (aH gQ (aa (ae 0) ag)) (aa (gC (.int 0)) (aa (gC (.int 0)) ag)))) [some (.ro (ns.map D.int)),none,none,none,none,none,none,none,none] []=.ok (.nx [some (.ro (ns.map D.int)),some (.mr 0),none,none,none,none,none,none,none]) [tp ns 0 0]:=by
  refine aA (d:=.mr 0) ?_;unfold dR;rw[ao (d:=.lst (ns.map D.int)) (M1:=[]) (ds:=[.int 0,.int 0]) (M2:=[]) rfl rfl,ai];exact if_pos (bQ (show 3≤1000000 by decide))
 refine(congrArg aQ ((aq k1).trans ((aq (aA (bf (a:=ae 1) (b:=gC (.int 12)) rfl rfl e1))).trans ((aq (aA (g:=ae 2) rfl)).trans ((aq (fq (t:=⟨aD 0 (r+1),none⟩) (eR (n:=r+1) (ao (al (f:=aJ) (a:=gC (.int 1)) (x:=.int 1) rfl (e2 _ rfl) ?_) rfl) (by omega)) ef1)).trans ((aq (fq (t:=⟨aD 0 4,none⟩) (eR (n:=4) (ao (d:=.int 4) rfl rfl) (by decide)) ef2)).trans (ck (d:=.bl true) rfl))))))).trans rfl;show aN.ok (D.int (1+(r:Int))) _=_;rw[Int.add_comm];rfl
end K30
theorem PySem.Challenge.cw_glowrow_k30_films_gone_on_holds : PySem.Challenge.rw_glowrow_k30_films_gone_on.Holds :=
 K30.pre K30.law_true
