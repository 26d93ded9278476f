import PyProof.Rows.All
import Wide.All
import KE.KNestM
import OpenK.KOwn
import OpenK.KRaise
import KE.KIsAll
import KE.KTypeName
import Wide.FinOn
import Lean
import PyProof.EqAt
import PyProof.EqKinds
import PyProof.TupleCall
import PyProof.Draws
import PyProof.EnumMake
import KE.KLam
import KE.KMinKey
import PyProof.StrCalls2
import PyProof.Rows.StrIndexOr
import PyProof.CollectIter
import PyProof.ListStr
import KE.KDictLaws
import PyProof.P3Eq
import KE.KSortTup
import KE.KDictList
import PyProof.ZipIter
import PyProof.Rows.ZipGen
import PySem.Challenge.RW_glowrow_k34_whole_reels_taken_back
set_option Elab.async false
set_option linter.all false
set_option maxRecDepth 100000
set_option maxHeartbeats 4000000
namespace L2
open PySem PySem.Spec PyProof.Rows List
abbrev cr:=Sum Int Str
def oy:cr→Value→Bool
 | .inl k,v=>Value.isInt k v
 | .inr x,v=>Value.isStrOf x v
def Jx (w:World):cr→Int
 | .inl k=>hashInt k
 | .inr x=>hashStr w x
theorem b9:∀{k:cr} {v:Value},oy k v=true→(∃i t,k=Sum.inl i∧v=Value.int i t)∨(∃x t,k=Sum.inr x∧v=Value.str x t)
 | .inl i,v,h=>by
  obtain⟨t,e⟩:=Value.isInt_shape (k:=i) (v:=v) h;exact .inl ⟨i,t,rfl,e⟩
 | .inr x,v,h=>by
  obtain⟨t,e⟩:=Value.isStrOf_shape (x:=x) (v:=v) h;exact .inr ⟨x,t,rfl,e⟩
theorem vk (i:Int)(t:Tok):oy (.inl i) (.int i t)=true:=by simp[oy,Value.isInt]
theorem wa (x:Str)(t:Tok):oy (.inr x) (.str x t)=true:=by simp[oy,Value.isStrOf]
theorem ET (a b:Int):decide ((Sum.inl a:cr)=Sum.inl b)=(a==b):=by
 by_cases e:a=b
 ·subst e;simp
 ·have h:¬(Sum.inl a:cr)=Sum.inl b:=fun q=>e (Sum.inl.inj q)
  rw[decide_eq_false h];exact(beq_eq_false_iff_ne.mpr e).symm
theorem E4 (a b:Str):decide ((Sum.inr a:cr)=Sum.inr b)=decide (a=b):=by
 by_cases e:a=b
 ·subst e;simp
 ·have h:¬(Sum.inr a:cr)=Sum.inr b:=fun q=>e (Sum.inr.inj q)
  rw[decide_eq_false h,decide_eq_false e]
theorem Dg (a:Int)(b:Str):decide ((Sum.inl a:cr)=Sum.inr b)=false:=decide_eq_false (fun q=>nomatch q)
theorem Dn (a:Str)(b:Int):decide ((Sum.inr a:cr)=Sum.inl b)=false:=decide_eq_false (fun q=>nomatch q)
def cO (prog:Program)(w:World):PySem.KeyKind prog w cr where
 is:=oy
 hash:=Jx w
 inj:=fun v a b ha hb=>by
  rcases b9 ha with⟨i,t,rfl,rfl⟩|⟨x,t,rfl,rfl⟩
  ·rcases b9 hb with⟨j,u,rfl,e⟩|⟨y,u,rfl,e⟩
   ·injection e with e1 _;rw[e1]
   ·exact nomatch e
  ·rcases b9 hb with⟨j,u,rfl,e⟩|⟨y,u,rfl,e⟩
   ·exact nomatch e
   ·injection e with e1 _;rw[e1]
 byValue:=fun k v h=>by
  rcases b9 h with⟨i,t,rfl,rfl⟩|⟨x,t,rfl,rfl⟩ <;> rfl
 pyHash:=fun hv h=>by
  rcases b9 hv with⟨i,t,rfl,rfl⟩|⟨x,t,rfl,rfl⟩
  ·exact wpAny_pyHash_int h
  ·exact wpAny_pyHash_str h
 eqBool:=fun hu hv h=>by
  rcases b9 hu with⟨i,t,rfl,rfl⟩|⟨x,t,rfl,rfl⟩
  ·rcases b9 hv with⟨j,u,rfl,rfl⟩|⟨y,u,rfl,rfl⟩
   ·rw[ET] at h;exact wpAny_eqBool_int h
   ·rw[Dg] at h;exact SeqAt.EqAt.int_str i t y u _ _ _ _ h
  ·rcases b9 hv with⟨j,u,rfl,rfl⟩|⟨y,u,rfl,rfl⟩
   ·rw[Dn] at h;exact SeqAt.EqAt.str_int x t j u _ _ _ _ h
   ·rw[E4] at h;exact wpAny_eqBool_str h
 «strs»:=fun k x t v h=>by
  rcases b9 h with⟨i,u,rfl,e⟩|⟨y,u,rfl,e⟩
  ·exact nomatch e
  ·injection e with e1 _
   subst e1;cases v <;> rfl
theorem p6 (prog:Program)(w:World)(i:Int)(t:Tok):(cO prog w).is (.inl i) (.int i t)=true:=vk i t
theorem qF (prog:Program)(w:World)(x:Str)(t:Tok):(cO prog w).is (.inr x) (.str x t)=true:=wa x t
inductive V where
 | non|bl (b:Bool)|int (i:Int)|str (x:Str)|byt (b:Array UInt8)|flt (b:UInt64)|ref (a:Addr)|ty (n:String)
 deriving DecidableEq
def RelV:V→Value→Prop
 | .non,u=>u=Value.none
 | .bl b,u=>u=Value.bool b
 | .int i,u=>∃t,u=Value.int i t
 | .str x,u=>∃t,u=Value.str x t
 | .byt b,u=>∃t,u=Value.bytes b t
 | .flt b,u=>∃t,u=Value.float b t
 | .ref a,u=>u=Value.ref a
 | .ty n,u=>u=Value.type n
abbrev aK:List V→List Value→Prop:=Paired RelV
theorem aK.length {xs:List V}{us:List Value}(r:aK xs us):xs.length=us.length:=Paired.length r
theorem aK.get:∀{xs:List V} {us:List Value} {i:Nat} {x:V},aK xs us→xs[i]?=some x→∃u,us[i]?=some u∧RelV x u
 | _,_,_,_,.nil,e=>by simp at e
 | _,_,0,_,.cons r _,e=>by simp at e;subst e;exact⟨_,rfl,r⟩
 | _,_,i+1,x,.cons _ t,e=>by
  obtain⟨u,h1,h2⟩:=aK.get (i:=i) (x:=x) t (by simpa using e);exact⟨u,by simpa using h1,h2⟩
theorem aK.set {x:V}{u:Value}(r:RelV x u):∀{xs:List V} {us:List Value} (i:Nat),aK xs us→aK (xs.set i x) (us.set i u)
 | _,_,_,.nil=>.nil
 | _,_,0,.cons _ t=>.cons r t
 | _,_,i+1,.cons q t=>.cons q (aK.set r i t)
theorem aK.append:∀{xs ys:List V} {us ws:List Value},aK xs us→aK ys ws→aK (xs++ys) (us++ws)
 | _,_,_,_,.nil,s=>s
 | _,_,_,_,.cons r t,s=>.cons r (aK.append t s)
theorem aK.take:∀{xs:List V} {us:List Value} (n:Nat),aK xs us→aK (xs.take n) (us.take n)
 | _,_,0,_=>.nil
 | _,_,_+1,.nil=>.nil
 | _,_,n+1,.cons r t=>.cons r (aK.take n t)
theorem aK.drop:∀{xs:List V} {us:List Value} (n:Nat),aK xs us→aK (xs.drop n) (us.drop n)
 | _,_,0,r=>r
 | _,_,_+1,.nil=>.nil
 | _,_,n+1,.cons _ t=>aK.drop n t
def jD:Option V→Option Value→Prop
 | some v,some u=>RelV v u
 | none,none=>True
 | _,_=>False
def KV {κ:Type}:List (κ×V)→List (κ×Value)→Prop:=Paired fun(p:κ×V) (q:κ×Value)=>p.1=q.1∧RelV p.2 q.2
def kV:cr→V
 | .inl i=>.int i
 | .inr x=>.str x
inductive HO where
 | lst (xs:List V)
 | tup (xs:List V)
 | dK (kvs:List (cr×V))|dT (kvs:List (List cr×V))
 | set (S:Int→Bool) (n:Nat)
 | ins (C dx:Addr) (fs:List (Str×V))
 | own (x:Addr)
 | xd (fs:List (Str×V))
 | met (f x:Addr)
 | rng (lo hi:Int)
 | frz (o:Obj) (u:HO)
 | tbl (ps:Array Value)
 | ext (φ:Heap→Prop)
abbrev Hp:=Addr→Option HO
def bE (H:Hp)(a:Addr)(o:HO):Hp:=fun b=>if b=a then some o else H b
theorem bO {H:Hp}{a:Addr}{o:HO}:bE H a o a=some o:=by unfold bE;rw[if_pos rfl]
theorem ao {H:Hp}{a b:Addr}{o:HO}(h:b≠a):bE H a o b=H b:=by unfold bE;rw[if_neg h]
theorem qi {H:Hp}{a b:Addr}{o u:HO}(h:H a=some o)(h':H b=some u)(d:o≠u):a≠b:=by
 intro e;subst e;rw[h] at h';exact d (Option.some.inj h')
theorem bc {H:Hp}{a b:Addr}{o:HO}(h:H a=some o)(h':H b=none):a≠b:=by
 intro e;subst e;rw[h] at h';cases h'
section
variable (P:Program)(w:World)
def ck (H:Hp)(h:Heap)(a:Addr):HO→Prop
 | .lst xs=>xs.length≤sizeLine∧∃(its:List Value) (n:Nat),aK xs its∧h.get? a=some {cls:=.type "list",data:=.seq its.toArray n}
 | .tup xs=>xs.length≤sizeLine∧∃its:List Value,aK xs its∧IsTup h a its.toArray
 | .dK kvs=>kvs.length≤sizeLine∧(a==sysModules)=false∧∃vs,KV kvs vs∧h.DictOf (cO P w) a vs
 | .dT kvs=>kvs.length≤sizeLine∧(a==sysModules)=false∧∃xs:List (List cr×Addr×Value),
   Paired (fun(p:List cr×V) (q:List cr×Addr×Value)=>p.1=q.1∧H q.2.1=some (.tup (p.1.map kV))∧RelV p.2 q.2.2) kvs xs∧
   ∃o es ep,h.get? a=some o∧o.ExactDict∧o.data=.dict es ep∧es.toList=xs.map (entryOfKey (tupleKind (cO P w)))∧(xs.map (·.1)).Nodup
 | .set S n=>h.SetOf (intKind P w) a S n
 | .ins C dx fs=>H dx=some (.own a)∧fs.length≤1000∧dx≠a∧h.get? a=some (W.instObj C dx)∧
   ∃mA,h.Ns1 dx mA∧(∀f,jD (fs.lookup f) (mA f))∧PySem.Within mA (fs.map (·.1))
 | .own _=>∃o,h.get? a=some o
 | .xd fs=>∃mA,h.Ns1 a mA∧∀f,jD (fs.lookup f) (mA f)
 | .rng lo hi=>∃t u v,h.get? a=some {cls:=.type "range",data:=.fields #[.int lo t,.int hi u,.int 1 v]}
 | .frz o u=>h.get? a=some o∧ck H h a u
 | .tbl ps=>h.get? a=some {cls:=.none,data:=.fields ps}
 | .met f x=>h.get? a=some (W.methodObj (.ref f) (.ref x))
 | .ext φ=>φ h∧(∃o,h.get? a=some o)∧∀h1 h2:Heap,φ h1→(∀o,h1.get? a=some o→h2.get? a=some o)→φ h2
def jF (H:Hp)(h:Heap):Prop:=∀a o,H a=some o→ck P w H h a o
end
section
variable {P:Program}{w:World}{H H':Hp}{h h':Heap}{a:Addr}{o:HO}
theorem ck.lt (x:ck P w H h a o):a<h.objs.size:=by
 cases o with
 | lst xs=>obtain⟨_,_,_,_,e⟩:=x;exact Heap.lt_size e
 | tup xs=>obtain⟨_,_,_,p⟩:=x;exact p.lt
 | dK kvs=>obtain⟨_,_,_,_,o,_,_,e,_⟩:=x;exact Heap.lt_size e
 | dT kvs=>obtain⟨_,_,_,_,o,_,_,e,_⟩:=x;exact Heap.lt_size e
 | set S n=>obtain⟨o,_,_,_,e,_⟩:=x;exact Heap.lt_size e
 | ins C dx fs=>obtain⟨_,_,_,e,_⟩:=x;exact Heap.lt_size e
 | own y=>obtain⟨_,e⟩:=x;exact Heap.lt_size e
 | xd fs=>obtain⟨_,⟨_,_,_,e,_⟩,_⟩:=x;exact Heap.lt_size e
 | rng lo hi=>obtain⟨_,_,_,e⟩:=x;exact Heap.lt_size e
 | frz ob u=>obtain⟨e,_⟩:=x;exact Heap.lt_size e
 | tbl ps=>exact Heap.lt_size (show h.get? a=some _ from x)
 | met f y=>exact Heap.lt_size (show h.get? a=some _ from x)
 | ext φ=>obtain⟨_,⟨_,e⟩,_⟩:=x;exact Heap.lt_size e
theorem Paired.mapP {α β:Type}{F G:α→β→Prop}:∀{l₁:List α} {l₂:List β},Paired F l₁ l₂→(∀a b,F a b→G a b)→Paired G l₁ l₂
 | _,_,.nil,_=>.nil
 | _,_,.cons r t,f=>.cons (f _ _ r) (Paired.mapP t f)
theorem ck.stay (x:ck P w H h a o)(k:∀b u,(b=a∨H b=some (.own a))→h.get? b=some u→h'.get? b=some u)
  (ho:∀b,H b=some (.own a)→H' b=some (.own a)) (ht:∀b xs,H b=some (.tup xs)→H' b=some (.tup xs)):ck P w H' h' a o:=by
 induction o with
 | lst xs=>obtain⟨z,its,n,r,e⟩:=x;exact⟨z,its,n,r,k _ _ (.inl rfl) e⟩
 | tup xs=>obtain⟨z,its,r,ob,e,c⟩:=x;exact⟨z,its,r,ob,k _ _ (.inl rfl) e,c⟩
 | dK kvs=>obtain⟨z,y,vs,r,ob,es,ep,e,c⟩:=x;exact⟨z,y,vs,r,ob,es,ep,k _ _ (.inl rfl) e,c⟩
 | dT kvs=>
  obtain⟨z,y,xs,r,ob,es,ep,e,c⟩:=x;exact⟨z,y,xs,Paired.mapP r fun p q z=>⟨z.1,ht _ _ z.2.1,z.2.2⟩,ob,es,ep,k _ _ (.inl rfl) e,c⟩
 | set S n=>obtain⟨ob,es,ep,t,e,c⟩:=x;exact⟨ob,es,ep,t,k _ _ (.inl rfl) e,c⟩
 | ins C dx fs=>
  obtain⟨d,z,ne,e,mA,⟨od,es,ep,e2,c⟩,r⟩:=x;exact⟨ho _ d,z,ne,k _ _ (.inl rfl) e,mA,⟨od,es,ep,k _ _ (.inr d) e2,c⟩,r⟩
 | own y=>obtain⟨ob,e⟩:=x;exact⟨ob,k _ _ (.inl rfl) e⟩
 | xd fs=>obtain⟨mA,⟨od,es,ep,e,c⟩,r⟩:=x;exact⟨mA,⟨od,es,ep,k _ _ (.inl rfl) e,c⟩,r⟩
 | rng lo hi=>obtain⟨t,u,v,e⟩:=x;exact⟨t,u,v,k _ _ (.inl rfl) e⟩
 | frz ob u ih=>obtain⟨e,q⟩:=x;exact⟨k _ _ (.inl rfl) e,ih q⟩
 | tbl ps=>
  have e:h.get? a=some {cls:=.none,data:=.fields ps}:=x;show h'.get? a=some {cls:=.none,data:=.fields ps};exact k a _ (.inl rfl) e
 | met f y=>
  have e:h.get? a=some (W.methodObj (.ref f) (.ref y)):=x;show h'.get? a=some (W.methodObj (.ref f) (.ref y));exact k a _ (.inl rfl) e
 | ext φ=>obtain⟨p,⟨o,e⟩,st⟩:=x;exact⟨st _ _ p fun o q=>k _ _ (.inl rfl) q,⟨o,k _ _ (.inl rfl) e⟩,st⟩
theorem jF.lt (x:jF P w H h)(e:H a=some o):a<h.objs.size:=(x a o e).lt
theorem jF.fresh (x:jF P w H h)(e:h.objs.size≤a):H a=none:=by
 cases q:H a with
 | none=>rfl
 | some u=>exact absurd (Nat.lt_of_lt_of_le (x.lt q) e) (Nat.lt_irrefl _)
theorem jF.kept (x:jF P w H h)(k:∀b u,h.get? b=some u→h'.get? b=some u):jF P w H h':=fun a o e=>
 (x a o e).stay (fun b u _ q=>k b u q) (fun _ q=>q) fun _ _ q=>q
theorem jF.laid (x:jF P w H h)(k:∀b u,h.get? b=some u→h'.get? b=some u)(hp:h.objs.size≤a)(new:ck P w (bE H a o) h' a o):jF P w (bE H a o) h':=fun b u e=>by
 have hn:=x.fresh hp
 by_cases hb:b=a
 ·subst hb;rw[bO] at e;cases e;exact new
 ·rw[ao hb] at e;exact(x b u e).stay (fun c v _ q=>k c v q) (fun c q=>by rw[ao (bc q hn)];exact q) fun c xs q=>by rw[ao (bc q hn)];exact q
end
def Rd (H:Hp)(a:Addr)(u:HO):Prop:=H a=some u∨∃o,H a=some (.frz o u)
theorem Rd.ok {P:Program}{w:World}{H:Hp}{h:Heap}{a:Addr}{u:HO}(r:Rd H a u)(x:jF P w H h):ck P w H h a u:=by
 rcases r with r|⟨o,r⟩
 ·exact x a u r
 ·obtain⟨_,q⟩:=x a _ r;exact q
def Gu:Option HO→Prop
 | some (.lst _)=>True
 | some (.dK _)=>True
 | some (.dT _)=>True
 | some (.set _ _)=>True
 | some (.ins _ _ _)=>True
 | some (.ext _)=>True
 | _=>False
section
variable {P:Program}{w:World}{H:Hp}{h h':Heap}{x e:Addr}{o':HO}
theorem jF.write (ok:jF P w H h)(mu:Gu (H x))(he:e=x∨H e=some (.own x))(k:∀b u,b≠e→h.get? b=some u→h'.get? b=some u)(heo:∃u,h'.get? e=some u)
  (new:ck P w (bE H x o') h' x o'):jF P w (bE H x o') h':=fun b u q=>by
 have nown:∀c y,H c=some (.own y)→c≠x:=fun c y r z=>by subst z;rw[r] at mu;exact mu
 have ntup:∀c xs,H c=some (.tup xs)→c≠x:=fun c xs r z=>by subst z;rw[r] at mu;exact mu
 by_cases hb:b=x
 ·subst hb;rw[bO] at q;cases q;exact new
 ·rw[ao hb] at q
  by_cases hbe:b=e
  ·have q':H b=some (.own x):=by
    rcases he with z|z
    ·exact absurd (hbe.trans z) hb
    ·rw[hbe];exact z
   rw[q] at q';cases q';obtain⟨v,hv⟩:=heo;exact⟨v,by rw[hbe];exact hv⟩
  ·refine(ok b u q).stay (fun c v hc r=>k c v ?_ r) (fun c r=>by rw[ao (nown c b r)];exact r) fun c xs r=>by rw[ao (ntup c xs r)];exact r
   rcases hc with rfl|hc
   ·exact hbe
   ·rintro rfl;rcases he with z|z
    ·exact nown c b hc z
    ·rw[hc] at z;cases z;exact hb rfl
end
structure Un (fs ex:List Addr)(H H':Hp)(h h':Heap):Prop where
 keep:∀b o,h.get? b=some o→H b=none→b∉fs→b∉ex→h'.get? b=some o
 slot:∀b o,h.get? b=some o→H b=none→b∈fs→b∉ex→∃sl,h'.get? b=some {o with slots:=sl}
 free:∀b o,h.get? b=some o→H b=none→b∉ex→H' b=none
 there:∀b o,h.get? b=some o→b∉ex→∃o',h'.get? b=some o'
 tups:∀b xs,H b=some (.tup xs)→H' b=some (.tup xs)
 frzs:∀b o u,H b=some (.frz o u)→H' b=some (.frz o u)
 tbls:∀b ps,H b=some (.tbl ps)→∃more,H' b=some (.tbl (ps++more))
section
variable {fs fs' ex ex':List Addr}{H H1 H2:Hp}{h h1 h2 h':Heap}{a x e:Addr}{o:HO}
theorem Un.any (u:Un fs ex H H1 h h1){b:Addr}{ob:Obj}(q:h.get? b=some ob)(n:H b=none)(hx:b∉ex):∃sl,h1.get? b=some {ob with slots:=sl}:=by
 by_cases hb:b∈fs
 ·exact u.slot b ob q n hb hx
 ·exact⟨ob.slots,u.keep b ob q n hb hx⟩
theorem Un.kept (k:∀b u,h.get? b=some u→h'.get? b=some u):Un fs ex H H h h':=
 ⟨fun b ob q _ _ _=>k b ob q,fun b ob q _ _ _=>⟨ob.slots,k b ob q⟩,fun _ _ _ n _=>n,fun b ob q _=>⟨ob,k b ob q⟩,fun _ _ q=>q,fun _ _ _ q=>q,fun _ ps q=>⟨#[],by rw[q];simp⟩⟩
theorem Un.refl:Un fs ex H H h h:=Un.kept fun _ _ q=>q
theorem Un.laid (k:∀b u,h.get? b=some u→h'.get? b=some u)(hp:h.objs.size≤a)(hn:H a=none):Un fs ex H (bE H a o) h h' where
 keep:=fun b u q _ _ _=>k b u q
 slot:=fun b u q _ _ _=>⟨u.slots,k b u q⟩
 free:=fun b u q n _=>by rw[ao (Nat.ne_of_lt (Nat.lt_of_lt_of_le (Heap.lt_size q) hp))];exact n
 there:=fun b u q _=>⟨u,k b u q⟩
 tups:=fun b xs q=>by rw[ao (bc q hn)];exact q
 frzs:=fun b u xs q=>by rw[ao (bc q hn)];exact q
 tbls:=fun b ps q=>⟨#[],by rw[ao (bc q hn),q];simp⟩
theorem Un.write (mu:Gu (H x))(he:e=x∨H e=some (.own x))(k:∀b u,b≠e→h.get? b=some u→h'.get? b=some u)(heo:∃u,h'.get? e=some u):Un fs ex H (bE H x o) h h':=by
 have hx:∀b,H b=none→b≠x:=fun b n z=>by subst z;rw[n] at mu;exact mu
 have hb:∀b,H b=none→b≠e:=fun b n z=>by
  subst z;rcases he with r|r
  ·exact hx b n r
  ·rw[n] at r;cases r
 have hm:∀b u,H b=some u→¬Gu (some u)→b≠x:=fun b u q nm z=>by subst z;rw[q] at mu;exact nm mu
 refine⟨fun b u q n _ _=>k b u (hb b n) q,fun b u q n _ _=>⟨u.slots,k b u (hb b n) q⟩,fun b u q n _=>by rw[ao (hx b n)];exact n,fun b u q _=>?_,
  fun b xs q=>by rw[ao (hm b _ q fun z=>z)];exact q,fun b u xs q=>by rw[ao (hm b _ q fun z=>z)];exact q,fun b ps q=>⟨#[],by rw[ao (hm b _ q fun z=>z),q];simp⟩⟩
 by_cases hbe:b=e
 ·subst hbe;exact heo
 ·exact⟨u,k b u hbe q⟩
end
def trk (h:Heap)(H:Hp):List Addr:=(List.range h.objs.size).filter fun a=>(H a).isSome
def pb (h:Heap)(H:Hp):Heap:=W.hideAll h (trk h H)
theorem vc (h:Heap)(H:Hp):(pb h H).objs.size=h.objs.size:=W.hideAll_size _ _
theorem xT {h:Heap}{H:Hp}{b:Addr}{o:Obj}(e:h.get? b=some o)(n:H b=none):(pb h H).get? b=some o:=
 W.hideAll_get _ e fun hm=>by
  have q:(H b).isSome=true:=(mem_filter.mp hm).2;rw[n] at q;simp at q
theorem BV {h:Heap}{H:Hp}{b:Addr}{o:Obj}(e:(pb h H).get? b=some o):h.get? b=some o∧H b=none:=by
 have e':h.get? b=some o:=W.of_hideAll (trk h H) e;refine⟨e',?_⟩;cases q:H b with
 | none=>rfl
 | some x=>
  have hm:b∈trk h H:=mem_filter.mpr ⟨mem_range.mpr (Heap.lt_size e'),by simp[q]⟩;have z:(pb h H).get? b=none:=W.hideAll_none (trk h H) hm;rw[z] at e;cases e
def Bg (g h:Heap)(L:Addr):List (Addr×Obj):=(List.range h.objs.size).filterMap fun a=>if a=L∨(g.get? a).isSome=true then none else(h.get? a).map fun o=>(a,o)
def rest (g h:Heap)(L d:Addr):List (Addr×Obj):=(Bg g h L).filter fun p=>decide (p.1≠d)
structure Mod (K:W.Frag)(mg:Str→Option Value)(base:Heap):Prop where
 kin:K.In base
 glob:base.Ns mainGlobals mg
 blt:∃mb,base.Ns builtinsNs mb∧∀x:Str,x≠"__name__"→mb x=bootBuiltins x
 nolimit:base.NoLimit
structure Cx where
 prog:Program
 w:World
 K:W.Frag
 mg:Str→Option Value
 base:Heap
 A:Around
 N:List Str
 s₀:Shared
 H₀:Hp
 env:Env
 outer:List Env
 stack:List Env
 ex:List Addr
 fn:Str→Bool
 calm:Bool
 pn:List (Addr×Obj)
 xe:Value→Shared→Prop
def mJ (l:List Env):List Addr:=l.filterMap (·.frame)
abbrev Cx.fs (X:Cx):List Addr:=mJ X.outer
def FL (sc:Scope)(x:Str):Prop:=sc.names.lookup x=some .local∨sc.names.lookup x=some .cell∨sc.names.lookup x=some .free
def zL (sc:Scope)(x:Str):Prop:=sc.names.lookup x=some .local∨sc.names.lookup x=some .cell
def IR (env:Env)(h:Heap)(m:Str→Option Value)(x:Str)(u:Value):Prop:=
 (env.kindOf x=some .local∧m x=some u)∨((env.kindOf x=some .cell∨env.kindOf x=some .free)∧∃c,env.cells.lookup x=some c∧h.IsCell c (some u))
structure Cx.Ok (X:Cx):Prop where
 mod:Mod X.K X.mg X.base
 kind:X.env.scope.kind=.function
 glob:X.env.globals=mainGlobals
 blt:X.env.builtins=builtinsNs
 above:X.s₀.heap.objs.size≤X.env.locals
 inj:∀x y c,X.env.cells.lookup x=some c→X.env.cells.lookup y=some c→x=y
 has:∀x,(X.env.kindOf x=some .cell∨X.env.kindOf x=some .free)→∃c,X.env.cells.lookup x=some c
 cab:∀x c,X.fn x=true→X.env.cells.lookup x=some c→X.s₀.heap.objs.size≤c
 hd:X.calm=true→X.A.handled=none
 frames:X.A.frames=some X.stack
 stk:X.stack=X.outer∨(X.stack=X.env::X.outer∧X.env.frame=some X.env.locals)
 exf:∀b∈X.ex,b≠X.env.locals∧∀x c,X.env.cells.lookup x=some c→c≠b
 bs:∀b o,X.base.get? b=some o→X.s₀.heap.get? b=some o∧X.H₀ b=none
 bsz:X.base.objs.size≤X.s₀.heap.objs.size
 noex:∀b o,X.base.get? b=some o→b∉X.ex
 exfs:∀b∈X.ex,b∉X.fs
 funs:X.s₀.heap.FunFrames X.base X.outer
 frf:∀b∈X.fs,X.H₀ b=none
structure Inv (X:Cx)(af:List (Addr×Obj))(σ:List (Option V))(H:Hp)(s:Shared):Prop where
 ok:X.Ok
 os:s.os=X.s₀.os
 bare:AllBare s.gens
 base:Un X.fs X.ex X.H₀ H X.s₀.heap s.heap
 loc:∃m,s.heap.Ns X.env.locals m∧∀(i:Nat) (x:Str) (v:V),X.N[i]?=some x→σ[i]?=some (some v)→FL X.env.scope x→∃u,RelV v u∧IR X.env s.heap m x u
 cell:∀x c,X.env.cells.lookup x=some c→∃v,s.heap.IsCell c v
 free:H X.env.locals=none
 freeC:∀x c,X.env.cells.lookup x=some c→H c=none
 pin:∀p∈X.pn++af,s.heap.get? p.1=some p.2∧H p.1=none∧p.1≠X.env.locals∧p.1∉X.fs∧∀v,p.2.data≠.cell v
 hok:jF X.prog X.w H s.heap
 len:σ.length=X.N.length
section
variable {X:Cx}{af:List (Addr×Obj)}{σ:List (Option V)}{H H':Hp}{s:Shared}{h':Heap}
theorem Cx.Ok.nofr (ok:X.Ok){b:Addr}{o:Obj}(e:X.base.get? b=some o):b∉X.fs:=fun hb=>by
 have:=(ok.funs.mem hb).1;rw[e] at this;cases this
theorem Inv.bs (I:Inv X af σ H s):∀b o,X.base.get? b=some o→s.heap.get? b=some o∧H b=none:=fun b o e=>
 ⟨I.base.keep b o (I.ok.bs b o e).1 (I.ok.bs b o e).2 (I.ok.nofr e) (I.ok.noex b o e),I.base.free b o (I.ok.bs b o e).1 (I.ok.bs b o e).2 (I.ok.noex b o e)⟩
theorem Inv.bk (I:Inv X af σ H s):∀b o,X.base.get? b=some o→s.heap.get? b=some o:=fun b o e=>(I.bs b o e).1
theorem Inv.mod (I:Inv X af σ H s):Mod X.K X.mg X.base:=I.ok.mod
theorem Inv.kIn (I:Inv X af σ H s):X.K.In s.heap:=I.ok.mod.kin.keeps I.bk
theorem Inv.lt (I:Inv X af σ H s):X.env.locals<s.heap.objs.size:=let ⟨_,hn,_⟩:=I.loc;hn.lt
theorem Inv.sz (I:Inv X af σ H s):X.s₀.heap.objs.size≤s.heap.objs.size:=Nat.le_trans I.ok.above (Nat.le_of_lt I.lt)
theorem Inv.nofs (I:Inv X af σ H s){a:Addr}(h:s.heap.objs.size≤a):a∉X.fs:=fun hb=>by
 obtain⟨_,o,ho,_⟩:=I.ok.funs.mem hb;exact absurd (Nat.lt_of_lt_of_le (Heap.lt_size ho) (Nat.le_trans I.sz h)) (Nat.lt_irrefl _)
theorem Inv.cne (I:Inv X af σ H s):∀x c,X.env.cells.lookup x=some c→c≠X.env.locals:=fun x c e z=>by
 obtain⟨v,o,ho,hd⟩:=I.cell x c e;obtain⟨m,⟨o',es,ep,ho',hd',_⟩,_⟩:=I.loc;rw[z,ho'] at ho;cases ho;rw[hd'] at hd;cases hd
theorem Inv.funs (I:Inv X af σ H s):s.heap.FunFrames X.base X.outer:=by
 have all:∀(l:List Env),(∀b∈mJ l,b∈X.fs)→X.s₀.heap.FunFrames X.base l→s.heap.FunFrames X.base l:=by
  intro l
  induction l with
  | nil=>intro _ _;trivial
  | cons env r ih=>
   intro hs hl;obtain⟨hk,⟨L,o,hf,hn,ho,hd⟩,hr⟩:=hl;have hL:L∈X.fs:=hs L (by unfold mJ;rw[filterMap_cons,hf];exact mem_cons_self);obtain⟨sl,e⟩:=I.base.slot L o ho (I.ok.frf L hL) hL fun z=>I.ok.exfs L z hL
   exact⟨hk,⟨L,_,hf,hn,e,hd⟩,ih (fun b hb=>hs b (by unfold mJ;rw[filterMap_cons,hf];exact mem_cons_of_mem _ hb)) hr⟩
 exact all X.outer (fun _ hb=>hb) I.ok.funs
theorem Inv.stack (I:Inv X af σ H s):s.heap.FunFrames X.base X.stack:=by
 rcases I.ok.stk with e|⟨e,hf⟩
 ·rw[e];exact I.funs
 ·rw[e];obtain⟨m,hn,_⟩:=I.loc;refine .cons (by rw[I.ok.kind];decide) hf hn ?_ I.funs;exact Heap.get?_none_of_le (Nat.le_trans I.ok.bsz I.ok.above)
theorem Inv.stkSub (I:Inv X af σ H s):∀b∈mJ X.stack,b∈X.env.locals::X.fs:=fun b hb=>by
 rcases I.ok.stk with e|⟨e,hf⟩
 ·rw[e] at hb;exact mem_cons_of_mem _ hb
 ·rw[e] at hb;unfold mJ at hb;rw[filterMap_cons,hf] at hb;exact hb
theorem Inv.stkFree (I:Inv X af σ H s):∀b∈mJ X.stack,H b=none:=fun b hb=>by
 rcases mem_cons.mp (I.stkSub b hb) with e|hb
 ·rw[e];exact I.free
 ·obtain⟨_,o,ho,_⟩:=I.ok.funs.mem hb;exact I.base.free b o ho (I.ok.frf b hb) fun z=>I.ok.exfs b z hb
theorem Inv.step {g':Array GenState}{t':Nat}{d':Drawn}{ch:List Addr}(I:Inv X af σ H s)
  (hch:∀b∈ch,(b∈X.ex∨X.s₀.heap.objs.size≤b)∧b≠X.env.locals∧(∀x c,X.env.cells.lookup x=some c→c≠b)∧∀p∈X.pn++af,p.1≠b)
  (keep:∀b o,b≠X.env.locals→b∉X.fs→b∉ch→s.heap.get? b=some o→H b=none→h'.get? b=some o)
  (slot:∀b o,b≠X.env.locals→b∈X.fs→b∉ch→s.heap.get? b=some o→H b=none→∃sl,h'.get? b=some {o with slots:=sl}) (free:∀b o,b∉ch→s.heap.get? b=some o→H b=none→H' b=none)
  (there:∀b o,b∉ch→s.heap.get? b=some o→∃o',h'.get? b=some o')
  (tups:∀b xs,H b=some (.tup xs)→H' b=some (.tup xs)) (frzs:∀b o u,H b=some (.frz o u)→H' b=some (.frz o u)) (tbls:∀b ps,H b=some (.tbl ps)→∃more,H' b=some (.tbl (ps++more)))
  (ns:∀m,s.heap.Ns X.env.locals m→h'.Ns X.env.locals m) (hok:jF X.prog X.w H' h') (hg:AllBare g') :
  Inv X af σ H' {s with heap:=h',gens:=g',drawn:=d',toks:=t'}:=by
 have neL:∀b o,X.s₀.heap.get? b=some o→b≠X.env.locals:=fun b o e=>Nat.ne_of_lt (Nat.lt_of_lt_of_le (Heap.lt_size e) I.ok.above)
 have neC:∀b o,X.s₀.heap.get? b=some o→b∉X.ex→b∉ch:=fun b o e hx hb=>by
  rcases(hch b hb).1 with z|z
  ·exact hx z
  ·exact absurd (Nat.lt_of_lt_of_le (Heap.lt_size e) z) (Nat.lt_irrefl _)
 have cellK:∀x c,X.env.cells.lookup x=some c→∀v,s.heap.IsCell c v→h'.IsCell c v:=fun x c e v hxx=>by
  obtain⟨o,ho,hd⟩:=hxx;have nch:c∉ch:=fun z=>(hch c z).2.2.1 x c e rfl
  by_cases hc:c∈X.fs
  ·obtain⟨sl,q⟩:=slot c o (I.cne x c e) hc nch ho (I.freeC x c e);exact⟨_,q,hd⟩
  ·exact⟨o,keep c o (I.cne x c e) hc nch ho (I.freeC x c e),hd⟩
 refine⟨I.ok,I.os,hg,⟨fun b o e n hb hx=>?_,fun b o e n hb hx=>?_,fun b o e n hx=>?_,fun b o e hx=>?_,fun b xs e=>tups b xs (I.base.tups b xs e),fun b o xs e=>frzs b o xs (I.base.frzs b o xs e),fun b ps e=>?_⟩,?_,fun x c e=>?_,?_,fun x c e=>?_,fun p hp=>?_,hok,I.len⟩
 ·exact keep b o (neL b o e) hb (neC b o e hx) (I.base.keep b o e n hb hx) (I.base.free b o e n hx)
 ·obtain⟨sl,e1⟩:=I.base.slot b o e n hb hx;obtain⟨sl',e2⟩:=slot b _ (neL b o e) hb (neC b o e hx) e1 (I.base.free b o e n hx);exact⟨sl',e2⟩
 ·obtain⟨o',e1⟩:=I.base.there b o e hx;exact free b o' (neC b o e hx) e1 (I.base.free b o e n hx)
 ·obtain⟨o',e1⟩:=I.base.there b o e hx;exact there b o' (neC b o e hx) e1
 ·obtain⟨m1,e1⟩:=I.base.tbls b ps e;obtain⟨m2,e2⟩:=tbls b _ e1;exact⟨m1++m2,by rw[e2,Array.append_assoc]⟩
 ·obtain⟨m,hn,hl⟩:=I.loc;refine⟨m,ns m hn,fun i x v e1 e2 e3=>?_⟩;obtain⟨u,r,l⟩:=hl i x v e1 e2 e3;refine⟨u,r,?_⟩;rcases l with l|⟨k,c,e,z⟩
  ·exact .inl l
  ·exact .inr ⟨k,c,e,cellK x c e _ z⟩
 ·obtain⟨v,z⟩:=I.cell x c e;exact⟨v,cellK x c e v z⟩
 ·obtain⟨m,⟨o,_,_,ho,_⟩,_⟩:=I.loc;exact free _ o (fun z=>(hch _ z).2.1 rfl) ho I.free
 ·obtain⟨v,o,ho,hd⟩:=I.cell x c e;exact free c o (fun z=>(hch c z).2.2.1 x c e rfl) ho (I.freeC x c e)
 ·obtain⟨e,n,ne,nf,d⟩:=I.pin p hp;have nch:p.1∉ch:=fun z=>(hch p.1 z).2.2.2 p hp rfl
  exact⟨keep p.1 p.2 ne nf nch e n,free p.1 p.2 nch e n,ne,nf,d⟩
theorem Inv.un {t':Nat}(I:Inv X af σ H s)(u:Un X.fs [] H H' s.heap h')(hok:jF X.prog X.w H' h'):Inv X af σ H' {s with heap:=h',toks:=t'}:=by
 obtain⟨m,⟨o,es,ep,ho,r⟩,_⟩:=id I.loc;obtain⟨sl,hL⟩:=u.any ho I.free (by simp);exact I.step (g':=s.gens) (d':=s.drawn) (ch:=[]) (fun _ z=>nomatch z) (fun b o _ hb _ e n=>u.keep b o e n hb (by simp)) (fun b o _ hb _ e n=>u.slot b o e n hb (by simp)) (fun b o _ e n=>u.free b o e n (by simp)) (fun b o _ e=>u.there b o e (by simp)) u.tups u.frzs u.tbls (fun m' hm=>by
  obtain⟨o',es',ep',ho',r'⟩:=hm;rw[ho] at ho';cases ho';exact⟨_,es',ep',hL,r'⟩) hok I.bare
theorem Inv.call {g':Array GenState}{t':Nat}{d':Drawn}{ch:List Addr}(I:Inv X af σ H s)(u:Un (mJ X.stack) ch H H' s.heap h')(hok:jF X.prog X.w H' h')(hg:AllBare g')
  (hch:∀b∈ch,(b∈X.ex∨X.s₀.heap.objs.size≤b)∧b≠X.env.locals∧(∀x c,X.env.cells.lookup x=some c→c≠b)∧∀p∈X.pn++af,p.1≠b) :
  Inv X af σ H' {s with heap:=h',gens:=g',drawn:=d',toks:=t'}:=by
 obtain⟨m,⟨o,es,ep,ho,r⟩,_⟩:=id I.loc;obtain⟨sl,hL⟩:=u.any ho I.free fun z=>(hch _ z).2.1 rfl
 exact I.step (ch:=ch) hch (fun b o hL hb hc e n=>u.keep b o e n (fun z=>(mem_cons.mp (I.stkSub b z)).elim hL hb) hc) (fun b o _ _ hc e n=>u.any e n hc) (fun b o hc e n=>u.free b o e n hc) (fun b o hc e=>u.there b o e hc) u.tups u.frzs u.tbls (fun m' hm=>by
  obtain⟨o',es',ep',ho',r'⟩:=hm;rw[ho] at ho';cases ho';exact⟨_,es',ep',hL,r'⟩) hok hg
theorem Inv.turned {t':Nat}{it:Addr}(I:Inv X af σ H s)(k:∀b o,b≠it→s.heap.get? b=some o→h'.get? b=some o)(hn:H it=none)(hL:it≠X.env.locals)
  (h1:it∈X.ex∨X.s₀.heap.objs.size≤it) (h2:∀x c,X.env.cells.lookup x=some c→c≠it) (h3:∀p∈X.pn++af,p.1≠it):Inv X af σ H {s with heap:=h',toks:=t'}:=by
 have nit:∀b u,H b=some u→b≠it:=fun b u e z=>by rw[z,hn] at e;cases e
 refine I.step (g':=s.gens) (d':=s.drawn) (ch:=[it]) (fun b hb=>?_) (fun b o _ _ hc e _=>k b o (fun z=>hc (by simp[z])) e) (fun b o _ _ hc e _=>⟨o.slots,k b o (fun z=>hc (by simp[z])) e⟩) (fun _ _ _ _ n=>n)
  (fun b o hc e=>⟨o,k b o (fun z=>hc (by simp[z])) e⟩) (fun _ _ e=>e) (fun _ _ _ e=>e) (fun b ps e=>⟨#[],by rw[e];simp⟩) (fun m hm=>?_) (fun b u e=>?_) I.bare
 ·have e:b=it:=by simpa using hb
  subst e;exact⟨h1,hL,h2,h3⟩
 ·obtain⟨o,es,ep,ho,r⟩:=hm;exact⟨o,es,ep,k _ o (Ne.symm hL) ho,r⟩
 ·refine(I.hok b u e).stay (fun c v hc q=>k c v ?_ q) (fun _ q=>q) fun _ _ q=>q
  rcases hc with z|z
  ·rw[z];exact nit b u e
  ·exact nit c _ z
theorem Inv.tok (I:Inv X af σ H s)(t:Nat):Inv X af σ H {s with toks:=t}:=I.un (h':=s.heap) (t':=t) Un.refl I.hok
theorem Inv.kept {t':Nat}(I:Inv X af σ H s)(k:∀b u,s.heap.get? b=some u→h'.get? b=some u):Inv X af σ H {s with heap:=h',toks:=t'}:=I.un (Un.kept k) (I.hok.kept k)
theorem Inv.laid {a:Addr}{o:HO}{t':Nat}(I:Inv X af σ H s)(k:∀b u,s.heap.get? b=some u→h'.get? b=some u)(hp:s.heap.objs.size≤a)(new:ck X.prog X.w (bE H a o) h' a o) :
  Inv X af σ (bE H a o) {s with heap:=h',toks:=t'}:=I.un (Un.laid k hp (I.hok.fresh hp)) (I.hok.laid k hp new)
theorem Inv.write {x e:Addr}{o:HO}{t':Nat}(I:Inv X af σ H s)(mu:Gu (H x))(he:e=x∨H e=some (.own x))(k:∀b u,b≠e→s.heap.get? b=some u→h'.get? b=some u)(heo:∃u,h'.get? e=some u)
  (new:ck X.prog X.w (bE H x o) h' x o):Inv X af σ (bE H x o) {s with heap:=h',toks:=t'}:=I.un (Un.write mu he k heo) (I.hok.write mu he k heo new)
theorem Inv.pins_of {pins':List (Addr×Obj)}(I:Inv X af σ H s)(h:∀p∈pins',s.heap.get? p.1=some p.2∧H p.1=none∧p.1≠X.env.locals∧p.1∉X.fs∧∀v,p.2.data≠.cell v):Inv X pins' σ H s:=
 ⟨I.ok,I.os,I.bare,I.base,I.loc,I.cell,I.free,I.freeC,fun p hp=>(mem_append.mp hp).elim (fun z=>I.pin p (mem_append_left _ z)) (h p),I.hok,I.len⟩
theorem mE {N:List Str}(hN:N.Nodup){i j:Nat}{x:Str}(a:N[i]?=some x)(b:N[j]?=some x):i=j:=by
 obtain⟨h1,e1⟩:=List.getElem?_eq_some_iff.mp a;obtain⟨h2,e2⟩:=List.getElem?_eq_some_iff.mp b;exact(getElem_inj hN).mp (e1.trans e2.symm)
theorem oA {M:Model}{A:Around}{E:Value→Shared→Prop}{i:Nat}{x:Str}{v:V}{u:Value}{Q:Unit→Shared→Prop}(I:Inv X af σ H s)(hN:X.N.Nodup)(hi:X.N[i]?=some x)(hx:zL X.env.scope x)(r:RelV v u)
  (h:∀s',Inv X af (σ.set i (some v)) H s'→(∃a,Heap.SameBut a s.heap s'.heap∧(a=X.env.locals∨X.env.cells.lookup x=some a))→Q () s') (hf:X.fn x=true∨X.env.scope.names.lookup x=some .local:=by first|exact .inl rfl|exact .inr rfl|assumption):wpAny M A (storeName X.env x u) Q E s:=by
 obtain⟨m,hn,hl⟩:=id I.loc;have hcls:(X.env.scope.kind==.class||(X.env.scope.kind==.module&&X.env.locals != X.env.globals))=false:=by rw[I.ok.kind];rfl
 have hiσ:i<σ.length:=by rw[I.len];exact(List.getElem?_eq_some_iff.mp hi).1
 have cne:=I.cne;have tracked:∀{a:Addr} {h':Heap},(∃o,s.heap.get? a=some o∧H a=none)→Heap.SameBut a s.heap h'→jF X.prog X.w H h':=fun {a h'} ha hs b ob e=>by
  obtain⟨_,_,hfree⟩:=ha;refine(I.hok b ob e).stay (fun c w' hc q=>(hs.2 c ?_).trans q) (fun _ q=>q) fun _ _ q=>q
  rintro rfl;rcases hc with rfl|hc
  ·rw[hfree] at e;cases e
  ·rw[hfree] at hc;cases hc
 rcases hx with hk|hk
 ·refine wpAny_storeName_local hk hn (fun h' hn' hs=>?_) hcls;obtain⟨oL,_,_,hoL,_⟩:=id hn;refine h _ ⟨I.ok,I.os,I.bare,⟨fun b o e n hb hx=>?_,fun b o e n hb hx=>?_,I.base.free,fun b o e hx=>?_,I.base.tups,I.base.frzs,I.base.tbls⟩,⟨_,hn',fun j y v' e1 e2 e3=>?_⟩,fun y c e=>?_,I.free,I.freeC,fun p hp=>?_,tracked ⟨oL,hoL,I.free⟩ hs,by simpa using I.len⟩ ⟨_,hs,.inl rfl⟩
  ·exact(hs.2 b (Nat.ne_of_lt (Nat.lt_of_lt_of_le (Heap.lt_size e) I.ok.above))).trans (I.base.keep b o e n hb hx)
  ·obtain⟨sl,e1⟩:=I.base.slot b o e n hb hx;exact⟨sl,(hs.2 b (Nat.ne_of_lt (Nat.lt_of_lt_of_le (Heap.lt_size e) I.ok.above))).trans e1⟩
  ·obtain⟨o',e1⟩:=I.base.there b o e hx;exact⟨o',(hs.2 b (Nat.ne_of_lt (Nat.lt_of_lt_of_le (Heap.lt_size e) I.ok.above))).trans e1⟩
  ·by_cases hj:j=i
   ·subst hj;rw[hi] at e1;cases e1;rw[getElem?_set_self hiσ] at e2;cases e2;exact⟨u,r,.inl ⟨hk,by simp⟩⟩
   ·rw[getElem?_set_ne (Ne.symm hj)] at e2;obtain⟨u',r',q⟩:=hl j y v' e1 e2 e3;refine⟨u',r',?_⟩;rcases q with⟨k,e⟩|⟨k,c,e,z⟩
    ·refine .inl ⟨k,?_⟩;have:y≠x:=fun e=>hj (mE hN e1 (e▸hi))
     simp[this,e]
    ·exact .inr ⟨k,c,e,z.sameBut hs (cne y c e)⟩
  ·obtain⟨w',z⟩:=I.cell y c e;exact⟨w',z.sameBut hs (cne y c e)⟩
  ·obtain⟨e,n,ne,nf,d⟩:=I.pin p hp;exact⟨(hs.2 p.1 ne).trans e,n,ne,nf,d⟩
 ·have hfn:X.fn x=true:=by
   rcases hf with z|z
   ·exact z
   ·rw[z] at hk;cases hk
  obtain⟨c,hc⟩:=I.ok.has x (.inl hk);obtain⟨w',z⟩:=I.cell x c hc;refine wpAny_storeName_cell I.ok.kind hk hc z (fun h' hc' hs=>?_);obtain⟨oc,hoc,hocd⟩:=id z;refine h {s with heap:=h'} ⟨I.ok,I.os,I.bare,⟨fun b o e n hb hx=>?_,fun b o e n hb hx=>?_,I.base.free,fun b o e hx=>?_,I.base.tups,I.base.frzs,I.base.tbls⟩,⟨m,hn.sameBut hs (Ne.symm (cne x c hc)),fun j y v' e1 e2 e3=>?_⟩,fun y c' e=>?_,I.free,I.freeC,fun p hp=>?_,tracked ⟨oc,hoc,I.freeC x c hc⟩ hs,by simpa using I.len⟩ ⟨c,hs,.inr hc⟩
  ·exact(hs.2 b (Nat.ne_of_lt (Nat.lt_of_lt_of_le (Heap.lt_size e) (I.ok.cab x c hfn hc)))).trans (I.base.keep b o e n hb hx)
  ·obtain⟨sl,e1⟩:=I.base.slot b o e n hb hx;exact⟨sl,(hs.2 b (Nat.ne_of_lt (Nat.lt_of_lt_of_le (Heap.lt_size e) (I.ok.cab x c hfn hc)))).trans e1⟩
  ·obtain⟨o',e1⟩:=I.base.there b o e hx;exact⟨o',(hs.2 b (Nat.ne_of_lt (Nat.lt_of_lt_of_le (Heap.lt_size e) (I.ok.cab x c hfn hc)))).trans e1⟩
  ·by_cases hj:j=i
   ·subst hj;rw[hi] at e1;cases e1;rw[getElem?_set_self hiσ] at e2;cases e2;exact⟨u,r,.inr ⟨.inl hk,c,hc,hc'⟩⟩
   ·rw[getElem?_set_ne (Ne.symm hj)] at e2;obtain⟨u',r',q⟩:=hl j y v' e1 e2 e3;refine⟨u',r',?_⟩;rcases q with q|⟨k,c',e,z'⟩
    ·exact .inl q
    ·refine .inr ⟨k,c',e,z'.sameBut hs ?_⟩;rintro rfl;exact hj (mE hN e1 (I.ok.inj _ _ _ e hc▸hi))
  ·by_cases hcc:c'=c
   ·subst hcc;exact⟨_,hc'⟩
   ·obtain⟨w2,z2⟩:=I.cell y c' e;exact⟨w2,z2.sameBut hs hcc⟩
  ·obtain⟨e,n,ne,nf,d⟩:=I.pin p hp;refine⟨(hs.2 p.1 ?_).trans e,n,ne,nf,d⟩;intro q;rw[q,hoc] at e;have q':oc=p.2:=Option.some.inj e;exact d w' (by rw[←q'];exact hocd)
theorem jb {M:Model}{A:Around}{E:Value→Shared→Prop}{i:Nat}{x:Str}{v:V}{u:Value}{Q:Unit→Shared→Prop}(I:Inv X af σ H s)(hN:X.N.Nodup)(hi:X.N[i]?=some x)(hx:zL X.env.scope x)(r:RelV v u)
  (h:∀s',Inv X af (σ.set i (some v)) H s'→Q () s') (hf:X.fn x=true∨X.env.scope.names.lookup x=some .local:=by first|exact .inl rfl|exact .inr rfl|assumption):wpAny M A (storeName X.env x u) Q E s:=
 oA I hN hi hx r (fun s' I' _=>h s' I') hf
theorem Inv.call' {s':Shared}{ch:List Addr}(I:Inv X af σ H s)(ho:s'.os=s.os)(u:Un (mJ X.stack) ch H H' s.heap s'.heap)(hok:jF X.prog X.w H' s'.heap)(hg:AllBare s'.gens)
  (hch:∀b∈ch,(b∈X.ex∨X.s₀.heap.objs.size≤b)∧b≠X.env.locals∧(∀x c,X.env.cells.lookup x=some c→c≠b)∧∀p∈X.pn++af,p.1≠b):Inv X af σ H' s':=by
 obtain⟨h',g',d',t',o'⟩:=s';have e:o'=s.os:=ho;subst e;exact I.call (g':=g') (t':=t') (d':=d') u hok hg hch
end
abbrev XK:=Value→Option Addr→Hp→Prop
abbrev St:=List (Option V)
abbrev VK:=V→Hp→Prop
abbrev TE:=St→Hp→VK→Prop
abbrev TT:=St→Hp→(Bool→Hp→Prop)→Prop
abbrev TA:=St→Hp→(List V→Hp→Prop)→Prop
structure vR where
 nx:St→Hp→Prop
 rt:VK
 bk:St→Hp→Prop:=fun _ _=>False
 ct:St→Hp→Prop:=fun _ _=>False
abbrev TS:=vR→St→Hp→Prop
def EP (X:Cx)(af:List (Addr×Obj))(σ:St)(Q:VK)(u:Value)(s':Shared):Prop:=∃v H',Inv X af σ H' s'∧RelV v u∧Q v H'
def TP (X:Cx)(af:List (Addr×Obj))(σ:St)(Q:Bool→Hp→Prop)(b:Bool)(s':Shared):Prop:=∃H',Inv X af σ H' s'∧Q b H'
def AP (X:Cx)(af:List (Addr×Obj))(σ:St)(Q:List V→Hp→Prop)(us:List Value)(s':Shared):Prop:=∃vs H',Inv X af σ H' s'∧aK vs us∧Q vs H'
def SP (X:Cx)(af:List (Addr×Obj))(D:vR)(f:Flow)(s':Shared):Prop:=
 match f with
 | .next=>∃σ' H',Inv X af σ' H' s'∧D.nx σ' H'
 | .brk=>∃σ' H',Inv X af σ' H' s'∧D.bk σ' H'
 | .cont=>∃σ' H',Inv X af σ' H' s'∧D.ct σ' H'
 | .ret u=>∃v σ' H',Inv X af σ' H' s'∧RelV v u∧D.rt v H'
def PE (X:Cx)(e:Expr)(t:TE):Prop:=
 ∀(af:List (Addr×Obj)) (s:Shared) (σ:St) (H:Hp) (Q:VK),Inv X af σ H s→t σ H Q→wpAny (model X.prog X.w) X.A (eval e X.env) (EP X af σ Q) X.xe s
def PT (X:Cx)(e:Expr)(t:TT):Prop:=
 ∀(af:List (Addr×Obj)) (s:Shared) (σ:St) (H:Hp) (Q:Bool→Hp→Prop),Inv X af σ H s→t σ H Q→wpAny (model X.prog X.w) X.A (isTrue e X.env (eval e X.env)) (TP X af σ Q) X.xe s
def PW (X:Cx)(e:Expr)(t:TT):Prop:=
 ∀(whole:Sem Value) (af:List (Addr×Obj)) (s:Shared) (σ:St) (H:Hp) (Q:Bool→Hp→Prop),Inv X af σ H s→t σ H Q→wpAny (model X.prog X.w) X.A (isTrue e X.env whole) (TP X af σ Q) X.xe s
theorem PW.pt {X:Cx}{e:Expr}{t:TT}(h:PW X e t):PT X e t:=h _
def PA (X:Cx)(es:List Expr)(t:TA):Prop:=
 ∀(pos:Pos) (af:List (Addr×Obj)) (s:Shared) (σ:St) (H:Hp) (Q:List V→Hp→Prop),Inv X af σ H s→t σ H Q→wpAny (model X.prog X.w) X.A (spliced (backTo pos (starEach es X.env))) (AP X af σ Q) X.xe s
def PS (X:Cx)(st:Stmt)(t:TS):Prop:=
 ∀(af:List (Addr×Obj)) (s:Shared) (σ:St) (H:Hp) (D:vR),Inv X af σ H s→t D σ H→wpAny (model X.prog X.w) X.A (exec st X.env) (SP X af D) X.xe s
def PSs (X:Cx)(st:List Stmt)(t:TS):Prop:=
 ∀(af:List (Addr×Obj)) (s:Shared) (σ:St) (H:Hp) (D:vR),Inv X af σ H s→t D σ H→wpAny (model X.prog X.w) X.A (execs st X.env) (SP X af D) X.xe s
theorem cj {α:Type}{t:Sem α}{Q Q':α→Shared→Prop}{M:Model}{A:Around}{E:Value→Shared→Prop}{s:Shared}(h:wpAny M A t Q E s)(hQ:∀a s,Q a s→Q' a s):wpAny M A t Q' E s:=wpAny_mono h hQ fun _ _ x=>x
section
variable {X:Cx}
def HD (i:Nat):TE:=fun σ H Q=>∃v,σ[i]?=some (some v)∧Q v H
def tC (v:V):TE:=fun _ H Q=>Q v H
theorem DB {i:Nat}{x:Str}{pos:Pos}(hN:X.N[i]?=some x)(hv:FL X.env.scope x)(hd:(x==("__debug__":Str))=false:=by decide)(hcd:(x==("__classdict__":Str))=false:=by decide):PE X (.Name x pos) (HD i):=by
 intro af s σ H Q I h;obtain⟨v,e,h⟩:=h;obtain⟨m,hn,hl⟩:=I.loc;obtain⟨u,r,l⟩:=hl i x v hN e hv;have fin:EP X af σ Q u s:=⟨v,H,I,r,h⟩;rcases l with⟨hk,hm⟩|⟨hk,c,hc,hcell⟩
 ·exact wpAny_Name (wpAny_loadName_local I.ok.kind hk hn hm fin) hd
 ·rcases hk with hk|hk
  ·exact wpAny_Name (wpAny_loadName_cell I.ok.kind hk hc hcell fin) hd
  ·exact wpAny_Name (wpAny_loadName_free I.ok.kind hk hc hcell fin hcd) hd
theorem zl {i j pos}:PE X (.Constant (.int i) j pos) (tC (.int i)):=fun _ _ _ H _ I h=>wpAny_Constant_int ⟨.int i,H,I.tok _,⟨_,rfl⟩,h⟩
theorem G7 {b j pos}:PE X (.Constant (.bool b) j pos) (tC (.bl b)):=fun _ _ _ H _ I h=>Constant_bool ⟨.bl b,H,I,rfl,h⟩
theorem Ef {j pos}:PE X (.Constant .none j pos) (tC .non):=fun _ _ _ H _ I h=>Constant_none ⟨.non,H,I,rfl,h⟩
theorem DU {x j pos}:PE X (.Constant (.str x) j pos) (tC (.str x)):=fun _ _ _ H _ I h=>Calls.Constant_str ⟨.str x,H,I.tok _,⟨_,rfl⟩,h⟩
def Gl (X:Cx)(x:Str):Prop:=X.env.kindOf x=some .globalImplicit
theorem kZ {E:Value→Shared→Prop}{af:List (Addr×Obj)}{s:Shared}{σ:St}{H:Hp}{x:Str}{u:Value}{pos:Pos}{Q:Value→Shared→Prop}(I:Inv X af σ H s)(hg:Gl X x)(hm:X.mg x=some u)(h:Q u s)
  (hd:(x==("__debug__":Str))=false:=by decide):wpAny (model X.prog X.w) X.A (eval (.Name x pos) X.env) Q E s:=
 Calls.Name_function_global I.ok.kind hg (Calls.loadGlobal_global (by rw[I.ok.glob];exact I.mod.glob.keeps I.bk) hm h) hd
theorem nl {E:Value→Shared→Prop}{af:List (Addr×Obj)}{s:Shared}{σ:St}{H:Hp}{x:Str}{u:Value}{pos:Pos}{Q:Value→Shared→Prop}(I:Inv X af σ H s)(hg:Gl X x)(hm:X.mg x=none)(hv:bootBuiltins x=some u)(h:Q u s)
  (hn:x≠"__name__":=by decide) (hd:(x==("__debug__":Str))=false:=by decide):wpAny (model X.prog X.w) X.A (eval (.Name x pos) X.env) Q E s:=by
 obtain⟨mb,h1,h2⟩:=I.mod.blt;exact Calls.Name_function_global I.ok.kind hg (Calls.loadGlobal_builtin (by rw[I.ok.glob];exact I.mod.glob.keeps I.bk) hm (by rw[I.ok.blt];exact h1.keeps I.bk) ((h2 x hn).trans hv) h) hd
theorem uL {x:Str}{v:V}{u:Value}{pos:Pos}(hg:Gl X x)(hm:X.mg x=some u)(r:RelV v u)(hd:(x==("__debug__":Str))=false:=by decide):PE X (.Name x pos) (tC v):=
 fun _ _ _ H _ I h=>kZ I hg hm ⟨v,H,I,r,h⟩ hd
theorem uF {x:Str}{v:V}{u:Value}{pos:Pos}(hg:Gl X x)(hm:X.mg x=none)(hv:bootBuiltins x=some u)(r:RelV v u)(hn:x≠"__name__":=by decide)(hd:(x==("__debug__":Str))=false:=by decide):PE X (.Name x pos) (tC v):=
 fun _ _ _ H _ I h=>nl I hg hm hv ⟨v,H,I,r,h⟩ hn hd
variable {a b:Expr}{ta tb:TE}{pos:Pos}
variable {tA tB':TT}{rest:List Expr}
def Ip (t u:TT):TT:=fun σ H Q=>t σ H fun c H1=>if c=true then u σ H1 Q else Q false H1
def JQ (t u:TT):TT:=fun σ H Q=>t σ H fun c H1=>if c=true then Q true H1 else u σ H1 Q
def Jr (t:TT):TT:=fun σ H Q=>t σ H fun c H1=>Q (!c) H1
theorem A6 (ha:PT X a tA):PW X (.BoolOp .And [a] pos) tA:=by
 intro wh af s σ H Q I h;refine isTrue_and (cj (ha af s σ H Q I h) fun c s1 e=>?_);cases c with
 | true=>exact isTrue_and_nil e
 | false=>exact e
theorem DQ (ha:PT X a tA):PW X (.BoolOp .Or [a] pos) tA:=by
 intro wh af s σ H Q I h;refine isTrue_or (cj (ha af s σ H Q I h) fun c s1 e=>?_);cases c with
 | false=>exact isTrue_or_nil e
 | true=>exact e
theorem DM (ha:PT X a tA)(hb:PW X (.BoolOp .And (b::rest) pos) tB'):PW X (.BoolOp .And (a::b::rest) pos) (Ip tA tB'):=by
 intro wh af s σ H Q I h;refine isTrue_and (cj (ha af s σ H _ I h) fun c s1 hxx=>?_);obtain⟨H1,I1,q1⟩:=hxx;cases c with
 | true=>exact hb wh af s1 σ H1 Q I1 q1
 | false=>exact⟨H1,I1,q1⟩
theorem Ha (ha:PT X a tA)(hb:PW X (.BoolOp .Or (b::rest) pos) tB'):PW X (.BoolOp .Or (a::b::rest) pos) (JQ tA tB'):=by
 intro wh af s σ H Q I h;refine isTrue_or (cj (ha af s σ H _ I h) fun c s1 hxx=>?_);obtain⟨H1,I1,q1⟩:=hxx;cases c with
 | true=>exact⟨H1,I1,q1⟩
 | false=>exact hb wh af s1 σ H1 Q I1 q1
theorem Dd (ha:PT X a tA):PT X (.UnaryOp .Not a pos) (Jr tA):=by
 intro af s σ H Q I h;exact isTrue_not (ha af s σ H (fun c H1=>Q (!c) H1) I h)
def FY (ta tb:TE):TE:=fun σ H Q=>ta σ H fun x H1=>∃c,x=.bl c∧if c=true then tb σ H1 Q else Q (.bl false) H1
def Jc (ta tb:TE):TE:=fun σ H Q=>ta σ H fun x H1=>∃c,x=.bl c∧if c=true then Q (.bl true) H1 else tb σ H1 Q
def GU (ta:TE):TE:=fun σ H Q=>ta σ H fun x H1=>∃c,x=.bl c∧Q (.bl (!c)) H1
theorem Dx {op}{t:TE}(h:PE X a t):PE X (.BoolOp op [a] pos) t:=fun af s σ H Q I hw=>BoolOp_one (h af s σ H Q I hw)
theorem Cz (ha:PE X a ta)(hb:PE X (.BoolOp .And (b::rest) pos) tb):PE X (.BoolOp .And (a::b::rest) pos) (FY ta tb):=by
 intro af s σ H Q I h;refine BoolOp_and (cj (ha af s σ H _ I h) fun v s1 hxx=>?_);obtain⟨x,H1,I1,r1,q1⟩:=hxx;obtain⟨c,rfl,q1⟩:=q1;cases r1;refine wpAny_truthy_bool ?_;cases c with
 | true=>exact hb af s1 σ H1 Q I1 q1
 | false=>exact⟨.bl false,H1,I1,rfl,q1⟩
theorem Hc (ha:PE X a ta)(hb:PE X (.BoolOp .Or (b::rest) pos) tb):PE X (.BoolOp .Or (a::b::rest) pos) (Jc ta tb):=by
 intro af s σ H Q I h;refine BoolOp_or (cj (ha af s σ H _ I h) fun v s1 hxx=>?_);obtain⟨x,H1,I1,r1,q1⟩:=hxx;obtain⟨c,rfl,q1⟩:=q1;cases r1;refine wpAny_truthy_bool ?_;cases c with
 | false=>exact hb af s1 σ H1 Q I1 q1
 | true=>exact⟨.bl true,H1,I1,rfl,q1⟩
theorem EH (ha:PE X a ta):PE X (.UnaryOp .Not a pos) (GU ta):=by
 intro af s σ H Q I h;refine UnaryOp_ (cj (ha af s σ H _ I h) fun v s1 hxx=>?_);obtain⟨x,H1,I1,r1,q1⟩:=hxx;obtain⟨c,rfl,q1⟩:=q1;cases r1;exact not_of (wpAny_truthy_bool ⟨.bl (!c),H1,I1,rfl,q1⟩)
end
def lw (K:W.Frag)(H:Hp)(a:Addr)(xs:List V):Prop:=
 Rd H a (.lst xs)∨
  ∃(o:Obj) (its:Array Value) (n:Nat),K.lookup a=some o∧o.cls=.type "list"∧o.dict=none∧o.data=.seq its n∧its.size≤sizeLine∧aK xs its.toList
def k9 (K:W.Frag)(H:Hp)(a:Addr)(xs:List V):Prop:=
 Rd H a (.tup xs)∨
  ∃(o:Obj) (its:Array Value) (n:Nat),K.lookup a=some o∧o.cls=.type "tuple"∧o.data=.seq its n∧its.size≤sizeLine∧aK xs its.toList
def JD:Value→Option V
 | .none=>some .non
 | .bool b=>some (.bl b)
 | .int i _=>some (.int i)
 | .str x _=>some (.str x)
 | .bytes b _=>some (.byt b)
 | .float b _=>some (.flt b)
 | .ref a=>some (.ref a)
 | .type n=>some (.ty n)
 | _=>none
theorem RelV.abs {x:V}{u:Value}(r:RelV x u):JD u=some x:=by
 cases x with
 | non=>cases r;rfl
 | bl _=>cases r;rfl
 | int _=>obtain⟨t,rfl⟩:=r;rfl
 | str _=>obtain⟨t,rfl⟩:=r;rfl
 | byt _=>obtain⟨t,rfl⟩:=r;rfl
 | flt _=>obtain⟨t,rfl⟩:=r;rfl
 | ref _=>cases r;rfl
 | ty _=>cases r;rfl
theorem RelV.inj {x y:V}{u:Value}(r:RelV x u)(q:RelV y u):x=y:=Option.some.inj (r.abs.symm.trans q.abs)
theorem aK.inj:∀{xs ys:List V} {us:List Value},aK xs us→aK ys us→xs=ys
 | _,_,_,.nil,.nil=>rfl
 | _,_,_,.cons r t,.cons r' t'=>by rw[r.inj r',aK.inj t t']
section
variable {X:Cx}{af:List (Addr×Obj)}{σ:St}{H:Hp}{s:Shared}{a:Addr}{xs ys:List V}
theorem Inv.list (I:Inv X af σ H s)(h:lw X.K H a xs):∃its:List Value,aK xs its∧PlainL s.heap a its.toArray∧xs.length≤sizeLine:=by
 rcases h with h|⟨o,its,n,hk,hc,hd,hs,hz,r⟩
 ·obtain⟨z,its,n,r,e⟩:=h.ok I.hok;exact⟨its,r,⟨_,n,e,rfl,rfl,rfl⟩,z⟩
 ·refine⟨its.toList,r,⟨o,n,I.kIn a o hk,hc,hd,by simpa using hs⟩,?_⟩;have e:=r.length;simp only[Array.length_toList] at e;omega
theorem Inv.tuple (I:Inv X af σ H s)(h:k9 X.K H a xs):∃its:List Value,aK xs its∧IsTup s.heap a its.toArray∧xs.length≤sizeLine:=by
 rcases h with h|⟨o,its,n,hk,hc,hs,hz,r⟩
 ·obtain⟨z,its,r,p⟩:=h.ok I.hok;exact⟨its,r,p,z⟩
 ·refine⟨its.toList,r,⟨o,I.kIn a o hk,hc,n,by simpa using hs⟩,?_⟩;have e:=r.length;simp only[Array.length_toList] at e;omega
theorem Inv.list_inj (I:Inv X af σ H s)(h:lw X.K H a xs)(h':lw X.K H a ys):xs=ys:=by
 obtain⟨its,r,⟨o,n,e,_,_,d⟩,_⟩:=I.list h;obtain⟨its',r',⟨o',n',e',_,_,d'⟩,_⟩:=I.list h';rw[e] at e';cases e';rw[d] at d';injection d' with d1 _
 have:its=its':=by simpa using congrArg Array.toList d1
 subst this;exact r.inj r'
theorem Inv.tuple_inj (I:Inv X af σ H s)(h:k9 X.K H a xs)(h':k9 X.K H a ys):xs=ys:=by
 obtain⟨its,r,⟨o,e,_,n,d⟩,_⟩:=I.tuple h;obtain⟨its',r',⟨o',e',_,n',d'⟩,_⟩:=I.tuple h';rw[e] at e';cases e';rw[d] at d';injection d' with d1 _
 have:its=its':=by simpa using congrArg Array.toList d1
 subst this;exact r.inj r'
end
section
variable {X:Cx}{st:Stmt}{rest:List Stmt}{t u:TS}{e:Expr}{te:TE}{pos:Pos}
def Gn:TS:=fun D σ H=>D.nx σ H
def IE (t u:TS):TS:=fun D σ H=>t {D with nx:=u D} σ H
theorem Ad:PSs X [] Gn:=fun _ _ σ H _ I h=>wpAny_execs_nil ⟨σ,H,I,h⟩
theorem wO (h1:PS X st t)(h2:PSs X rest u):PSs X (st::rest) (IE t u):=by
 intro af s σ H D I h;refine wpAny_execs_cons (cj (h1 af s σ H {D with nx:=u D} I h) fun f s1 q=>?_);cases f with
 | next=>
  obtain⟨σ',H',I',q⟩:=q;exact h2 af s1 σ' H' D I' q
 | ret v=>exact q
 | brk=>exact q
 | cont=>exact q
theorem Ab (h1:PS X st t):PSs X [st] t:=by
 intro af s σ H D I h;refine wpAny_execs_cons (cj (h1 af s σ H D I h) fun f s1 q=>?_);cases f with
 | next=>exact wpAny_execs_nil q
 | ret v=>exact q
 | brk=>exact q
 | cont=>exact q
theorem Inv.quiet {af:List (Addr×Obj)}{σ:St}{H:Hp}{s:Shared}(I:Inv X af σ H s):interactive X.env=false:=by simp[interactive,I.ok.kind]
def G0 (te:TE):TS:=fun D σ H=>te σ H fun _ H1=>D.nx σ H1
theorem A2 (he:PE X e te)(hs:swapsWith e none pos.line X.env=pure false:=by rfl):PS X (.Expr e pos) (G0 te):=by
 intro af s σ H D I h;exact wpAny_Expr_any (cj (he af s σ H _ I h) fun v s1 ⟨x,H1,I1,r1,q1⟩=>⟨σ,H1,I1,q1⟩) I.quiet hs
def IS (te:TE):TS:=fun D σ H=>te σ H D.rt
theorem De (he:PE X e te):PS X (.Return (some e) pos) (IS te):=by
 intro af s σ H D I h;exact wpAny_Return_some (cj (he af s σ H _ I h) fun v s1 ⟨x,H1,I1,r1,q1⟩=>⟨x,σ,H1,I1,r1,q1⟩)
def Ju (c:TT)(t u:TS):TS:=fun D σ H=>c σ H fun b H1=>if b=true then t D σ H1 else u D σ H1
theorem HI {c:Expr}{a b:List Stmt}{tc:TT}(hc:PT X c tc)(ha:PSs X a t)(hb:PSs X b u):PS X (.If c a b pos) (Ju tc t u):=by
 intro af s σ H D I h;refine wpAny_If (cj (hc af s σ H _ I h) fun d s1 hxx=>?_);obtain⟨H1,I1,q1⟩:=hxx;cases d with
 | true=>exact ha af s1 σ H1 D I1 q1
 | false=>exact hb af s1 σ H1 D I1 q1
end
abbrev TG:=V→St→Hp→(St→Hp→Prop)→Prop
abbrev Cm:=List V→St→Hp→(St→Hp→Prop)→Prop
def PG (X:Cx)(target:Expr)(t:TG):Prop:=
 ∀(af:List (Addr×Obj)) (s:Shared) (σ:St) (H:Hp) (v:V) (u:Value) (Q:St→Hp→Prop),Inv X af σ H s→RelV v u→t v σ H Q→
  wpAny (model X.prog X.w) X.A (assign target X.env u) (fun _ s'=>∃σ' H',Inv X af σ' H' s'∧Q σ' H') X.xe s
def Af (X:Cx)(ts:List Expr)(t:Cm):Prop:=
 ∀(af:List (Addr×Obj)) (s:Shared) (σ:St) (H:Hp) (vs:List V) (us:List Value) (Q:St→Hp→Prop),Inv X af σ H s→aK vs us→t vs σ H Q→
  wpAny (model X.prog X.w) X.A (assignInOrder ((assignEach ts X.env).map (·.2)) us) (fun _ s'=>∃σ' H',Inv X af σ' H' s'∧Q σ' H') X.xe s
abbrev Ej:=V→V→V→Hp→(Hp→Prop)→Prop
def Hq (X:Cx)(t:Ej):Prop:=
 ∀(af:List (Addr×Obj)) (s:Shared) (σ:St) (H:Hp) (o i v:V) (ov iv u:Value) (Q:Hp→Prop),Inv X af σ H s→RelV o ov→RelV i iv→RelV v u→t o i v H Q→
  wpAny (model X.prog X.w) X.A (setItem ov iv u) (fun _ s'=>∃H',Inv X af σ H' s'∧Q H') X.xe s
section
variable {X:Cx}{pos:Pos}
def B1 (i:Nat):TG:=fun v σ H Q=>Q (σ.set i (some v)) H
theorem BU {i:Nat}{x:Str}(hN:X.N.Nodup)(hi:X.N[i]?=some x)(hx:zL X.env.scope x)(hf:X.fn x=true∨X.env.scope.names.lookup x=some .local:=by first|exact .inl rfl|exact .inr rfl|assumption):PG X (.Name x pos) (B1 i):=by
 intro af s σ H v u Q I r h;exact wpAny_assign_Name (jb I hN hi hx r (fun s' I'=>⟨_,H,I',h⟩) hf)
def II:Cm:=fun vs σ H Q=>vs=[]∧Q σ H
def GP (t:TG)(u:Cm):Cm:=fun vs σ H Q=>∃v r,vs=v::r∧t v σ H fun σ' H'=>u r σ' H' Q
theorem Bm:Af X [] II:=by
 intro af s σ H vs us Q I r h;obtain⟨e,h⟩:=h;subst e;cases r;exact assignInOrder_nil ⟨σ,H,I,h⟩
theorem zA {e:Expr}{es:List Expr}{t:TG}{u:Cm}(h1:PG X e t)(h2:Af X es u)
  (hs:(assignEach (e::es) X.env).map (·.2)=assign e X.env::(assignEach es X.env).map (·.2):=by rfl):Af X (e::es) (GP t u):=by
 intro af s σ H vs us Q I r h;obtain⟨v,vr,e1,h⟩:=h;subst e1;cases r with
 | cons r rr=>
  rw[hs];refine assignInOrder_cons (cj (h1 af s σ H _ _ _ I r h) fun _ s1 hxx=>?_);obtain⟨σ1,H1,I1,q1⟩:=hxx;exact h2 af s1 σ1 H1 _ _ Q I1 rr q1
def Jg (K:W.Frag)(n:Nat)(t:Cm):TG:=fun v σ H Q=>∃a xs,v=.ref a∧k9 K H a xs∧xs.length=n∧t xs σ H Q
theorem Et {es:List Expr}{k:Nat}{t:Cm}{n:Nat}(hc:X.calm=true)(h:Af X es t)
  (hn:(assignEach es X.env).length=n:=by rfl) (hst:(assignEach es X.env).findIdx? (·.1)=none:=by rfl):PG X (.Tuple es k pos) (Jg X.K n t):=by
 intro af s σ H v u Q I r hw;obtain⟨a,xs,e1,hq,hl,hw⟩:=hw;subst e1;cases r;obtain⟨its,rv,ht,hz⟩:=I.tuple hq;refine assign_Tuple_tuple (I.ok.hd hc) ht (by simp[hn,←hl,rv.length]) hst fun h' hx=>?_
 have I1:Inv X af σ H {s with heap:=h'}:=I.kept (t':=s.toks) fun b o e=>hx b o (Nat.ne_of_lt (Heap.lt_size e)) e
 exact h af _ σ H xs _ Q I1 (by simpa using rv) hw
def Jo (to ti:TE)(t:Ej):TG:=fun v σ H Q=>to σ H fun o H1=>ti σ H1 fun i H2=>t o i v H2 fun H3=>Q σ H3
theorem Cs {o i:Expr}{to ti:TE}{t:Ej}(ho:PE X o to)(hi:PE X i ti)(hs:Hq X t)
  (ha:∀v,assign (.Subscript o i pos) X.env v=(do
   let ov ←holding [v] (eval o X.env)
   let iv ←holding [v,ov] (eval i X.env)
   standAt pos
   holding [v,ov,iv] (setItem ov iv v)
   release [v,ov,iv] []):=by intro _;rfl):PG X (.Subscript o i pos) (Jo to ti t):=by
 intro af s σ H v u Q I r h;rw[ha];refine wpAny_bind (wpAny_holding (cj (ho af s σ H _ I h) fun ov s1 hxx=>?_));obtain⟨x,H1,I1,r1,q1⟩:=hxx;refine wpAny_bind (wpAny_holding (cj (hi af s1 σ H1 _ I1 q1) fun iv s2 hxx=>?_));obtain⟨y,H2,I2,r2,q2⟩:=hxx;refine wpAny_bind (wpAny_standAt (wpAny_bind (wpAny_holding (cj (hs af s2 σ H2 x y v ov iv u _ I2 r1 r2 r q2) fun _ s3 hxx=>?_))));obtain⟨H3,I3,q3⟩:=hxx;exact wpAny_release ⟨σ,H3,I3,q3⟩
def FX (te:TE)(g:TG):TS:=fun D σ H=>te σ H fun x H1=>g x σ H1 D.nx
theorem xS {tg e:Expr}{te:TE}{g:TG}(he:PE X e te)(hg:PG X tg g)(hs:swapsWithSole [tg] e pos.line X.env=pure false:=by rfl)(hw:swappedStores [tg] e X.env=pure none:=by rfl)
  (h1:(assignEach [tg] X.env).map (·.2)=[assign tg X.env]:=by rfl):PS X (.Assign [tg] e pos) (FX te g):=by
 intro af s σ H D I h;refine wpAny_Assign_stores (cj (he af s σ H _ I h) fun v s1 hxx=>?_) hs hw;obtain⟨x,H1,I1,r1,q1⟩:=hxx;rw[h1];exact cj (hg af s1 σ H1 x v _ I1 r1 q1) fun _ s2 q=>q
theorem E0 {i:Nat}{x:Str}{e:Expr}{te:TE}{pos':Pos}(hN:X.N.Nodup)(hi:X.N[i]?=some x)(hx:zL X.env.scope x)(he:PE X e te)(hs:swapsWith e (some (.Name x pos')) pos.line X.env=pure false:=by rfl)(hf:X.fn x=true∨X.env.scope.names.lookup x=some .local:=by first|exact .inl rfl|exact .inr rfl|assumption) :
  PS X (.Assign [.Name x pos'] e pos) (FX te (B1 i)):=by
 intro af s σ H D I h;refine wpAny_Assign_Name (cj (he af s σ H _ I h) fun v s1 hxx=>?_) hs;obtain⟨y,H1,I1,r1,q1⟩:=hxx;exact jb I1 hN hi hx r1 (fun s2 I2=>⟨_,H1,I2,q1⟩) hf
def IF (i j:Nat)(ta:TA):TS:=fun D σ H=>ta σ H fun vs H1=>∃v w,vs=[v,w]∧D.nx ((σ.set i (some v)).set j (some w)) H1
theorem DT {i j:Nat}{x y:Str}{a b:Expr}{ta:TA}{px py pt:Pos}{kt k2 pt2}(hc:X.calm=true)(hN:X.N.Nodup)(hi:X.N[i]?=some x)(hj:X.N[j]?=some y)(hij:i≠j)
  (hx:X.env.scope.names.lookup x=some .local) (hy:X.env.scope.names.lookup y=some .local) (ha:PA X [a,b] ta)
  (hw:swappedStores [.Tuple [.Name x px,.Name y py] kt pt] (.Tuple [a,b] k2 pt2) X.env=pure (some [x,y]))
  (hs:swapsWithSole [.Tuple [.Name x px,.Name y py] kt pt] (.Tuple [a,b] k2 pt2) pos.line X.env=pure false:=by rfl) :
  PS X (.Assign [.Tuple [.Name x px,.Name y py] kt pt] (.Tuple [a,b] k2 pt2) pos) (IF i j ta):=by
 intro af s σ H D I h;rw[exec_Assign_arm];refine wpAny_bind (wpAny_standAt ?_);rw[hs];refine wpAny_bind (wpAny_pure ?_);rw[if_neg (by decide)];refine wpAny_bind (Tuple_ (cj (ha _ af s σ H _ I h) fun us s1 hxx=>?_));obtain⟨vs,H1,I1,r1,q1⟩:=hxx;obtain⟨v,w,e1,q1⟩:=q1;subst e1;obtain⟨u1,u2,rfl,rv,rw'⟩:∃u1 u2,us=[u1,u2]∧RelV v u1∧RelV w u2:=by
  cases r1 with
  | cons p q=>
   cases q with
   | cons p' q'=>
    cases q';exact⟨_,_,rfl,p,p'⟩
 refine wpAny_newObj_type ?_ (by show 2≤sizeLine;decide);have I2:Inv X af σ H1 {s1 with heap:=s1.heap.push {cls:=.type "tuple",data:=.seq [u1,u2].toArray}}:=I1.kept (t':=s1.toks) fun b o e=>Heap.get?_push_of_some _ e
 rw[hw];refine wpAny_bind (wpAny_pure ?_);show wpAny (model X.prog X.w) X.A (do rule "assign.swapped-stores";let items ←unpackItems (.ref s1.heap.objs.size) 2 none;assignInOrder [fun v=>bindName X.env y v,fun v=>bindName X.env x v] items.reverse;pure Flow.next) _ _ _;refine wpAny_bind (wpAny_rule (wpAny_bind (unpackItems_tuple (items:=#[u1,u2]) (I.ok.hd hc) (IsTup.new s1.heap _) fun h' hx'=>?_)));have I3:=I2.kept (h':=h') (t':=s1.toks) fun b o e=>hx' b o (Nat.ne_of_lt (Heap.lt_size e)) e
 show wpAny _ _ (assignInOrder [fun v=>bindName X.env y v,fun v=>bindName X.env x v] [u2,u1] >>= fun _=>pure Flow.next) _ _ _;refine wpAny_bind (assignInOrder_cons (wpAny_bindName (jb I3 hN hj (.inl hy) rw' (fun s2 I4=>?_) (.inr hy))));refine assignInOrder_cons (wpAny_bindName (jb I4 hN hi (.inl hx) rv (fun s3 I5=>assignInOrder_nil (wpAny_pure ?_)) (.inr hx)));rw[set_comm _ _ (Ne.symm hij)] at I5;exact⟨_,H1,I5,q1⟩
end
section
variable {X:Cx}{pos:Pos}
def Dk (c:TT)(tb:TS):TS:=fun D σ H=>∃W:Nat→St→Hp→Prop,(∃m,W m σ H)∧∀m σ H,W m σ H→
 c σ H fun b H1=>if b=true then∃N:St→Hp→Prop,(∀σ' H',N σ' H'→∃m',m'<m∧W m' σ' H')∧tb {D with nx:=N,ct:=N,bk:=D.nx} σ H1 else D.nx σ H1
theorem yU {c:Expr}{body:List Stmt}{tc:TT}{tb:TS}(hp:PassesOwn (model X.prog X.w) X.A X.env X.xe)(hc:PT X c tc)(hb:PSs X body tb):PS X (.While c body [] pos) (Dk tc tb):=by
 intro af s σ H D I h;obtain⟨W,⟨m0,w0⟩,turn⟩:=h;refine wpAny_While (codeAny_whileLoop (fun n s'=>∃σ' H',Inv X af σ' H' s'∧W n σ' H') ?_ m0 ⟨σ,H,I,w0⟩);rintro n s1 ⟨σ1,H1,I1,w1⟩;refine wpAny_passesOwn hp (cj (hc af s1 σ1 H1 _ I1 (turn n σ1 H1 w1)) fun b s2 hxx=>?_);obtain⟨H2,I2,q2⟩:=hxx;cases b with
 | true=>
  obtain⟨N,hN,q2⟩:=q2;rw[if_pos rfl];refine wpAny_passesOwn hp (cj (hb af s2 σ1 H2 _ I2 q2) fun f s3 q3=>?_);cases f with
  | next=>
   obtain⟨σ3,H3,I3,n3⟩:=q3;obtain⟨m',hm,w3⟩:=hN σ3 H3 n3;exact⟨m',hm,σ3,H3,I3,w3⟩
  | cont=>
   obtain⟨σ3,H3,I3,n3⟩:=q3;obtain⟨m',hm,w3⟩:=hN σ3 H3 n3;exact⟨m',hm,σ3,H3,I3,w3⟩
  | brk=>exact q3
  | ret v=>exact q3
 | false=>
  rw[if_neg Bool.false_ne_true];exact wpAny_execs_nil ⟨σ1,H2,I2,q2⟩
end
structure It where
 go:Nat→Hp→Prop
 yld:Nat→Hp→V→Hp→Prop
 stop:Nat→Hp→Prop
def l5 (X:Cx)(af:List (Addr×Obj))(H:Hp)(b:Addr):Prop:=
 H b=none∧b≠X.env.locals∧b∉X.fs∧(b∈X.ex∨X.s₀.heap.objs.size≤b)∧(∀x c,X.env.cells.lookup x=some c→c≠b)∧∀p∈X.pn++af,p.1≠b
theorem Inv.fpOk {X:Cx}{af:List (Addr×Obj)}{σ:St}{H H':Hp}{s:Shared}{b:Addr}(I:Inv X af σ H s)(hb:s.heap.objs.size≤b)(hn:H' b=none):l5 X af H' b:=by
 refine⟨hn,Nat.ne_of_gt (Nat.lt_of_lt_of_le I.lt hb),I.nofs hb,.inr (Nat.le_trans I.sz hb),fun x c e z=>?_,fun p hp z=>?_⟩
 ·obtain⟨v,q⟩:=I.cell x c e;exact absurd (Nat.lt_of_lt_of_le q.lt (by rw[z];exact hb)) (Nat.lt_irrefl _)
 ·exact absurd (Nat.lt_of_lt_of_le (Heap.lt_size (I.pin p hp).1) (by rw[z];exact hb)) (Nat.lt_irrefl _)
structure vK (P:Program)(w:World)(K:W.Frag)(tg:Expr)(J:It)(fp:List Addr)(it:Addr)(tn:Nat→Heap→Prop):Prop where
 mem:it∈fp
 obj:∀i h,tn i h→∀b∈fp,∃o,h.get? b=some o∧∀v,o.data≠.cell v
 keep:∀i h h',tn i h→(∀b∈fp,∀o,h.get? b=some o→h'.get? b=some o)→tn i h'
 item:∀(X:Cx),X.prog=P→X.w=w→X.K=K→X.calm=true→∀(i:Nat) (af:List (Addr×Obj)) (s:Shared) (σ:St) (H:Hp) (E:Value→Shared→Prop),Inv X af σ H s→(∀b∈fp,l5 X af H b)→tn i s.heap→J.go i H→
  wpAny (model P w) X.A (pyNext (.ref it)) (fun r s1=>∃u,r=some u∧
   wpAny (model P w) X.A (letOwnedTupleGo tg (.ref it) u) (fun _ s2=>∃x H',Inv X af σ H' s2∧RelV x u∧J.yld i H x H'∧tn (i+1) s2.heap∧∀b∈fp,H' b=none) E s1) E s
 done:∀(X:Cx),X.prog=P→X.w=w→X.K=K→X.calm=true→∀(i:Nat) (af:List (Addr×Obj)) (s:Shared) (σ:St) (H:Hp) (E:Value→Shared→Prop),Inv X af σ H s→(∀b∈fp,l5 X af H b)→tn i s.heap→J.stop i H→
  wpAny (model P w) X.A (pyNext (.ref it)) (fun r s1=>r=none∧Inv X af σ H s1) E s
 self:∀(A:Around) (i:Nat) (s:Shared) (Q:Value→Shared→Prop) (E:Value→Shared→Prop),tn i s.heap→Q (.ref it) s→wpAny (model P w) A (pyIter (.ref it)) Q E s
abbrev TI:=St→Hp→(It→Hp→Prop)→Prop
def JF (X:Cx)(af:List (Addr×Obj))(σ:St)(tg:Expr)(R:It→Hp→Prop)(itv:Value)(s2:Shared):Prop:=
 ∃(it:Addr) (fp:List Addr) (tn:Nat→Heap→Prop) (J:It) (H':Hp),itv=.ref it∧Inv X af σ H' s2∧vK X.prog X.w X.K tg J fp it tn∧tn 0 s2.heap∧(∀b∈fp,l5 X af H' b)∧R J H'
def PI (X:Cx)(tg iter:Expr)(wi:TI):Prop:=
 ∀(af:List (Addr×Obj)) (s:Shared) (σ:St) (H:Hp) (R:It→Hp→Prop),Inv X af σ H s→wi σ H R→
  wpAny (model X.prog X.w) X.A (eval iter X.env) (fun v s1=>wpAny (model X.prog X.w) X.A (pyIter v) (JF X af σ tg R) X.xe s1) X.xe s
theorem wX {M:Model}{A:Around}{E:Value→Shared→Prop}{s:Shared}{tg:Expr}{it:Addr}{u:Value}{o:Obj}{n:String}{vs:Array Value}{Q:Unit→Shared→Prop}(ho:s.heap.get? it=some o)(hc:o.cls=.type n)(hd:o.data=.fields vs)
  (hn:["enumerate","zip","dict_itemiterator","dict_reverseitemiterator","odict_iterator","itertools.zip_longest","itertools.pairwise"].contains n=false) (hQ:Q () s):wpAny M A (letOwnedTupleGo tg (.ref it) u) Q E s:=by
 unfold letOwnedTupleGo;cases tg <;> first
  | exact wpAny_pure hQ
  | (cases u <;> first
    | exact wpAny_pure hQ
    | (refine wpAny_bind (wpAny_load ho ?_)
       rw[hc,hd];show wpAny M A (if(["enumerate","zip","dict_itemiterator","dict_reverseitemiterator","odict_iterator","itertools.zip_longest","itertools.pairwise"].contains n&&vs[0]?==some (rawInt _))=true then _ else _) Q E s;rw[if_neg (by intro h;rw[hn,Bool.false_and] at h;cases h)];exact wpAny_pure hQ))
def HS (K:W.Frag)(a:Addr):It:=
 ⟨fun i H=>∃xs x,lw K H a xs∧xs[i]?=some x,fun i H x H'=>H'=H∧∀xs,lw K H a xs→xs[i]?=some x,fun i H=>∃xs,lw K H a xs∧xs.length≤i⟩
def Ja (K:W.Frag)(a:Addr):It:=
 ⟨fun i H=>∃xs x,k9 K H a xs∧xs[i]?=some x,fun i H x H'=>H'=H∧∀xs,k9 K H a xs→xs[i]?=some x,fun i H=>∃xs,k9 K H a xs∧xs.length≤i⟩
def Ib (lo:Int)(n:Nat):It:=⟨fun i _=>i<n,fun i H x H'=>H'=H∧x=.int (lo+i),fun i _=>n≤i⟩
theorem vS {P:Program}{w:World}{K:W.Frag}{tg:Expr}(a it:Addr):vK P w K tg (HS K a) [it] it (fun i h=>h.IsListIter it a i) where
 mem:=by simp
 obj:=fun i h st b hb=>by
  have e:b=it:=by simpa using hb
  subst e;obtain⟨o,e,c,d⟩:=st;exact⟨o,e,fun v z=>by rw[d] at z;cases z⟩
 keep:=fun i h h' st k=>st.at fun o e=>k it (by simp) o e
 item:=by
  intro X hP hw hK hc i af s σ H E I hf st hg;subst hP hw hK;obtain⟨xs,x,hq,hx⟩:=hg;obtain⟨its,rv,p,hz⟩:=I.list hq;obtain⟨u,hu,ru⟩:=rv.get hx;obtain⟨f0,f1,f2,f3,f4,f5⟩:=hf it (by simp);refine wpAny_pyNext_list_item st p.isList (x:=u) (by simpa using hu) fun h' st' sb=>?_
  have I1:Inv X af σ H {s with heap:=h'}:=I.turned (t':=s.toks) (fun b o hb e=>(sb.2 b hb).trans e) f0 f1 f3 f4 f5;obtain⟨o,e,c,d⟩:=id st';exact⟨u,rfl,wX (s:={s with heap:=h'}) e c d (by decide) ⟨x,H,I1,ru,⟨rfl,fun ys hy=>by rw[I.list_inj hy hq];exact hx⟩,st',fun b hb=>(hf b hb).1⟩⟩
 done:=by
  intro X hP hw hK hc i af s σ H E I hf st hg;subst hP hw hK;obtain⟨xs,hq,hx⟩:=hg;obtain⟨its,rv,p,hz⟩:=I.list hq;obtain⟨f0,f1,f2,f3,f4,f5⟩:=hf it (by simp);have hl:=rv.length;exact wpAny_pyNext_list_end (I.ok.hd hc) st p.isList (by simp;omega) fun h' eb=>⟨rfl,I.turned (t':=s.toks) (fun b o hb e=>eb b o hb e) f0 f1 f3 f4 f5⟩
 self:=fun _ _ _ _ _ st h=>wpAny_pyIter_listiter st h
theorem tJ {P:Program}{w:World}{K:W.Frag}{tg:Expr}(a it:Addr):vK P w K tg (Ja K a) [it] it (fun i h=>h.IsTupleIter it a i) where
 mem:=by simp
 obj:=fun i h st b hb=>by
  have e:b=it:=by simpa using hb
  subst e;obtain⟨o,e,c,d⟩:=st;exact⟨o,e,fun v z=>by rw[d] at z;cases z⟩
 keep:=fun i h h' st k=>st.at fun o e=>k it (by simp) o e
 item:=by
  intro X hP hw hK hc i af s σ H E I hf st hg;subst hP hw hK;obtain⟨xs,x,hq,hx⟩:=hg;obtain⟨its,rv,p,hz⟩:=I.tuple hq;obtain⟨u,hu,ru⟩:=rv.get hx;obtain⟨f0,f1,f2,f3,f4,f5⟩:=hf it (by simp);refine wpAny_pyNext_tuple_item st (show s.heap.IsTuple a its.toArray from p) (x:=u) (by simpa using hu) fun h' st' sb=>?_
  have I1:Inv X af σ H {s with heap:=h'}:=I.turned (t':=s.toks) (fun b o hb e=>(sb.2 b hb).trans e) f0 f1 f3 f4 f5;obtain⟨o,e,c,d⟩:=id st';exact⟨u,rfl,wX (s:={s with heap:=h'}) e c d (by decide) ⟨x,H,I1,ru,⟨rfl,fun ys hy=>by rw[I.tuple_inj hy hq];exact hx⟩,st',fun b hb=>(hf b hb).1⟩⟩
 done:=by
  intro X hP hw hK hc i af s σ H E I hf st hg;subst hP hw hK;obtain⟨xs,hq,hx⟩:=hg;obtain⟨its,rv,p,hz⟩:=I.tuple hq;obtain⟨f0,f1,f2,f3,f4,f5⟩:=hf it (by simp);have hl:=rv.length;exact wpAny_pyNext_tuple_end (I.ok.hd hc) st (show s.heap.IsTuple a its.toArray from p) (by simp;omega) fun h' eb=>⟨rfl,I.turned (t':=s.toks) (fun b o hb e=>eb b o hb e) f0 f1 f3 f4 f5⟩
 self:=fun _ _ _ _ _ st h=>wpAny_pyIter_tupleiter st h
theorem sJ {P:Program}{w:World}{K:W.Frag}{tg:Expr}(it:Addr)(lo:Int)(n:Nat):vK P w K tg (Ib lo n) [it] it (fun i h=>IsRangeIter h it (lo+(i:Nat)*1) ((n:Int)-(i:Nat)) 1) where
 mem:=by simp
 obj:=fun i h st b hb=>by
  have e:b=it:=by simpa using hb
  subst e;exact⟨_,st,fun v z=>by
   have z':Data.fields _=Data.cell v:=z;cases z'⟩
 keep:=fun i h h' st k=>k it (by simp) _ st
 item:=by
  intro X hP hw hK hc i af s σ H E I hf st hg;subst hP hw hK;obtain⟨f0,f1,f2,f3,f4,f5⟩:=hf it (by simp);have W:=Walks.range (prog:=X.prog) (w:=X.w) (I.ok.hd hc) it lo 1 n;refine W.item i s _ _ hg st fun v h' tk hv st' kk=>?_
  obtain⟨t,rfl⟩:=hv;have I1:Inv X af σ H {s with heap:=h',toks:=tk}:=I.turned (fun b o hb e=>kk b o (by simpa using hb) e) f0 f1 f3 f4 f5;refine⟨_,rfl,wX (s:={s with heap:=h',toks:=tk}) (n:="range_iterator") st' rfl rfl (by decide) ⟨.int (lo+i),H,I1,⟨t,?_⟩,⟨rfl,rfl⟩,st',fun b hb=>(hf b hb).1⟩⟩;rw[Int.mul_one]
 done:=by
  intro X hP hw hK hc i af s σ H E I hf st hg;subst hP hw hK;obtain⟨f0,f1,f2,f3,f4,f5⟩:=hf it (by simp);exact wpAny_pyNext_range_end (I.ok.hd hc) st (by have:n≤i:=hg;omega) fun h' eb=>⟨rfl,I.turned (t':=s.toks) (fun b o hb e=>eb b o hb e) f0 f1 f3 f4 f5⟩
 self:=fun _ _ _ _ _ st h=>wpAny_pyIter_rangeiter st h
section
variable {X:Cx}{tg:Expr}
theorem wQ {af:List (Addr×Obj)}{σ:St}{H:Hp}{s:Shared}{R:It→Hp→Prop}{E:Value→Shared→Prop}{lo hi:Int}{t u v:Tok}{tk:Nat}(I:Inv X af σ H s)(h1:-(2 ^ 62)≤lo)(h2:lo<2 ^ 62)(h3:-(2 ^ 62)≤hi)(h4:hi<2 ^ 62)
  (q:R (Ib lo (hi-lo).toNat) H):wpAny (model X.prog X.w) X.A (pyIter (.ref s.heap.objs.size)) (JF X af σ tg R) E {s with heap:=s.heap.push {cls:=.type "range",data:=.fields #[.int lo t,.int hi u,.int 1 v]},toks:=tk}:=by
 refine wpAny_pyIter_range (IsRange.new ..) (small_one h1 h2 h3 h4) ?_;have I1:Inv X af σ H {s with heap:=s.heap.push {cls:=.type "range",data:=.fields #[.int lo t,.int hi u,.int 1 v]},toks:=tk}:=I.kept fun b o e=>Heap.get?_push_of_some _ e
 refine⟨(s.heap.push {cls:=.type "range",data:=.fields #[.int lo t,.int hi u,.int 1 v]}).objs.size,[(s.heap.push {cls:=.type "range",data:=.fields #[.int lo t,.int hi u,.int 1 v]}).objs.size],_,_,H,rfl,
  I1.kept (t':=tk) fun b o e=>Heap.get?_push_of_some _ e,sJ _ lo (hi-lo).toNat,?_,fun b hb=>?_,q⟩
 ·have e1:lo+((0:Nat):Int)*1=lo:=by simp
  have e2:(((hi-lo).toNat:Nat):Int)-((0:Nat):Int)=Builtin.Range.rangeSize lo hi 1:=by rw[rangeSize_one];split <;> omega
  show IsRangeIter _ _ (lo+((0:Nat):Int)*1) ((((hi-lo).toNat:Nat):Int)-((0:Nat):Int)) 1;rw[e1,e2];exact Heap.get?_push_size _ rfl
 ·have e:b=(s.heap.push {cls:=.type "range",data:=.fields #[.int lo t,.int hi u,.int 1 v]}).objs.size:=by simpa using hb
  subst e;exact I1.fpOk (Nat.le_refl _) (I1.hok.fresh (Nat.le_refl _))
def FH (ta:TA):TI:=fun σ H R=>ta σ H fun vs H1=>∃j:Int,vs=[.int j]∧-(2 ^ 62)≤j∧j<2 ^ 62∧R (Ib 0 j.toNat) H1
theorem wv {a:Expr}{ta:TA}{p pos:Pos}(hg:Gl X "range")(hm:X.mg "range"=none)(ha:PA X [a] ta)(hs:starEach [a] X.env=[(false,eval a X.env)]:=by rfl):PI X tg (.Call (.Name "range" p) [a] [] pos) (FH ta):=by
 intro af s σ H R I h;refine Call_ (nl I hg hm boot_range (PyProof.Rows.callWith_type1 (cj (ha pos af s σ H _ I h) fun us s1 hxx=>?_) hs rfl));obtain⟨vs,H1,I1,r1,q1⟩:=hxx;obtain⟨j,e,q1,q2,q⟩:=q1;subst e;cases r1 with
 | cons r rr=>
  cases rr;obtain⟨t,rfl⟩:=r;exact call_range_1 (wQ I1 (by omega) (by omega) q1 q2 (by simpa using q))
def Jl (wi:TI)(g:TG)(tb:TS):TS:=fun D σ H=>wi σ H fun J H1=>∃W:Nat→Nat→St→Hp→Prop,(∃m,W 0 m σ H1)∧∀i m σ H,W i m σ H→
 (J.stop i H∧D.nx σ H)∨(J.go i H∧∃N:St→Hp→Prop,(∀σ' H',N σ' H'→∃m',m'<m∧W (i+1) m' σ' H')∧∀x H',J.yld i H x H'→g x σ H' fun σ2 H2=>tb {D with nx:=N,ct:=N,bk:=D.nx} σ2 H2)
def nc (fp:List Addr)(h:Heap):List (Addr×Obj):=fp.filterMap fun b=>(h.get? b).map fun o=>(b,o)
theorem iu {fp:List Addr}{h:Heap}{b:Addr}{o:Obj}(hb:b∈fp)(e:h.get? b=some o):(b,o)∈nc fp h:=mem_filterMap.mpr ⟨b,hb,by rw[e];rfl⟩
theorem vM {fp:List Addr}{h:Heap}{p:Addr×Obj}(hp:p∈nc fp h):p.1∈fp∧h.get? p.1=some p.2:=by
 obtain⟨b,hb,e⟩:=mem_filterMap.mp hp;cases q:h.get? b with
 | none=>rw[q] at e;cases e
 | some o=>
  rw[q] at e;have e':(b,o)=p:=Option.some.inj e;subst e';exact⟨hb,q⟩
theorem Inv.pinned {af:List (Addr×Obj)}{σ:St}{H:Hp}{s:Shared}{fp:List Addr}(I:Inv X af σ H s)(hf:∀b∈fp,l5 X af H b)(ho:∀b∈fp,∃o,s.heap.get? b=some o∧∀v,o.data≠.cell v):Inv X (af++nc fp s.heap) σ H s:=
 I.pins_of fun p hp=>(mem_append.mp hp).elim (fun z=>I.pin p (mem_append_right _ z)) fun z=>by
  obtain⟨hb,e⟩:=vM z;obtain⟨f0,f1,f2,_⟩:=hf p.1 hb;obtain⟨o,e',d⟩:=ho p.1 hb;rw[e] at e';cases e';exact⟨e,f0,f1,f2,d⟩
theorem Inv.unpinned {af pl:List (Addr×Obj)}{σ:St}{H:Hp}{s:Shared}(I:Inv X (af++pl) σ H s):Inv X af σ H s:=I.pins_of fun p hp=>I.pin p (mem_append_right _ (mem_append_left _ hp))
theorem DX {iter:Expr}{body:List Stmt}{wi:TI}{g:TG}{tb:TS}{pos:Pos}(hp:PassesOwn (model X.prog X.w) X.A X.env X.xe)(hc:X.calm=true)(hi:PI X tg iter wi)(hg:PG X tg g)(hb:PSs X body tb)
  (hs:∀x,foldedSetIterable iter X.env x=pure x:=by intro _;rfl):PS X (.For tg iter body [] pos) (Jl wi g tb):=by
 intro af s σ H D I h;refine wpAny_For (cj (hi af s σ H _ I h) fun v s1 h1=>cj h1 fun itv s2 h2=>?_) hs;obtain⟨it,fp,tn,J,H2,e,I2,T,st2,f2,W,⟨m0,w0⟩,turn⟩:=h2;subst e;have stat:∀{H':Hp},(∀b∈fp,H' b=none)→∀b∈fp,l5 X af H' b:=fun hn b hb=>⟨hn b hb,(f2 b hb).2⟩
 refine codeAny_forLoop_any (fun n s'=>∃i σ' H',Inv X af σ' H' s'∧tn i s'.heap∧(∀b∈fp,H' b=none)∧W i n σ' H') ?_ m0 ⟨0,σ,H2,I2,st2,fun b hb=>(f2 b hb).1,w0⟩;rintro n s3 ⟨i,σ3,H3,I3,st3,fr3,w3⟩;rcases turn i n σ3 H3 w3 with⟨stop,qn⟩|⟨go,N,hN,step⟩
 ·refine wpAny_passesOwn hp (cj (T.done X rfl rfl rfl hc i af s3 σ3 H3 X.xe I3 (stat fr3) st3 stop) fun r s4 hxx=>?_);obtain⟨hr,I4⟩:=hxx;subst hr;exact wpAny_execs_nil ⟨σ3,H3,I4,qn⟩
 ·refine wpAny_passesOwn hp (cj (T.item X rfl rfl rfl hc i af s3 σ3 H3 X.xe I3 (stat fr3) st3 go) fun r s4 hxx=>?_);obtain⟨u,hr,h4⟩:=hxx;subst hr;refine wpAny_passesOwn hp (cj h4 fun _ s5 hxx=>?_);obtain⟨x,H5,I5,r5,y5,st5,fr5⟩:=hxx;have I5':=I5.pinned (stat fr5) (T.obj _ _ st5);refine wpAny_passesOwn hp (cj (hg _ s5 σ3 H5 x u _ I5' r5 (step x H5 y5)) fun _ s6 hxx=>?_);obtain⟨σ6,H6,I6,q6⟩:=hxx;refine wpAny_passesOwn hp (cj (hb _ s6 σ6 H6 _ I6 q6) fun f s7 q7=>?_);have again:∀{σ7:St} {H7:Hp},Inv X (af++nc fp s5.heap) σ7 H7 s7→N σ7 H7→∃m,m<n∧∃i σ' H',Inv X af σ' H' s7∧tn i s7.heap∧(∀b∈fp,H' b=none)∧W i m σ' H':=fun {σ7 H7} I7 n7=>by
   obtain⟨m',hm,w7⟩:=hN σ7 H7 n7;refine⟨m',hm,i+1,σ7,H7,I7.unpinned,T.keep _ _ _ st5 fun b hb o e=>(I7.pin (b,o) (mem_append_right _ (mem_append_right _ (iu hb e)))).1,fun b hb=>?_,w7⟩;obtain⟨o,e,d⟩:=T.obj _ _ st5 b hb;exact(I7.pin (b,o) (mem_append_right _ (mem_append_right _ (iu hb e)))).2.1
  cases f with
  | next=>obtain⟨σ7,H7,I7,n7⟩:=q7;exact again I7 n7
  | cont=>obtain⟨σ7,H7,I7,n7⟩:=q7;exact again I7 n7
  | brk=>obtain⟨σ7,H7,I7,q7⟩:=q7;exact⟨σ7,H7,I7.unpinned,q7⟩
  | ret v=>obtain⟨x7,σ7,H7,I7,r7,q7⟩:=q7;exact⟨x7,σ7,H7,I7.unpinned,r7,q7⟩
end
abbrev R2:=V→V→Hp→VK→Prop
def fY (X:Cx)(f:Value→Value→Sem Value)(r:R2):Prop:=
 ∀(af:List (Addr×Obj)) (s:Shared) (σ:St) (H:Hp) (x y:V) (v u:Value) (Q:VK),Inv X af σ H s→RelV x v→RelV y u→r x y H Q→
  wpAny (model X.prog X.w) X.A (f v u) (EP X af σ Q) X.xe s
def JA (X:Cx)(f:Value→Sem Value)(r:V→Hp→VK→Prop):Prop:=
 ∀(af:List (Addr×Obj)) (s:Shared) (σ:St) (H:Hp) (x:V) (v:Value) (Q:VK),Inv X af σ H s→RelV x v→r x H Q→
  wpAny (model X.prog X.w) X.A (f v) (EP X af σ Q) X.xe s
def cF (X:Cx)(f:Value)(r:List V→Hp→VK→Prop):Prop:=
 ∀(af:List (Addr×Obj)) (s:Shared) (σ:St) (H:Hp) (xs:List V) (us:List Value) (Q:VK),Inv X af σ H s→aK xs us→r xs H Q→
  wpAny (model X.prog X.w) X.A (call f us) (EP X af σ Q) X.xe s
def Jt (X:Cx)(r:V→Hp→(Bool→Hp→Prop)→Prop):Prop:=
 ∀(af:List (Addr×Obj)) (s:Shared) (σ:St) (H:Hp) (x:V) (v:Value) (Q:Bool→Hp→Prop),Inv X af σ H s→RelV x v→r x H Q→
  wpAny (model X.prog X.w) X.A (truthy v) (TP X af σ Q) X.xe s
def FQ (r:R2)(ta tb:TE):TE:=fun σ H Q=>ta σ H fun x H1=>tb σ H1 fun y H2=>r x y H2 Q
def JV (r:V→Hp→VK→Prop)(ta:TE):TE:=fun σ H Q=>ta σ H fun x H1=>r x H1 Q
def rI (C:Int→Int→Prop)(g:Int→Int→V):R2:=fun x y H Q=>∃i j,x=.int i∧y=.int j∧C i j∧Q (g i j) H
def B2 (g:Int→Int→V):R2:=fun x y H Q=>∃i j,x=.int i∧y=.int j∧Q (g i j) H
def rU (g:Int→V):V→Hp→VK→Prop:=fun x H Q=>∃i,x=.int i∧Q (g i) H
section
variable {X:Cx}{a b c:Expr}{ta tb tc:TE}{pos:Pos}
theorem EM (ha:PE X a ta)(hb:PE X b tb){af:List (Addr×Obj)}{s:Shared}{σ:St}{H:Hp}{R:V→V→Hp→Prop}(I:Inv X af σ H s)
  (h:ta σ H fun x H1=>tb σ H1 fun y H2=>R x y H2) {Q:Value→Shared→Prop} {f:Value→Value→Sem Value}
  (hf:∀v u s2 x y H2,Inv X af σ H2 s2→RelV x v→RelV y u→R x y H2→wpAny (model X.prog X.w) X.A (f v u) Q X.xe s2) :
  wpAny (model X.prog X.w) X.A (eval a X.env) (fun v s₁=>wpAny (model X.prog X.w) X.A (eval b X.env) (fun u s₂=>wpAny (model X.prog X.w) X.A (f v u) Q X.xe s₂) X.xe s₁) X.xe s:=by
 refine cj (ha af s σ H _ I h) fun v s1 hxx=>?_
 obtain⟨x,H1,I1,r1,q1⟩:=hxx;refine cj (hb af s1 σ H1 _ I1 q1) fun u s2 hxx=>?_
 obtain⟨y,H2,I2,r2,q2⟩:=hxx;exact hf v u s2 x y H2 I2 r1 r2 q2
theorem Fu {op:Operator}{r:R2}(ho:fY X (binaryOp op) r)(ha:PE X a ta)(hb:PE X b tb):PE X (.BinOp a op b pos) (FQ r ta tb):=by
 intro af s σ H Q I h;exact wpAny_BinOp (EM ha hb I h fun v u s2 x y H2 I2 rx ry q=>ho af s2 σ H2 x y v u Q I2 rx ry q)
theorem Cq {op:UnaryOp}{r:V→Hp→VK→Prop}(ho:JA X (unaryOp op) r)(ha:PE X a ta):PE X (.UnaryOp op a pos) (JV r ta):=by
 intro af s σ H Q I h;exact UnaryOp_ (cj (ha af s σ H _ I h) fun v s1 ⟨x,H1,I1,r1,q1⟩=>ho af s1 σ H1 x v Q I1 r1 q1)
theorem Jb {f:Value→Value→Sem Value}{C:Int→Int→Prop}{g:Int→Int→Int}
  (rule:∀(i j:Int) (t u:Tok) (s:Shared) (Q:Value→Shared→Prop) (E:Value→Shared→Prop),C i j→Q (.int (g i j) s.toks) {s with toks:=s.toks+1}→wpAny (model X.prog X.w) X.A (f (.int i t) (.int j u)) Q E s) :
  fY X f (rI C fun i j=>.int (g i j)):=by
 intro af s σ H x y v u Q I rx ry h;obtain⟨i,j,rfl,rfl,hc,q⟩:=h;obtain⟨t,rfl⟩:=rx;obtain⟨t',rfl⟩:=ry;exact rule i j t t' s _ _ hc ⟨.int (g i j),H,I.tok _,⟨_,rfl⟩,q⟩
theorem GV {f:Value→Value→Sem Value}{g:Int→Int→Int}
  (rule:∀(i j:Int) (t u:Tok) (s:Shared) (Q:Value→Shared→Prop) (E:Value→Shared→Prop),Q (.int (g i j) s.toks) {s with toks:=s.toks+1}→wpAny (model X.prog X.w) X.A (f (.int i t) (.int j u)) Q E s) :
  fY X f (B2 fun i j=>.int (g i j)):=by
 intro af s σ H x y v u Q I rx ry h;obtain⟨i,j,rfl,rfl,q⟩:=h;obtain⟨t,rfl⟩:=rx;obtain⟨t',rfl⟩:=ry;exact rule i j t t' s _ _ ⟨.int (g i j),H,I.tok _,⟨_,rfl⟩,q⟩
theorem BW {f:Value→Value→Sem Value}{g:Int→Int→Bool}
  (rule:∀(i j:Int) (t u:Tok) (s:Shared) (Q:Value→Shared→Prop) (E:Value→Shared→Prop),Q (.bool (g i j)) s→wpAny (model X.prog X.w) X.A (f (.int i t) (.int j u)) Q E s) :
  fY X f (B2 fun i j=>.bl (g i j)):=by
 intro af s σ H x y v u Q I rx ry h;obtain⟨i,j,rfl,rfl,q⟩:=h;obtain⟨t,rfl⟩:=rx;obtain⟨t',rfl⟩:=ry;exact rule i j t t' s _ _ ⟨.bl (g i j),H,I,rfl,q⟩
def IJ (i j:Int):Prop:=0≤j∧j≤1000000∧i.natAbs<2 ^ 64
def Eg (i j:Int):Prop:=(-(2 ^ 64)<i∧i<2 ^ 64)∨(-(2 ^ 64)<j∧j<2 ^ 64)
theorem Eg.ok {i j:Int}(h:Eg i j):IntMulOk i j:=by
 rcases h with⟨h1,h2⟩|⟨h1,h2⟩
 ·exact .of_left (intBits_le_64 h1 h2)
 ·exact .of_right (intBits_le_64 h1 h2)
theorem DW:fY X (binaryOp .Add) (B2 fun i j=>.int (i+j)):=GV fun _ _ _ _ _ _ _ q=>add_int q
theorem CK:fY X (binaryOp .Sub) (B2 fun i j=>.int (i-j)):=GV fun _ _ _ _ _ _ _ q=>sub_int q
theorem CB:fY X (binaryOp .Mult) (rI Eg fun i j=>.int (i*j)):=Jb fun _ _ _ _ _ _ _ hc q=>mul_int q hc.ok
theorem C1:fY X (binaryOp .Mod) (rI (fun _ j=>0<j) fun i j=>.int (i % j)):=Jb fun i j _ _ _ _ _ hc q=>by
 have h1:(0:Int)<j:=hc;exact mod_int' (by omega) (by rw[Int.fmod_eq_emod_of_nonneg i (by omega)];exact q)
theorem EA:fY X (binaryOp .Pow) (rI IJ fun i j=>.int (i ^ j.toNat)):=Jb fun _ _ _ _ _ _ _ hc q=>pow_int_small hc.1 hc.2.1 hc.2.2 q
theorem JP {f:Value→Sem Value}{g:Int→Int}
  (rule:∀(i:Int) (t:Tok) (s:Shared) (Q:Value→Shared→Prop) (E:Value→Shared→Prop),Q (.int (g i) s.toks) {s with toks:=s.toks+1}→wpAny (model X.prog X.w) X.A (f (.int i t)) Q E s) :
  JA X f (rU fun i=>.int (g i)):=by
 intro af s σ H x v Q I rx h;obtain⟨i,rfl,q⟩:=h;obtain⟨t,rfl⟩:=rx;exact rule i t s _ _ ⟨.int (g i),H,I.tok _,⟨_,rfl⟩,q⟩
theorem xK:JA X (unaryOp .USub) (rU fun i=>.int (-i)):=JP fun _ _ _ _ _ q=>neg_int q
end
section
variable {X:Cx}{a b c:Expr}{ta tb tc:TE}{pos:Pos}
theorem Hu:fY X (compareOp .Lt) (B2 fun i j=>.bl (decide (i<j))):=BW fun _ _ _ _ _ _ _ q=>lt_int q
theorem Fw:fY X (compareOp .LtE) (B2 fun i j=>.bl (decide (i≤j))):=BW fun _ _ _ _ _ _ _ q=>le_int q
theorem Gw:fY X (compareOp .Gt) (B2 fun i j=>.bl (decide (j<i))):=BW fun _ _ _ _ _ _ _ q=>gt_int q
theorem GR:fY X (compareOp .GtE) (B2 fun i j=>.bl (decide (j≤i))):=BW fun _ _ _ _ _ _ _ q=>ge_int q
def HP:HO→Bool
 | .lst _=>true
 | .ins _ _ _=>true
 | _=>false
theorem Fd {af:List (Addr×Obj)}{s:Shared}{σ:St}{H:Hp}{a:Addr}{o:HO}(I:Inv X af σ H s)(h:H a=some o)(p:HP o=true):∃ob,s.heap.get? a=some ob∧ob.cls≠.type "tuple":=by
 cases o with
 | lst xs=>
  obtain⟨_,its,n,_,e⟩:xs.length≤sizeLine∧∃(its:List Value) (n:Nat),aK xs its∧s.heap.get? a=some {cls:=.type "list",data:=.seq its.toArray n}:=I.hok a _ h;exact⟨_,e,(by show Value.type "list"≠.type "tuple";decide +kernel)⟩
 | ins C dx fs=>
  have x:=I.hok a _ h;obtain⟨_,_,_,e,_⟩:=x;exact⟨_,e,(by show Value.ref C≠.type "tuple";exact fun z=>by cases z)⟩
 | _=>exact absurd (show false=true from p) Bool.false_ne_true
theorem ER (b:Expr){op:CmpOp}(h:op≠.In:=by decide)(h2:op≠.NotIn:=by decide):behindInMarks op b=false:=by
 have e1:(op==CmpOp.In)=false:=by cases op <;> first|rfl|exact absurd rfl h
 have e2:(op==CmpOp.NotIn)=false:=by cases op <;> first|rfl|exact absurd rfl h2
 cases b <;> simp[behindInMarks,e1,e2]
theorem Bo {op:CmpOp}{r:R2}(ho:fY X (compareOp op) r)(ha:PE X a ta)(hb:PE X b tb)(hm:behindInMarks op b=false):PE X (.Compare a [op] [b] pos) (FQ r ta tb):=by
 intro af s σ H Q I h;exact wpAny_Compare1 (EM ha hb I h fun v u s2 x y H2 I2 rx ry q=>ho af s2 σ H2 x y v u Q I2 rx ry q) hm
def Ca (t:TE):TT:=fun σ H Q=>t σ H fun x H'=>∃k,x=.bl k∧Q k H'
theorem AD {op:CmpOp}{r:R2}(ho:fY X (compareOp op) r)(ha:PE X a ta)(hb:PE X b tb)(hm:behindInMarks op b=false):PT X (.Compare a [op] [b] pos) (Ca (FQ r ta tb)):=by
 intro af s σ H Q I h;refine wpAny_isTrue_Compare1 (cj (ha af s σ H _ I h) fun v s1 ⟨x,H1,I1,r1,q1⟩=>cj (hb af s1 σ H1 _ I1 q1) fun u s2 ⟨y,H2,I2,r2,q2⟩=>
  cj (ho af s2 σ H2 x y v u _ I2 r1 r2 q2) fun c s3 hxx=>?_) hm
 obtain⟨z,H3,I3,r3,k,e,q3⟩:=hxx;subst e;cases r3;exact wpAny_truthy_bool ⟨H3,I3,q3⟩
def sr (r r':R2)(ta tb tc:TE):TE:=fun σ H Q=>ta σ H fun x H1=>tb σ H1 fun y H2=>r x y H2 fun z H3=>∃k,z=.bl k∧
 (if k=true then tc σ H3 fun w' H4=>r' y w' H4 Q else Q (.bl false) H3)
theorem yq {op op':CmpOp}{r r':R2}(ho:fY X (compareOp op) r)(ho':fY X (compareOp op') r')(ha:PE X a ta)(hb:PE X b tb)(hc:PE X c tc)
  (hm:lastMarks [op,op'] [b,c]=false:=by with_unfolding_all rfl):PE X (.Compare a [op,op'] [b,c] pos) (sr r r' ta tb tc):=by
 intro af s σ H Q I h;refine Compare_chain (cj (ha af s σ H _ I h) fun v s1 ⟨x,H1,I1,r1,q1⟩=>chain_link (cj (hb af s1 σ H1 _ I1 q1) fun u s2 ⟨y,H2,I2,r2,q2⟩=>
  cj (ho af s2 σ H2 x y v u _ I2 r1 r2 q2) fun d s3 hxx=>?_)) hm
 obtain⟨z,H3,I3,r3,k,e,q3⟩:=hxx;subst e;cases r3;refine wpAny_truthy_bool ?_;cases k with
 | false=>exact ite_ff ⟨.bl false,H3,I3,rfl,q3⟩
 | true=>exact ite_tt (chain_last (cj (hc af s3 σ H3 _ I3 q3) fun w' s4 ⟨z',H4,I4,r4,q4⟩=>ho' af s4 σ H4 y z' u w' Q I4 r2 r4 q4))
theorem yz {op op':CmpOp}{r r':R2}(ho:fY X (compareOp op) r)(ho':fY X (compareOp op') r')(ha:PE X a ta)(hb:PE X b tb)(hc:PE X c tc)
  (hm:lastMarks [op,op'] [b,c]=false:=by with_unfolding_all rfl):PT X (.Compare a [op,op'] [b,c] pos) (Ca (sr r r' ta tb tc)):=by
 intro af s σ H Q I h;refine isTrue_chain (cj (ha af s σ H _ I h) fun v s1 ⟨x,H1,I1,r1,q1⟩=>test_link (cj (hb af s1 σ H1 _ I1 q1) fun u s2 ⟨y,H2,I2,r2,q2⟩=>
  cj (ho af s2 σ H2 x y v u _ I2 r1 r2 q2) fun d s3 hxx=>?_)) hm
 obtain⟨z,H3,I3,r3,k,e,q3⟩:=hxx;subst e;cases r3;refine wpAny_truthy_bool ?_;cases k with
 | false=>
  obtain⟨k',e',q'⟩:=q3;cases e';exact ite_ff ⟨H3,I3,q'⟩
 | true=>
  refine ite_tt (test_last (cj (hc af s3 σ H3 _ I3 q3) fun w' s4 ⟨z',H4,I4,r4,q4⟩=>cj (ho' af s4 σ H4 y z' u w' _ I4 r2 r4 q4) fun d' s5 hxx=>?_));obtain⟨z2,H5,I5,r5,k2,e2,q5⟩:=hxx;subst e2;cases r5;exact wpAny_truthy_bool ⟨H5,I5,q5⟩
def Hv (K:W.Frag)(x:V)(H:Hp)(k:Bool):Prop:=
 match x with
 | .non=>k=false
 | .bl b=>k=b
 | .int i=>k=(i != 0)
 | .str y=>y.length≤sizeLine∧k=((y.length:Int) != 0)
 | .byt y=>y.size≤sizeLine∧k=((y.size:Int) != 0)
 | .ref p=>(∃xs,lw K H p xs∧k=!xs.isEmpty)∨(∃xs,k9 K H p xs∧k=!xs.isEmpty)∨∃kvs,H p=some (.dK kvs)∧k=!kvs.isEmpty
 | _=>False
theorem tz {κ:Type}{kvs:List (κ×V)}{vs:List (κ×Value)}(r:KV kvs vs):(!vs.isEmpty)=!kvs.isEmpty:=by
 cases r <;> rfl
theorem my {xs:List V}{its:List Value}(r:aK xs its):(!its.toArray.isEmpty)=!xs.isEmpty:=by
 cases r <;> simp
theorem jO:(sizeLine:Nat)<2 ^ 63:=by rw[sizeLine_eq];decide
theorem Dy:Jt X (fun x H Q=>∃k,Hv X.K x H k∧Q k H):=by
 intro af s σ H x v Q I rx h;obtain⟨k,e,q⟩:=h;have hl:=jO;have hs:sizeLine=16777216:=sizeLine_eq;cases x with
 | non=>
  cases rx;have e':k=false:=e;subst e';exact truthy_none ⟨H,I,q⟩
 | bl b=>
  cases rx;have e':k=b:=e;subst e';exact wpAny_truthy_bool ⟨H,I,q⟩
 | int i=>
  obtain⟨t,rfl⟩:=rx;have e':k=(i != 0):=e;subst e';exact PySem.P.truthy_int ⟨H,I,q⟩
 | str y=>
  obtain⟨t,rfl⟩:=rx;obtain⟨hy,e'⟩:y.length≤sizeLine∧k=((y.length:Int) != 0):=e;subst e';exact PySem.P.truthy_str (by omega) ⟨H,I.tok _,q⟩
 | byt y=>
  obtain⟨t,rfl⟩:=rx;obtain⟨hy,e'⟩:y.size≤sizeLine∧k=((y.size:Int) != 0):=e;subst e';exact W.truthy_bytes (by omega) ⟨H,I.tok _,q⟩
 | ref p=>
  cases rx;have e':(∃xs,lw X.K H p xs∧k=!xs.isEmpty)∨(∃xs,k9 X.K H p xs∧k=!xs.isEmpty)∨∃kvs,H p=some (.dK kvs)∧k=!kvs.isEmpty:=e;rcases e' with⟨xs,hx,e'⟩|⟨xs,hx,e'⟩|⟨kvs,hx,e'⟩
  ·subst e';obtain⟨its,r,pl,hz⟩:=I.list hx;have hlen:=r.length;exact wpAny_truthy_list pl.isList (by simp only[size_toArray];omega) ⟨H,I.tok _,by rw[my r];exact q⟩
  ·subst e';obtain⟨its,r,pl,hz⟩:=I.tuple hx;have hlen:=r.length;exact truthy_tuple pl (by simp only[size_toArray];omega) ⟨H,I.tok _,by rw[my r];exact q⟩
  ·subst e';obtain⟨hz,hS,vs,r,m⟩:kvs.length≤sizeLine∧(p==sysModules)=false∧∃vs,KV kvs vs∧s.heap.DictOf (cO X.prog X.w) p vs:=I.hok p _ hx;have hlen:kvs.length=vs.length:=Paired.length r;exact wpAny_truthy_dict hS m (by omega) ⟨H,I.tok _,by rw[tz r];exact q⟩
 | _=>exact(show False from e).elim
theorem xN (ha:PE X a ta)(he:∀whole,isTrue a X.env whole=(do let v ←whole;standAt a.pos;holding [v] (truthy v))) :
  PT X a (fun σ H Q=>ta σ H fun x H'=>∃k,Hv X.K x H' k∧Q k H'):=by
 intro af s σ H Q I h;exact isTrue_plain (cj (ha af s σ H _ I h) fun v s1 ⟨x,H1,I1,r1,q1⟩=>Dy af s1 σ H1 x v Q I1 r1 q1) (he _)
theorem sB:fY X (binaryOp .Add) (fun x y H Q=>∃i j,x=.str i∧y=.str j∧i.length+j.length≤sizeLine∧Q (.str (i++j)) H):=by
 intro af s σ H x y v u Q I rx ry h;obtain⟨i,j,rfl,rfl,hz,q⟩:=h;obtain⟨t,rfl⟩:=rx;obtain⟨t',rfl⟩:=ry;exact add_str (fun t' tk=>⟨.str (i++j),H,I.tok _,⟨_,rfl⟩,q⟩) hz
theorem mS {x:V}{us:List Value}(r:aK [x] us):∃u,us=[u]∧RelV x u:=by
 cases r with
 | cons r1 r2=>cases r2;exact⟨_,rfl,r1⟩
theorem ul {x y:V}{us:List Value}(r:aK [x,y] us):∃u w',us=[u,w']∧RelV x u∧RelV y w':=by
 cases r with
 | cons r1 r2=>
  cases r2 with
  | cons r3 r4=>cases r4;exact⟨_,_,rfl,r1,r3⟩
theorem vT (hc:X.calm=true):cF X (.builtin "max") (fun xs H Q=>∃i j,xs=[.int i,.int j]∧Q (.int (if j>i then j else i)) H):=by
 intro af s σ H xs us Q I r h;obtain⟨i,j,rfl,q⟩:=h;obtain⟨u,w',rfl,⟨t,rfl⟩,⟨t',rfl⟩⟩:=ul r;refine max_two_ints (I.ok.hd hc) fun h' tk k=>⟨_,H,I.kept k,?_,q⟩
 by_cases hj:j>i
 ·rw[if_pos hj,if_pos hj];exact⟨_,rfl⟩
 ·rw[if_neg hj,if_neg hj];exact⟨_,rfl⟩
theorem vj (hc:X.calm=true):cF X (.builtin "min") (fun xs H Q=>∃i j,xs=[.int i,.int j]∧Q (.int (if j<i then j else i)) H):=by
 intro af s σ H xs us Q I r h;obtain⟨i,j,rfl,q⟩:=h;obtain⟨u,w',rfl,⟨t,rfl⟩,⟨t',rfl⟩⟩:=ul r;refine min_two_ints (I.ok.hd hc) fun h' tk k=>⟨_,H,I.kept k,?_,q⟩
 by_cases hj:j<i
 ·rw[if_pos hj,if_pos hj];exact⟨_,rfl⟩
 ·rw[if_neg hj,if_neg hj];exact⟨_,rfl⟩
theorem ow:cF X (.type "int") (fun xs H Q=>(∃i,xs=[.int i]∧Q (.int i) H)∨∃k,xs=[.bl k]∧Q (.int (if k then 1 else 0)) H):=by
 intro af s σ H xs us Q I r h;rcases h with⟨i,rfl,q⟩|⟨k,rfl,q⟩
 ·obtain⟨u,rfl,t,rfl⟩:=mS r;exact call_int_int ⟨.int i,H,I,⟨_,rfl⟩,q⟩
 ·obtain⟨u,rfl,r1⟩:=mS r;cases r1;exact call_int_bool ⟨.int (if k then 1 else 0),H,I.tok _,⟨_,rfl⟩,q⟩
end
structure tQ (h:Heap)(x dx C:Addr)(mA:Str→Option Value):Prop where
 obj:h.get? x=some (W.instObj C dx)
 ns:h.Ns1 dx mA
 ne:dx≠x
theorem wc {h:Heap}{dx:Addr}{mA:Str→Option Value}(n:h.Ns1 dx mA):∃od,h.get? dx=some od∧∀name,W.lookIn name od=some (mA name):=by
 obtain⟨o,es,ep,ho,hd,hk,_,hm⟩:=n;refine⟨o,ho,fun name=>?_⟩;have e:=hm name;unfold nsFind findBy at e;rw[←Array.find?_toList] at e;unfold W.lookIn;rw[hd];dsimp only;split
 ·rename_i y q;rw[q] at e;exact congrArg some e
 ·rename_i q;rw[q] at e;have a:es.toList.any (·.refKey)=false:=by
   rw[any_eq_false];intro y hy;obtain⟨z,t,hkey⟩:=hk y (Array.mem_toList_iff.mp hy);simp[DictEntry.refKey,hkey]
  have a':¬es.toList.any (·.refKey)=true:=by rw[a];exact Bool.false_ne_true
  rw[if_neg a'];exact congrArg some e
theorem tQ.look {h:Heap}{x dx C:Addr}{mA:Str→Option Value}(I:tQ h x dx C mA):∃od,W.InstAt h x (W.instObj C dx) C (some od)∧∀name,W.lookIn name od=some (mA name):=
 let ⟨od,ho,hl⟩:=wc I.ns
 ⟨od,⟨I.obj,rfl,rfl,ho⟩,hl⟩
section
variable {prog:Program}{w:World}{A:Around}{E:Value→Shared→Prop}{s:Shared}{K:W.Frag}{x dx C f:Addr}{mA:Str→Option Value}{name:Str}{v:Value}
theorem Ag {expr:Bool}{Q:Value→Shared→Prop}(X:K.In s.heap)(I:tQ s.heap x dx C mA)(hg:W.plainGet K C name=true)(hh:W.hasDictIn K C=true)
  (ha:W.findIn K (.ref C) name=some none) (hv:mA name=some v) (hv':W.handedIn v=true) (h:Q v {s with toks:=s.toks+1}) :
  wpAny (model prog w) A (getAttr (.ref x) name expr) Q E s:=by
 obtain⟨od,J,hl⟩:=I.look;exact W.get_value X J (W.plainGet_of hg).1 (W.findObj_own hh ha rfl (by rw[hl,hv])) hv' h
theorem xM {pl:Sem Bool}{Q:Value×List Value→Shared→Prop}(X:K.In s.heap)(I:tQ s.heap x dx C mA)(hg:W.plainGet K C name=true)
  (hf:W.findIn K (.ref C) name=some (some (.ref f))) (ht:W.isFn K (.ref f)=true) (hv:mA name=none) (h:Q (.ref f,[.ref x]) s) :
  wpAny (model prog w) A (getMethod (.ref x) name pl) Q E s:=by
 obtain⟨od,J,hl⟩:=I.look;exact W.method_fn X J (W.plainGet_of hg).1 (W.plainGet_of hg).2 hf (beq_iff_eq.mp ht) (by show(W.lookIn name od).map (·.isSome)=some false;rw[hl,hv];rfl) h
theorem A5 {ns:List Str}{Q:Unit→Shared→Prop}(X:K.In s.heap)(I:tQ s.heap x dx C mA)
  (hs:W.findIn K (.ref C) "__setattr__"=some (some (.builtin "object.__setattr__"))) (hp:W.plainOver K C=true) (ht:W.takerIn K C name=some none) (hh:W.hasDictIn K C=true)
  (hw:PySem.Within mA ns) (hsz:ns.length≤sizeLine)
  (h:∀h',tQ h' x dx C (fun y=>if y=name then some v else mA y)→Heap.SameBut dx s.heap h'→Q () {s with heap:=h',toks:=s.toks+2}) :
  wpAny (model prog w) A (setAttr (.ref x) name v) Q E s:=by
 obtain⟨od,J,hl⟩:=I.look;refine W.set_plain X J hs (W.osa_open (s:={s with toks:=s.toks+1}) (r:=none) X J hp ht fun b=>?_);obtain⟨cd,hc,hd'⟩:=W.any_some hh;have hx:s.heap.get? x=some ⟨.ref C,some dx,.plain,#[]⟩:=I.obj;refine wpAny_bind (wpAny_pure (wpAny_bind (wpAny_bind (wpAny_loadPart hx (wpAny_bind (W.Looks.here (s:={s with toks:=s.toks+1}) (W.looks_clsIn X hc) ?_))))));rw[hd'];refine wpAny_pure (a:=some dx) (wpAny_bind (wpAny_pure (wpAny_bind ?_)));refine wpAny_nsSet1 (s:={s with toks:=s.toks+1}) I.ns fun h' hn2 hs2=>?_
 obtain⟨oD,esD,epD,hoD,hdD,hcD⟩:=hn2.count (PySem.Within.cons name v hw);refine wpAny_bind (wpAny_lookBehind hoD (by rw[hdD];exact pastItsLine_dict (Nat.le_trans hcD (by rw[length_cons];omega))) ?_);exact wpAny_pure (h _ ⟨(hs2.2 _ (Ne.symm I.ne)).trans I.obj,hn2,I.ne⟩ hs2)
theorem yX {R:Result→Shared→Prop}{vs:List Value}{kw:List (Str×Value)}(X:K.In s.heap)(hm:W.makesIn K C=true)
  (hi:W.findIn K (.ref C) "__init__"=some (some (.ref f))) (hf:W.typeIn K (.ref f)=some (.type "function"))
  (h:codeAny (model prog w) (A.under (.builtin "type.__call__" ⟨.ref C::vs,kw⟩)) (.call (.ref f) ⟨.ref (s.heap.objs.size+1)::vs,kw⟩) (W.InitBack (s.heap.objs.size+1) R)
   {s with heap:=(s.heap.push W.emptyDict).push (W.instObj C s.heap.objs.size)}) :
  codeAny (model prog w) A (.call (.ref C) ⟨vs,kw⟩) R s:=by
 obtain⟨hh,g,d,t,os⟩:=s;exact W.make_core (W.makes_of X hm) (W.looks_findIn X hi) (fun self=>W.bind_fn X self hf) (.inl rfl) h
end
def ik (f:Str)(v:V):List (Str×V)→List (Str×V)
 | []=>[(f,v)]
 | (g,x)::r=>if g=f then(g,v)::r else(g,x)::ik f v r
theorem lL (f g:Str)(v:V):∀fs:List (Str×V),(ik f v fs).lookup g=if g=f then some v else fs.lookup g
 | []=>by
  show List.lookup g [(f,v)]=_
  by_cases h:g=f
  ·have hb:(g==f)=true:=beq_iff_eq.mpr h;simp only[List.lookup,hb,if_pos h]
  ·have hb:(g==f)=false:=beq_eq_false_iff_ne.mpr h;simp only[List.lookup,hb,if_neg h]
 | (k,x)::r=>by
  have ih:=lL f g v r;rw[show ik f v ((k,x)::r)=(if k=f then(k,v)::r else(k,x)::ik f v r) from rfl]
  by_cases hk:k=f
  ·rw[if_pos hk]
   by_cases h:g=k
   ·have hb:(g==k)=true:=beq_iff_eq.mpr h;simp only[List.lookup,hb,if_pos (h.trans hk)]
   ·have hb:(g==k)=false:=beq_eq_false_iff_ne.mpr h;simp only[List.lookup,hb,if_neg (fun e:g=f=>h (e.trans hk.symm))]
  ·rw[if_neg hk]
   by_cases h:g=k
   ·have hb:(g==k)=true:=beq_iff_eq.mpr h;simp only[List.lookup,hb,if_neg (fun e:g=f=>hk (h.symm.trans e))]
   ·have hb:(g==k)=false:=beq_eq_false_iff_ne.mpr h;simp only[List.lookup,hb];exact ih
theorem lr (f:Str)(v:V):∀fs:List (Str×V),f∈(ik f v fs).map (·.1)∧∀g,g∈fs.map (·.1)→g∈(ik f v fs).map (·.1)
 | []=>⟨by simp[ik],fun g h=>by simp at h⟩
 | (k,x)::r=>by
  obtain⟨i1,i2⟩:=lr f v r;rw[show ik f v ((k,x)::r)=(if k=f then(k,v)::r else(k,x)::ik f v r) from rfl]
  by_cases hk:k=f
  ·rw[if_pos hk];subst hk;exact⟨by simp,fun g h=>by simpa using h⟩
  ·rw[if_neg hk];refine⟨?_,fun g h=>?_⟩
   ·rw[map_cons];exact mem_cons_of_mem _ i1
   ·rw[map_cons] at h ⊢;rcases mem_cons.mp h with e|e
    ·exact mem_cons.mpr (.inl e)
    ·exact mem_cons_of_mem _ (i2 g e)
theorem lR (f:Str)(v:V):∀fs:List (Str×V),(ik f v fs).length≤fs.length+1
 | []=>by simp[ik]
 | (k,x)::r=>by
  have ih:=lR f v r;rw[show ik f v ((k,x)::r)=(if k=f then(k,v)::r else(k,x)::ik f v r) from rfl]
  by_cases hk:k=f
  ·rw[if_pos hk,length_cons,length_cons];omega
  ·rw[if_neg hk,length_cons,length_cons];omega
theorem jD.some_of {v:V}{o:Option Value}(r:jD (some v) o):∃u,o=some u∧RelV v u:=by
 cases o with
 | none=>exact(show False from r).elim
 | some u=>exact⟨u,rfl,r⟩
theorem jD.none_of {o:Option Value}(r:jD none o):o=none:=by
 cases o with
 | none=>rfl
 | some u=>exact(show False from r).elim
theorem wt {v:V}{u:Value}(r:RelV v u):W.handedIn u=true:=by
 cases v with
 | non=>cases (show u=Value.none from r);rfl
 | bl b=>cases (show u=Value.bool b from r);rfl
 | int i=>obtain⟨t,e⟩:=(show∃t,u=Value.int i t from r);cases e;rfl
 | str x=>obtain⟨t,e⟩:=(show∃t,u=Value.str x t from r);cases e;rfl
 | byt b=>obtain⟨t,e⟩:=(show∃t,u=Value.bytes b t from r);cases e;rfl
 | flt b=>obtain⟨t,e⟩:=(show∃t,u=Value.float b t from r);cases e;rfl
 | ref a=>cases (show u=Value.ref a from r);rfl
 | ty n=>cases (show u=Value.type n from r);rfl
section
variable {P:Program}{w:World}{H H':Hp}{h h':Heap}{a C dx:Addr}{fs fs':List (Str×V)}
theorem pe (hok:jF P w H h)(e:H a=some (.ins C dx fs)):∃mA,tQ h a dx C mA∧(∀f,jD (fs.lookup f) (mA f))∧PySem.Within mA (fs.map (·.1))∧fs.length≤1000∧H dx=some (.own a):=by
 obtain⟨d,z,ne,ob,mA,n,r,q⟩:=(show ck P w H h a (.ins C dx fs) from hok a _ e);exact⟨mA,⟨ob,n,ne⟩,r,q,z,d⟩
end
structure zN (K:W.Frag)(C:Addr):Prop where
 pg:W.plainGet K C Str.empty=true
 hd:W.hasDictIn K C=true
 po:W.plainOver K C=true
 sa:W.findIn K (.ref C) "__setattr__"=some (some (.builtin "object.__setattr__"))
theorem zN.get {K:W.Frag}{C:Addr}(c:zN K C)(f:Str):W.plainGet K C f=true:=c.pg
def fV (K:W.Frag)(C:Addr)(f:Str):Prop:=W.findIn K (.ref C) f=some none
theorem fV.taker {K:W.Frag}{C:Addr}{f:Str}(n:fV K C f):W.takerIn K C f=some none:=by
 unfold W.takerIn;rw[show W.findIn K (.ref C) f=some none from n];rfl
structure oR (K:W.Frag)(C:Addr)(m:Str)(f:Addr):Prop where
 at_:W.findIn K (.ref C) m=some (some (.ref f))
 fn:W.isFn K (.ref f)=true
 kp:W.keepIn K (.ref f)=true
section
variable {X:Cx}{af:List (Addr×Obj)}{σ:St}{H:Hp}{s:Shared}{a C dx:Addr}{fs:List (Str×V)}{f:Str}{v:V}{A:Around}{E:Value→Shared→Prop}
theorem tD {b:Bool}{Q:Value→Shared→Prop}(I:Inv X af σ H s)(e:H a=some (.ins C dx fs))(c:zN X.K C)(n:fV X.K C f)(l:fs.lookup f=some v)
  (h:∀u s',Inv X af σ H s'→RelV v u→Q u s'):wpAny (model X.prog X.w) A (getAttr (.ref a) f b) Q E s:=by
 obtain⟨mA,O,r,_,_,_⟩:=pe I.hok e;obtain⟨u,hu,ru⟩:=jD.some_of (v:=v) (o:=mA f) (by rw[←l];exact r f);exact Ag I.kIn O (c.get f) c.hd n hu (wt ru) (h u _ (I.tok _) ru)
theorem mG {m:Str}{g:Addr}{pl:Sem Bool}{Q:Value×List Value→Shared→Prop}(I:Inv X af σ H s)(e:H a=some (.ins C dx fs))(c:zN X.K C)(k:oR X.K C m g)(l:fs.lookup m=none)
  (h:Q (.ref g,[.ref a]) s):wpAny (model X.prog X.w) A (getMethod (.ref a) m pl) Q E s:=by
 obtain⟨mA,O,r,_,_,_⟩:=pe I.hok e;have hn:mA m=none:=jD.none_of (by rw[←l];exact r m);exact xM I.kIn O (c.get m) k.at_ k.fn hn h
theorem tm {y:V}{u:Value}{Q:Unit→Shared→Prop}(I:Inv X af σ H s)(e:H a=some (.ins C dx fs))(c:zN X.K C)(n:fV X.K C f)(hl:fs.length<1000)(ry:RelV y u)
  (h:∀s',Inv X af σ (bE H a (.ins C dx (ik f y fs))) s'→Q () s'):wpAny (model X.prog X.w) A (setAttr (.ref a) f u) Q E s:=by
 obtain⟨mA,O,r,wi,_,ho⟩:=pe I.hok e;have hz:(fs.map (·.1)).length≤sizeLine:=by rw[length_map,sizeLine_eq];omega
 refine A5 I.kIn O c.sa c.po n.taker c.hd wi hz fun h' O' sb=>h _ ?_
 have hd:∃o,h'.get? dx=some o:=let ⟨o,_,_,e',_⟩:=O'.ns;⟨o,e'⟩
 refine I.write (x:=a) (e:=dx) (by rw[e];exact True.intro) (.inr ho) (fun b q hb z=>(sb.2 b hb).trans z) hd ?_;refine⟨by rw[ao O.ne];exact ho,?_,O.ne,O'.obj,_,O'.ns,fun g=>?_,fun g hg=>?_⟩
 ·have:=lR f y fs;omega
 ·show jD ((ik f y fs).lookup g) (if g=f then some u else mA g);rw[lL]
  by_cases q:g=f
  ·rw[if_pos q,if_pos q];exact ry
  ·rw[if_neg q,if_neg q];exact r g
 ·by_cases q:g=f
  ·rw[q];exact(lr f y fs).1
  ·refine(lr f y fs).2 g (wi g fun z=>hg ?_);show(if g=f then some u else mA g)=none;rw[if_neg q];exact z
theorem Inv.made (I:Inv X af σ H s):Inv X af σ (bE (bE H s.heap.objs.size (.own (s.heap.objs.size+1))) (s.heap.objs.size+1) (.ins C s.heap.objs.size []))
  {s with heap:=(s.heap.push W.emptyDict).push (W.instObj C s.heap.objs.size)}:=by
 have e1:(s.heap.push W.emptyDict).get? s.heap.objs.size=some W.emptyDict:=Heap.get?_push_size s.heap rfl;have e2:((s.heap.push W.emptyDict).push (W.instObj C s.heap.objs.size)).get? (s.heap.objs.size+1)=some (W.instObj C s.heap.objs.size):=by
  have:=Heap.get?_push_size (s.heap.push W.emptyDict) (o:=W.instObj C s.heap.objs.size) rfl;rwa [Heap.size_push] at this
 have e3:(s.heap.push W.emptyDict).Ns s.heap.objs.size (fun _=>none):=⟨W.emptyDict,#[],_,e1,rfl,(fun e he=>absurd he (by simp)),fun _=>rfl⟩;have I1:=I.laid (a:=s.heap.objs.size) (o:=.own (s.heap.objs.size+1)) (h':=s.heap.push W.emptyDict) (t':=s.toks) (fun b u q=>Heap.get?_push_of_some _ q) (Nat.le_refl _) ⟨_,e1⟩;refine I1.laid (a:=s.heap.objs.size+1) (o:=.ins C s.heap.objs.size []) (t':=s.toks) (fun b u q=>Heap.get?_push_of_some _ q) (Nat.le_of_eq (Heap.size_push _ _)) ?_;have ne:s.heap.objs.size≠s.heap.objs.size+1:=Nat.ne_of_lt (Nat.lt_succ_self _);refine⟨by rw[ao ne,bO],Nat.zero_le _,ne,e2,fun _=>none,(Heap.Ns1.of_empty e3).at fun o q=>Heap.get?_push_of_some _ q,fun _=>True.intro,fun y hy=>absurd rfl hy⟩
theorem Bz {prog:Program}{w:World}{env:Env}{e:Expr}{f:Str}{pos:Pos}{s:Shared}{Q:Value→Shared→Prop}(hb:attributeBase e f env (eval e env)=eval e env)
  (h:wpAny (model prog w) A (eval e env) (fun o s₁=>wpAny (model prog w) A (getAttr o f true) Q E s₁) E s):wpAny (model prog w) A (eval (.Attribute e f pos) env) Q E s:=
 Attribute_any_ h (by rw[arm_eval_Attribute,hb])
end
def Iv (K:W.Frag)(ta:TE)(f:Str):TE:=fun σ H Q=>ta σ H fun x H1=>∃a C dx fs v,x=.ref a∧H1 a=some (.ins C dx fs)∧zN K C∧fV K C f∧fs.lookup f=some v∧Q v H1
def IA (K:W.Frag)(ta tv:TE)(f:Str):TS:=fun D σ H=>tv σ H fun y H1=>ta σ H1 fun x H2=>∃a C dx fs,x=.ref a∧H2 a=some (.ins C dx fs)∧zN K C∧fV K C f∧fs.length<1000∧
 D.nx σ (bE H2 a (.ins C dx (ik f y fs)))
section
variable {X:Cx}{o e value:Expr}{f:Str}{pos pos' tpos:Pos}{ta tv:TE}
theorem Eb (he:PE X e ta)(hb:attributeBase e f X.env (eval e X.env)=eval e X.env):PE X (.Attribute e f pos) (Iv X.K ta f):=by
 intro af s σ H Q I h;refine Bz hb (cj (he af s σ H _ I h) fun u s1 hxx=>?_);obtain⟨x,H1,I1,rx,a,C,dx,fs,v,ex,ea,c,n,l,q⟩:=hxx;subst ex;obtain rfl:u=Value.ref a:=rx;exact tD I1 ea c n l fun u' s2 I2 ru=>⟨v,H1,I2,ru,q⟩
theorem CZ (ha:PE X o ta)(hv:PE X value tv)(hs:swapsWith value (some (.Attribute o f pos')) pos.line X.env=pure false):PS X (.Assign [.Attribute o f pos'] value pos) (IA X.K ta tv f):=by
 intro af s σ H D I h;refine plainObj_wpAny_Assign_Attribute (cj (hv af s σ H _ I h) fun u s1 ⟨y,H1,I1,ry,q⟩=>cj (ha af s1 σ H1 _ I1 q) fun ov s2 hxx=>?_) hs;obtain⟨x,H2,I2,rx,a,C,dx,fs,ex,ea,c,n,l,q2⟩:=hxx;subst ex;obtain rfl:ov=Value.ref a:=rx;exact tm I2 ea c n l ry fun s3 I3=>⟨σ,_,I3,q2⟩
end
structure bL (k:Nat)(A:Around):Prop where
 hd:A.handled=none
 dp:A.depth+3*k+5<recursionLimit
 un:A.units+16*k+200<cLine
theorem bL.mono {j k:Nat}{A:Around}(r:bL k A)(h:j≤k):bL j A:=⟨r.hd,by have:=r.dp;omega,by have:=r.un;omega⟩
theorem bL.deeper {k:Nat}{A:Around}(r:bL (k+1) A)(env:Env):bL k (A.deeper env):=
 ⟨r.hd,by have:=r.dp;show A.depth+1+3*k+5<_;omega,by have:=r.un;show A.units+3+16*k+200<_;omega⟩
theorem tX {A:Around}{C:Addr}{us:List Value}{kw:List (Str×Value)}:(A.under (.builtin "type.__call__" ⟨.ref C::us,kw⟩)).depth=A.depth+1:=by
 first|rfl|simp[Around.under,Code.weight,Code.isCreation,Code.isGuard,Code.isCaller,Code.frames,Code.isFrame,guardIds]
theorem tM {A:Around}{C:Addr}{us:List Value}{kw:List (Str×Value)}:(A.under (.builtin "type.__call__" ⟨.ref C::us,kw⟩)).units=A.units+1:=by
 first|rfl|simp[Around.under,Code.cUnits,Code.frames,Code.isFrame]
theorem bL.make {k:Nat}{A:Around}(r:bL (k+1) A)(C:Addr)(us:List Value)(kw:List (Str×Value)):bL k (A.under (.builtin "type.__call__" ⟨.ref C::us,kw⟩)):=
 ⟨r.hd,by have:=r.dp;rw[tX];omega,by have:=r.un;rw[tM];omega⟩
theorem bL.depth {k:Nat}{A:Around}(r:bL k A):A.depth<recursionLimit:=by have:=r.dp;omega
theorem bL.units {k:Nat}{A:Around}(r:bL k A):A.units+64<cLine:=by have:=r.un;omega
def Az:TA:=fun _ H Q=>Q [] H
def uz (ta:TE)(tr:TA):TA:=fun σ H Q=>ta σ H fun x H1=>tr σ H1 fun xs H2=>Q (x::xs) H2
section
variable {X:Cx}{e:Expr}{es:List Expr}{te:TE}{t:TA}{pos:Pos}
theorem i5:PA X [] Az:=fun _ _ _ _ H Q I h=>Calls.spliced_nil ⟨[],H,I,.nil,h⟩
theorem dY (ha:PE X e te)(hr:PA X es t)(hs:starEach (e::es) X.env=(false,eval e X.env)::starEach es X.env:=by rfl):PA X (e::es) (uz te t):=by
 intro pos af s σ H Q I h;rw[hs];show wpAny _ _ (spliced ((false,eval e X.env)::backTo pos (starEach es X.env))) _ _ s;refine Calls.spliced_cons (cj (ha af s σ H _ I h) fun u s1 hxx=>?_);obtain⟨x,H1,I1,r1,q1⟩:=hxx;exact cj (hr pos af s1 σ H1 _ I1 q1) fun us s2 ⟨xs,H2,I2,r2,q2⟩=>⟨x::xs,H2,I2,.cons r1 r2,q2⟩
def IU (t:TA):TE:=fun σ H Q=>t σ H fun xs H1=>xs.length≤sizeLine∧∀p,H1 p=none→Q (.ref p) (bE H1 p (.tup xs))
def Iw (t:TA):TE:=fun σ H Q=>t σ H fun xs H1=>xs.length≤sizeLine∧∀p,H1 p=none→Q (.ref p) (bE H1 p (.lst xs))
theorem Dc {x1}(h:PA X es t):PE X (.Tuple es x1 pos) (IU t):=by
 intro af s σ H Q I hq;refine wpAny_Tuple_spliced (cj (h pos af s σ H _ I hq) fun us s1 ⟨xs,H1,I1,r,z,q⟩=>⟨by rw[←r.length];exact z,?_⟩);have hf:H1 s1.heap.objs.size=none:=I1.hok.fresh (Nat.le_refl _);refine⟨.ref s1.heap.objs.size,bE H1 s1.heap.objs.size (.tup xs),I1.laid (t':=s1.toks) (fun b u e=>Heap.get?_push_of_some _ e) (Nat.le_refl _) ?_,rfl,q _ hf⟩;exact⟨z,us,r,⟨_,Heap.get?_push_size _ rfl,rfl,_,rfl⟩⟩
theorem yZ (h:PA X es t):PE X (.List es pos) (Iw t):=by
 intro af s σ H Q I hq;refine wpAny_List_spliced (cj (h pos af s σ H _ I hq) fun us s1 ⟨xs,H1,I1,r,z,q⟩=>⟨by rw[←r.length];exact z,?_⟩);have hf:H1 s1.heap.objs.size=none:=I1.hok.fresh (Nat.le_refl _);refine⟨.ref s1.heap.objs.size,bE H1 s1.heap.objs.size (.lst xs),I1.laid (t':=s1.toks) (fun b u e=>Heap.get?_push_of_some _ e) (Nat.le_refl _) ?_,rfl,q _ hf⟩;exact⟨z,us,0,r,Heap.get?_push_size _ rfl⟩
end
abbrev Sp:=List V→Hp→VK→XK→Prop
abbrev wA:=List Env→Hp→Shared→XK→Value→Shared→Prop
structure sH (P:Program)(w:World)(K:W.Frag)(mg:Str→Option Value)(base:Heap)(A:Around)(outer:List Env)(s:Shared)(H:Hp):Prop where
 frames:A.frames=some outer
 mod:Mod K mg base
 bs:∀b o,base.get? b=some o→s.heap.get? b=some o∧H b=none
 bsz:base.objs.size≤s.heap.objs.size
 funs:s.heap.FunFrames base outer
 frf:∀b∈mJ outer,H b=none
 hok:jF P w H s.heap
 bare:AllBare s.gens
def CE (outer:List Env)(P:Program)(w:World)(H:Hp)(s:Shared)(Q:VK)(u:Value)(s':Shared):Prop:=
 ∃v H',s'.os=s.os∧AllBare s'.gens∧Un (mJ outer) [] H H' s.heap s'.heap∧jF P w H' s'.heap∧RelV v u∧Q v H'
def CR (CX:wA)(outer:List Env)(P:Program)(w:World)(H:Hp)(s:Shared)(Q:VK)(E:XK)(r:Result)(s':Shared):Prop:=
 match r with
 | .ok (.ret u)=>CE outer P w H s Q u s'
 | .ok _=>False
 | .error e=>CX outer H s E e s'
structure dE (P:Program)(w:World)(K:W.Frag)(mg:Str→Option Value)(base:Heap)(CX:wA)(k:Nat)(f:Addr)(fd:FuncData)(ps:List Str)(sp:Sp):Prop where
 len:∀vs H Q E,sp vs H Q E→vs.length=ps.length
 run:∀(A:Around) (outer:List Env) (s:Shared) (H:Hp) (args:Args) (us:List Value) (vs:List V) (Q:VK) (E:XK),bL k A→sH P w K mg base A outer s H→BindsTo s fd args (ps.zip us)→aK vs us→sp vs H Q E→
  codeAny (model P w) A (.call (.ref f) args) (CR CX outer P w H s Q E) s
theorem dE.imp {P:Program}{w:World}{K:W.Frag}{mg:Str→Option Value}{base:Heap}{CX:wA}{k:Nat}{f:Addr}{fd:FuncData}{ps:List Str}{sp sp':Sp}(F:dE P w K mg base CX k f fd ps sp)
  (h:∀vs H Q E,sp' vs H Q E→sp vs H Q E):dE P w K mg base CX k f fd ps sp':=
 ⟨fun vs H Q E q=>F.len vs H Q E (h _ _ _ _ q),fun A outer s H args us vs Q E hr he hb hv hs=>F.run A outer s H args us vs Q E hr he hb hv (h _ _ _ _ hs)⟩
theorem sH.make {P:Program}{w:World}{K:W.Frag}{mg:Str→Option Value}{base:Heap}{A:Around}{outer:List Env}{s:Shared}{H:Hp}(e:sH P w K mg base A outer s H)(C:Addr)(us:List Value)(kw:List (Str×Value)) :
  sH P w K mg base (A.under (.builtin "type.__call__" ⟨.ref C::us,kw⟩)) outer s H:=⟨by first|exact e.frames|(simpa[Around.under,Code.envs,Code.isFrame,pushEnvs] using e.frames),e.mod,e.bs,e.bsz,e.funs,e.frf,e.hok,e.bare⟩
section
variable {X:Cx}{af:List (Addr×Obj)}{σ:St}{H:Hp}{s s':Shared}
theorem Inv.env0 (I:Inv X af σ H s):sH X.prog X.w X.K X.mg X.base X.A X.stack s H:=
 ⟨I.ok.frames,I.ok.mod,I.bs,Nat.le_trans I.ok.bsz I.sz,I.stack,I.stkFree,I.hok,I.bare⟩
theorem Inv.after {Q:VK}{u:Value}(I:Inv X af σ H s)(h:CE X.stack X.prog X.w H s Q u s'):EP X af σ Q u s':=by
 obtain⟨v,H',os,bare,un,hok,r,q⟩:=h;obtain⟨hh,g,d,t,os'⟩:=s';obtain rfl:os'=s.os:=os;exact⟨v,H',I.call (h':=hh) (g':=g) (d':=d) (t':=t) (ch:=[]) un hok bare (fun b z=>absurd z (by simp)),r,q⟩
end
def F8 (sp:Sp)(dvs:List V)(E:XK)(t:TA):TE:=fun σ H Q=>t σ H fun vs H1=>sp (vs++dvs) H1 Q E
def xL (C:Addr)(m:Str)(sp:Sp)(dvs:List V)(E:XK)(ta:TE)(t:TA):TE:=fun σ H Q=>ta σ H fun x H1=>∃a dx fs,x=.ref a∧H1 a=some (.ins C dx fs)∧fs.lookup m=none∧
 t σ H1 fun vs H2=>sp (x::(vs++dvs)) H2 Q E
def Ck (C:Addr)(sp:Sp)(dvs:List V)(E:XK)(t:TA):TE:=fun σ H Q=>t σ H fun vs H1=>∀x dx,H1 x=none→H1 dx=none→dx≠x→
 sp (.ref x::(vs++dvs)) (bE (bE H1 dx (.own x)) x (.ins C dx [])) (fun v H2=>v=.non∧Q (.ref x) H2) E
def dg (K:W.Frag)(fd:FuncData)(ps:List Str)(ds:List Value):Prop:=
 ∀(s:Shared) (us:List Value),K.In s.heap→(us++ds).length=ps.length→BindsTo s fd ⟨us,[]⟩ (ps.zip (us++ds))
theorem dg.all {K:W.Frag}{fd:FuncData}{ps:List Str}(h:∀us:List Value,us.length=ps.length→bindArgs fd ⟨us,[]⟩=pure (ps.zip us)):dg K fd ps []:=fun s us _ hl=>by
 rw[append_nil] at hl ⊢;exact .of_eq (h us hl)
def jT (CX:wA)(X:Cx)(E:XK):Prop:=∀(af:List (Addr×Obj)) (σ:St) (H:Hp) (s:Shared) (e:Value) (s':Shared),Inv X af σ H s→CX X.stack H s E e s'→X.xe e s'
section
variable {X:Cx}{CX:wA}{k:Nat}{f C:Addr}{fd:FuncData}{ps:List Str}{sp:Sp}{dvs:List V}{ds:List Value}{E:XK}{x m:Str}{p pos apos:Pos}{e o:Expr}{es:List Expr}{ta:TE}{t:TA}
theorem tZ {af:List (Addr×Obj)}{σ:St}{H:Hp}{s:Shared}{Q:VK}{us:List Value}{vs:List V}(F:dE X.prog X.w X.K X.mg X.base CX k f fd ps sp)(hr:bL k X.A)(hb:dg X.K fd ps ds)(hd:aK dvs ds)(hx:jT CX X E)
  (I:Inv X af σ H s) (r:aK vs us) (h:sp (vs++dvs) H Q E):wpAny (model X.prog X.w) X.A (call (.ref f) us) (EP X af σ Q) X.xe s:=by
 have r2:aK (vs++dvs) (us++ds):=r.append hd;have hl:(us++ds).length=ps.length:=by rw[←r2.length];exact F.len _ _ _ _ h
 refine wpAny_call (codeAny_mono (F.run X.A X.stack s H ⟨us,[]⟩ (us++ds) (vs++dvs) Q E hr I.env0 (hb s us I.kIn hl) r2 h) fun r s' hq=>?_);cases r with
 | error e=>exact hx af σ H s e s' I hq
 | ok fl=>
  cases fl with
  | ret u=>exact I.after hq
  | next=>exact False.elim hq
  | brk=>exact False.elim hq
  | cont=>exact False.elim hq
theorem Au (F:dE X.prog X.w X.K X.mg X.base CX k f fd ps sp)(hr:bL k X.A)(hg:Gl X x)(hm:X.mg x=some (.ref f))(hk:W.keepIn X.K (.ref f)=true)(hb:dg X.K fd ps ds)(hd:aK dvs ds)(hx:jT CX X E)
  (ha:PA X (e::es) t) (hdb:(x==("__debug__":Str))=false:=by decide) (he:starEach (e::es) X.env=(false,eval e X.env)::starEach es X.env:=by rfl) (hpl:(backTo pos (starEach es X.env)).any (·.1)=false:=by rfl) :
  PE X (.Call (.Name x p) (e::es) [] pos) (F8 sp dvs E t):=by
 intro af s σ H Q I h;refine wpAny_Call_Name_kw (kZ I hg hm ?_ hdb);refine W.callWith_K (h₀:=X.base) I.ok.mod.kin hk (cj (ha pos af s σ H _ I h) fun us s1 ⟨vs,H1,I1,r,q⟩=>⟨I1.kIn,?_⟩) he hpl;exact tZ F hr hb hd hx I1 r q
theorem As {pl:Sem Bool}(he:PE X o ta)(c:zN X.K C)(hm:oR X.K C m f)(F:dE X.prog X.w X.K X.mg X.base CX k f fd ps sp)(hr:bL k X.A)(hb:dg X.K fd ps ds)(hd:aK dvs ds)(hx:jT CX X E)(ha:PA X (e::es) t)
  (hst:starEach (e::es) X.env=(false,eval e X.env)::starEach es X.env:=by rfl) (hpl:(backTo pos (starEach es X.env)).any (·.1)=false:=by rfl)
  (ht:eval (.Call (.Attribute o m apos) (e::es) [] pos) X.env=(do
   let ov ←eval o X.env
   standAt apos.atName
   let (f,first) ←holding [ov] (getMethod ov m pl)
   callWith pos f first (backTo pos (starEach (e::es) X.env)) (backToKw pos (keywordEach [] X.env))):=by rfl) :
  PE X (.Call (.Attribute o m apos) (e::es) [] pos) (xL C m sp dvs E ta t):=by
 intro af s σ H Q I h;refine W.methodCall_KW (pl:=pl) (cj (he af s σ H _ I h) fun u s1 hxx=>?_) ht;obtain⟨x,H1,I1,rx,a,dx,fs,ex,ea,l,q⟩:=hxx;subst ex;obtain rfl:u=Value.ref a:=rx;refine mG I1 ea c hm l ?_;refine W.callWith_K (first:=[.ref a]) (h₀:=X.base) I.ok.mod.kin hm.kp (cj (ha pos af s1 σ H1 _ I1 q) fun us s2 ⟨vs,H2,I2,r,q2⟩=>⟨I2.kIn,?_⟩) hst hpl;exact tZ (us:=.ref a::us) (vs:=.ref a::vs) F hr hb hd hx I2 (.cons rfl r) q2
theorem xn {pl:Sem Bool}(he:PE X o ta)(c:zN X.K C)(hm:oR X.K C m f)(F:dE X.prog X.w X.K X.mg X.base CX k f fd ps sp)(hr:bL k X.A)(hb:dg X.K fd ps ds)(hd:aK dvs ds)(hx:jT CX X E)
  (ht:eval (.Call (.Attribute o m apos) [] [] pos) X.env=(do
   let ov ←eval o X.env
   standAt apos.atName
   let (f,first) ←holding [ov] (getMethod ov m pl)
   callWith pos f first (backTo pos (starEach [] X.env)) (backToKw pos (keywordEach [] X.env))):=by rfl) :
  PE X (.Call (.Attribute o m apos) [] [] pos) (xL C m sp dvs E ta Az):=by
 intro af s σ H Q I h;refine W.methodCall_KW (pl:=pl) (cj (he af s σ H _ I h) fun u s1 hxx=>?_) ht;obtain⟨x,H1,I1,rx,a,dx,fs,ex,ea,l,q⟩:=hxx;subst ex;obtain rfl:u=Value.ref a:=rx;refine mG I1 ea c hm l ?_;exact W.callWith_K0 (first:=[.ref a]) I1.kIn hm.kp (tZ (us:=[.ref a]) (vs:=[.ref a]) F hr hb hd hx I1 (.cons rfl .nil) q)
structure Mk (K:W.Frag)(C f:Addr):Prop where
 makes:W.makesIn K C=true
 init:W.findIn K (.ref C) "__init__"=some (some (.ref f))
 fn:W.isFn K (.ref f)=true
 kp:W.keepIn K (.ref C)=true
theorem wU {af:List (Addr×Obj)}{σ:St}{H:Hp}{s:Shared}{Q:VK}{us:List Value}{vs:List V}(M:Mk X.K C f)(F:dE X.prog X.w X.K X.mg X.base CX k f fd ps sp)(hr:bL (k+1) X.A)(hb:dg X.K fd ps ds)(hd:aK dvs ds)
  (hx:jT CX X E) (I:Inv X af σ H s) (r:aK vs us)
  (h:∀x dx,H x=none→H dx=none→dx≠x→sp (.ref x::(vs++dvs)) (bE (bE H dx (.own x)) x (.ins C dx [])) (fun v H2=>v=.non∧Q (.ref x) H2) E) :
  wpAny (model X.prog X.w) X.A (call (.ref C) us) (EP X af σ Q) X.xe s:=by
 have hq:=h (s.heap.objs.size+1) s.heap.objs.size (I.hok.fresh (Nat.le_succ _)) (I.hok.fresh (Nat.le_refl _)) (Nat.ne_of_lt (Nat.lt_succ_self _));have I2:=Inv.made (C:=C) I;have r2:aK (V.ref (s.heap.objs.size+1)::(vs++dvs)) (Value.ref (s.heap.objs.size+1)::(us++ds)):=.cons rfl (r.append hd);have hl:(Value.ref (s.heap.objs.size+1)::us++ds).length=ps.length:=by
  have e:=r2.length;rw[F.len _ _ _ _ hq] at e;exact e.symm
 refine wpAny_call (yX (f:=f) I.kIn M.makes M.init (beq_iff_eq.mp M.fn) (codeAny_mono (F.run _ X.stack _ _ ⟨Value.ref (s.heap.objs.size+1)::us,[]⟩ (Value.ref (s.heap.objs.size+1)::(us++ds)) _ _ E (hr.make C us [])
  (I2.env0.make C us []) (hb _ (Value.ref (s.heap.objs.size+1)::us) I2.kIn hl) r2 hq) fun r s' hq'=>?_))
 cases r with
 | error e=>exact hx af σ _ _ e s' I2 hq'
 | ok fl=>
  cases fl with
  | ret u=>
   obtain⟨v,H',I3,rv,ev,q3⟩:=I2.after hq';subst ev;exact⟨rv,⟨V.ref (s.heap.objs.size+1),H',I3,rfl,q3⟩⟩
  | next=>exact False.elim hq'
  | brk=>exact False.elim hq'
  | cont=>exact False.elim hq'
theorem AS (M:Mk X.K C f)(F:dE X.prog X.w X.K X.mg X.base CX k f fd ps sp)(hr:bL (k+1) X.A)(hg:Gl X x)(hm:X.mg x=some (.ref C))(hb:dg X.K fd ps ds)(hd:aK dvs ds)(hx:jT CX X E)
  (ha:PA X (e::es) t) (hdb:(x==("__debug__":Str))=false:=by decide) (he:starEach (e::es) X.env=(false,eval e X.env)::starEach es X.env:=by rfl) (hpl:(backTo pos (starEach es X.env)).any (·.1)=false:=by rfl) :
  PE X (.Call (.Name x p) (e::es) [] pos) (Ck C sp dvs E t):=by
 intro af s σ H Q I h;refine wpAny_Call_Name_kw (kZ I hg hm ?_ hdb);refine W.callWith_K (h₀:=X.base) I.ok.mod.kin M.kp (cj (ha pos af s σ H _ I h) fun us s1 ⟨vs,H1,I1,r,q⟩=>⟨I1.kIn,?_⟩) he hpl;exact wU M F hr hb hd hx I1 r q
end
structure iy (N P:List Str)(sc:Scope):Prop where
 kind:sc.kind=.function
 co:sc.isCoroutine=false
 gen:sc.isGenerator=false
 nd:N.Nodup
 pre:N.take P.length=P
 par:∀x∈P,sc.names.lookup x=some .local∨sc.names.lookup x=some .cell
 nofree:∀y∈sc.names,y.2≠.free
theorem ou {kindOf:Str→Option NameKind}{x:Str}:∀{binds:List (Str×Value)} {m:Str→Option Value},(∀v,(x,v)∉binds)→bindL kindOf binds m x=m x
 | [],_,_=>rfl
 | (n,v)::r,m,h=>by
  unfold bindL;rw[ou fun w hw=>h w (mem_cons_of_mem _ hw)];split
  ·have:x≠n:=by rintro rfl;exact h v mem_cons_self
   simp[this]
  ·rfl
theorem oM {kindOf:Str→Option NameKind}{x:Str}:∀{binds:List (Str×Value)} {m:Str→Option Value},(∀v,(x,v)∉binds)→bindC kindOf binds m x=m x
 | [],_,_=>rfl
 | (n,v)::r,m,h=>by
  unfold bindC;rw[oM fun w hw=>h w (mem_cons_of_mem _ hw)];split
  ·rfl
  ·have:x≠n:=by rintro rfl;exact h v mem_cons_self
   simp[this]
theorem og {kindOf:Str→Option NameKind}{x:Str}{v:Value}:∀{P:List Str} {vs:List Value} {i:Nat} {m:Str→Option Value},P.Nodup→P[i]?=some x→vs[i]?=some v→kindOf x=some .local→
  bindL kindOf (P.zip vs) m x=some v
 | [],_,_,_,_,h,_,_=>by simp at h
 | _::_,[],_,_,_,_,h,_=>by simp at h
 | p::P,w::vs,0,m,nd,h1,h2,hk=>by
  simp at h1 h2;subst h1;subst h2;show bindL kindOf ((p,w)::P.zip vs) m p=_;unfold bindL;rw[ou fun v hv=>(nodup_cons.mp nd).1 (of_mem_zip hv).1,if_pos hk];simp
 | p::P,w::vs,i+1,m,nd,h1,h2,hk=>by
  show bindL kindOf ((p,w)::P.zip vs) m x=_;unfold bindL;exact og (i:=i) (nodup_cons.mp nd).2 (by simpa using h1) (by simpa using h2) hk
theorem oK {kindOf:Str→Option NameKind}{x:Str}{v:Value}:∀{P:List Str} {vs:List Value} {i:Nat} {m:Str→Option Value},P.Nodup→P[i]?=some x→vs[i]?=some v→kindOf x≠some .local→
  bindC kindOf (P.zip vs) m x=some v
 | [],_,_,_,_,h,_,_=>by simp at h
 | _::_,[],_,_,_,_,h,_=>by simp at h
 | p::P,w::vs,0,m,nd,h1,h2,hk=>by
  simp at h1 h2;subst h1;subst h2;show bindC kindOf ((p,w)::P.zip vs) m p=_;unfold bindC;rw[oM fun v hv=>(nodup_cons.mp nd).1 (of_mem_zip hv).1,if_neg hk];simp
 | p::P,w::vs,i+1,m,nd,h1,h2,hk=>by
  show bindC kindOf ((p,w)::P.zip vs) m x=_;unfold bindC;exact oK (i:=i) (nodup_cons.mp nd).2 (by simpa using h1) (by simpa using h2) hk
def start (N:List Str)(vs:List V):St:=vs.map some++List.replicate (N.length-vs.length) none
def jQ (CX:wA)(P:Program)(w:World)(K:W.Frag)(mg:Str→Option Value)(base:Heap)(N:List Str)(qual:Str)(scope:Scope)(f:Addr)(cd:Value)(A:Around)(outer:List Env)(s:Shared)(H:Hp)(E:XK):Cx where
 prog:=P
 w:=w
 K:=K
 mg:=mg
 base:=base
 A:=A.deeper (envOfC qual scope s.heap.objs.size f cd)
 N:=N
 s₀:=s
 H₀:=H
 env:=envOfC qual scope s.heap.objs.size f cd
 outer:=outer
 stack:=envOfC qual scope s.heap.objs.size f cd::outer
 ex:=[]
 calm:=true
 fn:=fun _=>true
 pn:=[]
 xe:=fun e s'=>wpAny (model P w) (A.deeper (envOfC qual scope s.heap.objs.size f cd)) (leaving (envOfC qual scope s.heap.objs.size f cd) e) (fun _ s''=>CX outer H s E e s'') (fun e' s''=>CX outer H s E e' s'') s'
theorem qA {sc:Scope}{n:Nat}{x:Str}(h:sc.names.lookup x=some .cell):∃c,(cellsFrom n sc.names []).lookup x=some c:=by
 have q:=W.cellsFrom_some sc.names n [] (.inl h);exact Option.isSome_iff_exists.mp q
theorem vO {CX:wA}{P:Program}{w:World}{K:W.Frag}{mg:Str→Option Value}{base:Heap}{N ps:List Str}{qual:Str}{scope:Scope}{f:Addr}{cd:Value}{A:Around}{outer:List Env}{s s1:Shared}{H:Hp}{E:XK}{us:List Value}{vs:List V}
  (S:iy N ps scope) (hd:A.handled=none) (e0:sH P w K mg base A outer s H) (hl:vs.length=ps.length) (r:aK vs us)
  (x:InCallC s s.heap.objs.size (bindL (envOfC qual scope s.heap.objs.size f cd).kindOf (ps.zip us) fun _=>none) (cellsFrom (s.heap.objs.size+1) scope.names []) (bindC (envOfC qual scope s.heap.objs.size f cd).kindOf (ps.zip us) fun _=>none) s1) :
  Inv (jQ CX P w K mg base N qual scope f cd A outer s H E) [] (start N vs) H s1:=by
 have hpl:ps.length≤N.length:=by have:=congrArg List.length S.pre;rw[length_take] at this;omega
 obtain⟨h1,tk,rfl,hk⟩:=x.done;have noA:∀b:Addr,b∉(jQ CX P w K mg base N qual scope f cd A outer s H E).ex:=fun b z=>absurd (show b∈([]:List Addr) from z) (by simp)
 refine⟨⟨e0.mod,S.kind,rfl,rfl,Nat.le_refl _,fun y z c h1 h2=>?_,fun y hy=>?_,fun y c _ h=>?_,fun _=>hd,Around.frames_deeper e0.frames,.inr ⟨rfl,rfl⟩,fun b z=>absurd z (noA b),e0.bs,e0.bsz,fun b _ _=>noA b,fun b z=>absurd z (noA b),e0.funs,e0.frf⟩,
  rfl,e0.bare,Un.kept hk,⟨_,x.toInCall.ns,fun i y v h1 h2 h3=>?_⟩,fun y c h=>⟨_,x.cell y c h⟩,e0.hok.fresh (Nat.le_refl _),fun y c h=>?_,fun p hp=>absurd (show p∈([]:List (Addr×Obj)) from hp) (by simp),e0.hok.kept hk,?_⟩
 ·exact name_of_addr x.apart (PySem.mem_of_lookup h1) (PySem.mem_of_lookup h2)
 ·have hy:scope.names.lookup y=some .cell∨scope.names.lookup y=some .free:=hy;rcases hy with hy|hy
  ·exact qA hy
  ·exact absurd rfl (S.nofree _ (PySem.mem_of_lookup hy))
 ·exact Nat.le_of_lt (x.above y c (PySem.mem_of_lookup h))
 ·have hi:i<vs.length:=by
   unfold start at h2
   by_cases hi:i<vs.length
   ·exact hi
   ·rw[getElem?_append_right (by simpa using hi)] at h2;rw[getElem?_replicate] at h2;split at h2 <;> cases h2
  have ha:vs[i]?=some v:=by
   unfold start at h2;rw[getElem?_append_left (by simpa using hi),getElem?_map] at h2;cases e:vs[i]? with
   | none=>rw[e] at h2;cases h2
   | some a=>rw[e] at h2;cases h2;rfl
  obtain⟨u,hu,rv⟩:=r.get ha;have hp:ps[i]?=some y:=by
   rw[←S.pre,getElem?_take_of_lt (by omega)];exact h1
  have ndP:ps.Nodup:=by rw[←S.pre];exact S.nd.sublist (take_sublist _ _)
  refine⟨u,rv,?_⟩;rcases S.par y (mem_of_getElem? hp) with k|k
  ·exact .inl ⟨k,og ndP hp hu k⟩
  ·obtain⟨c,e⟩:=qA (n:=s.heap.objs.size+1) k;refine .inr ⟨.inl k,c,e,?_⟩;have q:=x.cell y c e;rw[oK ndP hp hu (by show scope.names.lookup y≠_;rw[k];decide)] at q;exact q
 ·exact e0.hok.fresh (Nat.le_of_lt (x.above y c (PySem.mem_of_lookup h)))
 ·unfold start;show _=N.length;rw[length_append,length_map,length_replicate];omega
theorem Fx {CX:wA}{P:Program}{w:World}{K:W.Frag}{mg:Str→Option Value}{base:Heap}{k:Nat}{f:Addr}{name qual:Str}{params:Arguments}{body:List Stmt}{scope:Scope}{dV kV doc pm cdv ct oc:Value}{an od:Option Addr}
  {osl:Array (Option Value)} {N ps:List Str} {sp:Sp} (lk:K.lookup f=some ⟨oc,od,.func (W.fnOf name qual params body scope dV kV doc pm an cdv ct),osl⟩) (hcd:W.codeIn K cdv qual=true) (S:iy N ps scope)
  (len:∀vs H Q E,sp vs H Q E→vs.length=ps.length)
  (hbody:∀(A:Around) (outer:List Env) (s:Shared) (H:Hp) (vs:List V) (Q:VK) (E:XK),bL k (A.deeper (envOfC qual scope s.heap.objs.size f cdv))→sp vs H Q E→
   ∃t,PSs (jQ CX P w K mg base N qual scope f cdv A outer s H E) body t∧t {nx:=fun _ H'=>Q .non H',rt:=Q} (start N vs) H) :
  dE P w K mg base CX (k+1) f (W.fnOf name qual params body scope dV kV doc pm an cdv ct) ps sp:=by
 refine⟨len,fun A outer s H args us vs Q E hr e0 hb r hsp=>?_⟩;have hl:=len _ _ _ _ hsp;have KX:K.In s.heap:=e0.mod.kin.keeps fun b o e=>(e0.bs b o e).1
 have lim:s.heap.NoLimit:=e0.mod.nolimit.keeps fun b o e=>(e0.bs b o e).1
 have hkind:∀y∈ps.zip us,scope.names.lookup y.1=some .local∨(scope.names.lookup y.1=some .cell∧((cellsFrom (s.heap.objs.size+1) scope.names []).lookup y.1).isSome=true):=fun⟨n,v⟩ hy=>by
  rcases S.par n (of_mem_zip hy).1 with q|q
  ·exact .inl q
  ·exact .inr ⟨q,W.cellsFrom_some _ _ _ (.inl q)⟩
 refine codeAny_call_function hr.depth (KX _ _ lk) rfl S.co S.gen rfl (W.codeRec_of KX hcd) (hb _ _ _ _ ?_);refine wpAny_newFunctionEnv_cells S.kind hkind fun env he s1 x=>?_
 subst he;refine⟨lim.keeps x.toInCall.keep,codeAny_func ?_⟩;obtain⟨t,ht,hq⟩:=hbody A outer s H vs Q E (hr.deeper _) hsp;have I:Inv (jQ CX P w K mg base N qual scope f cdv A outer s H E) [] (start N vs) H s1:=vO S hr.hd e0 hl r x;refine wpAny_mono (ht [] s1 (start N vs) H _ I hq) (fun fl s' hs=>?_) fun e s' hs=>hs
 have fin:∀{σ':St} {H':Hp} {v:V} {u:Value},Inv (jQ CX P w K mg base N qual scope f cdv A outer s H E) [] σ' H' s'→RelV v u→Q v H'→CE outer P w H s Q u s':=
  fun {σ' H' v u} J rv q=>⟨v,H',J.os,J.bare,J.base,J.hok,rv,q⟩
 cases fl with
 | ret u=>
  obtain⟨v,σ',H',J,rv,q⟩:=hs;exact fin J rv q
 | next=>
  obtain⟨σ',H',J,q⟩:=hs;exact fin (v:=V.non) (u:=Value.none) J rfl q
 | brk=>
  obtain⟨_,_,_,q⟩:=hs;exact False.elim q
 | cont=>
  obtain⟨_,_,_,q⟩:=hs;exact False.elim q
section
variable {X:Cx}{x:Str}{p pos:Pos}{e:Expr}{es:List Expr}{t:TA}{id T:String}{r:List V→Hp→VK→Prop}
def Ie (r:List V→Hp→VK→Prop)(t:TA):TE:=fun σ H Q=>t σ H fun vs H1=>r vs H1 Q
theorem kW (hc:cF X (.builtin id) r)(hg:Gl X x)(hm:X.mg x=none)(hv:bootBuiltins x=some (.builtin id))(ha:PA X (e::es) t)(hn:x≠"__name__":=by decide)(hdb:(x==("__debug__":Str))=false:=by decide)
  (he:starEach (e::es) X.env=(false,eval e X.env)::starEach es X.env:=by rfl) (hpl:(backTo pos (starEach es X.env)).any (·.1)=false:=by rfl):PE X (.Call (.Name x p) (e::es) [] pos) (Ie r t):=by
 intro af s σ H Q I h;refine wpAny_Call_Name_kw (nl I hg hm hv ?_ hn hdb);exact PyProof.Rows.callWith_builtin1 (cj (ha pos af s σ H _ I h) fun us s1 ⟨vs,H1,I1,r1,q1⟩=>hc af s1 σ H1 vs us Q I1 r1 q1) he hpl
theorem wk (hc:cF X (.type T) r)(hg:Gl X x)(hm:X.mg x=none)(hv:bootBuiltins x=some (.type T))(ha:PA X (e::es) t)(hn:x≠"__name__":=by decide)(hdb:(x==("__debug__":Str))=false:=by decide)
  (he:starEach (e::es) X.env=(false,eval e X.env)::starEach es X.env:=by rfl) (hpl:(backTo pos (starEach es X.env)).any (·.1)=false:=by rfl):PE X (.Call (.Name x p) (e::es) [] pos) (Ie r t):=by
 intro af s σ H Q I h;refine wpAny_Call_Name_kw (nl I hg hm hv ?_ hn hdb);exact PyProof.Rows.callWith_type1 (cj (ha pos af s σ H _ I h) fun us s1 ⟨vs,H1,I1,r1,q1⟩=>hc af s1 σ H1 vs us Q I1 r1 q1) he hpl
end
end L2
namespace HT
open PySem PyProof.Rows
def lexLt:List Int→List Int→Bool
 | [],[]=>false
 | [],_::_=>true
 | _::_,[]=>false
 | x::xs,y::ys=>if x=y then lexLt xs ys else decide (x<y)
section
open PySem.SeqAt
open PySem.AutoSeq1 (wpAny_loadPart')
open PySem.MeetsSeq PySem.MeetsSeq2 PySem.MeetsSeq3
end
section
variable {prog:Program}{w:World}{A:Around}{E:Value→Shared→Prop}{s:Shared}
theorem cat_tup {t b:Addr}{vs ws:List Value}{Q:Value→Shared→Prop}(ht:IsTup s.heap t vs.toArray)(hb:IsTup s.heap b ws.toArray)(hv:vs≠[])
  (h1:ws=[]→Q (.ref t) s) (h2:ws≠[]→Q (.ref s.heap.objs.size) {s with heap:=s.heap.push {cls:=.type "tuple",data:=.seq (vs++ws).toArray}})
  (hsz:vs.length+ws.length≤sizeLine):wpAny (model prog w) A (binaryOp .Add (.ref t) (.ref b)) Q E s:=by
 obtain⟨⟨cls,dd,data,sl⟩,ho,hc,n,hd⟩:=id ht;obtain⟨⟨cls2,dd2,data2,sl2⟩,ho2,hc2,n2,hd2⟩:=id hb;simp only at hc hd hc2 hd2;subst hc hd hc2 hd2;have e:vs.toArray++ws.toArray=(vs++ws).toArray:=by simp
 by_cases hw:ws=[]
 ·exact concat_meets ⟨_,ho,rfl⟩ ⟨_,ho2,rfl⟩ noFill_tuple_add seq_tuple_add PySem.F.slot_tuple_add PySem.F.entry_tuple_add (PySem.F.args_tuple_add_2 _ _)
   (tuple_addW1 t b vs.toArray ws.toArray n n2 dd dd2 sl sl2 (by simpa using hv) (by simp[hw])) ⟨ho,ho2,h1 hw⟩
 ·refine concat_meets ⟨_,ho,rfl⟩ ⟨_,ho2,rfl⟩ noFill_tuple_add seq_tuple_add PySem.F.slot_tuple_add PySem.F.entry_tuple_add (PySem.F.args_tuple_add_2 _ _)
   (tuple_addW2 t b vs.toArray ws.toArray n n2 dd dd2 sl sl2 (by simpa using hv) (by simpa using hw) (by rw[List.size_toArray,List.size_toArray];exact hsz)) ⟨ho,ho2,?_⟩
  rw[e];exact h2 hw
def sIx (n d:Nat):Option Int→Nat
 | none=>d
 | some v=>if v<0 then(v+(n:Int)).toNat else min v.toNat n
theorem sIx_none (n d:Nat):sIx n d none=d:=rfl
theorem sIx_nat (n d k:Nat):sIx n d (some (k:Int))=min k n:=by
 show(if(k:Int)<0 then((k:Int)+(n:Int)).toNat else min (k:Int).toNat n)=min k n;rw[if_neg (by omega),Int.toNat_natCast]
theorem DK (n d:Nat)(hd:d≤n)(o:Option Int):sIx n d o≤n:=by
 cases o with
 | none=>exact hd
 | some v=>
  show(if v<0 then(v+(n:Int)).toNat else min v.toNat n)≤n
  by_cases hv:v<0
  ·rw[if_pos hv];omega
  ·rw[if_neg hv];exact Nat.min_le_right _ _
theorem uk (v:Int)(n d:Nat):(if v<0 then max (v+(n:Int)) 0 else min v (n:Int))=((sIx n d (some v):Nat):Int):=by
 show(if v<0 then max (v+(n:Int)) 0 else min v (n:Int))=(((if v<0 then(v+(n:Int)).toNat else min v.toNat n):Nat):Int)
 by_cases hv:v<0
 ·simp only[if_pos hv];omega
 ·simp only[if_neg hv];omega
theorem sF (lo hi:Option Int)(n:Nat):Builtin.Slice.sliceAdjust lo hi 1 (n:Int)=(((sIx n 0 lo:Nat):Int),((sIx n n hi:Nat):Int)):=by
 have h1:¬((1:Int)<0):=by omega
 unfold Builtin.Slice.sliceAdjust;simp only[h1,if_false];refine Prod.ext ?_ ?_
 ·cases lo with
  | none=>rfl
  | some v=>exact uk v n 0
 ·cases hi with
  | none=>rfl
  | some v=>exact uk v n n
theorem sZ (i j:Nat):Builtin.Slice.slicePlaces (i:Int) (j:Int) 1=j-i:=by
 unfold Builtin.Slice.slicePlaces;have h1:(1:Int)>0:=by omega
 simp only[h1,if_true,Int.ediv_one];split <;> omega
theorem nr {v:Value}{o:Option Int}{Q:Option Int→Shared→Prop}(p:IsPart v o)(h:Q o s):wpAny (model prog w) A (Builtin.Slice.slicePartIndex v) Q E s:=by
 cases p with
 | none=>exact slicePart_none h
 | int i t=>exact slicePart_int h
theorem sliceApplied_gen {sl:Addr}{vl vu:Value}{lo hi:Option Int}{n:Nat}{Q:Int×Int×Nat→Shared→Prop}(hs:s.heap.IsSliceOf sl vl vu .none)(pl:IsPart vl lo)(pu:IsPart vu hi)
  (h:Q (((sIx n 0 lo:Nat):Int),1,sIx n n hi-sIx n 0 lo) s):wpAny (model prog w) A (Builtin.Slice.sliceApplied (.ref sl) (pure (n:Int))) Q E s:=by
 obtain⟨os,hos,hcs,hds⟩:=id hs;unfold Builtin.Slice.sliceApplied Builtin.Slice.sliceFields;refine wpAny_bind (wpAny_bind (wpAny_field hos hds (x:=vl) rfl (wpAny_bind (wpAny_field hos hds (x:=vu) rfl (wpAny_bind (wpAny_field hos hds (x:=.none) rfl (wpAny_pure ?_)))))));refine wpAny_bind (slicePart_none ?_);show wpAny _ _ (if((1:Int)==0)=true then _ else _) _ _ s;rw[if_neg (by decide)];refine wpAny_bind (nr pl (wpAny_bind (nr pu (wpAny_bind (wpAny_pure ?_)))));show wpAny _ _ (match Builtin.Slice.sliceAdjust lo hi 1 (n:Int) with|(lo,hi)=>pure (lo,(1:Int),Builtin.Slice.slicePlaces lo hi 1)) _ _ s;rw[sF lo hi n];show wpAny _ _ (pure (((sIx n 0 lo:Nat):Int),(1:Int),Builtin.Slice.slicePlaces ((sIx n 0 lo:Nat):Int) ((sIx n n hi:Nat):Int) 1)) _ _ s;rw[sZ];exact wpAny_pure h
theorem yk (xs:Array Value)(i k:Nat):((List.range k).filterMap fun(m:Nat)=>xs[((i:Int)+(m:Int)*1).toNat]?).toArray=((xs.toList.drop i).take k).toArray:=by
 have e:(fun(m:Nat)=>xs[((i:Int)+(m:Int)*1).toNat]?)=fun m=>xs[i+m]?:=by
  funext m;have:((i:Int)+(m:Int)*1).toNat=i+m:=by omega
  rw[this]
 rw[e];have:=pick_run xs i k;rw[List.filterMap_map] at this;have e2:((fun x=>xs[x]?) ∘ fun x=>i+x)=fun m=>xs[i+m]?:=rfl
 rw[e2] at this;rw[this]
theorem getItem_tuple_cut {t sl:Addr}{items:Array Value}{vl vu:Value}{lo hi:Option Int}{Q:Value→Shared→Prop}(ht:IsTup s.heap t items)(hs:s.heap.IsSliceOf sl vl vu .none)(pl:IsPart vl lo)(pu:IsPart vu hi)
  (hw:¬(sIx items.size 0 lo=0∧sIx items.size items.size hi=items.size))
  (h:Q (.ref s.heap.objs.size) {s with heap:=s.heap.push {cls:=.type "tuple",data:=.seq ((items.toList.drop (sIx items.size 0 lo)).take (sIx items.size items.size hi-sIx items.size 0 lo)).toArray}})
  (hsz:items.size≤sizeLine):wpAny (model prog w) A (getItem (.ref t) (.ref sl)) Q E s:=by
 have htake:sizeOk (.seq ((items.toList.drop (sIx items.size 0 lo)).take (sIx items.size items.size hi-sIx items.size 0 lo)).toArray):=by
  show((items.toList.drop (sIx items.size 0 lo)).take (sIx items.size items.size hi-sIx items.size 0 lo)).toArray.size≤sizeLine;rw[List.size_toArray,List.length_take,List.length_drop,Array.length_toList];omega
 have hj:sIx items.size items.size hi≤items.size:=DK _ _ (Nat.le_refl _) hi;obtain⟨os,hos,hcs,hds⟩:=id hs;have hTs:s.TypeIs (.ref sl) "slice":=⟨os,hos,hcs⟩;unfold getItem
 try with_reducible refine wpAny_holding ?_
 first|refine wpAny_bind (wpAny_pure ?_)|skip
 refine wpAny_bind (wpAny_sequenceKey ht.typeIs (by decide) ?_);refine wpAny_bind (wpAny_callSpecial?_slot (name:=Str.ofString "__getitem__") ht.typeIs PyProof.Rows.slot_tuple_getitem
  (wpAny_call_entry PyProof.Rows.slot_tuple_getitem ht.typeIs entry_tuple_getitem ?_ (args_tuple_getitem _ _)))
 show wpAny _ _ (Builtin.Tuple.tupleItemsOf (.ref t) >>= _) _ _ s;refine wpAny_bind (tupleItemsOf_ ht ?_);refine wpAny_bind (wpAny_typeOf hTs ?_);rw[if_pos (by decide)];refine wpAny_bind (sliceApplied_gen hs pl pu ?_);have hno:¬((((sIx items.size 0 lo:Nat):Int)==0&&(1:Int)==1&&(sIx items.size items.size hi-sIx items.size 0 lo)==items.size)=true):=by
  intro q;rw[Bool.and_eq_true,Bool.and_eq_true] at q;have q1:((sIx items.size 0 lo:Nat):Int)=0:=eq_of_beq q.1.1;have q2:sIx items.size items.size hi-sIx items.size 0 lo=items.size:=eq_of_beq q.2;exact hw ⟨by omega,by omega⟩
 show wpAny _ _ (if(((sIx items.size 0 lo:Nat):Int)==0&&(1:Int)==1&&(sIx items.size items.size hi-sIx items.size 0 lo)==items.size)=true then _ else _) _ _ s;rw[if_neg hno,yk]
 first
  | exact wpAny_bind (m:=Builtin.Tuple.tupleExact _) (wpAny_newObj_type (wpAny_pure ⟨_,rfl,wpAny_pure h⟩) htake)
  | exact wpAny_bind (m:=Builtin.Tuple.tupleExact _) (wpAny_newObj_type (wpAny_bind (wpAny_pure (wpAny_pure ⟨_,rfl,wpAny_pure h⟩))) htake)
  | exact wpAny_bind (wpAny_bind (m:=Builtin.Tuple.tupleExact _) (wpAny_newObj_type (wpAny_pure (wpAny_pure ⟨_,rfl,wpAny_pure h⟩)) htake))
  | exact wpAny_bind (wpAny_bind (m:=Builtin.Tuple.tupleExact _) (wpAny_newObj_type (wpAny_pure ⟨_,rfl,wpAny_pure h⟩) htake))
end
end HT
namespace L2
open PySem PySem.Spec PyProof.Rows List
abbrev TO:=St→Hp→(Option Int→Hp→Prop)→Prop
def PO (X:Cx)(e:Option Expr)(t:TO):Prop:=
 ∀(af:List (Addr×Obj)) (s:Shared) (σ:St) (H:Hp) (Q:Option Int→Hp→Prop),Inv X af σ H s→t σ H Q→
  wpAny (model X.prog X.w) X.A (evalPart e X.env) (fun u s'=>∃o H',Inv X af σ H' s'∧IsPart u o∧Q o H') X.xe s
def Bx:TO:=fun _ H Q=>Q none H
def Ge (t:TE):TO:=fun σ H Q=>t σ H fun x H1=>∃i,x=.int i∧Q (some i) H1
section
variable {X:Cx}{e:Expr}{te:TE}{lo hi:Option Expr}{tl th:TO}{pos p2:Pos}
theorem AK:PO X none Bx:=by
 intro af s σ H Q I h;rw[evalPart_none];exact wpAny_pure ⟨none,H,I,.none,h⟩
theorem A3 (h:PE X e te):PO X (some e) (Ge te):=by
 intro af s σ H Q I hw;rw[evalPart_some];refine cj (h af s σ H _ I hw) fun u s1 hxx=>?_
 obtain⟨x,H1,I1,r1,q1⟩:=hxx;obtain⟨i,rfl,q⟩:=q1;obtain⟨t,rfl⟩:=r1;exact⟨some i,H1,I1,.int i t,q⟩
def HZ (X:Cx)(r:V→Option Int→Option Int→Hp→VK→Prop):Prop:=
 ∀(af:List (Addr×Obj)) (s:Shared) (σ:St) (H:Hp) (x:V) (v vl vu:Value) (lo hi:Option Int) (sl:Addr) (Q:VK),Inv X af σ H s→RelV x v→s.heap.IsSliceOf sl vl vu .none→IsPart vl lo→IsPart vu hi→r x lo hi H Q→
  ∃T id,typeLookup (.type T) "__getitem__"=pure (some (.builtin id))∧s.TypeIs v T∧wpAny (model X.prog X.w) X.A (getItem v (.ref sl)) (EP X af σ Q) X.xe s
def JU (r:V→Option Int→Option Int→Hp→VK→Prop)(te:TE)(tl th:TO):TE:=fun σ H Q=>te σ H fun x H1=>tl σ H1 fun l H2=>th σ H2 fun u H3=>r x l u H3 Q
theorem xZ {r:V→Option Int→Option Int→Hp→VK→Prop}(hr:HZ X r)(he:PE X e te)(hl:PO X lo tl)(hu:PO X hi th):PE X (.Subscript e (.Slice lo hi none p2) pos) (JU r te tl th):=by
 intro af s σ H Q I h;refine Subscript_ (cj (he af s σ H _ I h) fun v s1 hxx=>?_);obtain⟨x,H1,I1,r1,q1⟩:=hxx;refine wpAny_Slice (cj (hl af s1 σ H1 _ I1 q1) fun vl s2 ⟨l,H2,I2,pl,q2⟩=>cj (hu af s2 σ H2 _ I2 q2) fun vu s3 hxx=>?_);obtain⟨u,H3,I3,pu,q3⟩:=hxx;rw[evalPart_none];refine wpAny_pure ?_;have I4:Inv X af σ H3 {s3 with heap:=s3.heap.push {cls:=.type "slice",data:=.fields #[vl,vu,.none]}}:=I3.kept (t':=s3.toks) fun b ob q=>Heap.get?_push_of_some _ q
 obtain⟨T,id,hT,ht,hg⟩:=hr af {s3 with heap:=s3.heap.push {cls:=.type "slice",data:=.fields #[vl,vu,.none]}} σ H3 x v vl vu l u s3.heap.objs.size Q I4 r1 (Heap.IsSliceOf.new ..) pl pu q3;show wpAny (model X.prog X.w) X.A (subscriptTail e (.Slice lo hi none p2) v (.ref s3.heap.objs.size)) (EP X af σ Q) X.xe {s3 with heap:=s3.heap.push {cls:=.type "slice",data:=.fields #[vl,vu,.none]}};exact tail_any (ops:=[.ref s3.heap.objs.size,v]) ht hT hg (by with_unfolding_all rfl)
def qB (xs:List V)(lo hi:Option Int):List V:=(xs.drop (HT.sIx xs.length 0 lo)).take (HT.sIx xs.length xs.length hi-HT.sIx xs.length 0 lo)
theorem lN (xs:List V)(lo hi:Option Int):(qB xs lo hi).length≤xs.length:=by
 unfold qB;rw[length_take,length_drop];omega
def Je (K:W.Frag):V→Option Int→Option Int→Hp→VK→Prop:=fun x lo hi H Q=>∃a xs,x=.ref a∧k9 K H a xs∧
 ¬(HT.sIx xs.length 0 lo=0∧HT.sIx xs.length xs.length hi=xs.length)∧∀p,H p=none→Q (.ref p) (bE H p (.tup (qB xs lo hi)))
theorem Dz:HZ X (Je X.K):=by
 intro af s σ H x v vl vu lo hi sl Q I rx hs pl pu h;obtain⟨a,xs,rfl,hx,hw,q⟩:=h;cases rx;obtain⟨its,r,ht,hz⟩:=I.tuple hx;have hlen:its.toArray.size=xs.length:=by rw[size_toArray];exact r.length.symm
 refine⟨"tuple",_,PyProof.Rows.slot_tuple_getitem.lookup,ht.typeIs,?_⟩;refine HT.getItem_tuple_cut ht hs pl pu (by rw[hlen];exact hw) ?_ (by rw[hlen];exact hz);rw[hlen];refine⟨.ref s.heap.objs.size,_,I.laid (t':=s.toks) (o:=.tup (qB xs lo hi)) (fun b ob q=>Heap.get?_push_of_some _ q) (Nat.le_refl _) ?_,rfl,q _ (I.hok.fresh (Nat.le_refl _))⟩;exact⟨Nat.le_trans (lN xs lo hi) hz,_,(r.drop (HT.sIx xs.length 0 lo)).take (HT.sIx xs.length xs.length hi-HT.sIx xs.length 0 lo),IsTup.new _ _⟩
def Gg (K:W.Frag):R2:=fun x y H Q=>∃a b xs ys,x=.ref a∧y=.ref b∧k9 K H a xs∧k9 K H b ys∧xs≠[]∧xs.length+ys.length≤sizeLine∧
 (ys=[]→Q (.ref a) H)∧(ys≠[]→∀p,H p=none→Q (.ref p) (bE H p (.tup (xs++ys))))
theorem aK.nil_iff {xs:List V}{us:List Value}(r:aK xs us):us=[]↔xs=[]:=by
 cases r with
 | nil=>simp
 | cons _ _=>simp
theorem AA:fY X (binaryOp .Add) (Gg X.K):=by
 intro af s σ H x y v u Q I rx ry h;obtain⟨a,b,xs,ys,rfl,rfl,ha,hb,hx,hz,q1,q2⟩:=h;cases rx;cases ry;obtain⟨its,r1,p1,_⟩:=I.tuple ha;obtain⟨its2,r2,p2,_⟩:=I.tuple hb;refine HT.cat_tup p1 p2 (fun z=>hx (r1.nil_iff.mp z)) (fun z=>⟨.ref a,H,I,rfl,q1 (r2.nil_iff.mp z)⟩) (fun z=>?_) (by rw[←r1.length,←r2.length];exact hz);refine⟨.ref s.heap.objs.size,_,I.laid (t':=s.toks) (o:=.tup (xs++ys)) (fun b ob q=>Heap.get?_push_of_some _ q) (Nat.le_refl _) ?_,rfl,q2 (fun w=>z (r2.nil_iff.mpr w)) _ (I.hok.fresh (Nat.le_refl _))⟩;exact⟨by rw[length_append];exact hz,_,r1.append r2,IsTup.new _ _⟩
end
def zM (n:Nat)(i:Int):Option Nat:=if 0≤i then(if i<n then some i.toNat else none) else if -(n:Int)≤i then some (i+n).toNat else none
def oZ {α:Type}(xs:List α)(i:Int):Option α:=(zM xs.length i).bind fun j=>xs[j]?
theorem uy {n:Nat}{i:Int}{j:Nat}(h:zM n i=some j):seqIndex? i n=some j∧j<n∧-(n:Int)≤i∧i<n:=by
 unfold zM at h
 by_cases h0:0≤i
 ·rw[if_pos h0] at h
  by_cases h1:i<n
  ·rw[if_pos h1] at h;have e:i.toNat=j:=Option.some.inj h;exact⟨by rw[seqIndex_of h0 h1,e],by omega,by omega,h1⟩
  ·rw[if_neg h1] at h;cases h
 ·rw[if_neg h0] at h
  by_cases h1:-(n:Int)≤i
  ·rw[if_pos h1] at h;have e:(i+n).toNat=j:=Option.some.inj h;exact⟨by rw[seqIndex_neg (by omega) h1,e],by omega,h1,by omega⟩
  ·rw[if_neg h1] at h;cases h
theorem um {α:Type}{xs:List α}{i:Int}{v:α}(h:oZ xs i=some v):∃j,seqIndex? i xs.length=some j∧xs[j]?=some v∧j<xs.length∧-(xs.length:Int)≤i∧i<xs.length:=by
 unfold oZ at h;cases e:zM xs.length i with
 | none=>rw[e] at h;cases h
 | some j=>
  rw[e] at h;obtain⟨h1,h2,h3,h4⟩:=uy e;exact⟨j,h1,h,h2,h3,h4⟩
theorem pK {α:Type}{xs:List α}{j:Nat}{v:α}(h:xs[j]?=some v):oZ xs (j:Int)=some v:=by
 have hj:j<xs.length:=(List.getElem?_eq_some_iff.mp h).1;have e:zM xs.length (j:Int)=some j:=by
  unfold zM;rw[if_pos (by omega),if_pos (by omega)];simp
 unfold oZ;rw[e];exact h
def pv (b:Expr):Prop:=∀o i,subscripted b false o i=operate [o,i] (getItem o i)
def HQ (X:Cx)(r:R2):Prop:=
 ∀(value slice:Expr) (af:List (Addr×Obj)) (s:Shared) (σ:St) (H:Hp) (x y:V) (v u:Value) (Q:VK),Inv X af σ H s→RelV x v→RelV y u→r x y H Q→
  subscripted slice false v u=operate [v,u] (getItem v u)→wpAny (model X.prog X.w) X.A (subscriptTail value slice v u) (EP X af σ Q) X.xe s
def JB (X:Cx)(id:String)(r:V→List V→Hp→VK→Prop):Prop:=
 ∀(af:List (Addr×Obj)) (s:Shared) (σ:St) (H:Hp) (x:V) (xs:List V) (v:Value) (us:List Value) (Q:VK),Inv X af σ H s→RelV x v→aK xs us→r x xs H Q→
  wpAny (model X.prog X.w) X.A (call (.builtin id) (v::us)) (EP X af σ Q) X.xe s
section
variable {X:Cx}{a b:Expr}{ta tb:TE}{pos:Pos}
theorem Gy {r:R2}(hr:HQ X r)(ha:PE X a ta)(hb:PE X b tb)(hs:pv b):PE X (.Subscript a b pos) (FQ r ta tb):=by
 intro af s σ H Q I h;exact Subscript_ (EM ha hb I h fun v u s2 x y H2 I2 rx ry q=>hr a b af s2 σ H2 x y v u Q I2 rx ry q (hs _ _))
def IW (K:W.Frag):R2:=fun x y H Q=>∃p xs i v,x=.ref p∧y=.int i∧lw K H p xs∧oZ xs i=some v∧Q v H
def Iq (K:W.Frag):R2:=fun x y H Q=>∃p xs i v,x=.ref p∧y=.int i∧k9 K H p xs∧oZ xs i=some v∧Q v H
theorem AO:HQ X (IW X.K):=by
 intro value slice af s σ H x y v u Q I rx ry h hs;obtain⟨p,xs,i,z,rfl,rfl,hq,he,q⟩:=h;cases rx;obtain⟨t,rfl⟩:=ry;obtain⟨its,r,pl,hz⟩:=I.list hq;obtain⟨j,h1,h2,h3,h4,h5⟩:=um he;obtain⟨w,ew,rw'⟩:=r.get h2;have hl:=r.length;have hn:=jO;have fin:EP X af σ Q w s:=⟨z,H,I,rw',q⟩
 by_cases h0:0≤i
 ·have hj:i.toNat=j:=by
   rw[seqIndex_of h0 h5] at h1;exact Option.some.inj h1
  exact item_listR pl.isList h0 (by omega) (by rw[hj];simpa using ew) fin hs
 ·have hj:(i+(its.toArray.size:Int)).toNat=j:=by
   rw[seqIndex_neg (by omega) h4] at h1;rw[size_toArray,←hl];exact Option.some.inj h1
  exact subscriptTail_builtinR (x:=w) pl.isList.typeIs slot_list_getitem.lookup
   (wpAny_getItem_list_neg (Q:=fun r s'=>r=w∧EP X af σ Q r s') pl.isList (by omega) (by rw[size_toArray] <;> omega) (by omega) (by rw[hj];simpa using ew) ⟨rfl,fin⟩) hs
theorem D8:HQ X (Iq X.K):=by
 intro value slice af s σ H x y v u Q I rx ry h hs;obtain⟨p,xs,i,z,rfl,rfl,hq,he,q⟩:=h;cases rx;obtain⟨t,rfl⟩:=ry;obtain⟨its,r,pl,hz⟩:=I.tuple hq;obtain⟨j,h1,h2,h3,h4,h5⟩:=um he;obtain⟨w,ew,rw'⟩:=r.get h2;have hl:=r.length;have hn:=jO;have fin:EP X af σ Q w s:=⟨z,H,I,rw',q⟩;exact subscriptTail_builtinR (x:=w) pl.typeIs slot_tuple_getitem.lookup
  (getItem_tuple (j:=j) (Q:=fun r s'=>r=w∧EP X af σ Q r s') pl (by omega) (by omega) (by rw[size_toArray,←hl];exact h1) (by simpa using ew) ⟨rfl,fin⟩) hs
theorem sw (its:List Value)(n j:Nat)(u:Value):Obj.mapSeq (·.setIfInBounds j u) {cls:=.type "list",data:=.seq its.toArray n}={cls:=.type "list",data:=.seq (its.set j u).toArray n}:=by
 simp[Obj.mapSeq]
theorem Inv.lst {af:List (Addr×Obj)}{σ:St}{H:Hp}{s:Shared}{p:Addr}{xs:List V}(I:Inv X af σ H s)(h:H p=some (.lst xs)) :
  ∃(its:List Value) (n:Nat),aK xs its∧s.heap.get? p=some {cls:=.type "list",data:=.seq its.toArray n}∧xs.length≤sizeLine:=by
 obtain⟨z,its,n,r,e⟩:=I.hok p _ h;exact⟨its,n,r,e,z⟩
theorem Inv.lstUpd {af:List (Addr×Obj)}{σ:St}{H:Hp}{s:Shared}{p:Addr}{xs ys:List V}{its its':List Value}{n n':Nat}{f:Obj→Obj}(I:Inv X af σ H s)(h:H p=some (.lst xs))
  (ho:s.heap.get? p=some {cls:=.type "list",data:=.seq its.toArray n}) (hf:f {cls:=.type "list",data:=.seq its.toArray n}={cls:=.type "list",data:=.seq its'.toArray n'}) (r:aK ys its') (hz:ys.length≤sizeLine) (t:Nat) :
  Inv X af σ (bE H p (.lst ys)) {s with heap:=s.heap.update p f,toks:=t}:=by
 have e:(s.heap.update p f).get? p=some {cls:=.type "list",data:=.seq its'.toArray n'}:=by
  rw[Heap.get?_update_self f ho (by rw[hf] <;> rfl),hf]
 refine I.write (x:=p) (e:=p) (by rw[h];trivial) (.inl rfl) (fun b u hb q=>(Heap.get?_update_other _ _ (Ne.symm hb)).trans q) ⟨_,e⟩ ?_;exact⟨hz,its',n',r,e⟩
def FK:V→V→V→Hp→(Hp→Prop)→Prop:=fun o i v H Q=>∃p xs k j,o=.ref p∧i=.int k∧H p=some (.lst xs)∧zM xs.length k=some j∧Q (bE H p (.lst (xs.set j v)))
theorem zn:Hq X FK:=by
 intro af s σ H o i v ov iv u Q I ro ri rv h;obtain⟨p,xs,k,j,rfl,rfl,hp,hj,q⟩:=h;cases ro;obtain⟨t,rfl⟩:=ri;obtain⟨its,n,r,ho,hz⟩:=I.lst hp;obtain⟨h1,h2,h3,h4⟩:=uy hj;have hl:=r.length;have hn:=jO;have I':Inv X af σ (bE H p (.lst (xs.set j v))) {s with heap:=s.heap.update p (Obj.mapSeq (·.setIfInBounds j u))}:=
  I.lstUpd hp ho (sw its n j u) (r.set rv j) (by rw[length_set];exact hz) s.toks
 by_cases h0:0≤k
 ·have hk:k.toNat=j:=by
   rw[seqIndex_of h0 h4] at h1;exact Option.some.inj h1
  exact W.ki_setAt ho h0 (by omega) (by rw[size_toArray,←hl];exact h4) (by rw[hk];exact⟨_,I',q⟩)
 ·have hk:(k+(its.toArray.size:Int)).toNat=j:=by
   rw[seqIndex_neg (by omega) h3] at h1;rw[size_toArray,←hl];exact Option.some.inj h1
  exact W.ki_setBack ho (by omega) (by rw[size_toArray,←hl];exact h3) (by omega) (by rw[hk];exact⟨_,I',q⟩)
theorem pw (lo hi:Option Int)(n:Nat):(sliceBounds lo hi none n).1=((HT.sIx n 0 lo:Nat):Int)∧(sliceBounds lo hi none n).2.1=((HT.sIx n n hi:Nat):Int)∧(sliceBounds lo hi none n).2.2=1:=by
 refine⟨?_,?_,rfl⟩
 ·cases lo with
  | none=>simp[sliceBounds,HT.sIx]
  | some i=>
   simp only[sliceBounds,HT.sIx,Option.getD_none,show(1:Int)>0 by decide,if_true]
   by_cases h:i<0
   ·simp only[h,if_true] <;> omega
   ·simp only[h,if_false] <;> omega
 ·cases hi with
  | none=>simp[sliceBounds,HT.sIx]
  | some i=>
   simp only[sliceBounds,HT.sIx,Option.getD_none,show(1:Int)>0 by decide,if_true]
   by_cases h:i<0
   ·simp only[h,if_true] <;> omega
   ·simp only[h,if_false] <;> omega
theorem nH (its:List Value)(lo hi:Option Int):slicePick its.toArray lo hi none=((its.drop (HT.sIx its.length 0 lo)).take (HT.sIx its.length its.length hi-HT.sIx its.length 0 lo)).toArray:=by
 obtain⟨h1,h2,h3⟩:=pw lo hi its.toArray.size;unfold slicePick;rw[h1,h2,h3];simp only[sliceRange_one,pick_run,size_toArray] <;> rfl
def IM (K:W.Frag):V→Option Int→Option Int→Hp→VK→Prop:=fun x lo hi H Q=>∃a xs,x=.ref a∧lw K H a xs∧∀p,H p=none→Q (.ref p) (bE H p (.lst (qB xs lo hi)))
theorem oV:HZ X (IM X.K):=by
 intro af s σ H x v vl vu lo hi sl Q I rx hs pl pu h;obtain⟨a,xs,rfl,hx,q⟩:=h;cases rx;obtain⟨its,r,ht,hz⟩:=I.list hx;have hlen:=r.length;refine⟨"list",_,slot_list_getitem.lookup,ht.isList.typeIs,?_⟩;refine wpAny_getItem_list_slice ht.isList hs pl pu .none (by simp) ?_ (by rw[size_toArray] <;> omega);rw[nH,←hlen];refine⟨.ref s.heap.objs.size,_,I.laid (t':=s.toks) (o:=.lst (qB xs lo hi)) (fun b ob q=>Heap.get?_push_of_some _ q) (Nat.le_refl _) ?_,rfl,q _ (I.hok.fresh (Nat.le_refl _))⟩;exact⟨Nat.le_trans (lN xs lo hi) hz,_,0,(r.drop (HT.sIx xs.length 0 lo)).take (HT.sIx xs.length xs.length hi-HT.sIx xs.length 0 lo),Heap.get?_push_size _ rfl⟩
def gU:V→Bool
 | .non=>true
 | .bl _=>true
 | .int _=>true
 | .str _=>true
 | _=>false
def ux:V→V→Bool
 | .non,.non=>true
 | .bl a,.bl b=>a==b
 | .bl a,.int b=>(if a then 1 else 0)==b
 | .int a,.bl b=>a==(if b then 1 else 0)
 | .int a,.int b=>a==b
 | .str a,.str b=>a==b
 | _,_=>false
theorem DG {A:Around}{s:Shared}{y x:V}{u v:Value}(ry:RelV y u)(rx:RelV x v)(fy:gU y=true)(fx:gU x=true):SeqAt.EqAt A s u v (ux y x):=by
 cases y with
 | non=>
  cases ry;cases x with
  | non=>cases rx;exact SeqAt.EqAt.same _
  | bl b=>cases rx;exact SeqAt.EqAt.none_bool b
  | int b=>obtain⟨t,rfl⟩:=rx;exact SeqAt.EqAt.none_int b t
  | str b=>obtain⟨t,rfl⟩:=rx;exact SeqAt.EqAt.none_str b t
  | _=>exact absurd (show false=true from fx) Bool.false_ne_true
 | bl a=>
  cases ry;cases x with
  | non=>cases rx;exact SeqAt.EqAt.bool_none a
  | bl b=>cases rx;exact SeqAt.EqAt.bool_bool a b
  | int b=>obtain⟨t,rfl⟩:=rx;exact SeqAt.EqAt.bool_int a b t
  | str b=>obtain⟨t,rfl⟩:=rx;exact SeqAt.EqAt.bool_str a b t
  | _=>exact absurd (show false=true from fx) Bool.false_ne_true
 | int a=>
  obtain⟨t',rfl⟩:=ry;cases x with
  | non=>cases rx;exact SeqAt.EqAt.int_none a t'
  | bl b=>cases rx;exact SeqAt.EqAt.int_bool a t' b
  | int b=>obtain⟨t,rfl⟩:=rx;exact SeqAt.EqAt.int_int a t' b t
  | str b=>obtain⟨t,rfl⟩:=rx;exact SeqAt.EqAt.int_str a t' b t
  | _=>exact absurd (show false=true from fx) Bool.false_ne_true
 | str a=>
  obtain⟨t',rfl⟩:=ry;cases x with
  | non=>cases rx;exact SeqAt.EqAt.str_none a t'
  | bl b=>cases rx;exact SeqAt.EqAt.str_bool a t' b
  | int b=>obtain⟨t,rfl⟩:=rx;exact SeqAt.EqAt.str_int a t' b t
  | str b=>obtain⟨t,rfl⟩:=rx;exact SeqAt.EqAt.str_str a t' b t
  | _=>exact absurd (show false=true from fx) Bool.false_ne_true
 | _=>exact absurd (show false=true from fy) Bool.false_ne_true
def Fk (x:V)(u:Value):Bool:=match u with
 | .none=>ux .non x
 | .bool b=>ux (.bl b) x
 | .int i _=>ux (.int i) x
 | .str z _=>ux (.str z) x
 | _=>false
theorem sA {x y:V}{u:Value}(r:RelV y u)(f:gU y=true):Fk x u=ux y x:=by
 cases y with
 | non=>cases r;rfl
 | bl b=>cases r;rfl
 | int i=>obtain⟨t,rfl⟩:=r;rfl
 | str z=>obtain⟨t,rfl⟩:=r;rfl
 | _=>exact absurd (show false=true from f) Bool.false_ne_true
theorem mF {A:Around}{s:Shared}{x:V}{v:Value}(rx:RelV x v)(fx:gU x=true):∀{xs:List V} {us:List Value},aK xs us→xs.all gU=true→∀u∈us,SeqAt.EqAt A s u v (Fk x u)
 | _,_,.nil,_=>fun u hu=>by cases hu
 | y::xs,u::us,.cons r t,f=>fun u' hu=>by
  rw[all_cons,Bool.and_eq_true] at f;rcases mem_cons.mp hu with rfl|hu
  ·rw[sA r f.1];exact DG r rx f.1 fx
  ·exact mF rx fx t f.2 u' hu
theorem o3:cF X (.builtin "len") (fun xs H Q=>∃p ys,xs=[.ref p]∧(lw X.K H p ys∨k9 X.K H p ys)∧Q (.int ys.length) H):=by
 intro af s σ H xs us Q I r h;obtain⟨p,ys,rfl,hq,q⟩:=h;obtain⟨u,rfl,rx⟩:=mS r;cases rx;have hn:=jO;rcases hq with hq|hq
 ·obtain⟨its,r',pl,hz⟩:=I.list hq;have hlen:=r'.length;exact Calls.call_len_list pl.isList (by simp only[size_toArray] <;> omega) ⟨.int ys.length,H,I.tok _,⟨s.toks+1,by rw[size_toArray,hlen]⟩,q⟩
 ·obtain⟨its,r',pl,hz⟩:=I.tuple hq;have hlen:=r'.length;exact len_tuple pl (by simp only[size_toArray] <;> omega) ⟨.int ys.length,H,I.tok _,⟨s.toks+1,by rw[size_toArray,hlen]⟩,q⟩
theorem o6:cF X (.builtin "len") (fun xs H Q=>∃z,xs=[.str z]∧z.length≤sizeLine∧Q (.int z.length) H):=by
 intro af s σ H xs us Q I r h;obtain⟨z,rfl,hz,q⟩:=h;obtain⟨u,rfl,t,rfl⟩:=mS r;have hn:=jO;exact len_str (by omega) ⟨.int z.length,H,I.tok _,⟨_,rfl⟩,q⟩
theorem pY:cF X (.type "list") (fun xs H Q=>∃p ys,xs=[.ref p]∧(lw X.K H p ys∨k9 X.K H p ys)∧∀l,H l=none→Q (.ref l) (bE H l (.lst ys))):=by
 intro af s σ H xs us Q I r h;obtain⟨p,ys,rfl,hq,q⟩:=h;obtain⟨u,rfl,rx⟩:=mS r;cases rx;have fin:∀(its:List Value),aK ys its→ys.length≤sizeLine→∀(h':Heap) (c':Nat),(∀b o',s.heap.get? b=some o'→h'.get? b=some o')→
   h'.get? s.heap.objs.size=some {cls:=.type "list",dict:=none,data:=.seq its.toArray c',slots:=#[]}→EP X af σ Q (.ref s.heap.objs.size) {s with heap:=h'}:=fun its r' hz h' c' kp e=>
  ⟨.ref s.heap.objs.size,_,I.laid (t':=s.toks) kp (Nat.le_refl _) (show ck X.prog X.w _ h' _ (.lst ys) from⟨hz,its,c',r',e⟩),rfl,q _ (I.hok.fresh (Nat.le_refl _))⟩
 rcases hq with hq|hq
 ·obtain⟨its,r',pl,hz⟩:=I.list hq;have hlen:=r'.length;obtain⟨o,ho,hc,n,hd⟩:=pl.isList;exact call_list_seq p (.inl rfl) ho hc hd (fun h' c' kp e=>fin its r' hz h' c' kp e) (by simp only[size_toArray] <;> omega)
 ·obtain⟨its,r',pl,hz⟩:=I.tuple hq;have hlen:=r'.length;obtain⟨o,ho,hc,n,hd⟩:=pl;exact call_list_seq p (.inr rfl) ho hc hd (fun h' c' kp e=>fin its r' hz h' c' kp e) (by simp only[size_toArray] <;> omega)
theorem eQ:cF X (.type "tuple") (fun xs H Q=>∃p ys,xs=[.ref p]∧((lw X.K H p ys∧∀l,H l=none→Q (.ref l) (bE H l (.tup ys)))∨(k9 X.K H p ys∧Q (.ref p) H))):=by
 intro af s σ H xs us Q I r h;obtain⟨p,ys,rfl,h⟩:=h;obtain⟨u,rfl,rx⟩:=mS r;cases rx;rcases h with⟨hq,q⟩|⟨hq,q⟩
 ·obtain⟨its,r',pl,hz⟩:=I.list hq;have hlen:=r'.length;refine call_tuple_list pl.isList (fun h' kp=>?_) (by simp only[size_toArray] <;> omega);have I1:Inv X af σ H {s with heap:=h'}:=I.kept (t':=s.toks) kp;have I2:Inv X af σ (bE H h'.objs.size (.tup ys)) {s with heap:=h'.push {cls:=.type "tuple",data:=.seq its.toArray}}:=
   I1.laid (t':=s.toks) (fun b o e=>Heap.get?_push_of_some _ e) (Nat.le_refl _) (show ck X.prog X.w _ _ _ (.tup ys) from⟨hz,its,r',IsTup.new _ _⟩)
  exact⟨.ref h'.objs.size,_,I2,rfl,q _ (I1.hok.fresh (Nat.le_refl _))⟩
 ·obtain⟨its,r',pl,hz⟩:=I.tuple hq;exact call_tuple_same pl ⟨.ref p,H,I,rfl,q⟩
def JO (K:W.Frag)(T:String)(x:V)(H:Hp):Prop:=match x with
 | .str _=>T="str"
 | .int _=>T="int"
 | .ref p=>(T="list"∧∃xs,lw K H p xs)∨(T="tuple"∧∃o,K.lookup p=some o∧o.cls=.type "tuple"∧o.dict=none)∨
   (T="dict"∧((∃kvs,H p=some (.dK kvs))∨∃kvs,H p=some (.dT kvs)))∨(T="set"∧∃S n,H p=some (.set S n))
 | _=>False
theorem Dp {af:List (Addr×Obj)}{σ:St}{H:Hp}{s:Shared}{T:String}{x:V}{v:Value}(I:Inv X af σ H s)(r:RelV x v)(ty:JO X.K T x H) :
  s.TypeIs v T∧∀a,v=.ref a→∃ob,s.heap.get? a=some ob∧ob.dict=none:=by
 cases x with
 | str z=>
  obtain⟨t,rfl⟩:=r;cases (show T="str" from ty);exact⟨typeIs_str s z t,fun _ e=>nomatch e⟩
 | int i=>
  obtain⟨t,rfl⟩:=r;cases (show T="int" from ty);exact⟨typeIs_int s i t,fun _ e=>nomatch e⟩
 | ref p=>
  cases r;rcases ty with⟨rfl,xs,hq⟩|⟨rfl,o,hk,hc,hd⟩|⟨rfl,hk⟩|⟨rfl,S,n,hk⟩
  ·obtain⟨its,_,pl,_⟩:=I.list hq;refine⟨pl.isList.typeIs,fun a e=>?_⟩;cases e;obtain⟨o,n,e,c,hd,_⟩:=pl;exact⟨o,e,hd⟩
  ·refine⟨⟨o,I.kIn p o hk,hc⟩,fun a e=>?_⟩;cases e;exact⟨o,I.kIn _ o hk,hd⟩
  ·have z:∃o,s.heap.get? p=some o∧o.ExactDict:=by
    rcases hk with⟨kvs,hk⟩|⟨kvs,hk⟩
    ·obtain⟨_,_,_,_,o,_,_,e,ex,_⟩:=I.hok p _ hk;exact⟨o,e,ex⟩
    ·obtain⟨_,_,_,_,o,_,_,e,ex,_⟩:=I.hok p _ hk;exact⟨o,e,ex⟩
   obtain⟨o,e,ex⟩:=z;refine⟨⟨o,e,ex.1⟩,fun a e2=>?_⟩;cases e2;exact⟨o,e,ex.2.1⟩
  ·obtain⟨o,_,_,_,e,ex,_⟩:=I.hok p _ hk;refine⟨⟨o,e,ex.1⟩,fun a e2=>?_⟩;cases e2;exact⟨o,e,ex.2.1⟩
 | _=>exact False.elim ty
def JJ (K:W.Frag)(T:String)(r:V→List V→Hp→VK→Prop)(to:TE)(t:TA):TE:=fun σ H Q=>to σ H fun x H1=>JO K T x H1∧t σ H1 fun xs H2=>r x xs H2 Q
variable {o e:Expr}{es:List Expr}{to:TE}{t:TA}{name:Str}{apos cpos:Pos}{T id:String}{r:V→List V→Hp→VK→Prop}
theorem yM (pa:PlainAttrs T)(slot:Slot T name id)(hty:typeOf (.builtin id)=pure (.type "method_descriptor"))(hm:JB X id r)(ho:PE X o to)(ha:PA X (e::es) t)
  (hbase:attributeBase o name X.env (eval o X.env)=eval o X.env:=by rfl)
  (hfew:((backTo cpos (starEach (e::es) X.env)).all (fun x=>!x.1)&&(backToKw cpos (keywordEach [] X.env)).all (fun x=>x.1.isSome)
   && decide ((e::es).length+([]:List Keyword).length+(if([]:List Keyword).isEmpty then 0 else 1)<30))=true:=by rfl)
  (hline:(apos.endLine==cpos.line)=true:=by rfl) (hs:starEach (e::es) X.env=(false,eval e X.env)::starEach es X.env:=by rfl) (hplain:(backTo cpos (starEach es X.env)).any (·.1)=false:=by rfl) :
  PE X (.Call (.Attribute o name apos) (e::es) [] cpos) (JJ X.K T r to t):=by
 intro af s σ H Q I h;refine wpAny_Call_method_late hbase hfew hline rfl (cj (ho af s σ H _ I h) fun v s1 hxx=>?_);obtain⟨x,H1,I1,r1,ty,q1⟩:=hxx;obtain⟨h1,h2⟩:=Dp I1 r1 ty;refine⟨T,id,pa,slot,hty,h1,h2,?_⟩;have hA:=ha cpos af s1 σ H1 _ I1 q1;rw[hs] at hA ⊢;refine Calls.callWith_builtin (by show(false||(backTo cpos (starEach es X.env)).any (·.1))=false;rw[hplain] <;> rfl) (Calls.evalArgs_plain ?_);exact cj hA fun us s2 ⟨vs,H2,I2,r2,q2⟩=>hm af s2 σ H2 x vs v us Q I2 r1 r2 q2
end
def JY (X:Cx)(id:String)(r:V→List V→Hp→VK→Prop):Prop:=
 ∀(af:List (Addr×Obj)) (s:Shared) (σ:St) (H:Hp) (x:V) (xs:List V) (v:Value) (us:List Value) (Q:VK),Inv X af σ H s→RelV x v→aK xs us→r x xs H Q→
  wpAny (model X.prog X.w) X.A (call (.builtin id) (v::us)) (EP X af σ Q) X.xe s
theorem aK.one:∀{x:V} {us:List Value},aK [x] us→∃u,us=[u]∧RelV x u
 | _,_,.cons r .nil=>⟨_,rfl,r⟩
theorem aK.reverse {xs:List V}{us:List Value}(h:aK xs us):aK xs.reverse us.reverse:=by
 induction h with
 | nil=>exact .nil
 | cons r t ih=>rw[reverse_cons,reverse_cons];exact aK.append ih (.cons r .nil)
section
variable {X:Cx}{af:List (Addr×Obj)}{σ:St}{H:Hp}{s:Shared}{l b:Addr}{xs ys zs:List V}
theorem Inv.lset {its its':List Value}{n:Nat}{f:Array Value→Array Value}{t':Nat}(I:Inv X af σ H s)(hH:H l=some (.lst xs))
  (e:s.heap.get? l=some {cls:=.type "list",data:=.seq its.toArray n}) (hf:f its.toArray=its'.toArray) (hv:aK ys its') (hz:ys.length≤sizeLine) :
  Inv X af σ (bE H l (.lst ys)) {s with heap:=s.heap.update l (Obj.mapSeq f),toks:=t'}:=by
 have q:=PySem.IsL.update e f;rw[hf] at q;refine I.write (x:=l) (e:=l) (by rw[hH];exact trivial) (.inl rfl) (fun b' u hb hu=>(Heap.get?_update_other s.heap (Obj.mapSeq f) (Ne.symm hb)).trans hu) ⟨_,q⟩ ?_;exact⟨hz,its',_,hv,q⟩
theorem Inv.lnew {its:List Value}{t':Nat}(I:Inv X af σ H s)(hv:aK ys its)(hz:ys.length≤sizeLine) :
  Inv X af σ (bE H s.heap.objs.size (.lst ys)) {s with heap:=s.heap.push {cls:=.type "list",data:=.seq its.toArray},toks:=t'}:=
 I.laid (fun _ _ q=>Heap.get?_push_of_some _ q) (Nat.le_refl _) ⟨hz,its,0,hv,Heap.get?_push_size _ rfl⟩
theorem Inv.fresh (I:Inv X af σ H s):H s.heap.objs.size=none:=I.hok.fresh (Nat.le_refl _)
theorem Inv.lstM (I:Inv X af σ H s)(hH:H l=some (.lst xs)):xs.length≤sizeLine∧∃(its:List Value) (n:Nat),aK xs its∧xs.length=its.length∧s.heap.get? l=some {cls:=.type "list",data:=.seq its.toArray n}:=by
 obtain⟨z,its,n,r,e⟩:=I.hok l _ hH;exact⟨z,its,n,r,r.length,e⟩
end
section
variable {X:Cx}
def A0:V→List V→Hp→VK→Prop:=fun x vs H Q=>∃l xs y,x=.ref l∧vs=[y]∧H l=some (.lst xs)∧xs.length<sizeLine∧Q .non (bE H l (.lst (xs++[y])))
theorem vV:JY X "list.append" A0:=by
 intro af s σ H x vs v us Q I rx rv h;obtain⟨l,xs,y,rfl,rfl,hH,hz,q⟩:=h;cases rx;obtain⟨u,rfl,ru⟩:=rv.one;obtain⟨z,its,n,r,hl,e⟩:=I.lstM hH;refine call_meets F.slot_list_append ⟨_,e,rfl⟩ F.entry_list_append (F.args_list_append_2 _ _) (PySem.list_append l its.toArray n u (by rw[size_toArray];omega)) ⟨e,?_⟩;refine⟨.non,_,I.lset (its':=its++[u]) hH e (by simp) (r.append (.cons ru .nil)) ?_,rfl,q⟩;rw[length_append,length_singleton];omega
def Jf:R2:=fun x y H Q=>∃l b xs zs,x=.ref l∧y=.ref b∧H l=some (.lst xs)∧H b=some (.lst zs)∧xs.length+zs.length≤sizeLine∧∀p,H p=none→Q (.ref p) (bE H p (.lst (xs++zs)))
theorem xX:fY X (binaryOp .Add) Jf:=by
 intro af s σ H x y v u Q I rx ry h;obtain⟨l,b,xs,zs,rfl,rfl,hH,hB,hz,q⟩:=h;cases rx;cases ry;obtain⟨z,its,n,r,hl,e⟩:=I.lstM hH;obtain⟨z2,its2,n2,r2,hl2,e2⟩:=I.lstM hB;refine PySem.P.add_list e e2 ?_ (by rw[size_toArray,size_toArray];omega);have ea:its.toArray++its2.toArray=(its++its2).toArray:=by simp
 rw[ea];exact⟨.ref _,_,I.lnew (t':=s.toks) (r.append r2) (by rw[length_append];omega),rfl,q _ I.fresh⟩
end
end L2
namespace Att
open PySem PySem.W PySem.Calls PyProof.Rows
theorem lZ {P:Params}{h:Heap}:∀(ns:List Int) (vs:List Value),WellAll P h vs (ns.map WData.int)→IntsAre vs ns:=by
 intro ns
 induction ns with
 | nil=>
  intro vs w;rw[List.map_nil] at w;cases w;exact .nil
 | cons n ns ih=>
  intro vs w;rw[List.map_cons] at w;cases w with
  | cons a b=>
   cases a;exact .cons _ _ (ih _ b)
theorem wu {l:OpenLaw}{n:Nat}(hn:l.most=some n){P:Params}{h:Heap}{args:List WData}{vals:List Value}
  (hpre:l.row.toRowW.claim.pre args=true) (hwl:WellAll P h vals args) :
  ∃a vs ns,vals=[Value.ref a]∧args=[WData.list (ns.map WData.int)]∧h.get? a=some {cls:=.type "list",data:=.seq vs.toArray}∧IntsAre vs ns∧ns.length≤n:=by
 have hsh:WShape.hasAll [] args [.list .int]=true:=(pre_splitW hpre).1;have hc:l.pre.holds [] {args:=args}=true:=(pre_splitW hpre).2;obtain⟨d,r,rfl,h1,h2⟩:=hasAllW_cons hsh;obtain rfl:=hasAllW_nil h2;obtain⟨xs,rfl,h3⟩:=hasW_list h1;obtain⟨ns,rfl⟩:=items_int h3;have hlen:ns.length≤n:=by
  unfold OpenLaw.pre at hc;have h4:(WTm.not (.lt (.lit (.int (n:Int))) (.len (.arg 0)))).holds [] {args:=[.list (ns.map .int)]}=true:=by
   have h4:=(holds_andW hc).1;rw[hn] at h4;exact h4
  have h5:=condW_of h4 (w_not (w_lt w_lit (w_len_list (w_arg rfl))));rw[List.length_map] at h5;refine Nat.le_of_not_lt fun q=>?_
  have q':(n:Int)<((ns.length:Nat):Int):=by omega
  first
   | (rw[decide_eq_true q'] at h5;exact absurd h5 (by decide))
   | (simp at h5;omega)
 cases hwl with
 | cons w1 w2=>
  cases w2;cases w1 with
  | list ho hall=>exact⟨_,_,ns,rfl,rfl,ho,lZ ns _ hall,hlen⟩
theorem vW (l:OpenLaw)(args:List WData):l.row.toRowW.claim.post args (.bool true) args=true:=
 postW_of (r:=l.row.toRowW) (X:=(true==true))
  (show WShape.has [] (.bool true) .bool=true by first|rfl|decide|simp[WShape.has,WShape.arms,WShape.armsAll])
  (show(WTm.eq .res (.lit (.bool true))).value [] {args:=args,res:=some (.bool true),after:=args}=some (.bool (true==true)) from w_eq_bool (w_res rfl) w_lit) rfl
theorem attach_call {l:OpenLaw}{n:Nat}{q:Program}{loose:List Str}{XP:(Str→Option Value)→Heap→Prop}{YP:World→Heap→Prop}{d:DefRec}
  (hn:l.most=some n) (hdf:d.params.defaults=[])
  (call:∀(w:World) (s₀ s₁:Shared) (mg mb:Str→Option Value) (fa:Addr) (o:Obj) (pm cd doc:Value) (a:Addr) (vs:List Value) (ns:List Int),
   Ground q loose [] XP w s₀ mg mb s₁.heap→YP w s₁.heap→
   s₁.heap.get? fa=some o→o.data=.func (docDef d.name d.params d.body d.scope pm cd doc)→s₁.heap.CodeRec cd d.name→mg d.name=some (.ref fa)→
   s₁.heap.get? a=some {cls:=.type "list",data:=.seq vs.toArray}→IntsAre vs ns→ns.length≤n→s₁.gens=#[]→
   codeAny (model l.prog w) callerA (.call (.ref fa) ⟨[.ref a],[]⟩) (fun r s'=>r=.ok (.ret (.bool true))∧OldK s₁.heap s'.heap∧s'.os=s₁.os∧AllBare s'.gens) s₁) :
  WalkO q loose XP YP l.row.toRowW d [] (fun f vs=>PySem.call f vs):=by
 intro w s₀ s₁ mg mb G Y fa o pm cd doc dV kV ho hd hcd hD hmg hg args vals as hpre hlay hrd hwl hlo;obtain rfl:dV=.none:=Dflts.none hD hdf;obtain rfl:kV=.none:=Dflts.noKw hD;obtain⟨a,vs,ns,rfl,rfl,hobj,hints,hlen⟩:=wu hn hpre hwl;refine enter_call (codeAny_mono (call w s₀ s₁ mg mb fa o pm cd doc a vs ns G Y ho (fd_plain hd) hcd hmg hobj hints hlen hg) fun r s' hq=>?_);obtain⟨rfl,h2,h3,h4⟩:=hq;exact⟨.inl ⟨.bool true,.bool true,[],rfl,fun _=>rfl,.bool true,vW l _,fun _=>⟨List.Pairwise.nil,fun _ hm=>(nomatch hm)⟩⟩,h2,h3,h4⟩
end Att
namespace L2
open PySem PySem.Spec PyProof.Rows List
theorem nX:∀{vs:List Value} {ns:List Int},IntsAre vs ns→aK (ns.map V.int) vs
 | _,_,.nil=>.nil
 | _,_,.cons n t h=>.cons ⟨t,rfl⟩ (nX h)
def Ey (H:Hp):Prop:=∀b,H b=none∨∃o xs,H b=some (.frz o (.lst xs))
theorem yd {P:Program}{w:World}{K:W.Frag}{mg mb:Str→Option Value}{CX:wA}{k:Nat}{fa a:Addr}{fd:FuncData}{x:Str}{sp:Sp}{s₁:Shared}{vs:List Value}{ns:List Int}
  (KX:K.In s₁.heap) (hns:s₁.heap.Ns mainGlobals mg) (hb:s₁.heap.Ns builtinsNs mb) (hbb:∀x:Str,x≠"__name__"→mb x=bootBuiltins x) (hlim:s₁.heap.NoLimit) (hg:s₁.gens=#[])
  (ha:s₁.heap.get? a=some {cls:=.type "list",data:=.seq vs.toArray}) (hi:IntsAre vs ns) (hl:ns.length≤sizeLine) (hr:bL k callerA)
  (F:∀base:Heap,K.In base→base.Ns mainGlobals mg→dE P w K mg base CX k fa fd [x] sp) (hbind:∀(s:Shared) (u:Value),BindsTo s fd ⟨[u],[]⟩ [(x,u)])
  (hsp:∀H:Hp,Ey H→lw K H a (ns.map V.int)→sp [.ref a] H (fun v _=>v=.bl true) fun _ _ _=>False)
  (hCX:∀H e s',CX [] H s₁ (fun _ _ _=>False) e s'→False) :
  codeAny (model P w) callerA (.call (.ref fa) ⟨[.ref a],[]⟩) (fun r s'=>r=.ok (.ret (.bool true))∧OldK s₁.heap s'.heap∧s'.os=s₁.os∧AllBare s'.gens) s₁:=by
 have rv:=nX hi;have lenV:=hi.length;have core:∀H:Hp,Ey H→lw K H a (ns.map V.int)→jF P w H s₁.heap→(∀b,H b≠none→b=a)→(H a≠none→K.lookup a=none)→
   codeAny (model P w) callerA (.call (.ref fa) ⟨[.ref a],[]⟩) (fun r s'=>r=.ok (.ret (.bool true))∧OldK s₁.heap s'.heap∧s'.os=s₁.os∧AllBare s'.gens) s₁:=by
  intro H hO hS hok hA hK;have base_of:∀{b:Addr} {o:Obj},s₁.heap.get? b=some o→H b=none→(pb s₁.heap H).get? b=some o:=fun e n=>xT e n
  have noA:∀{b:Addr} {o:Obj} {es:Array DictEntry} {ep:Nat},s₁.heap.get? b=some o→o.data=.dict es ep→H b=none:=fun {b o es ep} e d=>by
   cases q:H b with
   | none=>rfl
   | some u=>
    have e':b=a:=hA b (by rw[q];simp);subst e';rw[ha] at e;cases e;have d':Data.seq vs.toArray _=Data.dict es ep:=d;cases d'
  have nsK:∀{b:Addr} {m:Str→Option Value},s₁.heap.Ns b m→(pb s₁.heap H).Ns b m:=fun {b m} ⟨o,es,ep,e,d,r⟩=>⟨o,es,ep,base_of e (noA e d),d,r⟩
  have hKb:K.In (pb s₁.heap H):=fun b o e=>base_of (KX b o e) (by
   cases q:H b with
   | none=>rfl
   | some u=>
    have e':b=a:=hA b (by rw[q];simp);subst e';rw[hK (by rw[q];simp)] at e;cases e)
  have hM:Mod K mg (pb s₁.heap H):=⟨hKb,nsK hns,⟨mb,nsK hb,hbb⟩,let ⟨mc,h1,h2⟩:=hlim;⟨mc,nsK h1,h2⟩⟩;have e0:sH P w K mg (pb s₁.heap H) callerA [] s₁ H:=⟨rfl,hM,fun b o e=>BV e,Nat.le_of_eq (vc _ _),trivial,fun b hb=>absurd (show b∈([]:List Addr) from hb) (by simp),hok,.of_eq hg⟩;refine codeAny_mono ((F _ hKb (nsK hns)).run callerA [] s₁ H ⟨[.ref a],[]⟩ [.ref a] [.ref a] _ _ hr e0 (hbind s₁ (.ref a)) (.cons rfl .nil) (hsp H hO hS)) fun r s' h=>?_
  cases r with
  | error e=>exact(hCX H e s' h).elim
  | ok fl=>
   cases fl with
   | next=>exact False.elim h
   | brk=>exact False.elim h
   | cont=>exact False.elim h
   | ret u=>
    obtain⟨v,H',os,bare,un,hok',r',q⟩:=h;have q':v=.bl true:=q;subst q';obtain rfl:u=Value.bool true:=r';refine⟨rfl,OldK.of_keep fun b o e=>?_,os,bare⟩;cases q:H b with
    | none=>exact un.keep b o e q (by intro z;exact absurd (show b∈([]:List Addr) from z) (by simp)) (by simp)
    | some u=>
     rcases hO b with z|⟨ob,xs,z⟩
     ·rw[q] at z;cases z
     ·have z2:=un.frzs b ob _ z;obtain⟨e1,_⟩:=hok b _ z;obtain⟨e2,_⟩:=hok' b _ z2;rw[e] at e1;cases e1;exact e2
 cases hk:K.lookup a with
 | some o=>
  have e:=KX a o hk;rw[ha] at e;cases e;refine core (fun _=>none) (fun _=>.inl rfl) (.inr ⟨_,vs.toArray,_,hk,rfl,rfl,rfl,by rw[size_toArray,lenV];exact hl,by simpa using rv⟩) (fun b u z=>by have z':(none:Option HO)=some u:=z;cases z') (fun b z=>absurd rfl z) fun z=>absurd rfl z
 | none=>
  refine core (fun b=>if b=a then some (.frz {cls:=.type "list",data:=.seq vs.toArray} (.lst (ns.map V.int))) else none) (fun b=>?_) (.inl (.inr ⟨{cls:=.type "list",data:=.seq vs.toArray},if_pos rfl⟩)) (fun b u z=>?_) (fun b z=>?_) fun _=>hk
  ·by_cases hb:b=a
   ·exact .inr ⟨_,_,if_pos hb⟩
   ·exact .inl (if_neg hb)
  ·by_cases hb:b=a
   ·have z':=(if_pos hb).symm.trans z;cases z';subst hb;exact⟨ha,by rw[length_map];exact hl,vs,_,rv,ha⟩
   ·have z':=(if_neg hb).symm.trans z;cases z'
  ·by_cases hb:b=a
   ·exact hb
   ·exact absurd (if_neg hb) z
theorem walk_of {l:W.OpenLaw}{n k:Nat}{q:Program}{loose:List Str}{XP:(Str→Option Value)→Heap→Prop}{YP:World→Heap→Prop}{d:DefRec}{K:Params→W.Frag}{CX:World→wA}{sp:World→Sp}{x:Str}
  (hn:l.most=some n) (hn2:n≤sizeLine) (hdf:d.params.defaults=[]) (hr:bL k callerA)
  (hY:∀(w:World) (h:Heap),YP w h→(K w.params).In h)
  (F:∀(w:World) (mg:Str→Option Value) (fa:Addr) (h:Heap),(K w.params).In h→h.Ns mainGlobals mg→mg d.name=some (.ref fa)→
   ∃fd:FuncData,(∀(s:Shared) (u:Value),BindsTo s fd ⟨[u],[]⟩ [(x,u)])∧
    ∀base:Heap,(K w.params).In base→base.Ns mainGlobals mg→dE l.prog w (K w.params) mg base (CX w) k fa fd [x] (sp w))
  (hsp:∀(w:World) (H:Hp) (a:Addr) (ns:List Int),ns.length≤n→Ey H→lw (K w.params) H a (ns.map V.int)→sp w [.ref a] H (fun v _=>v=.bl true) fun _ _ _=>False)
  (hCX:∀(w:World) (H:Hp) (s:Shared) (e:Value) (s':Shared),CX w [] H s (fun _ _ _=>False) e s'→False) :
  W.WalkO q loose XP YP l.row.toRowW d [] (fun f vs=>PySem.call f vs):=by
 refine Att.attach_call hn hdf fun w s₀ s₁ mg mb fa o pm cd doc a vs ns G Y ho hd hcd hmg hobj hints hlen hg=>?_
 have KX:=hY w _ Y;obtain⟨fd,hb,hF⟩:=F w mg fa _ KX G.T.g hmg;exact yd KX G.T.g G.T.b G.T.builtins G.T.nolimit hg hobj hints (Nat.le_trans hlen hn2) hr hF hb (fun H hO hS=>hsp w H a ns hlen hO hS) fun H e s'=>hCX w H s₁ e s'
def fo (s:Stmt)(j:Nat):Stmt:=match s with
 | .ClassDef _ _ _ body _ _ _ _ _ _ _=>body.getD j (.Pass ⟨0,0,0,0⟩)
 | _=>.Pass ⟨0,0,0,0⟩
def fu (s:Stmt):Arguments:=match s with
 | .FunctionDef _ a _ _ _ _ _ _ _ _=>a
 | _=>{posonlyargs:=[],args:=[],vararg:=none,kwonlyargs:=[],kw_defaults:=[],kwarg:=none,defaults:=[]}
def df (s:Stmt):List Stmt:=match s with
 | .FunctionDef _ _ b _ _ _ _ _ _ _=>b
 | _=>[]
def aV (s:Stmt):Scope:=match s with
 | .FunctionDef _ _ _ _ _ _ sc _ _ _=>sc
 | _=>{kind:=.function,names:=[],isGenerator:=false,isCoroutine:=false}
structure Dv (K:W.Frag)(x qual:Str)(st:Stmt)(f:Addr)(fd:FuncData):Prop where
 ex:∃(oc:Value) (od:Option Addr) (kV doc pm:Value) (an:Option Addr) (cdv ct:Value) (osl:Array (Option Value)),
  fd=W.fnOf x qual (fu st) (df st) (aV st) .none kV doc pm an cdv ct∧K.lookup f=some ⟨oc,od,.func fd,osl⟩∧W.codeIn K cdv qual=true
 kp:W.keepIn K (.ref f)=true
section
variable {P:Program}{w:World}{K:W.Frag}{mg:Str→Option Value}{base:Heap}
theorem Dv.binds {x qual:Str}{st:Stmt}{f:Addr}{fd:FuncData}{ps:List Str}(F:Dv K x qual st f fd)
  (h:∀(kV doc pm:Value) (an:Option Addr) (cdv ct:Value) (us:List Value),us.length=ps.length→bindArgs (W.fnOf x qual (fu st) (df st) (aV st) .none kV doc pm an cdv ct) ⟨us,[]⟩=pure (ps.zip us)):dg K fd ps []:=by
 obtain⟨oc,od,kV,doc,pm,an,cdv,ct,osl,rfl,lk,hcd⟩:=F.ex;exact .all (h kV doc pm an cdv ct)
theorem pL {x qual:Str}{st:Stmt}{f:Addr}{oc:Value}{od an:Option Addr}{osl:Array (Option Value)}{kV doc pm cdv ct:Value}(l:K.lookup f=some ⟨oc,od,.func (W.fnOf x qual (fu st) (df st) (aV st) .none kV doc pm an cdv ct),osl⟩)
  (c:W.codeIn K cdv qual=true) (k:W.keepIn K (.ref f)=true):Dv K x qual st f (W.fnOf x qual (fu st) (df st) (aV st) .none kV doc pm an cdv ct):=⟨⟨oc,od,kV,doc,pm,an,cdv,ct,osl,rfl,l,c⟩,k⟩
end
section
variable {κ:Type}[DecidableEq κ]
def jA (kvs:List (κ×V))(k:κ):Option V:=(kvs.find? fun kv=>decide (kv.1=k)).map (·.2)
def lH (kvs:List (κ×V))(k:κ)(v:V):List (κ×V):=
 if(kvs.any fun kv=>decide (kv.1=k))=true then kvs.map (fun kv=>if kv.1=k then(kv.1,v) else kv) else kvs++[(k,v)]
theorem kL {p:κ×V}{r:List (κ×V)}{k:κ}(e:p.1=k):jA (p::r) k=some p.2:=by simp[jA,find?_cons,e]
theorem kF {p:κ×V}{r:List (κ×V)}{k:κ}(e:¬p.1=k):jA (p::r) k=jA r k:=by simp[jA,find?_cons,e]
theorem mK (k:κ):∀kvs:List (κ×V),(kvs.any fun kv=>decide (kv.1=k))=(jA kvs k).isSome
 | []=>rfl
 | p::r=>by
  rw[any_cons]
  by_cases e:p.1=k
  ·simp only[kL e,decide_eq_true e,Bool.true_or,Option.isSome_some]
  ·rw[kF e,decide_eq_false e,Bool.false_or];exact mK k r
theorem lS (kvs:List (κ×V))(k:κ)(v:V):(lH kvs k v).length≤kvs.length+1:=by
 unfold lH;split
 ·rw[length_map];omega
 ·rw[length_append,length_cons,length_nil];omega
theorem xv {kvs:List (κ×V)}{k:κ}(v:V)(h:jA kvs k=none):lH kvs k v=kvs++[(k,v)]:=by
 unfold lH;rw[mK,h];exact if_neg (by decide)
theorem jD.isSome_eq {o:Option V}{u:Option Value}(r:jD o u):o.isSome=u.isSome:=by
 cases o with
 | none=>cases u with
  | none=>rfl
  | some _=>exact(show False from r).elim
 | some _=>cases u with
  | none=>exact(show False from r).elim
  | some _=>rfl
theorem KV.val {kvs:List (κ×V)}{vs:List (κ×Value)}(r:KV kvs vs)(k:κ):jD (jA kvs k) (valueAt vs k):=by
 unfold KV at r
 induction r with
 | nil=>exact True.intro
 | @cons p q ps qs h t ih=>
  obtain⟨h1,h2⟩:=h
  by_cases e:p.1=k
  ·have e':q.1=k:=h1.symm.trans e;have b:valueAt (q::qs) k=some q.2:=by simp[valueAt,find?_cons,e']
   rw[kL e,b];exact h2
  ·have e':¬q.1=k:=fun z=>e (h1.trans z)
   have b:valueAt (q::qs) k=valueAt qs k:=by simp[valueAt,find?_cons,e']
   rw[kF e,b];exact ih
theorem KV.any {kvs:List (κ×V)}{vs:List (κ×Value)}(r:KV kvs vs)(k:κ):(kvs.any fun kv=>decide (kv.1=k))=vs.any fun kv=>decide (kv.1=k):=by
 unfold KV at r
 induction r with
 | nil=>rfl
 | cons h t ih=>rw[any_cons,any_cons,ih,h.1]
theorem KV.repl {kvs:List (κ×V)}{vs:List (κ×Value)}(r:KV kvs vs)(k:κ){y:V}{u:Value}(ry:RelV y u) :
  KV (kvs.map fun kv=>if kv.1=k then(kv.1,y) else kv) (vs.map fun kv=>if kv.1=k then(kv.1,u) else kv):=by
 unfold KV at r ⊢
 induction r with
 | nil=>exact .nil
 | @cons p q ps qs h t ih=>
  rw[map_cons,map_cons];refine .cons ?_ ih;obtain⟨h1,h2⟩:=h
  by_cases e:p.1=k
  ·rw[if_pos e,if_pos (h1.symm.trans e)];exact⟨h1,ry⟩
  ·rw[if_neg e,if_neg (fun z=>e (h1.trans z))];exact⟨h1,h2⟩
theorem KV.put {kvs:List (κ×V)}{vs:List (κ×Value)}(r:KV kvs vs)(k:κ){y:V}{u:Value}(ry:RelV y u):KV (lH kvs k y) (stored vs k u):=by
 unfold lH stored;rw[r.any k]
 by_cases e:(vs.any fun kv=>decide (kv.1=k))=true
 ·rw[if_pos e,if_pos e];exact r.repl k ry
 ·rw[if_neg e,if_neg e];exact Paired.snoc r ⟨rfl,ry⟩
theorem KV.length {kvs:List (κ×V)}{vs:List (κ×Value)}(r:KV kvs vs):kvs.length=vs.length:=Paired.length r
end
theorem u9 {P:Program}{w:World}{k:cr}{u:Value}(r:RelV (kV k) u):(cO P w).is k u=true:=by
 cases k with
 | inl i=>obtain⟨t,e⟩:=(show∃t,u=Value.int i t from r);subst e;exact p6 P w i t
 | inr x=>obtain⟨t,e⟩:=(show∃t,u=Value.str x t from r);subst e;exact qF P w x t
theorem n9 {P:Program}{w:World}:∀{ks:List cr} {us:List Value},aK (ks.map kV) us→ItemsAre (cO P w) ks us
 | [],_,r=>by rw[map_nil] at r;cases r;exact .nil
 | k::ks,_,r=>by
  rw[map_cons] at r;cases r with
  | cons h t=>exact .cons (u9 h) (n9 t)
abbrev KT (H:Hp):List (List cr×V)→List (List cr×Addr×Value)→Prop:=Paired fun p q=>p.1=q.1∧H q.2.1=some (.tup (p.1.map kV))∧RelV p.2 q.2.2
theorem KT.val {H:Hp}{kvs:List (List cr×V)}{xs:List (List cr×Addr×Value)}(r:KT H kvs xs)(k:List cr):jD (jA kvs k) ((atKey xs k).map (·.2)):=by
 induction r with
 | nil=>exact True.intro
 | @cons p q ps qs h t ih=>
  obtain⟨h1,_,h2⟩:=h
  by_cases e:p.1=k
  ·have e':q.1=k:=h1.symm.trans e;have b:atKey (q::qs) k=some q.2:=by simp[atKey,find?_cons,e']
   rw[kL e,b];exact h2
  ·have e':¬q.1=k:=fun z=>e (h1.trans z)
   have b:atKey (q::qs) k=atKey qs k:=by simp[atKey,find?_cons,e']
   rw[kF e,b];exact ih
theorem KT.repl {H:Hp}{kvs:List (List cr×V)}{xs:List (List cr×Addr×Value)}(r:KT H kvs xs)(k:List cr){y:V}{u:Value}(ry:RelV y u) :
  KT H (kvs.map fun kv=>if kv.1=k then(kv.1,y) else kv) (xs.map (putAt k u)):=by
 induction r with
 | nil=>exact .nil
 | @cons p q ps qs h t ih=>
  rw[map_cons,map_cons];refine .cons ?_ ih;obtain⟨h1,h2,h3⟩:=h;unfold putAt
  by_cases e:p.1=k
  ·rw[if_pos e,if_pos (h1.symm.trans e)];exact⟨h1,h2,ry⟩
  ·rw[if_neg e,if_neg (fun z=>e (h1.trans z))];exact⟨h1,h2,h3⟩
theorem KT.put {H:Hp}{kvs:List (List cr×V)}{xs:List (List cr×Addr×Value)}(r:KT H kvs xs)(k:List cr){b:Addr}{y:V}{u:Value}(hb:H b=some (.tup (k.map kV)))(ry:RelV y u) :
  KT H (lH kvs k y) (storedH xs k b u):=by
 have e:(kvs.any fun kv=>decide (kv.1=k))=(atKey xs k).isSome:=by
  rw[mK,(r.val k).isSome_eq,Option.isSome_map]
 unfold lH storedH;rw[e]
 by_cases q:(atKey xs k).isSome=true
 ·rw[if_pos q,if_pos q];exact r.repl k ry
 ·rw[if_neg q,if_neg q];exact Paired.snoc r ⟨rfl,hb,ry⟩
theorem KT.keeps {H H':Hp}{kvs:List (List cr×V)}{xs:List (List cr×Addr×Value)}(r:KT H kvs xs)(ht:∀b ys,H b=some (.tup ys)→H' b=some (.tup ys)):KT H' kvs xs:=
 Paired.mapP r fun _ _ z=>⟨z.1,ht _ _ z.2.1,z.2.2⟩
section
variable {P:Program}{w:World}{H:Hp}{h:Heap}{a:Addr}
theorem Cp {u:HO}(ok:jF P w H h)(e:Rd H a u):ck P w H h a u:=e.ok ok
theorem va {kvs:List (cr×V)}(ok:jF P w H h)(e:Rd H a (.dK kvs)):kvs.length≤sizeLine∧(a==sysModules)=false∧∃vs,KV kvs vs∧h.DictOf (cO P w) a vs:=
 show ck P w H h a (.dK kvs) from Cp ok e
theorem Hf {kvs:List (cr×V)}(ok:jF P w H h)(e:H a=some (.dK kvs)):kvs.length≤sizeLine∧(a==sysModules)=false∧∃vs,KV kvs vs∧h.DictOf (cO P w) a vs:=va ok (.inl e)
theorem pI {ks:List cr}(ok:jF P w H h)(e:H a=some (.tup (ks.map kV))):(tupleKind (cO P w)).is h ks a:=by
 obtain⟨_,its,r,o,h1,h2,n,h3⟩:=(show ck P w H h a (.tup (ks.map kV)) from ok a _ e);exact⟨o,its.toArray,n,h1,h2,h3,by simpa using n9 r⟩
theorem uQ {kvs:List (List cr×V)}(ok:jF P w H h)(e:Rd H a (.dT kvs)):kvs.length≤sizeLine∧(a==sysModules)=false∧
  ∃xs,KT H kvs xs∧h.DictOfH (tupleKind (cO P w)) a xs:=by
 obtain⟨z,y,xs,r,o,es,ep,h1,h2,h3,h4,h5⟩:=(show ck P w H h a (.dT kvs) from Cp ok e);refine⟨z,y,xs,r,o,es,ep,h1,h2,h3,h4,fun x hx=>?_,h5⟩;have all:∀{l:List (List cr×V)} {m:List (List cr×Addr×Value)},KT H l m→∀x∈m,(tupleKind (cO P w)).is h x.1 x.2.1:=by
  intro l m q
  induction q with
  | nil=>intro x hx;exact nomatch hx
  | @cons p q ps qs hq t ih=>
   intro x hx;rcases mem_cons.mp hx with e|hx
   ·subst e;exact pI ok (by rw[←hq.1];exact hq.2.1)
   ·exact ih x hx
 exact all r x hx
theorem FI {kvs:List (List cr×V)}(ok:jF P w H h)(e:H a=some (.dT kvs)):kvs.length≤sizeLine∧(a==sysModules)=false∧
  ∃xs,KT H kvs xs∧h.DictOfH (tupleKind (cO P w)) a xs:=uQ ok (.inl e)
end
def qD (H:Hp)(a:Addr)(y:V)(r:Option V):Prop:=
 (∃kvs k,Rd H a (.dK kvs)∧y=kV k∧r=jA kvs k)∨∃kvs k b,Rd H a (.dT kvs)∧y=.ref b∧H b=some (.tup (k.map kV))∧r=jA kvs k
def zJ (H:Hp)(a:Addr)(y v:V)(H':Hp):Prop:=
 (∃kvs k,H a=some (.dK kvs)∧y=kV k∧kvs.length<sizeLine∧H'=bE H a (.dK (lH kvs k v)))∨
 ∃kvs k b,H a=some (.dT kvs)∧y=.ref b∧H b=some (.tup (k.map kV))∧kvs.length<sizeLine∧H'=bE H a (.dT (lH kvs k v))
theorem qD.t {H:Hp}{a b:Addr}{kvs:List (List cr×V)}{k:List cr}(e:H a=some (.dT kvs))(eb:H b=some (.tup (k.map kV))):qD H a (.ref b) (jA kvs k):=.inr ⟨kvs,k,b,.inl e,rfl,eb,rfl⟩
theorem zJ.t {H:Hp}{a b:Addr}{kvs:List (List cr×V)}{k:List cr}{v:V}(e:H a=some (.dT kvs))(eb:H b=some (.tup (k.map kV)))(hl:kvs.length<sizeLine) :
  zJ H a (.ref b) v (bE H a (.dT (lH kvs k v))):=.inr ⟨kvs,k,b,e,rfl,eb,hl,rfl⟩
section
variable {X:Cx}{af:List (Addr×Obj)}{σ:St}{H:Hp}{s:Shared}{a:Addr}{y v:V}{u r:Value}{o:Option V}{A:Around}{E:Value→Shared→Prop}
theorem Inv.big (I:Inv X af σ H s):sysModules<s.heap.objs.size:=by
 have h:mainGlobals<s.heap.objs.size:=(I.mod.glob.keeps I.bk).lt;exact Nat.lt_trans (by decide) h
theorem vP {Q:Value→Shared→Prop}(hu:A.units+1<cLine)(I:Inv X af σ H s)(g:qD H a y (some v))(ry:RelV y u)(h:∀w' s',Inv X af σ H s'→RelV v w'→Q w' s') :
  wpAny (model X.prog X.w) A (getItem (.ref a) u) Q E s:=by
 rcases g with⟨kvs,k,e,ey,l⟩|⟨kvs,k,b,e,ey,eb,l⟩
 ·subst ey;obtain⟨z,hd,vs,rel,dd⟩:=va I.hok e;obtain⟨w',hw,rw'⟩:=jD.some_of (v:=v) (o:=valueAt vs k) (by rw[l];exact rel.val k);exact wpAny_getItem_of (u9 ry) dd.mapOf hw (h w' _ (I.tok _) rw')
 ·subst ey;cases (show u=Value.ref b from ry);obtain⟨z,hd,xs,rel,dd⟩:=uQ I.hok e;obtain⟨w',hw,rw'⟩:=jD.some_of (v:=v) (o:=(atKey xs k).map (·.2)) (by rw[l];exact rel.val k);obtain⟨p,hp,hp2⟩:=Option.map_eq_some_iff.mp hw;refine wpAny_getItem_heap (tupleKind_room_in1 hu) (pI I.hok eb) dd hp ?_;rw[hp2];exact h w' _ (I.tok _) rw'
theorem Bq {Q:Value→Shared→Prop}(hu:A.units+1<cLine)(I:Inv X af σ H s)(g:qD H a y o)(ry:RelV y u)(h:∀s',Inv X af σ H s'→Q (.bool (!o.isSome)) s') :
  wpAny (model X.prog X.w) A (compareOp .NotIn u (.ref a)) Q E s:=by
 rcases g with⟨kvs,k,e,ey,l⟩|⟨kvs,k,b,e,ey,eb,l⟩
 ·subst ey;obtain⟨z,hd,vs,rel,dd⟩:=va I.hok e;refine wpAny_notIn_of (u9 ry) hd dd.mapOf ?_;rw[←(rel.val k).isSome_eq,←l];exact h _ (I.tok _)
 ·subst ey;cases (show u=Value.ref b from ry);obtain⟨z,hd,xs,rel,dd⟩:=uQ I.hok e;refine wpAny_notIn_heap (tupleKind_room_in1 hu) (pI I.hok eb) hd dd ?_;have q:=(rel.val k).isSome_eq;rw[Option.isSome_map] at q;rw[←q,←l];exact h _ (I.tok _)
theorem ui {h':Heap}{t':Nat}{ob:HO}(I:Inv X af σ H s)(mu:Gu (H a))(hs:Heap.SameBut a s.heap h')(he:∃q,h'.get? a=some q)(new:ck X.prog X.w (bE H a ob) h' a ob) :
  Inv X af σ (bE H a ob) {s with heap:=h',toks:=t'}:=
 I.write (x:=a) (e:=a) mu (.inl rfl) (fun b q hb z=>(hs.2 b hb).trans z) he new
theorem CU {P:Program}{w:World}{H':Hp}{h':Heap}{kvs:List (cr×V)}{vs:List (cr×Value)}(z:kvs.length≤sizeLine)(hd:(a==sysModules)=false)(rel:KV kvs vs)(dd:h'.DictOf (cO P w) a vs) :
  ck P w H' h' a (.dK kvs):=⟨z,hd,vs,rel,dd⟩
theorem vE {H':Hp}{Q:Unit→Shared→Prop}(hu:A.units+1<cLine)(I:Inv X af σ H s)(g:zJ H a y v H')(ry:RelV y u)(rv:RelV v r)(h:∀s',Inv X af σ H' s'→Q () s') :
  wpAny (model X.prog X.w) A (setItem (.ref a) u r) Q E s:=by
 rcases g with⟨kvs,k,e,ey,l,eH⟩|⟨kvs,k,b,e,ey,eb,l,eH⟩
 ·subst ey eH;obtain⟨z,hd,vs,rel,dd⟩:=Hf I.hok e;have hz:vs.length≤sizeLine:=by rw[←rel.length];exact z
  have hl:(lH kvs k v).length≤sizeLine:=by have:=lS kvs k v;omega
  refine wpAny_setItem_pairs (hsz:=hz) (u9 ry) dd fun h' dd' hs=>h _ ?_
  have he:∃q,h'.get? a=some q:=let ⟨q,_,_,hq,_⟩:=dd';⟨q,hq⟩
  exact ui I (by rw[e];exact True.intro) hs he (CU hl hd (rel.put k rv) dd')
 ·subst ey eH;cases (show u=Value.ref b from ry);obtain⟨z,hd,xs,rel,dd⟩:=FI I.hok e;have hz:xs.length≤sizeLine:=by rw[←Paired.length rel];exact z
  have hl:(lH kvs k v).length≤sizeLine:=by have:=lS kvs k v;omega
  refine wpAny_setItem_heap (hsz:=hz) (tupleKind_room_in1 hu) (pI I.hok eb) dd fun h' dd' hs=>h _ ?_
  obtain⟨q,es,ep,hq,h2,h3,h4,_,h5⟩:=dd';refine ui I (by rw[e];exact True.intro) hs ⟨q,hq⟩ ⟨hl,hd,_,(rel.put k eb rv).keeps fun c ys ec=>?_,q,es,ep,hq,h2,h3,h4,h5⟩;rw[ao (qi ec e (fun z=>nomatch z))];exact ec
end
def AX (i:Expr):Prop:=∀ov iv,subscripted i false ov iv=operate [ov,iv] (getItem ov iv)
theorem BI {prog:Program}{w:World}{A:Around}{E:Value→Shared→Prop}{s:Shared}{env:Env}{value slice:Expr}{pos:Pos}{T id:String}{Q:Value→Shared→Prop}
  (hl:typeLookup (.type T) "__getitem__"=pure (some (.builtin id))) (hs:AX slice)
  (h:wpAny (model prog w) A (eval value env) (fun o s₁=>wpAny (model prog w) A (eval slice env) (fun i s₂=>s₂.TypeIs o T∧wpAny (model prog w) A (getItem o i) Q E s₂) E s₁) E s) :
  wpAny (model prog w) A (eval (.Subscript value slice pos) env) Q E s:=by
 refine Subscript_ (wpAny_mono h (fun o s₁ h₁=>wpAny_mono h₁ (fun i s₂ h₂=>?_) fun _ _ x=>x) fun _ _ x=>x);obtain⟨hT,h₂⟩:=h₂;unfold subscriptTail;refine wpAny_bind ?_;rw[getitemInPython_of_ne hT.not_modules];refine wpAny_bind (wpAny_specialOf hT hl ?_);have fin:wpAny (model prog w) A (subscripted slice false o i) (fun r s₃=>wpAny (model prog w) A (letTemporaryGo value o r >>= fun _=>pure r) Q E s₃) E s₂:=by
  rw[hs o i];exact wpAny_operating (wpAny_mono h₂ (fun r s₃ h₃=>wpAny_bind (wpAny_letTemporaryGo (wpAny_pure h₃))) fun _ _ x=>x)
 first
  | exact wpAny_pure (wpAny_bind fin)
  | exact wpAny_bind (wpAny_pure (wpAny_bind fin))
  | exact wpAny_bind fin
theorem qQ {X:Cx}{af:List (Addr×Obj)}{σ:St}{H:Hp}{s:Shared}{a:Addr}{y:V}{o:Option V}(I:Inv X af σ H s)(g:qD H a y o):s.TypeIs (.ref a) "dict":=by
 rcases g with⟨kvs,k,e,_,_⟩|⟨kvs,k,b,e,_,_,_⟩
 ·obtain⟨_,_,vs,_,dd⟩:=va I.hok e;exact dd.typeIs
 ·obtain⟨_,_,xs,_,dd⟩:=uQ I.hok e;exact dd.typeIs
def Gb (td ty:TE):TE:=fun σ H Q=>td σ H fun x H1=>ty σ H1 fun y H2=>∃a v,x=.ref a∧qD H2 a y (some v)∧Q v H2
def F5 (td ty tv:TE):TS:=fun D σ H=>tv σ H fun v H1=>td σ H1 fun x H2=>ty σ H2 fun y H3=>∃a H4,x=.ref a∧zJ H3 a y v H4∧D.nx σ H4
section
variable {X:Cx}{o i e value:Expr}{pos pos' tpos:Pos}{td ty tv:TE}
theorem zR (hu:X.A.units+1<cLine)(ho:PE X o td)(hi:PE X i ty)(hs:AX i):PE X (.Subscript o i pos) (Gb td ty):=by
 intro af s σ H Q I h;refine BI PySem.F.slot_dict_getitem.lookup hs (cj (ho af s σ H _ I h) fun u s1 ⟨x,H1,I1,rx,q1⟩=>cj (hi af s1 σ H1 _ I1 q1) fun iv s2 hxx=>?_);obtain⟨y,H2,I2,ry,a,v,ex,g,q2⟩:=hxx;subst ex;obtain rfl:u=Value.ref a:=rx;exact⟨qQ I2 g,vP hu I2 g ry fun w' s3 I3 rw'=>⟨v,H2,I3,rw',q2⟩⟩
theorem Ac (hu:X.A.units+1<cLine)(ho:PE X o td)(hi:PE X i ty)(hv:PE X value tv)(hs:swapsWith value (some (.Subscript o i pos')) pos.line X.env=pure false) :
  PS X (.Assign [.Subscript o i pos'] value pos) (F5 td ty tv):=by
 intro af s σ H D I h;refine wpAny_Assign_Subscript (cj (hv af s σ H _ I h) fun r s1 ⟨v,H1,I1,rv,q1⟩=>cj (ho af s1 σ H1 _ I1 q1) fun u s2 ⟨x,H2,I2,rx,q2⟩=>cj (hi af s2 σ H2 _ I2 q2) fun iv s3 hxx=>?_) hs;obtain⟨y,H3,I3,ry,a,H4,ex,g,q3⟩:=hxx;subst ex;obtain rfl:u=Value.ref a:=rx;exact vE hu I3 g ry rv fun s4 I4=>⟨σ,H4,I4,q3⟩
end
theorem yc {P:Program}{w:World}{H:Hp}(h:Heap)(hb:sysModules<h.objs.size):ck P w H (h.push {cls:=.type "dict",data:=.dict #[]}) h.objs.size (.dT []):=
 ⟨Nat.zero_le _,beq_eq_false_iff_ne.mpr (Ne.symm (Nat.ne_of_lt hb)),[],.nil,_,#[],0,Heap.get?_push_size _ rfl,⟨rfl,rfl,rfl⟩,rfl,rfl,nodup_nil⟩
def DH:TE:=fun _ H Q=>∀p,H p=none→Q (.ref p) (bE H p (.dT []))
section
variable {X:Cx}{pos:Pos}
theorem yY:PE X (.Dict [] [] pos) DH:=fun af s σ H Q I h=>
 wpAny_Dict_empty ⟨.ref s.heap.objs.size,_,I.laid (a:=s.heap.objs.size) (o:=.dT []) (t':=s.toks) (fun _ _ q=>Heap.get?_push_of_some _ q) (Nat.le_refl _) (yc s.heap I.big),rfl,h _ (I.hok.fresh (Nat.le_refl _))⟩
end
abbrev VV:List (V×V)→List (Value×Value)→Prop:=Paired fun p q=>RelV p.1 q.1∧RelV p.2 q.2
structure M1 (X:Cx)(o:Expr)(m:Str)(apos:Pos)(e:Expr)(cpos:Pos):Prop where
 base:attributeBase o m X.env (eval o X.env)=eval o X.env
 few:((backTo cpos (starEach [e] X.env)).all (fun x=>!x.1)&&(backToKw cpos (keywordEach [] X.env)).all (fun x=>x.1.isSome)
  && decide (([e]:List Expr).length+([]:List Keyword).length+(if([]:List Keyword).isEmpty then 0 else 1)<30))=true
 line:(apos.endLine==cpos.line)=true
 trees:backTo cpos (starEach [e] X.env)=[(false,eval e X.env)]
structure M2 (X:Cx)(o:Expr)(m:Str)(apos:Pos)(e f:Expr)(cpos:Pos):Prop where
 base:attributeBase o m X.env (eval o X.env)=eval o X.env
 few:((backTo cpos (starEach [e,f] X.env)).all (fun x=>!x.1)&&(backToKw cpos (keywordEach [] X.env)).all (fun x=>x.1.isSome)
  && decide (([e,f]:List Expr).length+([]:List Keyword).length+(if([]:List Keyword).isEmpty then 0 else 1)<30))=true
 line:(apos.endLine==cpos.line)=true
 trees:backTo cpos (starEach [e,f] X.env)=[(false,eval e X.env),(false,eval f X.env)]
end L2
namespace Att
open PySem PySem.W PySem.Calls PyProof.Rows
end Att
namespace L2
open PySem PySem.Spec PyProof.Rows List
end L2
namespace DL
open PySem PySem.Spec PyProof.Rows L2 List
structure Dq (X:Cx)(af:List (Addr×Obj))(H:Hp)(B:Heap):Prop where
 trk:∀b o,H b=some o→∃o',B.get? b=some o'
 pin:∀p∈X.pn++af,∃o',B.get? p.1=some o'
 old:∀b o,X.s₀.heap.get? b=some o→b∉X.ex→b∉mJ X.stack→∃o',B.get? b=some o'
def IT (X:Cx)(H:Hp)(a C:Addr)(s:Shared):Prop:=∃af σ,
 (∃h vs,L2.Inv X af σ H {s with heap:=h}∧Heap.MadeExcOf h s.heap a (.ref C) vs)∨
 (L2.Inv X af σ H s∧H a=none∧∃B a0,Heap.FlyingW B X.stack a (.ref C) a0 s.heap∧Dq X af H B)∨
 (L2.Inv X af σ H s∧H a=none∧∃B a0 L,X.env.frame=some L∧Heap.HeldW B X.stack a (.ref C) a0 L s.heap∧Dq X af H B)
def cw (K:W.Frag)(c:Str)(C:Addr):Prop:=W.nsIn K mainGlobals c=some (some (.ref C))
theorem cw.inj {K:W.Frag}{c:Str}{C C':Addr}(a:cw K c C)(b:cw K c C'):C=C':=by
 unfold cw at a b;rw[a] at b;cases b;rfl
theorem nw {P:Program}{w:World}{H:Hp}{h:Heap}{a:Addr}{o:HO}(x:ck P w H h a o):∃u,h.get? a=some u:=by
 cases o with
 | lst xs=>obtain⟨_,_,_,_,e⟩:=x;exact⟨_,e⟩
 | tup xs=>obtain⟨_,_,_,o,e,_⟩:=x;exact⟨_,e⟩
 | dK kvs=>obtain⟨_,_,_,_,o,_,_,e,_⟩:=x;exact⟨_,e⟩
 | dT kvs=>obtain⟨_,_,_,_,o,_,_,e,_⟩:=x;exact⟨_,e⟩
 | set S n=>obtain⟨o,_,_,_,e,_⟩:=x;exact⟨_,e⟩
 | ins C dx fs=>obtain⟨_,_,_,e,_⟩:=x;exact⟨_,e⟩
 | own y=>obtain⟨_,e⟩:=x;exact⟨_,e⟩
 | xd fs=>obtain⟨_,⟨_,_,_,e,_⟩,_⟩:=x;exact⟨_,e⟩
 | rng lo hi=>obtain⟨_,_,_,e⟩:=x;exact⟨_,e⟩
 | frz ob u=>obtain⟨e,_⟩:=x;exact⟨_,e⟩
 | tbl ps=>exact⟨_,show h.get? a=some _ from x⟩
 | met f y=>exact⟨_,show h.get? a=some _ from x⟩
 | ext φ=>obtain⟨_,⟨_,e⟩,_⟩:=x;exact⟨_,e⟩
section
variable {X:Cx}{af:List (Addr×Obj)}{σ:List (Option V)}{H:Hp}{s:Shared}{B h':Heap}{a C:Addr}
theorem l7 (I:L2.Inv X af σ H s){b:Addr}{o:Obj}(e:X.s₀.heap.get? b=some o)(n:b∉X.fs):b∉mJ X.stack:=fun z=>by
 rcases mem_cons.mp (I.stkSub b z) with q|q
 ·have h1:=Heap.lt_size e;rw[q] at h1;exact absurd (Nat.lt_of_lt_of_le h1 I.ok.above) (Nat.lt_irrefl _)
 ·exact n q
theorem uU {h h':Heap}{c:Addr}{v:Option Value}(u:h.UpToSlots h')(x:h.IsCell c v):h'.IsCell c v:=by
 obtain⟨o,e,d⟩:=x;obtain⟨sl,e'⟩:=u c o e fun vs q=>by rw[d] at q;cases q
 exact⟨_,e',d⟩
theorem iL (I:L2.Inv X af σ H s)(cov:Dq X af H B)(hB:B.StaysIn s.heap)(hB':B.StaysIn h')(up:s.heap.UpToSlots h'):L2.Inv X af σ H {s with heap:=h'}:=by
 have keepB:∀b o o',B.get? b=some o'→s.heap.get? b=some o→h'.get? b=some o:=fun b o o' e1 e2=>by
  have:=hB b o' e1;rw[e2] at this;cases this;exact hB' b _ e1
 refine⟨I.ok,I.os,I.bare,⟨fun b o e n nf nx=>?_,fun b o e n hf nx=>?_,fun b o e n nx=>I.base.free b o e n nx,fun b o e nx=>?_,I.base.tups,I.base.frzs,I.base.tbls⟩,?_,fun x c e=>?_,I.free,I.freeC,fun p hp=>?_,fun b o e=>?_,I.len⟩
 ·obtain⟨o',e'⟩:=cov.old b o e nx (l7 I e nf);exact keepB b o o' e' (I.base.keep b o e n nf nx)
 ·obtain⟨sl,e1⟩:=I.base.slot b o e n hf nx;obtain⟨_,ob,e2,nf⟩:=I.funs.mem hf;rw[e1] at e2;cases e2;obtain⟨sl',e3⟩:=up b _ e1 nf;exact⟨sl',e3⟩
 ·by_cases hf:b∈X.fs
  ·obtain⟨_,ob,e2,nf⟩:=I.funs.mem hf;obtain⟨sl',e3⟩:=up b _ e2 nf;exact⟨_,e3⟩
  ·obtain⟨o',e'⟩:=cov.old b o e nx (l7 I e hf);exact⟨o',hB' b o' e'⟩
 ·obtain⟨m,hn,hl⟩:=I.loc;refine⟨m,up.ns hn,fun i x v e1 e2 e3=>?_⟩;obtain⟨u,r,lk⟩:=hl i x v e1 e2 e3;refine⟨u,r,?_⟩;rcases lk with lk|⟨k,c,ec,ic⟩
  ·exact .inl lk
  ·exact .inr ⟨k,c,ec,uU up ic⟩
 ·obtain⟨v,ic⟩:=I.cell x c e;exact⟨v,uU up ic⟩
 ·obtain⟨e,n,ne,nf,d⟩:=I.pin p hp;obtain⟨o',e'⟩:=cov.pin p hp;exact⟨keepB p.1 p.2 o' e' e,n,ne,nf,d⟩
 ·refine(I.hok b o e).stay (fun c u hc q=>?_) (fun _ q=>q) fun _ _ q=>q
  have:∃o,H c=some o:=by
   rcases hc with z|z
   ·exact⟨o,by rw[z];exact e⟩
   ·exact⟨_,z⟩
  obtain⟨oc,ec⟩:=this;obtain⟨o',e'⟩:=cov.trk c oc ec;exact keepB c u o' e' q
theorem qL (I:L2.Inv X af σ H s):Dq X af H (W.hideAll s.heap (mJ X.stack)):=by
 refine⟨fun b o e=>?_,fun p hp=>?_,fun b o e nx nf=>?_⟩
 ·obtain⟨u,q⟩:=nw (I.hok b o e);exact⟨u,W.hideAll_get _ q fun z=>by rw[I.stkFree b z] at e;cases e⟩
 ·obtain⟨e,n,ne,nf,d⟩:=I.pin p hp;exact⟨p.2,W.hideAll_get _ e fun z=>by
   rcases mem_cons.mp (I.stkSub _ z) with q|q
   ·exact ne q
   ·exact nf q⟩
 ·obtain⟨o',e'⟩:=I.base.there b o e nx;exact⟨o',W.hideAll_get _ e' nf⟩
theorem lP (I:L2.Inv X af σ H s):s.heap.FunFrames (W.hideAll s.heap (mJ X.stack)) X.stack:=
 W.funFrames_hide I.stack fun env he b hb=>mem_filterMap.mpr ⟨env,he,hb⟩
theorem oo {vs:List Value}{h:Heap}(I:L2.Inv X af σ H {s with heap:=h})(m:Heap.MadeExcOf h s.heap a (.ref C) vs):H a=none:=by
 cases q:H a with
 | none=>rfl
 | some o=>
  obtain⟨u,e⟩:=nw (I.hok a o q);have e:h.get? a=some u:=e;rw[m.new] at e;cases e
end
def jx (P:Program)(w:World):wA:=fun outer H s E e s'=>∃a C H' B a0,e=.ref a∧s'.os=s.os∧AllBare s'.gens∧Un (mJ outer) [] H H' s.heap s'.heap∧jF P w H' s'.heap∧H' a=none∧
 Heap.FlyingW B outer a (.ref C) a0 s'.heap∧(∀b o,H' b=some o→∃o',B.get? b=some o')∧(∀b o,s.heap.get? b=some o→b∉mJ outer→∃o',B.get? b=some o')∧E (.ref C) (some a) H'
theorem tj {P:Program}{w:World}{K:W.Frag}{mg:Str→Option Value}{base:Heap}{N:List Str}{qual:Str}{scope:Scope}{f:Addr}{cdv:Value}{A:Around}{outer:List Env}{s s':Shared}{H H':Hp}{E:XK}{a C:Addr}
  (fl:IT (jQ (jx P w) P w K mg base N qual scope f cdv A outer s H E) H' a C s') (hE:E (.ref C) (some a) H'):(jQ (jx P w) P w K mg base N qual scope f cdv A outer s H E).xe (.ref a) s':=by
 show wpAny (model P w) (A.deeper (envOfC qual scope s.heap.objs.size f cdv)) (leaving (envOfC qual scope s.heap.objs.size f cdv) (.ref a)) (fun _ s''=>jx P w outer H s E (.ref a) s'') (fun e' s''=>jx P w outer H s E e' s'') s';obtain⟨af,σ,fl⟩:=fl;have key:∀(B:Heap) (a0:Value) (h':Heap) (I:L2.Inv (jQ (jx P w) P w K mg base N qual scope f cdv A outer s H E) af σ H' s'),B.StaysIn s'.heap→Dq (jQ (jx P w) P w K mg base N qual scope f cdv A outer s H E) af H' B→H' a=none→
   Heap.FlyingW B outer a (.ref C) a0 h'→s'.heap.UpToSlots h'→jx P w outer H s E (.ref a) {s' with heap:=h'}:=fun B a0 h' I hB cov hn fl' up=>by
  have I':=iL I cov hB fl'.1 up;refine⟨a,C,H',B,a0,rfl,I'.os,I'.bare,I'.base,I'.hok,hn,fl',cov.trk,fun b o e nf=>?_,hE⟩;exact cov.old b o e (by show b∉([]:List Addr);simp) (l7 I e nf)
 rcases fl with⟨h,vs,I,m⟩|⟨I,hn,B,a0,fl,cov⟩|⟨I,hn,B,a0,L,hL,held,cov⟩
 ·have cov:=qL I;have hid:∀b o,(W.hideAll h (mJ (jQ (jx P w) P w K mg base N qual scope f cdv A outer s H E).stack)).get? b=some o→h.get? b=some o:=fun b o q=>W.of_hideAll _ q
  refine wpAny_leaves_madeW (env:=envOfC qual scope s.heap.objs.size f cdv) (outer:=outer) I.ok.frames rfl hid (lP I) m fun h' t x1 x2 x3 x4=>?_
  exact key _ _ h' (I.kept (t':=s'.toks) (h':=s'.heap) m.keeps) (fun b o q=>m.keeps b o (hid b o q)) cov (oo I m) x1 x4
 ·refine wpAny_leaves_onW (env:=envOfC qual scope s.heap.objs.size f cdv) (outer:=outer) I.ok.frames rfl fl fun h' x1 x2=>?_
  exact key B a0 h' I fl.1 cov hn x1 x2
 ·unfold leaving;refine wpAny_bind (wpAny_noteFrame_againW hL held.2.2.2 ?_);refine wpAny_landsW held fun h' x1 x2=>?_
  obtain⟨k1,k2,⟨_,_,k3⟩,k4⟩:=x1;exact key B a0 h' I held.1 cov hn ⟨k1,k2,k3,k4⟩ x2
theorem vm {X:Cx}{af:List (Addr×Obj)}{σ:L2.St}{H:Hp}{s:Shared}{e:Value}{s':Shared}{E:XK}(I:L2.Inv X af σ H s)(h:jx X.prog X.w X.stack H s E e s'):∃a C H',e=.ref a∧IT X H' a C s'∧E (.ref C) (some a) H':=by
 obtain⟨a,C,H',B,a0,rfl,os,bare,un,hok,hn,fl,trk,old,hE⟩:=h;refine⟨a,C,H',rfl,⟨af,σ,.inr (.inl ⟨I.call' os un hok bare (fun b z=>absurd z (by simp)),hn,B,a0,fl,trk,fun p hp=>?_,fun b o eb nx nf=>?_⟩)⟩,hE⟩
 ·obtain⟨eb,n,ne,nf,d⟩:=I.pin p hp;exact old p.1 p.2 eb fun z=>by
   rcases mem_cons.mp (I.stkSub _ z) with q|q
   ·exact ne q
   ·exact nf q
 ·obtain⟨o',e'⟩:=I.base.there b o eb nx;exact old b o' e' nf
inductive D where
 | non|bl (b:Bool)|int (i:Int)|str (x:Str)|tup (xs:List D)|lst (xs:List D)|ro (xs:List D)|mr (i:Nat)|exc (c:Str)|any
instance:Inhabited D:=⟨.non⟩
inductive MO where
 | lst (xs:List D)|obj (c:Str) (fs:List (Str×D))|dK (kvs:List (cr×D))|dT (kvs:List (List cr×D))
instance:Inhabited MO:=⟨.lst []⟩
abbrev aq:=List MO
abbrev bC:=List (Option D)
inductive aU (α:Type) where
 | ok (a:α) (M:aq)
 | err (c:Str) (M:aq)
 | bad
def aU.bind {α β:Type}(o:aU α)(f:α→aq→aU β):aU β:=
 match o with
 | .ok a M=>f a M
 | .err c M=>.err c M
 | .bad=>.bad
@[simp] theorem ai {α β:Type} (a:α) (M:aq) (f:α→aq→aU β):(aU.ok a M).bind f=f a M:=by rw[aU.bind]
@[simp] theorem Gv {α β:Type} (c:Str) (M:aq) (f:α→aq→aU β):(aU.err c M:aU α).bind f=.err c M:=by rw[aU.bind]
@[simp] theorem GJ {α β:Type} (f:α→aq→aU β):(aU.bad:aU α).bind f=.bad:=by rw[aU.bind]
def JZ (K:W.Frag)(a:Addr)(xs:List V):Prop:=∃(o:Obj) (its:Array Value) (n:Nat),K.lookup a=some o∧o.cls=.type "tuple"∧o.data=.seq its n∧its.size≤sizeLine∧aK xs its.toList
def KL (K:W.Frag)(a:Addr)(xs:List V):Prop:=∃(o:Obj) (its:Array Value) (n:Nat),K.lookup a=some o∧o.cls=.type "list"∧o.dict=none∧o.data=.seq its n∧its.size≤sizeLine∧aK xs its.toList
def mz (K:W.Frag)(θ:List Addr)(H:Hp)(a:Addr)(xs:List V):Prop:=H a=some (.tup xs)∧a∉θ
def oi (θ:List Addr)(H:Hp)(a:Addr)(xs:List V):Prop:=H a=some (.lst xs)∧a∉θ
def sI (K:W.Frag)(θ:List Addr)(H:Hp)(a:Addr)(xs:List V):Prop:=(Rd H a (.lst xs)∧a∉θ)∨KL K a xs
theorem mz.sq {K:W.Frag}{θ:List Addr}{H:Hp}{a:Addr}{xs:List V}(h:mz K θ H a xs):k9 K H a xs:=.inl (.inl h.1)
theorem oi.sq {K:W.Frag}{θ:List Addr}{H:Hp}{a:Addr}{xs:List V}(h:oi θ H a xs):lw K H a xs:=.inl (.inl h.1)
theorem sI.sq {K:W.Frag}{θ:List Addr}{H:Hp}{a:Addr}{xs:List V}(h:sI K θ H a xs):lw K H a xs:=by
 rcases h with⟨h,_⟩|h
 ·exact .inl h
 ·exact .inr h
def AG (a C:Addr):HO:=.ext fun h=>∃o,h.get? a=some o∧o.cls=.ref C
mutual
def cX (K:W.Frag)(θ:List Addr)(H:Hp):D→V→Prop
 | .non,v=>v=.non
 | .bl b,v=>v=.bl b
 | .int i,v=>v=.int i
 | .str x,v=>v=.str x
 | .tup ds,v=>∃a vs,v=.ref a∧mz K θ H a vs∧a9 K θ H ds vs
 | .lst ds,v=>∃a vs,v=.ref a∧oi θ H a vs∧a9 K θ H ds vs
 | .ro ds,v=>∃a vs,v=.ref a∧sI K θ H a vs∧a9 K θ H ds vs
 | .mr i,v=>∃a,v=.ref a∧θ[i]?=some a
 | .exc c,v=>∃a C,v=.ref a∧cw K c C∧H a=some (AG a C)∧a∉θ
 | .any,_=>True
def a9 (K:W.Frag)(θ:List Addr)(H:Hp):List D→List V→Prop
 | [],vs=>vs=[]
 | d::ds,vs=>∃v r,vs=v::r∧cX K θ H d v∧a9 K θ H ds r
end
def kQ (K:W.Frag)(θ:List Addr)(H:Hp):List (Str×D)→List (Str×V)→Prop
 | [],vs=>vs=[]
 | (f,d)::fs,vs=>∃v r,vs=(f,v)::r∧cX K θ H d v∧kQ K θ H fs r
def kn {κ:Type}(K:W.Frag)(θ:List Addr)(H:Hp):List (κ×D)→List (κ×V)→Prop
 | [],vs=>vs=[]
 | (k,d)::fs,vs=>∃v r,vs=(k,v)::r∧cX K θ H d v∧kn K θ H fs r
def nL (K:W.Frag)(θ:List Addr)(H:Hp):MO→Addr→Prop
 | .lst ds,a=>∃vs,H a=some (.lst vs)∧a9 K θ H ds vs
 | .obj c fs,a=>∃C dx vs,cw K c C∧H a=some (.ins C dx vs)∧kQ K θ H fs vs
 | .dK kvs,a=>∃vs,H a=some (.dK vs)∧kn K θ H kvs vs
 | .dT kvs,a=>∃vs,H a=some (.dT vs)∧kn K θ H kvs vs
def fM:List Str:=["ink_shown","table_within","slots_given","cast_on_slots"]
def z0 (x:Str):Str:=x++(".<locals>.<lambda>":Str)
def Ho (c:Addr)(q:Str):HO:=.ext fun h=>h.CodeRec (.ref c) q
def JK (ob:Obj):HO:=.frz ob (.ext fun _=>True)
structure lj (K:W.Frag)(H:Hp):Prop where
 tab:∀x,x∈fM→∀c P,W.tabIn K x=some (c,P)→∃ps,H P=some (.tbl ps)∧TriplesOk ps.toList∧∀pos cv,codeAmong pos ps.toList=some cv→∃c',cv=.ref c'∧H c'=some (Ho c' (z0 x))
 bm:∀x,x∈fM→∀c P,W.tabIn K x=some (c,P)→∃bm ob,W.nsIn K mainGlobals "__builtins__"=some (some (.ref bm))∧H bm=some (JK ob)∧ob.cls=.type "module"∧ob.dict=some builtinsNs∧ob.data=.plain∧bm≠builtinsNs∧bm≠mainGlobals
theorem lj.of {K:W.Frag}{H H':Hp}(t:lj K H)(k1:∀b ps,H b=some (.tbl ps)→H' b=some (.tbl ps))(k2:∀b φ,H b=some (.ext φ)→H' b=some (.ext φ))(k3:∀b o u,H b=some (.frz o u)→H' b=some (.frz o u)):lj K H':=
 ⟨fun x hx c P e=>by
  obtain⟨ps,h1,h2,h3⟩:=t.tab x hx c P e;refine⟨ps,k1 _ _ h1,h2,fun pos cv q=>?_⟩;obtain⟨c',e1,e2⟩:=h3 pos cv q;exact⟨c',e1,k2 _ _ e2⟩,fun x hx c P e=>by
  obtain⟨bm,ob,e1,e2,r⟩:=t.bm x hx c P e;exact⟨bm,ob,e1,k3 _ _ _ e2,r⟩⟩
theorem lj.new {K:W.Frag}{H:Hp}{p:Addr}{o:HO}(t:lj K H)(hp:H p=none):lj K (bE H p o):=
 t.of (fun b ps e=>by rw[ao (bc e hp)];exact e) (fun b φ e=>by rw[ao (bc e hp)];exact e) fun b o u e=>by rw[ao (bc e hp)];exact e
def sj:HO→Bool
 | .tbl _=>false
 | .ext _=>false
 | .frz _ _=>false
 | _=>true
theorem lj.at_ {K:W.Frag}{H:Hp}{a:Addr}{o u:HO}(t:lj K H)(ha:H a=some u)(hu:sj u=true):lj K (bE H a o):=
 t.of (fun b ps e=>by rw[ao (qi e ha (by intro z;subst z;cases hu))];exact e) (fun b φ e=>by rw[ao (qi e ha (by intro z;subst z;cases hu))];exact e) fun b o u e=>by rw[ao (qi e ha (by intro z;subst z;cases hu))];exact e
theorem lj.no {K:W.Frag}{H:Hp}(h:∀x,x∈fM→W.nsIn K mainGlobals x=some none):lj K H:=by
 have no:∀x,x∈fM→∀c P,W.tabIn K x≠some (c,P):=fun x hx c P e=>by
  unfold W.tabIn at e;rw[h x hx] at e;cases e
 exact⟨fun x hx c P e=>absurd e (no x hx c P),fun x hx c P e=>absurd e (no x hx c P)⟩
structure Wr (K:W.Frag)(θ:List Addr)(H:Hp)(M:aq):Prop where
 len:θ.length=M.length
 nd:θ.Nodup
 at_:∀(i:Nat) a m,θ[i]?=some a→M[i]?=some m→nL K θ H m a
 tb:lj K H
structure ie (K:W.Frag)(θ:List Addr)(H:Hp)(σ:L2.St)(ρ:bC):Prop where
 len:ρ.length=σ.length
 at_:∀(i:Nat) d,ρ[i]?=some (some d)→∃v,σ[i]?=some (some v)∧cX K θ H d v
structure Grow (θ:List Addr)(H:Hp)(θ':List Addr)(H':Hp):Prop where
 ext:∃more,θ'=θ++more∧∀a∈more,H a=none
 keep:∀b o,H b=some o→b∉θ→(∀ps,o≠.tbl ps)→H' b=some o
 tkeep:∀b ps,H b=some (.tbl ps)→∃ps',H' b=some (.tbl ps')
structure Go (K:W.Frag)(θ:List Addr)(H:Hp)(θ':List Addr)(H':Hp)(M':aq):Prop extends Grow θ H θ' H' where
 wr:Wr K θ' H' M'
section
variable {K:W.Frag}{θ θ' θ1 θ2:List Addr}{H H' H1 H2:Hp}{M M' M1 M2:aq}{a p:Addr}{σ:L2.St}{ρ:bC}
theorem Wr.tracked (w:Wr K θ H M)(h:a∈θ):H a≠none:=by
 obtain⟨i,hi,e⟩:=mem_iff_getElem.mp h;have h1:θ[i]?=some a:=by rw[getElem?_eq_getElem hi,e]
 have h2:i<M.length:=by rw[←w.len];exact hi
 have h3:=w.at_ i a _ h1 (getElem?_eq_getElem h2);cases q:M[i] with
 | lst ds=>
  rw[q] at h3;obtain⟨vs,e,_⟩:=h3;rw[e];simp
 | obj c fs=>
  rw[q] at h3;obtain⟨C,dx,vs,_,e,_⟩:=h3;rw[e];simp
 | dK kvs=>
  rw[q] at h3;obtain⟨vs,e,_⟩:=h3;rw[e];simp
 | dT kvs=>
  rw[q] at h3;obtain⟨vs,e,_⟩:=h3;rw[e];simp
theorem nL.plain {m:MO}(h:nL K θ H m a):∃o,H a=some o∧sj o=true:=by
 cases m with
 | lst ds=>obtain⟨vs,e,_⟩:=h;exact⟨_,e,rfl⟩
 | obj c fs=>obtain⟨C,dx,vs,_,e,_⟩:=h;exact⟨_,e,rfl⟩
 | dK kvs=>obtain⟨vs,e,_⟩:=h;exact⟨_,e,rfl⟩
 | dT kvs=>obtain⟨vs,e,_⟩:=h;exact⟨_,e,rfl⟩
theorem Wr.plain (w:Wr K θ H M){i:Nat}(h:θ[i]?=some a):∃o,H a=some o∧sj o=true:=by
 have h2:i<M.length:=by rw[←w.len];exact(List.getElem?_eq_some_iff.mp h).1
 exact(w.at_ i a _ h (getElem?_eq_getElem h2)).plain
theorem Wr.fresh (w:Wr K θ H M)(h:H p=none):p∉θ:=fun z=>w.tracked z h
theorem Grow.refl (θ:List Addr)(H:Hp):Grow θ H θ H:=⟨⟨[],by simp,fun _ z=>by cases z⟩,fun _ _ h _ _=>h,fun b ps e=>⟨ps,e⟩⟩
theorem Go.refl (w:Wr K θ H M):Go K θ H θ H M:=⟨.refl θ H,w⟩
theorem Go.trans (a:Go K θ H θ1 H1 M1)(b:Go K θ1 H1 θ2 H2 M2):Go K θ H θ2 H2 M2:=by
 obtain⟨m1,e1,f1⟩:=a.ext;obtain⟨m2,e2,f2⟩:=b.ext;refine⟨⟨⟨m1++m2,by rw[e2,e1,append_assoc],fun x hx=>?_⟩,fun x o hx nx nt=>?_,fun x ps e=>?_⟩,b.wr⟩
 ·rcases mem_append.mp hx with z|z
  ·exact f1 x z
  ·cases q:H x with
   | none=>rfl
   | some o=>
    have nx:x∉θ:=by
     intro y;have nd:=b.wr.nd;rw[e2] at nd;have y1:x∈θ1:=by rw[e1];exact mem_append_left _ y
     exact(nodup_append.mp nd).2.2 x y1 x z rfl
    exfalso
    by_cases nt:∃ps,o=.tbl ps
    ·obtain⟨ps,rfl⟩:=nt;obtain⟨ps',e'⟩:=a.tkeep x ps q;rw[f2 x z] at e';cases e'
    ·have:=a.keep x o q nx fun ps e'=>nt ⟨ps,e'⟩
     rw[f2 x z] at this;cases this
 ·have h1:=a.keep x o hx nx nt;refine b.keep x o h1 ?_ nt;rw[e1];intro z;rcases mem_append.mp z with z|z
  ·exact nx z
  ·rw[f1 x z] at hx;cases hx
 ·obtain⟨ps',e'⟩:=a.tkeep x ps e;exact b.tkeep x ps' e'
theorem Grow.notin (g:Grow θ H θ' H'){o:HO}(h:H a=some o)(n:a∉θ):a∉θ':=by
 obtain⟨m,e,f⟩:=g.ext;rw[e];intro z;rcases mem_append.mp z with z|z
 ·exact n z
 ·rw[f a z] at h;cases h
theorem mz.grow {xs:List V}(g:Grow θ H θ' H')(h:mz K θ H a xs):mz K θ' H' a xs:=⟨g.keep _ _ h.1 h.2 (by intro _ z;cases z),g.notin h.1 h.2⟩
theorem oi.grow {xs:List V}(g:Grow θ H θ' H')(h:oi θ H a xs):oi θ' H' a xs:=⟨g.keep _ _ h.1 h.2 (by intro _ z;cases z),g.notin h.1 h.2⟩
theorem sI.grow {xs:List V}(g:Grow θ H θ' H')(h:sI K θ H a xs):sI K θ' H' a xs:=by
 rcases h with⟨h|⟨o,h⟩,n⟩|h
 ·exact .inl ⟨.inl (g.keep _ _ h n (by intro _ z;cases z)),g.notin h n⟩
 ·exact .inl ⟨.inr ⟨o,g.keep _ _ h n (by intro _ z;cases z)⟩,g.notin h n⟩
 ·exact .inr h
mutual
theorem ka (g:Grow θ H θ' H'):∀(d:D) (v:V),cX K θ H d v→cX K θ' H' d v
 | .non,v,h=>h
 | .bl b,v,h=>h
 | .int i,v,h=>h
 | .str x,v,h=>h
 | .tup ds,v,h=>by
  obtain⟨a,vs,e,t,r⟩:=h;exact⟨a,vs,e,t.grow g,cL g ds vs r⟩
 | .lst ds,v,h=>by
  obtain⟨a,vs,e,t,r⟩:=h;exact⟨a,vs,e,t.grow g,cL g ds vs r⟩
 | .ro ds,v,h=>by
  obtain⟨a,vs,e,t,r⟩:=h;exact⟨a,vs,e,t.grow g,cL g ds vs r⟩
 | .mr i,v,h=>by
  obtain⟨a,e,t⟩:=h;obtain⟨m,em,_⟩:=g.ext;refine⟨a,e,?_⟩;rw[em,getElem?_append_left (List.getElem?_eq_some_iff.mp t).1];exact t
 | .exc c,v,h=>by
  obtain⟨a,C,e,k,t,n⟩:=h;exact⟨a,C,e,k,g.keep _ _ t n (by intro _ z;cases z),g.notin t n⟩
 | .any,v,h=>h
theorem cL (g:Grow θ H θ' H'):∀(ds:List D) (vs:List V),a9 K θ H ds vs→a9 K θ' H' ds vs
 | [],vs,h=>h
 | d::ds,vs,h=>by
  obtain⟨v,r,e,h1,h2⟩:=h;exact⟨v,r,e,ka g d v h1,cL g ds r h2⟩
end
theorem cX.go {d:D}{v:V}(h:cX K θ H d v)(g:Go K θ H θ' H' M'):cX K θ' H' d v:=ka g.toGrow d v h
theorem a9.go {ds:List D}{vs:List V}(h:a9 K θ H ds vs)(g:Go K θ H θ' H' M'):a9 K θ' H' ds vs:=cL g.toGrow ds vs h
theorem ie.go (h:ie K θ H σ ρ)(g:Go K θ H θ' H' M'):ie K θ' H' σ ρ:=⟨h.len,fun i d e=>let ⟨v,e1,e2⟩:=h.at_ i d e;⟨v,e1,e2.go g⟩⟩
theorem aw:∀{ds:List D} {vs:List V},a9 K θ H ds vs→ds.length=vs.length
 | [],vs,h=>by cases (show vs=[] from h);rfl
 | d::ds,vs,h=>by
  obtain⟨v,r,e,_,h2⟩:=h;subst e;rw[length_cons,length_cons,aw h2]
theorem cS:∀{ds es:List D} {vs us:List V},a9 K θ H ds vs→a9 K θ H es us→a9 K θ H (ds++es) (vs++us)
 | [],es,vs,us,h,k=>by cases (show vs=[] from h);exact k
 | d::ds,es,vs,us,h,k=>by
  obtain⟨v,r,e,h1,h2⟩:=h;subst e;exact⟨v,r++us,rfl,h1,cS h2 k⟩
theorem eV:∀{ds:List D} {vs:List V} {i:Nat} {d:D},a9 K θ H ds vs→ds[i]?=some d→∃v,vs[i]?=some v∧cX K θ H d v
 | [],vs,i,d,h,e=>by simp at e
 | x::ds,vs,0,d,h,e=>by
  obtain⟨v,r,e1,h1,h2⟩:=h;subst e1;simp at e;subst e;exact⟨v,rfl,h1⟩
 | x::ds,vs,i+1,d,h,e=>by
  obtain⟨v,r,e1,h1,h2⟩:=h;subst e1;obtain⟨u,e2,h3⟩:=eV (i:=i) h2 (by simpa using e);exact⟨u,by simpa using e2,h3⟩
theorem nZ:∀{ds:List D} {vs:List V} (n:Nat),a9 K θ H ds vs→a9 K θ H (ds.take n) (vs.take n)
 | ds,vs,0,h=>by rw[take_zero,take_zero];exact rfl
 | [],vs,n+1,h=>by cases (show vs=[] from h);exact rfl
 | d::ds,vs,n+1,h=>by
  obtain⟨v,r,e,h1,h2⟩:=h;subst e;exact⟨v,r.take n,rfl,h1,nZ n h2⟩
theorem n8:∀{ds:List D} {vs:List V} (n:Nat),a9 K θ H ds vs→a9 K θ H (ds.drop n) (vs.drop n)
 | ds,vs,0,h=>h
 | [],vs,n+1,h=>by cases (show vs=[] from h);exact rfl
 | d::ds,vs,n+1,h=>by
  obtain⟨v,r,e,h1,h2⟩:=h;subst e;exact n8 n h2
theorem qU {d:D}{v:V}(hd:cX K θ H d v):∀{ds:List D} {vs:List V} (i:Nat),a9 K θ H ds vs→a9 K θ H (ds.set i d) (vs.set i v)
 | [],vs,i,h=>by cases (show vs=[] from h);exact rfl
 | x::ds,vs,0,h=>by
  obtain⟨u,r,e,h1,h2⟩:=h;subst e;exact⟨v,r,rfl,hd,h2⟩
 | x::ds,vs,i+1,h=>by
  obtain⟨u,r,e,h1,h2⟩:=h;subst e;exact⟨u,r.set i v,rfl,h1,qU hd i h2⟩
theorem kE {o:HO}(w:Wr K θ H M)(hp:H p=none):Grow θ H θ (bE H p o):=
 ⟨⟨[],by simp,fun _ z=>by cases z⟩,fun b u h _ _=>by rw[ao (bc h hp)];exact h,fun b ps h=>⟨ps,by rw[ao (bc h hp)];exact h⟩⟩
theorem lB (g:Grow θ H θ' H'):∀{fs:List (Str×D)} {vs:List (Str×V)},kQ K θ H fs vs→kQ K θ' H' fs vs
 | [],vs,h=>h
 | (f,d)::fs,vs,h=>by
  obtain⟨v,r,e,h1,h2⟩:=h;exact⟨v,r,e,ka g d v h1,lB g h2⟩
theorem jw {κ:Type}(g:Grow θ H θ' H'):∀{fs:List (κ×D)} {vs:List (κ×V)},kn K θ H fs vs→kn K θ' H' fs vs
 | [],vs,h=>h
 | (f,d)::fs,vs,h=>by
  obtain⟨v,r,e,h1,h2⟩:=h;exact⟨v,r,e,ka g d v h1,jw g h2⟩
theorem nL.grow {m:MO}(g:Grow θ H θ' H')(hs:H' a=H a)(h:nL K θ H m a):nL K θ' H' m a:=by
 cases m with
 | lst ds=>
  obtain⟨vs,e,r⟩:=h;exact⟨vs,by rw[hs];exact e,cL g ds vs r⟩
 | obj c fs=>
  obtain⟨C,dx,vs,k,e,r⟩:=h;exact⟨C,dx,vs,k,by rw[hs];exact e,lB g r⟩
 | dK kvs=>
  obtain⟨vs,e,r⟩:=h;exact⟨vs,by rw[hs];exact e,jw g r⟩
 | dT kvs=>
  obtain⟨vs,e,r⟩:=h;exact⟨vs,by rw[hs];exact e,jw g r⟩
theorem dh {o:HO}(w:Wr K θ H M)(hp:H p=none):Go K θ H θ (bE H p o) M:=
 ⟨kE w hp,w.len,w.nd,fun i a m h1 h2=>by
  have ha:a≠p:=fun e=>w.fresh hp (by rw[←e];exact mem_of_getElem? h1)
  exact(w.at_ i a m h1 h2).grow (kE w hp) (ao ha),w.tb.new hp⟩
theorem ig {ds:List D}{vs:List V}(w:Wr K θ H M)(hp:H p=none)(r:a9 K θ H ds vs):cX K θ (bE H p (.tup vs)) (.tup ds) (.ref p):=
 ⟨p,vs,rfl,⟨bO,w.fresh hp⟩,cL (kE w hp) ds vs r⟩
theorem gw {ds:List D}{vs:List V}(w:Wr K θ H M)(hp:H p=none)(r:a9 K θ H ds vs):cX K θ (bE H p (.lst vs)) (.lst ds) (.ref p):=
 ⟨p,vs,rfl,⟨bO,w.fresh hp⟩,cL (kE w hp) ds vs r⟩
theorem oz {o:HO}(hp:H p=none):Grow θ H (θ++[p]) (bE H p o):=
 ⟨⟨[p],rfl,fun a ha=>by rw[mem_singleton.mp ha];exact hp⟩,fun b u h _ _=>by rw[ao (bc h hp)];exact h,fun b ps h=>⟨ps,by rw[ao (bc h hp)];exact h⟩⟩
theorem ug {m:MO}{o:HO}(w:Wr K θ H M)(hp:H p=none)(hm:nL K (θ++[p]) (bE H p o) m p):Go K θ H (θ++[p]) (bE H p o) (M++[m]):=by
 have np:=w.fresh hp;have g:Grow θ H (θ++[p]) (bE H p o):=oz hp;refine⟨g,by rw[length_append,length_append,w.len];rfl,?_,fun i a m' h1 h2=>?_,w.tb.new hp⟩
 ·rw[nodup_append];exact⟨w.nd,by simp,fun x hx y hy e=>np (by rw[mem_singleton.mp hy] at e;rw[←e];exact hx)⟩
 ·by_cases hi:i<θ.length
  ·rw[getElem?_append_left hi] at h1;rw[getElem?_append_left (by rw[←w.len];exact hi)] at h2;have ha:a≠p:=fun e=>np (by rw[←e];exact mem_of_getElem? h1)
   exact(w.at_ i a m' h1 h2).grow g (ao ha)
  ·have hi':i=θ.length:=by
    have:=(List.getElem?_eq_some_iff.mp h1).1;rw[length_append,length_singleton] at this;omega
   subst hi';rw[getElem?_append_right (Nat.le_refl _)] at h1;rw[getElem?_append_right (by rw[w.len];exact Nat.le_refl _)] at h2;simp only[Nat.sub_self,w.len,getElem?_cons_zero,Option.some.injEq] at h1 h2;subst h1;subst h2;exact hm
theorem zx {ds:List D}{vs:List V}(w:Wr K θ H M)(hp:H p=none)(r:a9 K θ H ds vs):Go K θ H (θ++[p]) (bE H p (.lst vs)) (M++[.lst ds]):=
 ug w hp ⟨vs,bO,cL (oz hp) ds vs r⟩
theorem mq {i:Nat}{o:HO}(w:Wr K θ H M)(hi:θ[i]?=some a):Grow θ H θ (bE H a o):=by
 have ha:a∈θ:=mem_of_getElem? hi;obtain⟨u,hu,pu⟩:=w.plain hi;exact⟨⟨[],by simp,fun _ z=>by cases z⟩,fun b u h n _=>by rw[ao (fun e=>n (by rw[e];exact ha))];exact h,fun b ps h=>⟨ps,by rw[ao (qi h hu (by intro z;subst z;cases pu))];exact h⟩⟩
theorem o7 {i:Nat}{m:MO}{o:HO}(w:Wr K θ H M)(hi:θ[i]?=some a)(hm:nL K θ (bE H a o) m a):Go K θ H θ (bE H a o) (M.set i m):=by
 have g:Grow θ H θ (bE H a o):=mq w hi;obtain⟨u,hu,pu⟩:=w.plain hi;refine⟨g,by rw[length_set];exact w.len,w.nd,fun j b m' h1 h2=>?_,w.tb.at_ hu pu⟩
 by_cases hj:j=i
 ·subst hj;rw[hi] at h1;cases h1;have hl:j<M.length:=by rw[←w.len];exact(List.getElem?_eq_some_iff.mp hi).1
  rw[getElem?_set_self hl] at h2;cases h2;exact hm
 ·rw[getElem?_set_ne (Ne.symm hj)] at h2;have hb:b≠a:=fun e=>by
   subst e;obtain⟨h3,e3⟩:=List.getElem?_eq_some_iff.mp h1;obtain⟨h4,e4⟩:=List.getElem?_eq_some_iff.mp hi;exact hj ((getElem_inj w.nd).mp (e3.trans e4.symm))
  exact(w.at_ j b m' h1 h2).grow g (ao hb)
theorem yS {i:Nat}{ds ds':List D}{vs':List V}(w:Wr K θ H M)(hi:θ[i]?=some a)(r:a9 K θ H ds' vs'):Go K θ H θ (bE H a (.lst vs')) (M.set i (.lst ds')):=
 o7 w hi ⟨vs',bO,cL (mq w hi) ds' vs' r⟩
end
abbrev GE:=bC→aq→aU D
abbrev GT:=bC→aq→aU Bool
abbrev GA:=bC→aq→aU (List D)
inductive Fl where
 | nx (ρ:bC)|rt (d:D)|bk (ρ:bC)|ct (ρ:bC)
abbrev GS:=bC→aq→aU Fl
def dm (X:Cx)(θ:List Addr)(H:Hp)(c:Str)(M:aq):Prop:=∀C θ' H' a s',cw X.K c C→Go X.K θ H θ' H' M→IT X H' a C s'→X.xe (.ref a) s'
def aE (X:Cx)(θ:List Addr)(H:Hp)(Q:VK):aU D→Prop
 | .ok d M'=>∀v θ' H',Go X.K θ H θ' H' M'→cX X.K θ' H' d v→Q v H'
 | .err c M'=>dm X θ H c M'
 | .bad=>False
def lq (X:Cx)(θ:List Addr)(H:Hp)(Q:Bool→Hp→Prop):aU Bool→Prop
 | .ok b M'=>∀θ' H',Go X.K θ H θ' H' M'→Q b H'
 | .err c M'=>dm X θ H c M'
 | .bad=>False
def wl (X:Cx)(θ:List Addr)(H:Hp)(Q:List V→Hp→Prop):aU (List D)→Prop
 | .ok ds M'=>∀vs θ' H',Go X.K θ H θ' H' M'→a9 X.K θ' H' ds vs→Q vs H'
 | .err c M'=>dm X θ H c M'
 | .bad=>False
def bU (X:Cx)(θ:List Addr)(H:Hp)(D:vR):aU Fl→Prop
 | .ok (.nx ρ) M'=>∀σ θ' H',Go X.K θ H θ' H' M'→ie X.K θ' H' σ ρ→D.nx σ H'
 | .ok (.bk ρ) M'=>∀σ θ' H',Go X.K θ H θ' H' M'→ie X.K θ' H' σ ρ→D.bk σ H'
 | .ok (.ct ρ) M'=>∀σ θ' H',Go X.K θ H θ' H' M'→ie X.K θ' H' σ ρ→D.ct σ H'
 | .ok (.rt d) M'=>∀v θ' H',Go X.K θ H θ' H' M'→cX X.K θ' H' d v→D.rt v H'
 | .err c M'=>dm X θ H c M'
 | .bad=>False
def tE (X:Cx)(g:GE):TE:=fun σ H Q=>∃ρ θ M,ie X.K θ H σ ρ∧Wr X.K θ H M∧aE X θ H Q (g ρ M)
def tT (X:Cx)(g:GT):TT:=fun σ H Q=>∃ρ θ M,ie X.K θ H σ ρ∧Wr X.K θ H M∧lq X θ H Q (g ρ M)
def tA (X:Cx)(g:GA):TA:=fun σ H Q=>∃ρ θ M,ie X.K θ H σ ρ∧Wr X.K θ H M∧wl X θ H Q (g ρ M)
def tS (X:Cx)(g:GS):TS:=fun D σ H=>∃ρ θ M,ie X.K θ H σ ρ∧Wr X.K θ H M∧bU X θ H D (g ρ M)
section
variable {X:Cx}{θ θ':List Addr}{H H':Hp}{M':aq}
theorem dm.go {c:Str}{M:aq}(g:Go X.K θ H θ' H' M')(h:dm X θ H c M):dm X θ' H' c M:=fun C θ2 H2 a s' k g2 fl=>h C θ2 H2 a s' k (g.trans g2) fl
theorem aE.go {Q:VK}{o:aU D}(g:Go X.K θ H θ' H' M')(h:aE X θ H Q o):aE X θ' H' Q o:=by
 cases o with
 | ok d M=>exact fun v θ2 H2 g2=>h v θ2 H2 (g.trans g2)
 | err c M=>exact dm.go (c:=c) (M:=M) g h
 | bad=>exact h
theorem lq.go {Q:Bool→Hp→Prop}{o:aU Bool}(g:Go X.K θ H θ' H' M')(h:lq X θ H Q o):lq X θ' H' Q o:=by
 cases o with
 | ok d M=>exact fun θ2 H2 g2=>h θ2 H2 (g.trans g2)
 | err c M=>exact dm.go (c:=c) (M:=M) g h
 | bad=>exact h
theorem wl.go {Q:List V→Hp→Prop}{o:aU (List D)}(g:Go X.K θ H θ' H' M')(h:wl X θ H Q o):wl X θ' H' Q o:=by
 cases o with
 | ok d M=>exact fun v θ2 H2 g2=>h v θ2 H2 (g.trans g2)
 | err c M=>exact dm.go (c:=c) (M:=M) g h
 | bad=>exact h
theorem bU.go {D:vR}{o:aU Fl}(g:Go X.K θ H θ' H' M')(h:bU X θ H D o):bU X θ' H' D o:=by
 cases o with
 | ok f M=>cases f <;> exact fun v θ2 H2 g2=>h v θ2 H2 (g.trans g2)
 | err c M=>exact dm.go (c:=c) (M:=M) g h
 | bad=>exact h
end
section
variable {X:Cx}{e:Expr}
theorem _root_.L2.PE.of {t t':TE}(h:PE X e t)(w:∀σ H Q,t' σ H Q→t σ H Q):PE X e t':=fun af s σ H Q I q=>h af s σ H Q I (w σ H Q q)
theorem _root_.L2.PT.of {t t':TT}(h:PT X e t)(w:∀σ H Q,t' σ H Q→t σ H Q):PT X e t':=fun af s σ H Q I q=>h af s σ H Q I (w σ H Q q)
theorem _root_.L2.PW.of {t t':TT}(h:PW X e t)(w:∀σ H Q,t' σ H Q→t σ H Q):PW X e t':=fun wh af s σ H Q I q=>h wh af s σ H Q I (w σ H Q q)
theorem _root_.L2.PA.of {es:List Expr}{t t':TA}(h:PA X es t)(w:∀σ H Q,t' σ H Q→t σ H Q):PA X es t':=fun pos af s σ H Q I q=>h pos af s σ H Q I (w σ H Q q)
theorem _root_.L2.PS.of {st:Stmt}{t t':TS}(h:PS X st t)(w:∀D σ H,t' D σ H→t D σ H):PS X st t':=fun af s σ H D I q=>h af s σ H D I (w D σ H q)
theorem _root_.L2.PSs.of {st:List Stmt}{t t':TS}(h:PSs X st t)(w:∀D σ H,t' D σ H→t D σ H):PSs X st t':=fun af s σ H D I q=>h af s σ H D I (w D σ H q)
theorem bo {g:GE}{σ:L2.St}{H:Hp}{Q:VK}{α:Type}{ρ:bC}{θ:List Addr}{M:aq}(hd:ie X.K θ H σ ρ)(hw:Wr X.K θ H M)(F:aU α→Prop)(Fe:∀c M',F (.err c M')→dm X θ H c M')(Fb:F .bad→False)
  {f:D→aq→aU α} (h:F ((g ρ M).bind f))
  (k:∀d M1 v θ1 H1,Go X.K θ H θ1 H1 M1→cX X.K θ1 H1 d v→F (f d M1)→Q v H1):tE X g σ H Q:=by
 refine⟨ρ,θ,M,hd,hw,?_⟩;cases q:g ρ M with
 | ok d M1=>
  rw[q] at h;exact fun v θ1 H1 g1 r1=>k d M1 v θ1 H1 g1 r1 h
 | err c M1=>rw[q] at h;exact Fe c M1 h
 | bad=>rw[q] at h;exact(Fb h).elim
def ae (i:Nat):GE:=fun ρ M=>match ρ[i]? with
 | some (some d)=>.ok d M
 | _=>.bad
def gC (d:D):GE:=fun _ M=>.ok d M
theorem Fa {i:Nat}(h:PE X e (HD i)):PE X e (tE X (ae i)):=h.of fun σ H Q hxx=>by
 obtain⟨ρ,θ,M,hd,hw,f⟩:=hxx;unfold ae at f;split at f
 ·rename_i d q;obtain⟨v,e1,r⟩:=hd.at_ i d q;exact⟨v,e1,f v θ H (.refl hw) r⟩
 ·exact f.elim
theorem C7 {i j pos}:PE X (.Constant (.int i) j pos) (tE X (gC (.int i))):=zl.of fun σ H Q ⟨ρ,θ,M,hd,hw,f⟩=>f _ θ H (.refl hw) rfl
theorem GQ {b j pos}:PE X (.Constant (.bool b) j pos) (tE X (gC (.bl b))):=G7.of fun σ H Q ⟨ρ,θ,M,hd,hw,f⟩=>f _ θ H (.refl hw) rfl
theorem CD {j pos}:PE X (.Constant .none j pos) (tE X (gC .non)):=Ef.of fun σ H Q ⟨ρ,θ,M,hd,hw,f⟩=>f _ θ H (.refl hw) rfl
theorem EI {x j pos}:PE X (.Constant (.str x) j pos) (tE X (gC (.str x))):=DU.of fun σ H Q ⟨ρ,θ,M,hd,hw,f⟩=>f _ θ H (.refl hw) rfl
abbrev F2:=D→D→aq→aU D
def g2 (f:F2)(ga gb:GE):GE:=fun ρ M=>(ga ρ M).bind fun x M1=>(gb ρ M1).bind fun y M2=>f x y M2
def rD (X:Cx)(f:F2):R2:=fun x y H Q=>∃θ M dx dy,Wr X.K θ H M∧cX X.K θ H dx x∧cX X.K θ H dy y∧aE X θ H Q (f dx dy M)
theorem uN {f:F2}{ga gb:GE}{σ:L2.St}{H:Hp}{Q:VK}(h:tE X (g2 f ga gb) σ H Q):FQ (rD X f) (tE X ga) (tE X gb) σ H Q:=by
 obtain⟨ρ,θ,M,hd,hw,h⟩:=h;refine bo hd hw (aE X θ H Q) (fun c M' h=>h) (fun h=>h) h fun dx M1 x θ1 H1 g1 r1 h1=>?_
 refine bo (hd.go g1) g1.wr (aE X θ1 H1 Q) (fun c M' h=>h) (fun h=>h) (h1.go g1) fun dy M2 y θ2 H2 g2 r2 h2=>?_
 exact⟨θ2,M2,dx,dy,g2.wr,r1.go g2,r2,h2.go g2⟩
theorem GN {a b:Expr}{op:Operator}{pos:Pos}{f:F2}{ga gb:GE}(ho:fY X (binaryOp op) (rD X f))(ha:PE X a (tE X ga))(hb:PE X b (tE X gb)):PE X (.BinOp a op b pos) (tE X (g2 f ga gb)):=
 (Fu ho ha hb).of fun _ _ _ h=>uN h
theorem EK {a b:Expr}{op:CmpOp}{pos:Pos}{f:F2}{ga gb:GE}(ho:fY X (compareOp op) (rD X f))(ha:PE X a (tE X ga))(hb:PE X b (tE X gb))(hm:behindInMarks op b=false):PE X (.Compare a [op] [b] pos) (tE X (g2 f ga gb)):=
 (Bo ho ha hb hm).of fun _ _ _ h=>uN h
def Hy:D→aq→aU Bool
 | .bl b,M=>.ok b M
 | _,_=>.bad
def aM (g:GE):GT:=fun ρ M=>(g ρ M).bind Hy
theorem xh {θ:List Addr}{H:Hp}{Q:Bool→Hp→Prop}{o:aU D}(h:lq X θ H Q (o.bind Hy)):aE X θ H (fun x H'=>∃k,x=.bl k∧Q k H') o:=by
 cases o with
 | ok d M=>
  cases d with
  | bl b=>exact fun v θ1 H1 g1 r1=>⟨b,r1,h θ1 H1 g1⟩
  | _=>exact h.elim
 | err c M=>exact h
 | bad=>exact h
theorem yF {g:GE}{σ:L2.St}{H:Hp}{Q:Bool→Hp→Prop}(h:tT X (aM g) σ H Q):tE X g σ H fun x H'=>∃k,x=.bl k∧Q k H':=by
 obtain⟨ρ,θ,M,hd,hw,h⟩:=h;exact⟨ρ,θ,M,hd,hw,xh h⟩
theorem xq {a b:Expr}{op:CmpOp}{pos:Pos}{f:F2}{ga gb:GE}(ho:fY X (compareOp op) (rD X f))(ha:PE X a (tE X ga))(hb:PE X b (tE X gb))(hm:behindInMarks op b=false):PT X (.Compare a [op] [b] pos) (tT X (aM (g2 f ga gb))):=
 (AD ho ha hb hm).of fun σ H Q h=>uN (yF h)
def oh (f f':F2)(ga gb gc:GE):GE:=fun ρ M=>(ga ρ M).bind fun x M1=>(gb ρ M1).bind fun y M2=>(f x y M2).bind fun z M3=>match z with
 | .bl true=>(gc ρ M3).bind fun w M4=>f' y w M4
 | .bl false=>.ok (.bl false) M3
 | _=>.bad
theorem B5 {f f':F2}{ga gb gc:GE}{σ:L2.St}{H:Hp}{Q:VK}(h:tE X (oh f f' ga gb gc) σ H Q):sr (rD X f) (rD X f') (tE X ga) (tE X gb) (tE X gc) σ H Q:=by
 obtain⟨ρ,θ,M,hd,hw,h⟩:=h;refine bo hd hw (aE X θ H Q) (fun c M' h=>h) (fun h=>h) h fun dx M1 x θ1 H1 g1 r1 h1=>?_
 refine bo (hd.go g1) g1.wr (aE X θ1 H1 Q) (fun c M' h=>h) (fun h=>h) (h1.go g1) fun dy M2 y θ2 H2 g2 r2 h2=>?_
 refine⟨θ2,M2,dx,dy,g2.wr,r1.go g2,r2,?_⟩;have h3:=h2.go g2;cases q:f dx dy M2 with
 | ok z M3=>
  rw[q] at h3;intro v θ3 H3 g3 r3;cases z with
  | bl k=>
   refine⟨k,r3,?_⟩;cases k with
   | true=>
    rw[if_pos rfl];refine bo ((hd.go g1).go (g2.trans g3)) g3.wr (aE X θ3 H3 Q) (fun c M' h=>h) (fun h=>h) (h3.go g3) fun dw M4 w θ4 H4 g4 r4 h4=>?_
    exact⟨θ4,M4,dy,dw,g4.wr,r2.go (g3.trans g4),r4,h4.go g4⟩
   | false=>
    rw[if_neg Bool.false_ne_true];exact h3 _ θ3 H3 g3 rfl
  | _=>exact h3.elim
 | err c M3=>rw[q] at h3;exact h3
 | bad=>rw[q] at h3;exact h3
theorem zo {a b c:Expr}{op op':CmpOp}{pos:Pos}{f f':F2}{ga gb gc:GE}(ho:fY X (compareOp op) (rD X f))(ho':fY X (compareOp op') (rD X f'))(ha:PE X a (tE X ga))(hb:PE X b (tE X gb))(hc:PE X c (tE X gc))
  (hm:lastMarks [op,op'] [b,c]=false:=by with_unfolding_all rfl):PE X (.Compare a [op,op'] [b,c] pos) (tE X (oh f f' ga gb gc)):=(yq ho ho' ha hb hc hm).of fun _ _ _ h=>B5 h
theorem xr {a b c:Expr}{op op':CmpOp}{pos:Pos}{f f':F2}{ga gb gc:GE}(ho:fY X (compareOp op) (rD X f))(ho':fY X (compareOp op') (rD X f'))(ha:PE X a (tE X ga))(hb:PE X b (tE X gb))(hc:PE X c (tE X gc))
  (hm:lastMarks [op,op'] [b,c]=false:=by with_unfolding_all rfl):PT X (.Compare a [op,op'] [b,c] pos) (tT X (aM (oh f f' ga gb gc))):=(yz ho ho' ha hb hc hm).of fun σ H Q h=>B5 (yF h)
def eA (a b:GT):GT:=fun ρ M=>(a ρ M).bind fun c M1=>if c then b ρ M1 else .ok false M1
def fZ (a b:GT):GT:=fun ρ M=>(a ρ M).bind fun c M1=>if c then .ok true M1 else b ρ M1
def bY (a:GT):GT:=fun ρ M=>(a ρ M).bind fun c M1=>.ok (!c) M1
theorem rF {g:GT}{σ:L2.St}{H:Hp}{Q:Bool→Hp→Prop}{α:Type}{ρ:bC}{θ:List Addr}{M:aq}(hd:ie X.K θ H σ ρ)(hw:Wr X.K θ H M)(F:aU α→Prop)(Fe:∀c M',F (.err c M')→dm X θ H c M')(Fb:F .bad→False)
  {f:Bool→aq→aU α} (h:F ((g ρ M).bind f)) (k:∀d M1 θ1 H1,Go X.K θ H θ1 H1 M1→F (f d M1)→Q d H1):tT X g σ H Q:=by
 refine⟨ρ,θ,M,hd,hw,?_⟩;cases q:g ρ M with
 | ok d M1=>
  rw[q] at h;exact fun θ1 H1 g1=>k d M1 θ1 H1 g1 h
 | err c M1=>rw[q] at h;exact Fe c M1 h
 | bad=>rw[q] at h;exact(Fb h).elim
variable {a b:Expr}{pos:Pos}{rest:List Expr}{ta tb:GT}{ga gb:GE}
theorem zT (ha:PT X a (tT X ta)):PW X (.BoolOp .And [a] pos) (tT X ta):=A6 ha
theorem C0 (ha:PT X a (tT X ta)):PW X (.BoolOp .Or [a] pos) (tT X ta):=DQ ha
theorem DD (ha:PT X a (tT X ta))(hb:PW X (.BoolOp .And (b::rest) pos) (tT X tb)):PW X (.BoolOp .And (a::b::rest) pos) (tT X (eA ta tb)):=(DM ha hb).of fun σ H Q hxx=>by
 obtain⟨ρ,θ,M,hd,hw,h⟩:=hxx;refine rF hd hw (lq X θ H Q) (fun c M' h=>h) (fun h=>h) h fun c M1 θ1 H1 g1 h1=>?_
 cases c with
 | true=>exact⟨ρ,θ1,M1,hd.go g1,g1.wr,lq.go g1 h1⟩
 | false=>exact h1 θ1 H1 g1
theorem FS (ha:PT X a (tT X ta))(hb:PW X (.BoolOp .Or (b::rest) pos) (tT X tb)):PW X (.BoolOp .Or (a::b::rest) pos) (tT X (fZ ta tb)):=(Ha ha hb).of fun σ H Q hxx=>by
 obtain⟨ρ,θ,M,hd,hw,h⟩:=hxx;refine rF hd hw (lq X θ H Q) (fun c M' h=>h) (fun h=>h) h fun c M1 θ1 H1 g1 h1=>?_
 cases c with
 | true=>exact h1 θ1 H1 g1
 | false=>exact⟨ρ,θ1,M1,hd.go g1,g1.wr,lq.go g1 h1⟩
theorem C8 (ha:PT X a (tT X ta)):PT X (.UnaryOp .Not a pos) (tT X (bY ta)):=(Dd ha).of fun σ H Q hxx=>by
 obtain⟨ρ,θ,M,hd,hw,h⟩:=hxx;exact rF hd hw (lq X θ H Q) (fun c M' h=>h) (fun h=>h) h fun c M1 θ1 H1 g1 h1=>h1 θ1 H1 g1
def cR (a b:GE):GE:=fun ρ M=>(a ρ M).bind fun x M1=>match x with
 | .bl true=>b ρ M1
 | .bl false=>.ok (.bl false) M1
 | _=>.bad
def Cj (a b:GE):GE:=fun ρ M=>(a ρ M).bind fun x M1=>match x with
 | .bl true=>.ok (.bl true) M1
 | .bl false=>b ρ M1
 | _=>.bad
def rg (a:GT):GE:=fun ρ M=>(a ρ M).bind fun c M1=>.ok (.bl (!c)) M1
theorem CC {op}{g:GE}(h:PE X a (tE X g)):PE X (.BoolOp op [a] pos) (tE X g):=Dx h
theorem Eo (ha:PE X a (tE X ga))(hb:PE X (.BoolOp .And (b::rest) pos) (tE X gb)):PE X (.BoolOp .And (a::b::rest) pos) (tE X (cR ga gb)):=(Cz ha hb).of fun σ H Q hxx=>by
 obtain⟨ρ,θ,M,hd,hw,h⟩:=hxx;refine bo hd hw (aE X θ H Q) (fun c M' h=>h) (fun h=>h) h fun d M1 v θ1 H1 g1 r1 h1=>?_
 cases d with
 | bl c=>
  refine⟨c,r1,?_⟩;cases c with
  | true=>rw[if_pos rfl];exact⟨ρ,θ1,M1,hd.go g1,g1.wr,aE.go g1 h1⟩
  | false=>rw[if_neg Bool.false_ne_true];exact h1 _ θ1 H1 g1 rfl
 | _=>exact h1.elim
theorem GX (ha:PE X a (tE X ga))(hb:PE X (.BoolOp .Or (b::rest) pos) (tE X gb)):PE X (.BoolOp .Or (a::b::rest) pos) (tE X (Cj ga gb)):=(Hc ha hb).of fun σ H Q hxx=>by
 obtain⟨ρ,θ,M,hd,hw,h⟩:=hxx;refine bo hd hw (aE X θ H Q) (fun c M' h=>h) (fun h=>h) h fun d M1 v θ1 H1 g1 r1 h1=>?_
 cases d with
 | bl c=>
  refine⟨c,r1,?_⟩;cases c with
  | true=>rw[if_pos rfl];exact h1 _ θ1 H1 g1 rfl
  | false=>rw[if_neg Bool.false_ne_true];exact⟨ρ,θ1,M1,hd.go g1,g1.wr,aE.go g1 h1⟩
 | _=>exact h1.elim
def ag:GA:=fun _ M=>.ok [] M
def aa (g:GE)(r:GA):GA:=fun ρ M=>(g ρ M).bind fun d M1=>(r ρ M1).bind fun ds M2=>.ok (d::ds) M2
theorem i8 {g:GA}{σ:L2.St}{H:Hp}{Q:List V→Hp→Prop}{α:Type}{ρ:bC}{θ:List Addr}{M:aq}(hd:ie X.K θ H σ ρ)(hw:Wr X.K θ H M)(F:aU α→Prop)(Fe:∀c M',F (.err c M')→dm X θ H c M')(Fb:F .bad→False)
  {f:List D→aq→aU α} (h:F ((g ρ M).bind f)) (k:∀ds M1 vs θ1 H1,Go X.K θ H θ1 H1 M1→a9 X.K θ1 H1 ds vs→F (f ds M1)→Q vs H1):tA X g σ H Q:=by
 refine⟨ρ,θ,M,hd,hw,?_⟩;cases q:g ρ M with
 | ok d M1=>
  rw[q] at h;exact fun v θ1 H1 g1 r1=>k d M1 v θ1 H1 g1 r1 h
 | err c M1=>rw[q] at h;exact Fe c M1 h
 | bad=>rw[q] at h;exact(Fb h).elim
theorem DZ:PA X [] (tA X ag):=i5.of fun σ H Q ⟨ρ,θ,M,hd,hw,f⟩=>f [] θ H (.refl hw) rfl
theorem AU {es:List Expr}{gr:GA}(ha:PE X e (tE X ga))(hr:PA X es (tA X gr))(hs:starEach (e::es) X.env=(false,eval e X.env)::starEach es X.env:=by rfl):PA X (e::es) (tA X (aa ga gr)):=
 (dY ha hr hs).of fun σ H Q hxx=>by
  obtain⟨ρ,θ,M,hd,hw,h⟩:=hxx;refine bo hd hw (wl X θ H Q) (fun c M' h=>h) (fun h=>h) h fun d M1 v θ1 H1 g1 r1 h1=>?_
  refine i8 (hd.go g1) g1.wr (wl X θ1 H1 Q) (fun c M' h=>h) (fun h=>h) (h1.go g1) fun ds M2 vs θ2 H2 g2 r2 h2=>?_
  exact h2 (v::vs) θ2 H2 g2 ⟨v,vs,rfl,r1.go g2,r2⟩
def mI (ds:List D)(M:aq):aU D:=if ds.length≤sizeLine then .ok (.tup ds) M else .bad
def aR (ds:List D)(M:aq):aU D:=if ds.length≤sizeLine then .ok (.lst ds) M else .bad
def dI (ds:List D)(M:aq):aU D:=if ds.length≤sizeLine then .ok (.mr M.length) (M++[.lst ds]) else .bad
def aF (g:GA):GE:=fun ρ M=>(g ρ M).bind mI
def dk (g:GA):GE:=fun ρ M=>(g ρ M).bind aR
def fB (g:GA):GE:=fun ρ M=>(g ρ M).bind dI
theorem aE.tup {θ:List Addr}{H:Hp}{Q:VK}{ds:List D}{M:aq}{vs:List V}(h:aE X θ H Q (mI ds M))(hw:Wr X.K θ H M)(r:a9 X.K θ H ds vs):vs.length≤sizeLine∧∀p,H p=none→Q (.ref p) (bE H p (.tup vs)):=by
 unfold mI at h
 by_cases hl:ds.length≤sizeLine
 ·rw[if_pos hl] at h;exact⟨by rw[←aw r];exact hl,fun p hp=>h _ θ _ (dh hw hp) (ig hw hp r)⟩
 ·rw[if_neg hl] at h;exact h.elim
theorem aE.lst {θ:List Addr}{H:Hp}{Q:VK}{ds:List D}{M:aq}{vs:List V}(h:aE X θ H Q (aR ds M))(hw:Wr X.K θ H M)(r:a9 X.K θ H ds vs):vs.length≤sizeLine∧∀p,H p=none→Q (.ref p) (bE H p (.lst vs)):=by
 unfold aR at h
 by_cases hl:ds.length≤sizeLine
 ·rw[if_pos hl] at h;exact⟨by rw[←aw r];exact hl,fun p hp=>h _ θ _ (dh hw hp) (gw hw hp r)⟩
 ·rw[if_neg hl] at h;exact h.elim
theorem aE.mut {θ:List Addr}{H:Hp}{Q:VK}{ds:List D}{M:aq}{vs:List V}(h:aE X θ H Q (dI ds M))(hw:Wr X.K θ H M)(r:a9 X.K θ H ds vs):vs.length≤sizeLine∧∀p,H p=none→Q (.ref p) (bE H p (.lst vs)):=by
 unfold dI at h
 by_cases hl:ds.length≤sizeLine
 ·rw[if_pos hl] at h;refine⟨by rw[←aw r];exact hl,fun p hp=>h _ (θ++[p]) _ (zx hw hp r) ⟨p,rfl,?_⟩⟩;rw[←hw.len,getElem?_append_right (Nat.le_refl _)];simp
 ·rw[if_neg hl] at h;exact h.elim
theorem Df {es:List Expr}{x1}{g:GA}(h:PA X es (tA X g)):PE X (.Tuple es x1 pos) (tE X (aF g)):=(Dc h).of fun σ H Q ⟨ρ,θ,M,hd,hw,h⟩=>
 i8 hd hw (aE X θ H Q) (fun c M' h=>h) (fun h=>h) h fun ds M1 vs θ1 H1 g1 r1 h1=>aE.tup (aE.go g1 h1) g1.wr r1
theorem En {es:List Expr}{g:GA}(h:PA X es (tA X g)):PE X (.List es pos) (tE X (dk g)):=(yZ h).of fun σ H Q ⟨ρ,θ,M,hd,hw,h⟩=>
 i8 hd hw (aE X θ H Q) (fun c M' h=>h) (fun h=>h) h fun ds M1 vs θ1 H1 g1 r1 h1=>aE.lst (aE.go g1 h1) g1.wr r1
theorem Ep {es:List Expr}{g:GA}(h:PA X es (tA X g)):PE X (.List es pos) (tE X (fB g)):=(yZ h).of fun σ H Q ⟨ρ,θ,M,hd,hw,h⟩=>
 i8 hd hw (aE X θ H Q) (fun c M' h=>h) (fun h=>h) h fun ds M1 vs θ1 H1 g1 r1 h1=>aE.mut (aE.go g1 h1) g1.wr r1
end
section
variable {K:W.Frag}{θ:List Addr}{H:Hp}{σ:L2.St}{ρ:bC}
theorem ie.set {d:D}{v:V}(h:ie K θ H σ ρ)(r:cX K θ H d v)(i:Nat):ie K θ H (σ.set i (some v)) (ρ.set i (some d)):=by
 refine⟨by rw[length_set,length_set];exact h.len,fun j d' e=>?_⟩
 by_cases hj:j=i
 ·subst hj;have hl:j<ρ.length:=by
   have:=(List.getElem?_eq_some_iff.mp e).1;rw[length_set] at this;exact this
  rw[getElem?_set_self hl] at e;have e':d=d':=by simpa using e
  subst e';exact⟨v,getElem?_set_self (by rw[←h.len];exact hl),r⟩
 ·rw[getElem?_set_ne (Ne.symm hj)] at e;obtain⟨u,e1,r1⟩:=h.at_ j d' e;exact⟨u,by rw[getElem?_set_ne (Ne.symm hj)];exact e1,r1⟩
end
def aD:GS:=fun ρ M=>.ok (.nx ρ) M
def ar (a b:GS):GS:=fun ρ M=>(a ρ M).bind fun f M1=>match f with
 | .nx ρ1=>b ρ1 M1
 | .rt d=>.ok (.rt d) M1
 | .bk ρ1=>.ok (.bk ρ1) M1
 | .ct ρ1=>.ok (.ct ρ1) M1
def aG (i:Nat)(g:GE):GS:=fun ρ M=>(g ρ M).bind fun d M1=>.ok (.nx (ρ.set i (some d))) M1
def aA (g:GE):GS:=fun ρ M=>(g ρ M).bind fun d M1=>.ok (.rt d) M1
def cV (g:GE):GS:=fun ρ M=>(g ρ M).bind fun _ M1=>.ok (.nx ρ) M1
def dL (t:GT)(a b:GS):GS:=fun ρ M=>(t ρ M).bind fun c M1=>if c then a ρ M1 else b ρ M1
section
variable {X:Cx}{st:Stmt}{rest:List Stmt}{e:Expr}{g:GE}{t u:GS}{pos:Pos}
theorem C3:PSs X [] (tS X aD):=Ad.of fun D σ H ⟨ρ,θ,M,hd,hw,f⟩=>f σ θ H (.refl hw) hd
theorem Bn (h1:PS X st (tS X t))(h2:PSs X rest (tS X u)):PSs X (st::rest) (tS X (ar t u)):=(wO h1 h2).of fun D σ H hxx=>by
 obtain⟨ρ,θ,M,hd,hw,h⟩:=hxx;refine⟨ρ,θ,M,hd,hw,?_⟩;unfold ar at h;cases q:t ρ M with
 | ok f M1=>
  rw[q] at h;cases f with
  | nx ρ1=>exact fun σ1 θ1 H1 g1 d1=>⟨ρ1,θ1,M1,d1,g1.wr,bU.go g1 h⟩
  | rt d=>exact h
  | bk ρ1=>exact h
  | ct ρ1=>exact h
 | err c M1=>rw[q] at h;exact h
 | bad=>rw[q] at h;exact h
theorem C5 (h1:PS X st (tS X t)):PSs X [st] (tS X t):=Ab h1
theorem C9 {i:Nat}{x:Str}{pos':Pos}(hN:X.N.Nodup)(hi:X.N[i]?=some x)(hx:zL X.env.scope x)(he:PE X e (tE X g))(hs:swapsWith e (some (.Name x pos')) pos.line X.env=pure false:=by rfl)(hf:X.fn x=true∨X.env.scope.names.lookup x=some .local:=by first|exact .inl rfl|exact .inr rfl|assumption) :
  PS X (.Assign [.Name x pos'] e pos) (tS X (aG i g)):=(E0 hN hi hx he hs hf).of fun D σ H ⟨ρ,θ,M,hd,hw,h⟩=>
 bo hd hw (bU X θ H D) (fun c M' h=>h) (fun h=>h) h fun d M1 v θ1 H1 g1 r1 h1=>h1 _ θ1 H1 g1 ((hd.go g1).set r1 i)
theorem Ex (he:PE X e (tE X g)):PS X (.Return (some e) pos) (tS X (aA g)):=(De he).of fun D σ H ⟨ρ,θ,M,hd,hw,h⟩=>
 bo hd hw (bU X θ H D) (fun c M' h=>h) (fun h=>h) h fun d M1 v θ1 H1 g1 r1 h1=>h1 v θ1 H1 g1 r1
theorem zY (he:PE X e (tE X g))(hs:swapsWith e none pos.line X.env=pure false:=by rfl):PS X (.Expr e pos) (tS X (cV g)):=(A2 he hs).of fun D σ H ⟨ρ,θ,M,hd,hw,h⟩=>
 bo hd hw (bU X θ H D) (fun c M' h=>h) (fun h=>h) h fun d M1 v θ1 H1 g1 r1 h1=>h1 σ θ1 H1 g1 (hd.go g1)
theorem G3 {c:Expr}{a b:List Stmt}{tc:GT}(hc:PT X c (tT X tc))(ha:PSs X a (tS X t))(hb:PSs X b (tS X u)):PS X (.If c a b pos) (tS X (dL tc t u)):=(HI hc ha hb).of fun D σ H hxx=>by
 obtain⟨ρ,θ,M,hd,hw,h⟩:=hxx;refine rF hd hw (bU X θ H D) (fun c M' h=>h) (fun h=>h) h fun c M1 θ1 H1 g1 h1=>?_
 cases c with
 | true=>rw[if_pos rfl];exact⟨ρ,θ1,M1,hd.go g1,g1.wr,bU.go g1 h1⟩
 | false=>rw[if_neg Bool.false_ne_true];exact⟨ρ,θ1,M1,hd.go g1,g1.wr,bU.go g1 h1⟩
abbrev GG:=D→bC→Option bC
def tG (X:Cx)(s:GG):TG:=fun v σ H Q=>∃ρ θ M d,ie X.K θ H σ ρ∧Wr X.K θ H M∧cX X.K θ H d v∧∃ρ',s d ρ=some ρ'∧∀σ',ie X.K θ H σ' ρ'→Q σ' H
def gK (i:Nat):GG:=fun d ρ=>some (ρ.set i (some d))
def kU:List Nat→List D→bC→Option bC
 | [],[],ρ=>some ρ
 | i::is,d::ds,ρ=>kU is ds (ρ.set i (some d))
 | _,_,_=>none
def bN (is:List Nat):GG:=fun d ρ=>match d with
 | .tup ds=>kU is ds ρ
 | _=>none
theorem pF {i:Nat}{x:Str}(hN:X.N.Nodup)(hi:X.N[i]?=some x)(hx:zL X.env.scope x)(hf:X.fn x=true∨X.env.scope.names.lookup x=some .local:=by first|exact .inl rfl|exact .inr rfl|assumption):PG X (.Name x pos) (tG X (gK i)):=by
 intro af s σ H v u Q I r h;obtain⟨ρ,θ,M,d,hd,hw,rd,ρ',e,h⟩:=h;cases e;exact BU hN hi hx hf af s σ H v u Q I r (h _ (hd.set rd i))
def Hz (X:Cx)(is:List Nat):Cm:=fun vs σ H Q=>∃ρ θ M ds,ie X.K θ H σ ρ∧Wr X.K θ H M∧a9 X.K θ H ds vs∧∃ρ',kU is ds ρ=some ρ'∧∀σ',ie X.K θ H σ' ρ'→Q σ' H
theorem AY:Af X [] (Hz X []):=by
 intro af s σ H vs us Q I r h;obtain⟨ρ,θ,M,ds,hd,hw,rd,ρ',e,h⟩:=h;cases ds with
 | cons d ds=>cases e
 | nil=>
  have e2:vs=[]:=rd;subst e2;cases e;exact Bm af s σ H [] us Q I r ⟨rfl,h σ hd⟩
theorem xy {i:Nat}{is:List Nat}{es:List Expr}(h1:PG X e (tG X (gK i)))(h2:Af X es (Hz X is))
  (hs:(assignEach (e::es) X.env).map (·.2)=assign e X.env::(assignEach es X.env).map (·.2):=by rfl):Af X (e::es) (Hz X (i::is)):=by
 intro af s σ H vs us Q I r h;obtain⟨ρ,θ,M,ds,hd,hw,rd,ρ',e1,h⟩:=h;cases ds with
 | nil=>cases e1
 | cons d ds=>
  obtain⟨v,vr,e2,rv,rr⟩:=rd;subst e2;refine zA h1 h2 hs af s σ H _ us Q I r ⟨v,vr,rfl,ρ,θ,M,d,hd,hw,rv,_,rfl,fun σ1 d1=>?_⟩;exact⟨_,θ,M,ds,d1,hw,rr,ρ',e1,h⟩
theorem D5 {is:List Nat}{es:List Expr}{k:Nat}{n:Nat}(hc:X.calm=true)(h:Af X es (Hz X is))(hl:is.length=n:=by rfl)
  (hn:(assignEach es X.env).length=n:=by rfl) (hst:(assignEach es X.env).findIdx? (·.1)=none:=by rfl):PG X (.Tuple es k pos) (tG X (bN is)):=by
 intro af s σ H v u Q I r hw;obtain⟨ρ,θ,M,d,hd,hwr,rd,ρ',e1,hw⟩:=hw;cases d with
 | tup ds=>
  obtain⟨a,vs,e2,ta,rs⟩:=rd;have hlen:ds.length=is.length:=by
   have e1:kU is ds ρ=some ρ':=e1;clear hw hd hwr rs hn hst h hl
   induction is generalizing ds ρ with
   | nil=>
    cases ds with
    | nil=>rfl
    | cons _ _=>cases e1
   | cons i is ih=>
    cases ds with
    | nil=>cases e1
    | cons d ds=>rw[length_cons,length_cons,ih _ ds e1 e1]
  refine Et (n:=n) hc h hn hst af s σ H v u Q I r ⟨a,vs,e2,ta.sq,by rw[←aw rs,hlen,hl],?_⟩;exact⟨ρ,θ,M,ds,hd,hwr,rs,ρ',e1,hw⟩
 | _=>cases e1
def ue:List GG→List D→bC→Option bC
 | [],[],ρ=>some ρ
 | s::ss,d::ds,ρ=>match s d ρ with
  | some ρ1=>ue ss ds ρ1
  | none=>none
 | _,_,_=>none
def cg (s:GG)(g:GE):GS:=fun ρ M=>(g ρ M).bind fun d M1=>match s d ρ with
 | some ρ1=>.ok (.nx ρ1) M1
 | none=>.bad
theorem Dr {tg:Expr}{s:GG}(he:PE X e (tE X g))(hg:PG X tg (tG X s))(hs:swapsWithSole [tg] e pos.line X.env=pure false:=by rfl)(hw:swappedStores [tg] e X.env=pure none:=by rfl)
  (h1:(assignEach [tg] X.env).map (·.2)=[assign tg X.env]:=by rfl):PS X (.Assign [tg] e pos) (tS X (cg s g)):=(xS he hg hs hw h1).of fun D σ H hxx=>by
 obtain⟨ρ,θ,M,hd,hwr,h⟩:=hxx;refine bo hd hwr (bU X θ H D) (fun c M' h=>h) (fun h=>h) h fun d M1 v θ1 H1 g1 r1 h1=>?_
 cases q:s d ρ with
 | some ρ1=>
  rw[q] at h1;exact⟨ρ,θ1,M1,d,hd.go g1,g1.wr,r1,ρ1,q,fun σ' d'=>h1 σ' θ1 H1 g1 d'⟩
 | none=>rw[q] at h1;exact h1.elim
def wx (o i x:D)(M:aq):aU Unit:=match o,i with
 | .mr k,.int j=>match M[k]? with
  | some (.lst xs)=>match zM xs.length j with
   | some n=>.ok () (M.set k (.lst (xs.set n x)))
   | none=>.bad
  | _=>.bad
 | _,_=>.bad
def iK (go gi g:GE):GS:=fun ρ M=>(g ρ M).bind fun x M1=>(go ρ M1).bind fun o M2=>(gi ρ M2).bind fun i M3=>(wx o i x M3).bind fun _ M4=>.ok (.nx ρ) M4
theorem EO {o i:Expr}{ip:Pos}{go gi:GE}(he:PE X e (tE X g))(ho:PE X o (tE X go))(hi:PE X i (tE X gi))
  (ha:∀v,assign (.Subscript o i ip) X.env v=(do
   let ov ←holding [v] (eval o X.env)
   let iv ←holding [v,ov] (eval i X.env)
   standAt ip
   holding [v,ov,iv] (setItem ov iv v)
   release [v,ov,iv] []):=by intro _;rfl)
  (hs:swapsWithSole [.Subscript o i ip] e pos.line X.env=pure false:=by rfl) (hw:swappedStores [.Subscript o i ip] e X.env=pure none:=by rfl)
  (h1:(assignEach [.Subscript o i ip] X.env).map (·.2)=[assign (.Subscript o i ip) X.env]:=by rfl):PS X (.Assign [.Subscript o i ip] e pos) (tS X (iK go gi g)):=
 (xS he (Cs ho hi zn ha) hs hw h1).of fun D σ H hxx=>by
  obtain⟨ρ,θ,M,hd,hwr,h⟩:=hxx;refine bo hd hwr (bU X θ H D) (fun c M' h=>h) (fun h=>h) h fun dx M1 vx θ1 H1 g1 r1 h1=>?_
  refine bo (hd.go g1) g1.wr (bU X θ1 H1 D) (fun c M' h=>h) (fun h=>h) (h1.go g1) fun dob M2 vo θ2 H2 g2 r2 h2=>?_
  refine bo ((hd.go g1).go g2) g2.wr (bU X θ2 H2 D) (fun c M' h=>h) (fun h=>h) (h2.go g2) fun di M3 vi θ3 H3 g3 r3 h3=>?_
  have h4:=h3.go g3;unfold wx at h4;split at h4
  ·rename_i k j;split at h4
   ·rename_i xs q;split at h4
    ·rename_i n hn;obtain⟨a,ea,ta⟩:=r2.go g3;obtain⟨vs,ev,rv⟩:=g3.wr.at_ k a _ ta q;have ei:vi=.int j:=r3;refine⟨a,vs,j,n,ea,ei,ev,by rw[←aw rv];exact hn,?_⟩;have gs:=yS (ds:=xs) g3.wr ta (qU (r1.go (g2.trans g3)) n rv);exact h4 σ θ3 _ gs ((((hd.go g1).go g2).go g3).go gs)
    ·exact h4.elim
   ·exact h4.elim
  ·exact h4.elim
end
mutual
def AB:D→D→Bool
 | .non,.non=>true
 | .bl a,.bl b=>a==b
 | .int a,.int b=>a==b
 | .str a,.str b=>a==b
 | .tup a,.tup b=>ky a b
 | .lst a,.lst b=>ky a b
 | .ro a,.ro b=>ky a b
 | .mr a,.mr b=>a==b
 | .exc a,.exc b=>a==b
 | .any,.any=>true
 | _,_=>false
def ky:List D→List D→Bool
 | [],[]=>true
 | a::as,b::bs=>AB a b&&ky as bs
 | _,_=>false
end
theorem ff {P:Prop}(h:false=true):P:=absurd h Bool.false_ne_true
mutual
theorem A1:∀(a b:D),AB a b=true→a=b
 | .non,b,h=>by
  cases b with
  | non=>rfl
  | _=>exact ff h
 | .bl x,b,h=>by
  cases b with
  | bl y=>rw[eq_of_beq (show(x==y)=true from h)]
  | _=>exact ff h
 | .int x,b,h=>by
  cases b with
  | int y=>rw[eq_of_beq (show(x==y)=true from h)]
  | _=>exact ff h
 | .str x,b,h=>by
  cases b with
  | str y=>rw[eq_of_beq (show(x==y)=true from h)]
  | _=>exact ff h
 | .tup x,b,h=>by
  cases b with
  | tup y=>rw[iX x y h]
  | _=>exact ff h
 | .lst x,b,h=>by
  cases b with
  | lst y=>rw[iX x y h]
  | _=>exact ff h
 | .ro x,b,h=>by
  cases b with
  | ro y=>rw[iX x y h]
  | _=>exact ff h
 | .mr x,b,h=>by
  cases b with
  | mr y=>rw[eq_of_beq (show(x==y)=true from h)]
  | _=>exact ff h
 | .exc x,b,h=>by
  cases b with
  | exc y=>rw[eq_of_beq (show(x==y)=true from h)]
  | _=>exact ff h
 | .any,b,h=>by
  cases b with
  | any=>rfl
  | _=>exact ff h
theorem iX:∀(a b:List D),ky a b=true→a=b
 | [],b,h=>by
  cases b with
  | nil=>rfl
  | cons _ _=>exact ff h
 | x::xs,b,h=>by
  cases b with
  | nil=>exact ff h
  | cons y ys=>
   have h:=Bool.and_eq_true_iff.mp (show(AB x y&&ky xs ys)=true from h);rw[A1 x y h.1,iX xs ys h.2]
end
mutual
theorem vz:∀(a:D),AB a a=true
 | .non=>rfl
 | .bl x=>beq_self_eq_true x
 | .int x=>beq_self_eq_true x
 | .str x=>beq_self_eq_true x
 | .tup x=>fU x
 | .lst x=>fU x
 | .ro x=>fU x
 | .mr x=>beq_self_eq_true x
 | .exc x=>beq_self_eq_true x
 | .any=>rfl
theorem fU:∀(a:List D),ky a a=true
 | []=>rfl
 | x::xs=>Bool.and_eq_true_iff.mpr ⟨vz x,fU xs⟩
end
structure mn where
 ds:List D
 m:Option Nat
def mn.ok (t:mn)(M:aq):Bool:=match t.m with
 | none=>true
 | some i=>match M[i]? with
  | some (.lst xs)=>ky xs t.ds
  | _=>false
abbrev GI:=bC→aq→aU mn
def AT (K:W.Frag)(J:It)(θ:List Addr)(H:Hp)(t:mn):Prop:=∀θ1 H1 M1,Go K θ H θ1 H1 M1→t.ok M1=true→∀i:Nat,
 (∀d,t.ds[i]?=some d→J.go i H1∧∀x H2,J.yld i H1 x H2→Go K θ1 H1 θ1 H2 M1∧cX K θ1 H2 d x)∧(t.ds.length≤i→J.stop i H1)
def xR (X:Cx)(θ:List Addr)(H:Hp)(R:It→Hp→Prop):aU mn→Prop
 | .ok t M'=>∀J θ' H',Go X.K θ H θ' H' M'→AT X.K J θ' H' t→R J H'
 | .err c M'=>dm X θ H c M'
 | .bad=>False
def tI (X:Cx)(g:GI):TI:=fun σ H R=>∃ρ θ M,ie X.K θ H σ ρ∧Wr X.K θ H M∧xR X θ H R (g ρ M)
def rA (d:D)(M:aq):aU mn:=match d with
 | .lst ds=>.ok ⟨ds,none⟩ M
 | .ro ds=>.ok ⟨ds,none⟩ M
 | .tup ds=>.ok ⟨ds,none⟩ M
 | .mr k=>match M[k]? with
  | some (.lst ds)=>.ok ⟨ds,some k⟩ M
  | _=>.bad
 | _=>.bad
def eE (g:GE):GI:=fun ρ M=>(g ρ M).bind rA
section
variable {X:Cx}{tg:Expr}
theorem FT {l:Expr}{tl:TE}(hl:PE X l tl):PI X tg l (fun σ H R=>tl σ H fun x H1=>∃a,x=.ref a∧(((∃xs,lw X.K H1 a xs)∧R (HS X.K a) H1)∨((∃xs,k9 X.K H1 a xs)∧R (Ja X.K a) H1))):=by
 intro af s σ H R I h;refine cj (hl af s σ H _ I h) fun v s1 hxx=>?_
 obtain⟨x,H1,I1,r1,q1⟩:=hxx;obtain⟨a,e,q1⟩:=q1;subst e;cases r1;rcases q1 with⟨⟨xs,hq⟩,q⟩|⟨⟨xs,hq⟩,q⟩
 ·obtain⟨its,rv,p,hz⟩:=I1.list hq;refine wpAny_pyIter_list p.isList ?_;refine⟨s1.heap.objs.size,[s1.heap.objs.size],_,_,H1,rfl,I1.kept (t':=s1.toks) fun b o e=>Heap.get?_push_of_some _ e,vS a _,⟨_,Heap.get?_push_size _ rfl,rfl,rfl⟩,fun b hb=>?_,q⟩;have e:b=s1.heap.objs.size:=by simpa using hb
  subst e;exact I1.fpOk (Nat.le_refl _) (I1.hok.fresh (Nat.le_refl _))
 ·obtain⟨its,rv,p,hz⟩:=I1.tuple hq;refine wpAny_pyIter_tuple (show s1.heap.IsTuple a its.toArray from p) ?_;refine⟨s1.heap.objs.size,[s1.heap.objs.size],_,_,H1,rfl,I1.kept (t':=s1.toks) fun b o e=>Heap.get?_push_of_some _ e,tJ a _,⟨_,Heap.get?_push_size _ rfl,rfl,rfl⟩,fun b hb=>?_,q⟩;have e:b=s1.heap.objs.size:=by simpa using hb
  subst e;exact I1.fpOk (Nat.le_refl _) (I1.hok.fresh (Nat.le_refl _))
theorem uj {K:W.Frag}{θ:List Addr}{H:Hp}{a:Addr}{ds:List D}{vs:List V}(ta:sI K θ H a vs)(r:a9 K θ H ds vs):AT K (HS K a) θ H ⟨ds,none⟩:=by
 intro θ1 H1 M1 g _ i;have t1:=(ta.grow g.toGrow).sq;have r1:=r.go g;refine⟨fun d e=>?_,fun hl=>⟨vs,t1,by rw[←aw r1];exact hl⟩⟩;obtain⟨v,e1,rv⟩:=eV r1 e;refine⟨⟨vs,v,t1,e1⟩,fun x H2 y=>?_⟩;obtain⟨eH,y⟩:=y;subst eH;have e2:=y vs t1;rw[e1] at e2;cases e2;exact⟨.refl g.wr,rv⟩
theorem zV {K:W.Frag}{θ:List Addr}{H:Hp}{a:Addr}{ds:List D}{vs:List V}(ta:mz K θ H a vs)(r:a9 K θ H ds vs):AT K (Ja K a) θ H ⟨ds,none⟩:=by
 intro θ1 H1 M1 g _ i;have t1:=(ta.grow g.toGrow).sq;have r1:=r.go g;refine⟨fun d e=>?_,fun hl=>⟨vs,t1,by rw[←aw r1];exact hl⟩⟩;obtain⟨v,e1,rv⟩:=eV r1 e;refine⟨⟨vs,v,t1,e1⟩,fun x H2 y=>?_⟩;obtain⟨eH,y⟩:=y;subst eH;have e2:=y vs t1;rw[e1] at e2;cases e2;exact⟨.refl g.wr,rv⟩
theorem AH {K:W.Frag}{θ:List Addr}{H:Hp}{a:Addr}{ds:List D}{k:Nat}(ta:θ[k]?=some a):AT K (HS K a) θ H ⟨ds,some k⟩:=by
 intro θ1 H1 M1 g hok i;have t1:θ1[k]?=some a:=by
  obtain⟨m,em,_⟩:=g.ext;rw[em,getElem?_append_left (List.getElem?_eq_some_iff.mp ta).1];exact ta
 have hok':(match M1[k]? with|some (.lst xs)=>ky xs ds|_=>false)=true:=hok;cases q:M1[k]? with
 | none=>rw[q] at hok';cases hok'
 | some m=>
  cases m with
  | lst xs=>
   rw[q] at hok';have e:xs=ds:=iX xs ds hok';subst e;obtain⟨vs,hv,r1⟩:=g.wr.at_ k a _ t1 q;have s1:lw K H1 a vs:=.inl (.inl hv);refine⟨fun d e=>?_,fun hl=>⟨vs,s1,by rw[←aw r1];exact hl⟩⟩;obtain⟨v,e1,rv⟩:=eV r1 e;refine⟨⟨vs,v,s1,e1⟩,fun x H2 y=>?_⟩;obtain⟨eH,y⟩:=y;subst eH;have e2:=y vs s1;rw[e1] at e2;cases e2;exact⟨.refl g.wr,rv⟩
  | _=>rw[q] at hok';cases hok'
theorem E6 {l:Expr}{g:GE}(hl:PE X l (tE X g)):PI X tg l (tI X (eE g)):=by
 intro af s σ H R I h;refine FT hl af s σ H R I ?_;obtain⟨ρ,θ,M,hd,hw,h⟩:=h;refine bo hd hw (xR X θ H R) (fun c M' h=>h) (fun h=>h) h fun d M1 v θ1 H1 g1 r1 h1=>?_
 cases d with
 | lst ds=>
  obtain⟨a,vs,e,ta,r⟩:=r1;exact⟨a,e,.inl ⟨⟨vs,ta.sq⟩,h1 _ θ1 H1 g1 (uj (.inl ⟨.inl ta.1,ta.2⟩) r)⟩⟩
 | ro ds=>
  obtain⟨a,vs,e,ta,r⟩:=r1;exact⟨a,e,.inl ⟨⟨vs,ta.sq⟩,h1 _ θ1 H1 g1 (uj ta r)⟩⟩
 | tup ds=>
  obtain⟨a,vs,e,ta,r⟩:=r1;exact⟨a,e,.inr ⟨⟨vs,ta.sq⟩,h1 _ θ1 H1 g1 (zV ta r)⟩⟩
 | mr k=>
  obtain⟨a,e,ta⟩:=r1;have h2:xR X θ H R (match M1[k]? with|some (.lst ds)=>.ok ⟨ds,some k⟩ M1|_=>.bad):=h1;cases q:M1[k]? with
  | none=>rw[q] at h2;exact h2.elim
  | some m=>
   cases m with
   | lst ds=>
    rw[q] at h2;obtain⟨vs,hv,r⟩:=g1.wr.at_ k a _ ta q;exact⟨a,e,.inl ⟨⟨vs,.inl (.inl hv)⟩,h2 _ θ1 H1 g1 (AH ta)⟩⟩
   | _=>rw[q] at h2;exact h2.elim
 | _=>exact h1.elim
def bi (lo:Int)(n:Nat):List D:=(List.range n).map fun(k:Nat)=>D.int (lo+(k:Int))
theorem Bs {K:W.Frag}{θ:List Addr}{H:Hp}(lo:Int)(n:Nat):AT K (Ib lo n) θ H ⟨bi lo n,none⟩:=by
 intro θ1 H1 M1 g _ i;refine⟨fun d e=>?_,fun hl=>?_⟩
 ·have hi:i<n:=by
   have:=(List.getElem?_eq_some_iff.mp e).1;simpa[bi] using this
  refine⟨hi,fun x H2 y=>?_⟩;obtain⟨eH,y⟩:=y;subst eH;refine⟨.refl g.wr,?_⟩;have e':D.int (lo+(i:Int))=d:=by
   have:(bi lo n)[i]?=some (D.int (lo+(i:Int))):=by simp[bi,hi]
   rw[this] at e;exact Option.some.inj e
  subst e';exact y
 ·have h2:(bi lo n).length≤i:=hl;have h3:n≤i:=by simpa[bi] using h2
  exact h3
def xx (ds:List D)(M:aq):aU mn:=match ds with
 | [.int j]=>if -(2 ^ 62)≤j∧j<2 ^ 62 then .ok ⟨bi 0 j.toNat,none⟩ M else .bad
 | _=>.bad
def fe (g:GA):GI:=fun ρ M=>(g ρ M).bind xx
theorem vn {a:Expr}{g:GA}{p pos:Pos}(hg:Gl X "range")(hm:X.mg "range"=none)(ha:PA X [a] (tA X g))(hs:starEach [a] X.env=[(false,eval a X.env)]:=by rfl):PI X tg (.Call (.Name "range" p) [a] [] pos) (tI X (fe g)):=by
 intro af s σ H R I h;refine wv hg hm ha hs af s σ H R I ?_;obtain⟨ρ,θ,M,hd,hw,h⟩:=h;refine i8 hd hw (xR X θ H R) (fun c M' h=>h) (fun h=>h) h fun ds M1 vs θ1 H1 g1 r1 h1=>?_
 unfold xx at h1;split at h1
 ·rename_i j;obtain⟨v,r,e,rv,rr⟩:=r1;have e2:r=[]:=rr;have e3:v=.int j:=rv;subst e2;subst e3;split at h1
  ·rename_i hj;exact⟨j,e,hj.1,hj.2,h1 _ θ1 H1 g1 (Bs 0 j.toNat)⟩
  ·exact h1.elim
 ·exact h1.elim
def dR (t:mn)(s:GG)(body:GS):List D→bC→aq→aU Fl
 | [],ρ,M=>if t.ok M then .ok (.nx ρ) M else .bad
 | d::r,ρ,M=>if t.ok M then
   match s d ρ with
   | none=>.bad
   | some ρ1=>(body ρ1 M).bind fun f M1=>match f with
    | .nx ρ2=>dR t s body r ρ2 M1
    | .ct ρ2=>dR t s body r ρ2 M1
    | .bk ρ2=>.ok (.nx ρ2) M1
    | .rt d=>.ok (.rt d) M1
  else .bad
def m9 (gi:GI)(s:GG)(body:GS):GS:=fun ρ M=>(gi ρ M).bind fun t M1=>dR t s body t.ds ρ M1
theorem DC {iter:Expr}{body:List Stmt}{gi:GI}{sg:GG}{gb:GS}{pos:Pos}(hp:PassesOwn (model X.prog X.w) X.A X.env X.xe)(hc:X.calm=true)(hi:PI X tg iter (tI X gi))(hg:PG X tg (tG X sg))(hb:PSs X body (tS X gb))
  (hs:∀x,foldedSetIterable iter X.env x=pure x:=by intro _;rfl):PS X (.For tg iter body [] pos) (tS X (m9 gi sg gb)):=(DX hp hc hi hg hb hs).of fun D σ H hxx=>by
 obtain⟨ρ,θ,M,hd,hw,h⟩:=hxx;refine⟨ρ,θ,M,hd,hw,?_⟩;unfold m9 at h;cases q:gi ρ M with
 | err c M1=>rw[q] at h;exact h
 | bad=>rw[q] at h;exact h
 | ok t M1=>
  rw[q] at h;intro J θ1 H1 g1 hJ;have h:bU X θ H D (dR t sg gb t.ds ρ M1):=h;refine⟨fun i m σ' H'=>m=t.ds.length-i∧i≤t.ds.length∧∃ρ' θ' M',Go X.K θ1 H1 θ' H' M'∧ie X.K θ' H' σ' ρ'∧bU X θ' H' D (dR t sg gb (t.ds.drop i) ρ' M'),
   ⟨t.ds.length,by simp,Nat.zero_le _,ρ,θ1,M1,.refl g1.wr,hd.go g1,bU.go g1 h⟩,?_⟩
  rintro i m σ' H' ⟨rfl,hil,ρ',θ',M',g',hd',h'⟩
  by_cases hok:t.ok M'=true
  ·obtain⟨hy,hst⟩:=hJ θ' H' M' g' hok i
   by_cases hlt:i<t.ds.length
   ·refine .inr ?_;have e1:t.ds[i]?=some t.ds[i]:=getElem?_eq_getElem hlt;obtain⟨hgo,hyl⟩:=hy _ e1;rw[drop_eq_getElem_cons hlt,dR,if_pos hok] at h';refine⟨hgo,fun σ2 H2=>∃ρ2 θ2 M2,Go X.K θ' H' θ2 H2 M2∧ie X.K θ2 H2 σ2 ρ2∧bU X θ2 H2 D (dR t sg gb (t.ds.drop (i+1)) ρ2 M2),fun σ2 H2 ⟨ρ2,θ2,M2,g2,d2,h2⟩=>?_,fun x H2 y=>?_⟩
    ·exact⟨t.ds.length-(i+1),by omega,rfl,hlt,ρ2,θ2,M2,g'.trans g2,d2,h2⟩
    ·obtain⟨gy,rx⟩:=hyl x H2 y;cases qs:sg t.ds[i] ρ' with
     | none=>rw[qs] at h';exact h'.elim
     | some ρ1=>
      rw[qs] at h';refine⟨ρ',θ',M',_,hd'.go gy,gy.wr,rx,ρ1,qs,fun σ1 d1=>⟨ρ1,θ',M',d1,gy.wr,?_⟩⟩;have h':bU X θ' H2 D ((gb ρ1 M').bind _):=bU.go gy h';cases qb:gb ρ1 M' with
      | err c M2=>rw[qb] at h';exact h'
      | bad=>rw[qb] at h';exact h'
      | ok f M2=>
       rw[qb] at h';cases f with
       | nx ρ2=>exact fun σ2 θ2 H3 g2 d2=>⟨ρ2,θ2,M2,gy.trans g2,d2,bU.go g2 h'⟩
       | ct ρ2=>exact fun σ2 θ2 H3 g2 d2=>⟨ρ2,θ2,M2,gy.trans g2,d2,bU.go g2 h'⟩
       | bk ρ2=>exact h'
       | rt d=>exact h'
   ·have e:i=t.ds.length:=by omega
    subst e;rw[drop_length,dR,if_pos hok] at h';exact .inl ⟨hst (Nat.le_refl _),h' σ' θ' H' (.refl g'.wr) hd'⟩
  ·have hz:bU X θ' H' D .bad:=by
    cases hdr:t.ds.drop i with
    | nil=>rw[hdr,dR,if_neg hok] at h';exact h'
    | cons d r=>rw[hdr,dR,if_neg hok] at h';exact h'
   exact hz.elim
end
def Ez (K:W.Frag)(θ:List Addr)(H:Hp)(E:XK)(c:Str)(M:aq):Prop:=∀C θ' H' a,cw K c C→Go K θ H θ' H' M→E (.ref C) (some a) H'
def xO (K:W.Frag)(θ:List Addr)(H:Hp)(Q:VK)(E:XK):aU D→Prop
 | .ok d M'=>∀v θ' H',Go K θ H θ' H' M'→cX K θ' H' d v→Q v H'
 | .err c M'=>Ez K θ H E c M'
 | .bad=>False
abbrev FD:=List D→aq→aU D
def mw (K:W.Frag)(n:Nat)(F:FD):Sp:=fun vs H Q E=>∃θ M ds,ds.length=n∧a9 K θ H ds vs∧Wr K θ H M∧xO K θ H Q E (F ds M)
theorem Al {K:W.Frag}{n:Nat}{F:FD}{ps:List Str}(hn:ps.length=n):∀vs H Q E,mw K n F vs H Q E→vs.length=ps.length:=fun vs H Q E ⟨θ,M,ds,hl,r,_⟩=>by rw[hn,←hl,aw r]
def nS (k:Nat)(ds:List D):bC:=ds.map some++List.replicate k none
def ax (o:aU Fl):aU D:=o.bind fun f M=>match f with
 | .rt d=>.ok d M
 | .nx _=>.ok .non M
 | _=>.bad
def aX (k:Nat)(g:GS):FD:=fun ds M=>ax (g (nS k ds) M)
theorem Jk {K:W.Frag}{θ:List Addr}{H:Hp}{ds:List D}{vs:List V}(r:a9 K θ H ds vs)(N:List Str):ie K θ H (L2.start N vs) (nS (N.length-vs.length) ds):=by
 have hl:=aw r;refine⟨by simp[L2.start,nS,hl],fun i d e=>?_⟩;unfold nS at e
 by_cases hi:i<ds.length
 ·rw[getElem?_append_left (by simpa using hi),getElem?_map] at e;cases q:ds[i]? with
  | none=>rw[q] at e;cases e
  | some d'=>
   rw[q] at e;have e':d'=d:=by simpa using e
   subst e';obtain⟨v,e1,rv⟩:=eV r q;refine⟨v,?_,rv⟩;unfold L2.start;rw[getElem?_append_left (by rw[length_map,←hl];exact hi),getElem?_map,e1];rfl
 ·rw[getElem?_append_right (by simpa using hi),getElem?_replicate] at e;split at e <;> cases e
section
variable {P:Program}{w:World}{K:W.Frag}{mg:Str→Option Value}{base:Heap}
theorem Jh {x qual:Str}{st:Stmt}{f:Addr}{fd:FuncData}{N ps:List Str}{k n:Nat}{g:GS}(F:Dv K x qual st f fd)(S:iy N ps (aV st))(hn:ps.length=n)
  (hbody:∀(cdv:Value) (A:Around) (outer:List Env) (s:Shared) (H:Hp) (E:XK),bL k (A.deeper (envOfC qual (aV st) s.heap.objs.size f cdv))→
   PSs (jQ (jx P w) P w K mg base N qual (aV st) f cdv A outer s H E) (df st) (tS (jQ (jx P w) P w K mg base N qual (aV st) f cdv A outer s H E) g)) :
  dE P w K mg base (jx P w) (k+1) f fd ps (mw K n (aX (N.length-n) g)):=by
 obtain⟨oc,od,kV,doc,pm,an,cdv,ct,osl,rfl,lk,hcd⟩:=F.ex;refine Fx lk hcd S (Al hn) fun A outer s H vs Q E hr h=>⟨_,hbody cdv A outer s H E hr,?_⟩
 obtain⟨θ,M,ds,hl,r,hw,h⟩:=h;have hv:vs.length=n:=by rw[←aw r];exact hl
 refine⟨nS (N.length-n) ds,θ,M,by rw[←hv];exact Jk r N,hw,?_⟩;have h:xO K θ H Q E (ax (g (nS (N.length-n) ds) M)):=h;unfold ax at h;cases q:g (nS (N.length-n) ds) M with
 | bad=>rw[q] at h;exact h
 | err c M1=>
  rw[q] at h;have h:Ez K θ H E c M1:=h;exact fun C θ' H' a s' kC g1 fl=>tj fl (h C θ' H' a kC g1)
 | ok fl M1=>
  rw[q] at h;cases fl with
  | rt d=>exact h
  | nx ρ1=>exact fun σ1 θ1 H1 g1 _=>h .non θ1 H1 g1 rfl
  | bk ρ1=>exact h.elim
  | ct ρ1=>exact h.elim
end
section
variable {X:Cx}{e:Expr}{es:List Expr}{x:Str}{p pos:Pos}{k n:Nat}{f:Addr}{fd:FuncData}{ps:List Str}{F:FD}{ga:GA}
def aj (n:Nat)(F:FD)(ga:GA):GE:=fun ρ M=>(ga ρ M).bind fun ds M1=>if ds.length=n then F ds M1 else .bad
def By (X:Cx):XK:=fun cls oa H'=>∃a C c θ M,oa=some a∧cls=.ref C∧cw X.K c C∧Wr X.K θ H' M∧dm X θ H' c M
theorem gF:jT (jx X.prog X.w) X (By X):=fun af σ H s e s' I h=>by
 obtain⟨a,C,H',rfl,fl,a',C',c,θ,M,e1,e2,kC,hw,ok⟩:=vm I h;cases e1;cases e2;exact ok C θ H' a s' kC (.refl hw) fl
theorem pV {θ:List Addr}{H:Hp}{c:Str}{M:aq}(h:dm X θ H c M):Ez X.K θ H (By X) c M:=fun C θ' H' a kC g=>⟨a,C,c,θ',M,rfl,rfl,kC,g.wr,h.go g⟩
theorem Bw (Fn:dE X.prog X.w X.K X.mg X.base (jx X.prog X.w) k f fd ps (mw X.K n F))(hr:bL k X.A)(hg:Gl X x)(hm:X.mg x=some (.ref f))(hk:W.keepIn X.K (.ref f)=true)(hb:dg X.K fd ps [])
  (ha:PA X (e::es) (tA X ga)) (hdb:(x==("__debug__":Str))=false:=by decide) (he:starEach (e::es) X.env=(false,eval e X.env)::starEach es X.env:=by rfl) (hpl:(backTo pos (starEach es X.env)).any (·.1)=false:=by rfl) :
  PE X (.Call (.Name x p) (e::es) [] pos) (tE X (aj n F ga)):=(Au Fn hr hg hm hk hb .nil gF ha hdb he hpl).of fun σ H Q hxx=>by
 obtain⟨ρ,θ,M,hd,hw,h⟩:=hxx;refine i8 hd hw (aE X θ H Q) (fun c M' h=>h) (fun h=>h) h fun ds M1 vs θ1 H1 g1 r1 h1=>?_
 by_cases hl:ds.length=n
 ·rw[if_pos hl] at h1;refine⟨θ1,M1,ds,hl,by rw[append_nil];exact r1,g1.wr,?_⟩;have h2:=aE.go g1 h1;cases q:F ds M1 with
  | ok d M2=>rw[q] at h2;exact h2
  | err c M2=>rw[q] at h2;exact pV h2
  | bad=>rw[q] at h2;exact h2
 ·rw[if_neg hl] at h1;exact h1.elim
def rC (X:Cx)(F:FD):List V→Hp→VK→Prop:=fun xs H Q=>∃θ M ds,Wr X.K θ H M∧a9 X.K θ H ds xs∧aE X θ H Q (F ds M)
def aB (F:FD)(ga:GA):GE:=fun ρ M=>(ga ρ M).bind F
theorem xU {σ:L2.St}{H:Hp}{Q:VK}(h:tE X (aB F ga) σ H Q):Ie (rC X F) (tA X ga) σ H Q:=by
 obtain⟨ρ,θ,M,hd,hw,h⟩:=h;exact i8 hd hw (aE X θ H Q) (fun c M' h=>h) (fun h=>h) h fun ds M1 vs θ1 H1 g1 r1 h1=>⟨θ1,M1,ds,g1.wr,r1,aE.go g1 h1⟩
theorem yI {id:String}(hc:cF X (.builtin id) (rC X F))(hg:Gl X x)(hm:X.mg x=none)(hv:bootBuiltins x=some (.builtin id))(ha:PA X (e::es) (tA X ga))(hn:x≠"__name__":=by decide)(hdb:(x==("__debug__":Str))=false:=by decide)
  (he:starEach (e::es) X.env=(false,eval e X.env)::starEach es X.env:=by rfl) (hpl:(backTo pos (starEach es X.env)).any (·.1)=false:=by rfl):PE X (.Call (.Name x p) (e::es) [] pos) (tE X (aB F ga)):=
 (kW hc hg hm hv ha hn hdb he hpl).of fun σ H Q h=>xU h
theorem vD {T:String}(hc:cF X (.type T) (rC X F))(hg:Gl X x)(hm:X.mg x=none)(hv:bootBuiltins x=some (.type T))(ha:PA X (e::es) (tA X ga))(hn:x≠"__name__":=by decide)(hdb:(x==("__debug__":Str))=false:=by decide)
  (he:starEach (e::es) X.env=(false,eval e X.env)::starEach es X.env:=by rfl) (hpl:(backTo pos (starEach es X.env)).any (·.1)=false:=by rfl):PE X (.Call (.Name x p) (e::es) [] pos) (tE X (aB F ga)):=
 (wk hc hg hm hv ha hn hdb he hpl).of fun σ H Q h=>xU h
end
section
variable {prog:Program}{w:World}{A:Around}{E:Value→Shared→Prop}{s:Shared}
theorem zz {t b:Addr}{ws:List Value}{Q:Value→Shared→Prop}(ht:IsTup s.heap t #[])(hb:IsTup s.heap b ws.toArray)
  (h:Q (.ref b) s):wpAny (model prog w) A (binaryOp .Add (.ref t) (.ref b)) Q E s:=by
 obtain⟨⟨cls,dd,data,sl⟩,ho,hc,n,hd⟩:=id ht;obtain⟨⟨cls2,dd2,data2,sl2⟩,ho2,hc2,n2,hd2⟩:=id hb;simp only at hc hd hc2 hd2;subst hc hd hc2 hd2;exact concat_meets ⟨_,ho,rfl⟩ ⟨_,ho2,rfl⟩ noFill_tuple_add seq_tuple_add PySem.F.slot_tuple_add PySem.F.entry_tuple_add (PySem.F.args_tuple_add_2 _ _)
   (tuple_addW0 t b #[] ws.toArray n n2 dd dd2 sl sl2 (by simp)) ⟨ho,ho2,h⟩
theorem jC {t sl:Addr}{items:Array Value}{vl vu:Value}{lo hi:Option Int}{Q:Value→Shared→Prop}(ht:IsTup s.heap t items)(hs:s.heap.IsSliceOf sl vl vu .none)(pl:IsPart vl lo)(pu:IsPart vu hi)
  (hw:HT.sIx items.size 0 lo=0∧HT.sIx items.size items.size hi=items.size) (h:Q (.ref t) s):wpAny (model prog w) A (getItem (.ref t) (.ref sl)) Q E s:=by
 obtain⟨os,hos,hcs,hds⟩:=id hs;have hTs:s.TypeIs (.ref sl) "slice":=⟨os,hos,hcs⟩;unfold getItem
 try with_reducible refine wpAny_holding ?_
 first|refine wpAny_bind (wpAny_pure ?_)|skip
 refine wpAny_bind (wpAny_sequenceKey ht.typeIs (by decide) ?_);refine wpAny_bind (wpAny_callSpecial?_slot (name:=Str.ofString "__getitem__") ht.typeIs PyProof.Rows.slot_tuple_getitem
  (wpAny_call_entry PyProof.Rows.slot_tuple_getitem ht.typeIs entry_tuple_getitem ?_ (args_tuple_getitem _ _)))
 show wpAny _ _ (Builtin.Tuple.tupleItemsOf (.ref t) >>= _) _ _ s;refine wpAny_bind (tupleItemsOf_ ht ?_);refine wpAny_bind (wpAny_typeOf hTs ?_);rw[if_pos (by decide)];refine wpAny_bind (HT.sliceApplied_gen hs pl pu ?_);have hyes:(((HT.sIx items.size 0 lo:Nat):Int)==0&&(1:Int)==1&&(HT.sIx items.size items.size hi-HT.sIx items.size 0 lo)==items.size)=true:=by
  rw[hw.1,hw.2];simp
 show wpAny _ _ (if(((HT.sIx items.size 0 lo:Nat):Int)==0&&(1:Int)==1&&(HT.sIx items.size items.size hi-HT.sIx items.size 0 lo)==items.size)=true then _ else _) _ _ s;rw[if_pos hyes];unfold Builtin.Tuple.tupleIsExact;refine wpAny_bind (wpAny_bind (wpAny_typeOf ht.typeIs (wpAny_pure ?_)));rw[if_pos (by decide)]
 first
  | exact wpAny_bind (wpAny_rule (wpAny_bind (wpAny_pure ⟨_,rfl,wpAny_pure h⟩)))
  | exact wpAny_bind (wpAny_rule (wpAny_pure ⟨_,rfl,wpAny_pure h⟩))
  | exact wpAny_bind (wpAny_rule (wpAny_bind (wpAny_pure (wpAny_pure ⟨_,rfl,wpAny_pure h⟩))))
end
def rB (d:D)(M:aq):Option (List D):=match d with
 | .lst xs=>some xs
 | .mr k=>match M[k]? with
  | some (.lst xs)=>some xs
  | _=>none
 | _=>none
def bb:F2:=fun x y M=>match x,y with
 | .int i,.int j=>.ok (.int (i+j)) M
 | .str a,.str b=>if a.length+b.length≤sizeLine then .ok (.str (a++b)) M else .bad
 | .tup a,.tup b=>if a.length+b.length≤sizeLine then .ok (.tup (a++b)) M else .bad
 | .bl a,.int j=>.ok (.int ((if a=true then 1 else 0)+j)) M
 | x,y=>match rB x M,rB y M with
  | some a,some b=>if a.length+b.length≤sizeLine then .ok (.lst (a++b)) M else .bad
  | _,_=>.bad
def o5:F2:=fun x y M=>match rB x M,rB y M with
 | some a,some b=>if a.length+b.length≤sizeLine then .ok (.mr M.length) (M++[.lst (a++b)]) else .bad
 | _,_=>.bad
theorem uD {K:W.Frag}{θ:List Addr}{H:Hp}{M:aq}{d:D}{xs:List D}{v:V}(hw:Wr K θ H M)(r:cX K θ H d v)(e:rB d M=some xs):∃a vs,v=.ref a∧H a=some (.lst vs)∧a9 K θ H xs vs:=by
 cases d with
 | lst ys=>cases e;obtain⟨a,vs,ea,ta,ra⟩:=r;exact⟨a,vs,ea,ta.1,ra⟩
 | mr k=>
  obtain⟨a,ea,ta⟩:=r;have e:(match M[k]? with|some (.lst xs)=>some xs|_=>none)=some xs:=e;cases q:M[k]? with
  | none=>rw[q] at e;cases e
  | some m=>
   cases m with
   | lst ys=>
    rw[q] at e;cases e;obtain⟨vs,hv,ra⟩:=hw.at_ k a _ ta q;exact⟨a,vs,ea,hv,ra⟩
   | _=>rw[q] at e;cases e
 | _=>cases e
def du:F2:=fun x y M=>match x,y with
 | .int i,.int j=>.ok (.int (i-j)) M
 | _,_=>.bad
def fv:F2:=fun x y M=>match x,y with
 | .int i,.int j=>if(-(2 ^ 64)<i∧i<2 ^ 64)∨(-(2 ^ 64)<j∧j<2 ^ 64) then .ok (.int (i*j)) M else .bad
 | _,_=>.bad
def dt:F2:=fun x y M=>match x,y with
 | .int i,.int j=>if 0<j∧j.natAbs.log2<9000 then .ok (.int (i / j)) M else .bad
 | _,_=>.bad
def fI:F2:=fun x y M=>match x,y with
 | .int i,.int j=>if 0<j then .ok (.int (i % j)) M else .bad
 | _,_=>.bad
def j9:F2:=fun x y M=>match x,y with
 | .int i,.int j=>if 0≤j∧j≤1000000∧i.natAbs<2 ^ 64 then .ok (.int (i ^ j.toNat)) M else .bad
 | _,_=>.bad
section
variable {X:Cx}
theorem Ds:fY X (binaryOp .Add) (rD X bb):=by
 intro af s σ H x y v u Q I rx ry h;obtain⟨θ,M,dx,dy,hw,r1,r2,h⟩:=h;unfold bb at h;split at h
 ·rename_i i j;exact DW af s σ H x y v u Q I rx ry ⟨i,j,r1,r2,h _ θ H (.refl hw) rfl⟩
 ·rename_i a b;split at h
  ·rename_i hl;exact sB af s σ H x y v u Q I rx ry ⟨a,b,r1,r2,hl,h _ θ H (.refl hw) rfl⟩
  ·exact h.elim
 ·rename_i as bs;split at h
  ·rename_i hl;obtain⟨a,vs,ea,ta,ra⟩:=r1;obtain⟨b,us,eb,tb,rb⟩:=r2
   by_cases hv:vs=[]
   ·subst hv;have e0:as=[]:=length_eq_zero_iff.mp (aw ra);subst e0;subst ea;subst eb;cases rx;cases ry;obtain⟨its,q1,p1,_⟩:=I.tuple ta.sq;obtain⟨its2,q2,p2,_⟩:=I.tuple tb.sq;cases q1;exact zz p1 p2 ⟨.ref b,H,I,rfl,h _ θ H (.refl hw) ⟨b,us,rfl,tb,rb⟩⟩
   ·refine AA af s σ H x y v u Q I rx ry ⟨a,b,vs,us,ea,eb,ta.sq,tb.sq,hv,by rw[←aw ra,←aw rb];exact hl,fun hu=>?_,fun _ p hp=>h _ θ _ (dh hw hp) (ig hw hp (cS ra rb))⟩;subst hu;have e0:bs=[]:=length_eq_zero_iff.mp (aw rb);subst e0;exact h _ θ H (.refl hw) ⟨a,vs,rfl,ta,by rw[append_nil];exact ra⟩
  ·exact h.elim
 ·rename_i a j;have e1:x=.bl a:=r1;have e2:y=.int j:=r2;subst e1;subst e2;cases rx;obtain⟨t',rfl⟩:=ry;exact IntBool.add_bool_int ⟨.int _,H,I.tok _,⟨_,rfl⟩,h _ θ H (.refl hw) rfl⟩
 ·split at h
  ·rename_i as bs q1 q2;split at h
   ·rename_i hl;obtain⟨a,vs,ea,ta,ra⟩:=uD hw r1 q1;obtain⟨b,us,eb,tb,rb⟩:=uD hw r2 q2;exact xX af s σ H x y v u Q I rx ry ⟨a,b,vs,us,ea,eb,ta,tb,by rw[←aw ra,←aw rb];exact hl,fun p hp=>h _ θ _ (dh hw hp) (gw hw hp (cS ra rb))⟩
   ·exact h.elim
  ·exact h.elim
theorem mR {K:W.Frag}{θ:List Addr}{H H':Hp}{M:aq}{p:Addr}(hw:Wr K θ H M):cX K (θ++[p]) H' (.mr M.length) (.ref p):=by
 refine⟨p,rfl,?_⟩;rw[←hw.len,getElem?_append_right (Nat.le_refl _)];simp
theorem AQ:fY X (binaryOp .Add) (rD X o5):=by
 intro af s σ H x y v u Q I rx ry h;obtain⟨θ,M,dx,dy,hw,r1,r2,h⟩:=h;unfold o5 at h;split at h
 ·rename_i as bs q1 q2;split at h
  ·rename_i hl;obtain⟨a,vs,ea,ta,ra⟩:=uD hw r1 q1;obtain⟨b,us,eb,tb,rb⟩:=uD hw r2 q2;exact xX af s σ H x y v u Q I rx ry ⟨a,b,vs,us,ea,eb,ta,tb,by rw[←aw ra,←aw rb];exact hl,fun p hp=>h _ _ _ (zx hw hp (cS ra rb)) (mR hw)⟩
  ·exact h.elim
 ·exact h.elim
theorem DV:fY X (binaryOp .Sub) (rD X du):=by
 intro af s σ H x y v u Q I rx ry h;obtain⟨θ,M,dx,dy,hw,r1,r2,h⟩:=h;unfold du at h;split at h
 ·rename_i i j;exact CK af s σ H x y v u Q I rx ry ⟨i,j,r1,r2,h _ θ H (.refl hw) rfl⟩
 ·exact h.elim
theorem EQ:fY X (binaryOp .Mult) (rD X fv):=by
 intro af s σ H x y v u Q I rx ry h;obtain⟨θ,M,dx,dy,hw,r1,r2,h⟩:=h;unfold fv at h;split at h
 ·rename_i i j;split at h
  ·rename_i hc;exact CB af s σ H x y v u Q I rx ry ⟨i,j,r1,r2,hc,h _ θ H (.refl hw) rfl⟩
  ·exact h.elim
 ·exact h.elim
theorem zS:fY X (binaryOp .FloorDiv) (rD X dt):=by
 intro af s σ H x y v u Q I rx ry h;obtain⟨θ,M,dx,dy,hw,r1,r2,h⟩:=h;unfold dt at h;split at h
 ·rename_i i j;split at h
  ·rename_i hc;have e1:x=.int i:=r1;have e2:y=.int j:=r2;subst e1;subst e2;obtain⟨t,rfl⟩:=rx;obtain⟨t',rfl⟩:=ry;have h1:(0:Int)<j:=hc.1;exact floordiv_int (by omega) (by rw[Int.fdiv_eq_ediv_of_nonneg i (by omega)];exact⟨.int (i / j),H,I.tok _,⟨_,rfl⟩,h _ θ H (.refl hw) rfl⟩) (.inl (PyProof.noPylong_of_log2 hc.2))
  ·exact h.elim
 ·exact h.elim
theorem C6:fY X (binaryOp .Mod) (rD X fI):=by
 intro af s σ H x y v u Q I rx ry h;obtain⟨θ,M,dx,dy,hw,r1,r2,h⟩:=h;unfold fI at h;split at h
 ·rename_i i j;split at h
  ·rename_i hc;exact C1 af s σ H x y v u Q I rx ry ⟨i,j,r1,r2,hc,h _ θ H (.refl hw) rfl⟩
  ·exact h.elim
 ·exact h.elim
theorem CG:fY X (binaryOp .Pow) (rD X j9):=by
 intro af s σ H x y v u Q I rx ry h;obtain⟨θ,M,dx,dy,hw,r1,r2,h⟩:=h;unfold j9 at h;split at h
 ·rename_i i j;split at h
  ·rename_i hc;exact EA af s σ H x y v u Q I rx ry ⟨i,j,r1,r2,hc,h _ θ H (.refl hw) rfl⟩
  ·exact h.elim
 ·exact h.elim
def eW (g:GE):GE:=fun ρ M=>(g ρ M).bind fun x M1=>match x with
 | .int i=>.ok (.int (-i)) M1
 | _=>.bad
theorem EV {a:Expr}{pos:Pos}{g:GE}(ha:PE X a (tE X g)):PE X (.UnaryOp .USub a pos) (tE X (eW g)):=(Cq xK ha).of fun σ H Q hxx=>by
 obtain⟨ρ,θ,M,hd,hw,h⟩:=hxx;refine bo hd hw (aE X θ H Q) (fun c M' h=>h) (fun h=>h) h fun d M1 v θ1 H1 g1 r1 h1=>?_
 split at h1
 ·rename_i i;exact⟨i,r1,h1 _ θ1 H1 g1 rfl⟩
 ·exact h1.elim
theorem Eu {a:Expr}{pos:Pos}{g:GE}(ha:PE X a (tE X g)):PE X (.UnaryOp .Not a pos) (tE X (rg (aM g))):=(EH ha).of fun σ H Q hxx=>by
 obtain⟨ρ,θ,M,hd,hw,h⟩:=hxx;refine⟨ρ,θ,M,hd,hw,?_⟩;unfold rg aM at h;cases q:g ρ M with
 | ok d M1=>
  rw[q] at h;cases d with
  | bl b=>exact fun v θ1 H1 g1 r1=>⟨b,r1,h _ θ1 H1 g1 rfl⟩
  | _=>exact h.elim
 | err c M1=>rw[q] at h;exact h
 | bad=>rw[q] at h;exact h
def qI:F2:=fun x y M=>match x,y with
 | .int i,.int j=>.ok (.bl (decide (i<j))) M
 | _,_=>.bad
def k8:F2:=fun x y M=>match x,y with
 | .int i,.int j=>.ok (.bl (decide (i≤j))) M
 | _,_=>.bad
def rp:F2:=fun x y M=>match x,y with
 | .int i,.int j=>.ok (.bl (decide (j<i))) M
 | _,_=>.bad
def Ak:F2:=fun x y M=>match x,y with
 | .int i,.int j=>.ok (.bl (decide (j≤i))) M
 | _,_=>.bad
theorem HB:fY X (compareOp .Lt) (rD X qI):=by
 intro af s σ H x y v u Q I rx ry h;obtain⟨θ,M,dx,dy,hw,r1,r2,h⟩:=h;unfold qI at h;split at h
 ·rename_i i j;exact Hu af s σ H x y v u Q I rx ry ⟨i,j,r1,r2,h _ θ H (.refl hw) rfl⟩
 ·exact h.elim
theorem GZ:fY X (compareOp .LtE) (rD X k8):=by
 intro af s σ H x y v u Q I rx ry h;obtain⟨θ,M,dx,dy,hw,r1,r2,h⟩:=h;unfold k8 at h;split at h
 ·rename_i i j;exact Fw af s σ H x y v u Q I rx ry ⟨i,j,r1,r2,h _ θ H (.refl hw) rfl⟩
 ·exact h.elim
theorem Gi:fY X (compareOp .Gt) (rD X rp):=by
 intro af s σ H x y v u Q I rx ry h;obtain⟨θ,M,dx,dy,hw,r1,r2,h⟩:=h;unfold rp at h;split at h
 ·rename_i i j;exact Gw af s σ H x y v u Q I rx ry ⟨i,j,r1,r2,h _ θ H (.refl hw) rfl⟩
 ·exact h.elim
theorem HH:fY X (compareOp .GtE) (rD X Ak):=by
 intro af s σ H x y v u Q I rx ry h;obtain⟨θ,M,dx,dy,hw,r1,r2,h⟩:=h;unfold Ak at h;split at h
 ·rename_i i j;exact GR af s σ H x y v u Q I rx ry ⟨i,j,r1,r2,h _ θ H (.refl hw) rfl⟩
 ·exact h.elim
def Ft (d c:D):Option Bool:=match c,d with
 | .non,.non=>some true
 | .non,.any=>none
 | .non,_=>some false
 | .bl b,.bl b'=>some (b'==b)
 | .bl _,.non=>some false
 | .bl _,.int _=>some false
 | .bl _,.str _=>some false
 | .bl _,.tup _=>some false
 | .bl _,.lst _=>some false
 | .bl _,.ro _=>some false
 | .bl _,.mr _=>some false
 | _,_=>none
def jL (neg:Bool):F2:=fun x y M=>match Ft x y with
 | some b=>.ok (.bl (b != neg)) M
 | none=>.bad
def VS:D→Value→Prop
 | .non,v=>v=.none
 | .bl b,v=>v=.bool b
 | .int i,v=>∃t,v=.int i t
 | .str i,v=>∃t,v=.str i t
 | .any,_=>True
 | _,v=>∃a,v=.ref a
theorem BX {K:W.Frag}{θ:List Addr}{H:Hp}{d:D}{x:V}{v:Value}(r:cX K θ H d x)(q:RelV x v):VS d v:=by
 cases d with
 | non=>have e:x=.non:=r;rw[e] at q;exact q
 | bl b=>have e:x=.bl b:=r;rw[e] at q;exact q
 | int i=>have e:x=.int i:=r;rw[e] at q;exact q
 | str i=>have e:x=.str i:=r;rw[e] at q;exact q
 | any=>trivial
 | tup ds=>obtain⟨a,_,e,_⟩:=r;rw[e] at q;exact⟨a,q⟩
 | lst ds=>obtain⟨a,_,e,_⟩:=r;rw[e] at q;exact⟨a,q⟩
 | ro ds=>obtain⟨a,_,e,_⟩:=r;rw[e] at q;exact⟨a,q⟩
 | mr k=>obtain⟨a,e,_⟩:=r;rw[e] at q;exact⟨a,q⟩
 | exc c=>obtain⟨a,_,e,_⟩:=r;rw[e] at q;exact⟨a,q⟩
theorem fn {α:Type}{b:α}{P:Prop}(h:none=some b):P:=nomatch h
theorem uP {v u:Value}{b:Bool}(h:some false=some b)(k:plainIs v u=true∧(v==u)=false):plainIs v u=true∧(v==u)=b:=Option.some.inj h▸k
theorem GF {dx dy:D}{v u:Value}{b:Bool}(p:VS dx v)(q:VS dy u)(h:Ft dx dy=some b):plainIs v u=true∧(v==u)=b:=by
 cases dy with
 | non=>
  rw[show u=.none from q];cases dx with
  | non=>rw[show v=.none from p];exact Option.some.inj (show some true=some b from h)▸⟨rfl,rfl⟩
  | bl b=>rw[show v=.bool b from p];exact uP h ⟨rfl,rfl⟩
  | any=>exact fn h
  | _=>obtain⟨t,e⟩:=p;rw[e];exact uP h ⟨rfl,rfl⟩
 | bl c=>
  rw[show u=.bool c from q];cases dx with
  | non=>rw[show v=.none from p];exact uP h ⟨rfl,rfl⟩
  | bl b=>
   rw[show v=.bool b from p,←Option.some.inj h];refine⟨rfl,?_⟩;cases b <;> cases c <;> rfl
  | any=>exact fn h
  | exc _=>exact fn h
  | _=>obtain⟨t,e⟩:=p;rw[e];exact uP h ⟨rfl,rfl⟩
 | _=>exact fn h
theorem zK {K:W.Frag}{θ:List Addr}{H:Hp}{dx dy:D}{x y:V}{v u:Value}{b:Bool}(r1:cX K θ H dx x)(r2:cX K θ H dy y)(rx:RelV x v)(ry:RelV y u)(h:Ft dx dy=some b) :
  plainIs v u=true∧(v==u)=b:=GF (BX r1 rx) (BX r2 ry) h
theorem Gz:fY X (compareOp .Is) (rD X (jL false)):=by
 intro af s σ H x y v u Q I rx ry h;obtain⟨θ,M,dx,dy,hw,r1,r2,h⟩:=h;unfold jL at h;split at h
 ·rename_i b q;obtain⟨hp,e⟩:=zK r1 r2 rx ry q;refine wpAny_is_plain hp ?_;rw[e];refine⟨.bl b,H,I,rfl,?_⟩;have:=h (.bl (b != false)) θ H (.refl hw) rfl;rw[Bool.bne_false] at this;exact this
 ·exact h.elim
theorem yj:fY X (compareOp .IsNot) (rD X (jL true)):=by
 intro af s σ H x y v u Q I rx ry h;obtain⟨θ,M,dx,dy,hw,r1,r2,h⟩:=h;unfold jL at h;split at h
 ·rename_i b q;obtain⟨hp,e⟩:=zK r1 r2 rx ry q;refine wpAny_isNot_plain hp ?_;rw[e];refine⟨.bl (!b),H,I,rfl,?_⟩;have:=h (.bl (b != true)) θ H (.refl hw) rfl;rw[Bool.bne_true] at this;exact this
 ·exact h.elim
mutual
def nE:D→PyData
 | .non=>.none
 | .bl b=>.bool b
 | .int i=>.int i
 | .str x=>.str x
 | .tup ds=>.tuple (lE ds)
 | .lst ds=>.list (lE ds)
 | .ro ds=>.list (lE ds)
 | .mr _=>.dict []
 | .exc _=>.dict []
 | .any=>.dict []
def lE:List D→List PyData
 | []=>[]
 | d::ds=>nE d::lE ds
end
mutual
def aO:Nat→D→Bool
 | _,.non=>true
 | _,.bl _=>true
 | _,.int _=>true
 | _,.str x=>PyData.strOk x
 | n+1,.tup ds=>bj n ds
 | n+1,.lst ds=>bj n ds
 | n+1,.ro ds=>bj n ds
 | _,_=>false
def bj:Nat→List D→Bool
 | _,[]=>true
 | n,d::ds=>aO n d&&bj n ds
end
mutual
def nF:D→D→Bool
 | .non,.non=>true
 | .bl a,.bl b=>a==b
 | .bl a,.int j=>(if a then 1 else 0)==j
 | .int i,.bl b=>i==(if b then 1 else 0)
 | .int i,.int j=>i==j
 | .str x,.str y=>x==y
 | .lst xs,.lst ys=>jB xs ys
 | .lst xs,.ro ys=>jB xs ys
 | .ro xs,.lst ys=>jB xs ys
 | .ro xs,.ro ys=>jB xs ys
 | .tup xs,.tup ys=>jB xs ys
 | _,_=>false
def jB:List D→List D→Bool
 | [],[]=>true
 | x::xs,y::ys=>nF x y&&jB xs ys
 | _,_=>false
end
mutual
theorem pX:∀(x y:D) (n m:Nat),aO n x=true→aO m y=true→PyData.eqv (nE x) (nE y)=nF x y
 | .non,y,n,m,hx,hy=>by cases y <;> rfl
 | .bl a,y,n,m,hx,hy=>by cases y <;> rfl
 | .int a,y,n,m,hx,hy=>by cases y <;> rfl
 | .str a,y,n,m,hx,hy=>by cases y <;> rfl
 | .tup xs,y,n,m,hx,hy=>by
  cases n with
  | zero=>exact ff hx
  | succ n=>
   cases y with
   | tup ys=>
    cases m with
    | zero=>exact ff hy
    | succ m=>
     exact gW xs ys n m hx hy
   | _=>rfl
 | .lst xs,y,n,m,hx,hy=>by
  cases n with
  | zero=>exact ff hx
  | succ n=>
   cases y with
   | lst ys=>
    cases m with
    | zero=>exact ff hy
    | succ m=>
     exact gW xs ys n m hx hy
   | ro ys=>
    cases m with
    | zero=>exact ff hy
    | succ m=>
     exact gW xs ys n m hx hy
   | _=>rfl
 | .ro xs,y,n,m,hx,hy=>by
  cases n with
  | zero=>exact ff hx
  | succ n=>
   cases y with
   | lst ys=>
    cases m with
    | zero=>exact ff hy
    | succ m=>
     exact gW xs ys n m hx hy
   | ro ys=>
    cases m with
    | zero=>exact ff hy
    | succ m=>
     exact gW xs ys n m hx hy
   | _=>rfl
 | .mr a,y,n,m,hx,hy=>by cases n <;> exact ff hx
 | .exc a,y,n,m,hx,hy=>by cases n <;> exact ff hx
 | .any,y,n,m,hx,hy=>by cases n <;> exact ff hx
theorem gW:∀(x y:List D) (n m:Nat),bj n x=true→bj m y=true→PyData.eqvAll (lE x) (lE y)=jB x y
 | [],y,n,m,hx,hy=>by cases y <;> rfl
 | x::xs,y,n,m,hx,hy=>by
  cases y with
  | nil=>rfl
  | cons y ys=>
   have hx:=Bool.and_eq_true_iff.mp (show(aO n x&&bj n xs)=true from hx);have hy:=Bool.and_eq_true_iff.mp (show(aO m y&&bj m ys)=true from hy);show(PyData.eqv (nE x) (nE y)&&PyData.eqvAll (lE xs) (lE ys))=(nF x y&&jB xs ys);rw[pX x y n m hx.1 hy.1,gW xs ys n m hx.2 hy.2]
end
mutual
theorem kN:∀(d:D) (n:Nat),aO n d=true→(nE d).canLay0=true∧(nE d).depth≤n
 | .non,n,h=>by simp[nE,PyData.canLay0,PyData.depth]
 | .bl a,n,h=>by simp[nE,PyData.canLay0,PyData.depth]
 | .int a,n,h=>by simp[nE,PyData.canLay0,PyData.depth]
 | .str a,n,h=>by
  have:PyData.strOk a=true:=by cases n <;> exact h
  simp[nE,PyData.canLay0,PyData.depth,this]
 | .tup xs,n,h=>by
  cases n with
  | zero=>exact ff h
  | succ n=>
   have:=j6 xs n h;simp only[nE,PyData.canLay0,PyData.depth];exact⟨this.1,by omega⟩
 | .lst xs,n,h=>by
  cases n with
  | zero=>exact ff h
  | succ n=>
   have:=j6 xs n h;simp only[nE,PyData.canLay0,PyData.depth];exact⟨this.1,by omega⟩
 | .ro xs,n,h=>by
  cases n with
  | zero=>exact ff h
  | succ n=>
   have:=j6 xs n h;simp only[nE,PyData.canLay0,PyData.depth];exact⟨this.1,by omega⟩
 | .mr a,n,h=>by cases n <;> exact ff h
 | .exc a,n,h=>by cases n <;> exact ff h
 | .any,n,h=>by cases n <;> exact ff h
theorem j6:∀(ds:List D) (n:Nat),bj n ds=true→PyData.canLayAll0 (lE ds)=true∧PyData.depthAll (lE ds)≤n
 | [],n,h=>by simp[lE,PyData.canLayAll0,PyData.depthAll]
 | d::ds,n,h=>by
  have h:=Bool.and_eq_true_iff.mp (show(aO n d&&bj n ds)=true from h);have h1:=kN d n h.1;have h2:=j6 ds n h.2;simp only[lE,PyData.canLayAll0,PyData.depthAll,Bool.and_eq_true];exact⟨⟨h1.1,h2.1⟩,by omega⟩
end
mutual
theorem qH {af:List (Addr×Obj)}{s:Shared}{σ:L2.St}{H:Hp}{θ:List Addr}(I:Inv X af σ H s):∀(d:D) (n:Nat) (v:V) (u:Value),aO n d=true→cX X.K θ H d v→RelV v u→∃as,Reads s.heap u (nE d) as
 | .non,n,v,u,h,r,q=>by have e:v=.non:=r;subst e;cases q;exact⟨_,.none⟩
 | .bl a,n,v,u,h,r,q=>by have e:v=.bl a:=r;subst e;cases q;exact⟨_,.bool a⟩
 | .int a,n,v,u,h,r,q=>by have e:v=.int a:=r;subst e;obtain⟨t,rfl⟩:=q;exact⟨_,.int a t⟩
 | .str a,n,v,u,h,r,q=>by have e:v=.str a:=r;subst e;obtain⟨t,rfl⟩:=q;exact⟨_,.str a t⟩
 | .tup xs,n,v,u,h,r,q=>by
  cases n with
  | zero=>exact ff h
  | succ n=>
   obtain⟨a,vs,e,ta,ra⟩:=r;subst e;cases q;obtain⟨its,rv,⟨o,h1,h2,m,h3⟩,_⟩:=I.tuple ta.sq;obtain⟨as,R⟩:=gR I xs n vs its h ra rv;exact⟨_,.tuple h1 h2 h3 (by simpa using R)⟩
 | .lst xs,n,v,u,h,r,q=>by
  cases n with
  | zero=>exact ff h
  | succ n=>
   obtain⟨a,vs,e,ta,ra⟩:=r;subst e;cases q;obtain⟨its,rv,⟨o,m,h1,h2,_,h3⟩,_⟩:=I.list (ta.sq (K:=X.K));obtain⟨as,R⟩:=gR I xs n vs its h ra rv;exact⟨_,.list h1 h2 h3 (by simpa using R)⟩
 | .ro xs,n,v,u,h,r,q=>by
  cases n with
  | zero=>exact ff h
  | succ n=>
   obtain⟨a,vs,e,ta,ra⟩:=r;subst e;cases q;obtain⟨its,rv,⟨o,m,h1,h2,_,h3⟩,_⟩:=I.list ta.sq;obtain⟨as,R⟩:=gR I xs n vs its h ra rv;exact⟨_,.list h1 h2 h3 (by simpa using R)⟩
 | .mr a,n,v,u,h,r,q=>by cases n <;> exact ff h
 | .exc a,n,v,u,h,r,q=>by cases n <;> exact ff h
 | .any,n,v,u,h,r,q=>by cases n <;> exact ff h
theorem gR {af:List (Addr×Obj)}{s:Shared}{σ:L2.St}{H:Hp}{θ:List Addr}(I:Inv X af σ H s):∀(ds:List D) (n:Nat) (vs:List V) (us:List Value),bj n ds=true→a9 X.K θ H ds vs→aK vs us→∃as,ReadsAll s.heap us (lE ds) as
 | [],n,vs,us,h,r,q=>by have e:vs=[]:=r;subst e;cases q;exact⟨_,.nil⟩
 | d::ds,n,vs,us,h,r,q=>by
  have h:=Bool.and_eq_true_iff.mp (show(aO n d&&bj n ds)=true from h);obtain⟨v,rr,e,r1,r2⟩:=r;subst e;cases q with
  | cons q1 q2=>
   obtain⟨as,R1⟩:=qH I d n v _ h.1 r1 q1;obtain⟨bs,R2⟩:=gR I ds n rr _ h.2 r2 q2;exact⟨_,.cons R1 R2⟩
end
def now (d:D)(M:aq):D:=match d with
 | .mr k=>match M[k]? with
  | some (.lst xs)=>.lst xs
  | _=>.mr k
 | d=>d
def aW (neg:Bool):F2:=fun x y M=>if aO 40 (now x M)&&aO 40 (now y M) then .ok (.bl (nF (now x M) (now y M) != neg)) M else .bad
theorem jg {af:List (Addr×Obj)}{s:Shared}{σ:L2.St}{H:Hp}{θ:List Addr}{M:aq}(I:Inv X af σ H s)(hw:Wr X.K θ H M){d:D}{n:Nat}{v:V}{u:Value}(h:aO n (now d M)=true)(r:cX X.K θ H d v)(q:RelV v u):∃as,Reads s.heap u (nE (now d M)) as:=by
 cases d with
 | mr k=>
  obtain⟨a,e,ta⟩:=r;subst e;cases q;cases qm:M[k]? with
  | none=>
   have e:now (.mr k) M=.mr k:=by simp[now,qm]
   rw[e] at h;cases n <;> exact ff h
  | some m=>
   cases m with
   | lst xs=>
    have e:now (.mr k) M=.lst xs:=by simp[now,qm]
    rw[e] at h ⊢;cases n with
    | zero=>exact ff h
    | succ n=>
     obtain⟨vs,hv,ra⟩:=hw.at_ k a _ ta qm;obtain⟨its,rv,⟨o,m,h1,h2,_,h3⟩,_⟩:=I.list (X:=X) (xs:=vs) (.inl (.inl hv));obtain⟨as,R⟩:=gR I xs n vs its h ra rv;exact⟨_,.list h1 h2 h3 (by simpa using R)⟩
   | _=>
    have e:now (.mr k) M=.mr k:=by simp[now,qm]
    rw[e] at h;cases n <;> exact ff h
 | _=>exact qH I _ n v u h r q
theorem G6 (hu:X.A.units+64<cLine):fY X (compareOp .Eq) (rD X (aW false)):=by
 intro af s σ H x y v u Q I rx ry h;obtain⟨θ,M,dx,dy,hw,r1,r2,h⟩:=h;unfold aW at h;split at h
 ·rename_i hc;rw[Bool.and_eq_true] at hc;obtain⟨as,R1⟩:=jg I hw hc.1 r1 rx;obtain⟨bs,R2⟩:=jg I hw hc.2 r2 ry;have l1:=kN _ _ hc.1;have l2:=kN _ _ hc.2;refine SeqAt.compareEq_reads R1 R2 l1.1 l2.1 (by have:=l1.2;have:min (nE (now dx M)).depth (nE (now dy M)).depth≤(nE (now dx M)).depth:=Nat.min_le_left _ _;omega) ?_;rw[pX _ _ _ _ hc.1 hc.2];refine⟨.bl _,H,I,rfl,?_⟩;have:=h _ θ H (.refl hw) rfl;rw[Bool.bne_false] at this;exact this
 ·exact h.elim
theorem Gr (hu:X.A.units+64<cLine):fY X (compareOp .NotEq) (rD X (aW true)):=by
 intro af s σ H x y v u Q I rx ry h;obtain⟨θ,M,dx,dy,hw,r1,r2,h⟩:=h;unfold aW at h;split at h
 ·rename_i hc;rw[Bool.and_eq_true] at hc;obtain⟨as,R1⟩:=jg I hw hc.1 r1 rx;obtain⟨bs,R2⟩:=jg I hw hc.2 r2 ry;have l1:=kN _ _ hc.1;have l2:=kN _ _ hc.2;refine SeqAt.compareNe_reads R1 R2 l1.1 l2.1 (by have:=l1.2;have:min (nE (now dx M)).depth (nE (now dy M)).depth≤(nE (now dx M)).depth:=Nat.min_le_left _ _;omega) ?_;rw[pX _ _ _ _ hc.1 hc.2];refine⟨.bl _,H,I,rfl,?_⟩;have:=h _ θ H (.refl hw) rfl;rw[Bool.bne_true] at this;exact this
 ·exact h.elim
def cb (d:D)(M:aq):Option (List D):=match d with
 | .tup xs=>some xs
 | .lst xs=>some xs
 | .ro xs=>some xs
 | .mr k=>match M[k]? with
  | some (.lst xs)=>some xs
  | _=>none
 | _=>none
def aL:F2:=fun x y M=>match cb x M,y with
 | some xs,.int i=>match oZ xs i with
  | some d=>.ok d M
  | none=>.bad
 | _,_=>.bad
theorem xB {K:W.Frag}{θ:List Addr}{H:Hp}{ds:List D}{vs:List V}{i:Int}{d:D}(r:a9 K θ H ds vs)(e:oZ ds i=some d):∃v,oZ vs i=some v∧cX K θ H d v:=by
 unfold oZ at e ⊢;rw[←aw r];cases q:zM ds.length i with
 | none=>rw[q] at e;cases e
 | some j=>
  rw[q] at e;exact eV r e
theorem ph {K:W.Frag}{θ:List Addr}{H:Hp}{M:aq}{d:D}{xs:List D}{v:V}(hw:Wr K θ H M)(r:cX K θ H d v)(e:cb d M=some xs):∃a vs,v=.ref a∧(lw K H a vs∨k9 K H a vs)∧a9 K θ H xs vs:=by
 cases d with
 | tup ds=>obtain⟨a,vs,e1,ta,ra⟩:=r;cases e;exact⟨a,vs,e1,.inr ta.sq,ra⟩
 | lst ds=>obtain⟨a,vs,e1,ta,ra⟩:=r;cases e;exact⟨a,vs,e1,.inl ta.sq,ra⟩
 | ro ds=>obtain⟨a,vs,e1,ta,ra⟩:=r;cases e;exact⟨a,vs,e1,.inl ta.sq,ra⟩
 | mr k=>
  obtain⟨a,e1,ta⟩:=r;have e:(match M[k]? with|some (.lst xs)=>some xs|_=>none)=some xs:=e;cases qm:M[k]? with
  | none=>rw[qm] at e;cases e
  | some m=>
   cases m with
   | lst ys=>
    rw[qm] at e;cases e;obtain⟨vs,hv,ra⟩:=hw.at_ k a _ ta qm;exact⟨a,vs,e1,.inl (.inl (.inl hv)),ra⟩
   | _=>rw[qm] at e;cases e
 | _=>cases e
theorem Gc:HQ X (rD X aL):=by
 intro value slice af s σ H x y v u Q I rx ry h hs;obtain⟨θ,M,dx,dy,hw,r1,r2,h⟩:=h;unfold aL at h;split at h
 ·rename_i xs i q;split at h
  ·rename_i d qd;obtain⟨a,vs,ea,sq,ra⟩:=ph hw r1 q;obtain⟨z,ez,rz⟩:=xB ra qd;have hq:=h z θ H (.refl hw) rz;rcases sq with sq|sq
   ·exact AO value slice af s σ H x y v u Q I rx ry ⟨a,vs,i,z,ea,r2,sq,ez,hq⟩ hs
   ·exact D8 value slice af s σ H x y v u Q I rx ry ⟨a,vs,i,z,ea,r2,sq,ez,hq⟩ hs
  ·exact h.elim
 ·exact h.elim
theorem FJ {a b:Expr}{pos:Pos}{ga gb:GE}(ha:PE X a (tE X ga))(hb:PE X b (tE X gb))(hs:pv b:=by intro _ _;rfl):PE X (.Subscript a b pos) (tE X (g2 aL ga gb)):=
 (Gy Gc ha hb hs).of fun _ _ _ h=>uN h
def gV (xs:List D)(lo hi:Option Int):List D:=(xs.drop (HT.sIx xs.length 0 lo)).take (HT.sIx xs.length xs.length hi-HT.sIx xs.length 0 lo)
def jY (x:D)(lo hi:Option Int)(M:aq):aU D:=match x with
 | .tup xs=>.ok (.tup (gV xs lo hi)) M
 | .lst xs=>.ok (.lst (gV xs lo hi)) M
 | .ro xs=>.ok (.lst (gV xs lo hi)) M
 | .mr k=>match M[k]? with
  | some (.lst xs)=>.ok (.lst (gV xs lo hi)) M
  | _=>.bad
 | _=>.bad
abbrev GO:=bC→aq→aU (Option Int)
def bh:GO:=fun _ M=>.ok none M
def cH (g:GE):GO:=fun ρ M=>(g ρ M).bind fun d M1=>match d with
 | .int i=>.ok (some i) M1
 | _=>.bad
def HN (X:Cx)(θ:List Addr)(H:Hp)(Q:Option Int→Hp→Prop):aU (Option Int)→Prop
 | .ok b M'=>∀θ' H',Go X.K θ H θ' H' M'→Q b H'
 | .err c M'=>dm X θ H c M'
 | .bad=>False
def tO (X:Cx)(g:GO):TO:=fun σ H Q=>∃ρ θ M,ie X.K θ H σ ρ∧Wr X.K θ H M∧HN X θ H Q (g ρ M)
theorem _root_.L2.PO.of {e:Option Expr}{t t':TO}(h:PO X e t)(w:∀σ H Q,t' σ H Q→t σ H Q):PO X e t':=fun af s σ H Q I q=>h af s σ H Q I (w σ H Q q)
theorem AV:PO X none (tO X bh):=AK.of fun σ H Q ⟨ρ,θ,M,hd,hw,f⟩=>f θ H (.refl hw)
theorem zZ {e:Expr}{g:GE}(h:PE X e (tE X g)):PO X (some e) (tO X (cH g)):=(A3 h).of fun σ H Q hxx=>by
 obtain⟨ρ,θ,M,hd,hw,h⟩:=hxx;refine bo hd hw (HN X θ H Q) (fun c M' h=>h) (fun h=>h) h fun d M1 v θ1 H1 g1 r1 h1=>?_
 split at h1
 ·rename_i i;exact⟨i,r1,h1 θ1 H1 g1⟩
 ·exact h1.elim
theorem Cb {g:GO}{σ:L2.St}{H:Hp}{Q:Option Int→Hp→Prop}{α:Type}{ρ:bC}{θ:List Addr}{M:aq}(hd:ie X.K θ H σ ρ)(hw:Wr X.K θ H M)(F:aU α→Prop)(Fe:∀c M',F (.err c M')→dm X θ H c M')(Fb:F .bad→False)
  {f:Option Int→aq→aU α} (h:F ((g ρ M).bind f)) (k:∀d M1 θ1 H1,Go X.K θ H θ1 H1 M1→F (f d M1)→Q d H1):tO X g σ H Q:=by
 refine⟨ρ,θ,M,hd,hw,?_⟩;cases q:g ρ M with
 | ok d M1=>
  rw[q] at h;exact fun θ1 H1 g1=>k d M1 θ1 H1 g1 h
 | err c M1=>rw[q] at h;exact Fe c M1 h
 | bad=>rw[q] at h;exact(Fb h).elim
def lF (g:GE)(gl gh:GO):GE:=fun ρ M=>(g ρ M).bind fun x M1=>(gl ρ M1).bind fun lo M2=>(gh ρ M2).bind fun hi M3=>jY x lo hi M3
def JT (X:Cx):V→Option Int→Option Int→Hp→VK→Prop:=fun x lo hi H Q=>∃θ M d,Wr X.K θ H M∧cX X.K θ H d x∧aE X θ H Q (jY d lo hi M)
theorem kA {K:W.Frag}{θ:List Addr}{H:Hp}{ds:List D}{vs:List V}(r:a9 K θ H ds vs)(lo hi:Option Int):a9 K θ H (gV ds lo hi) (qB vs lo hi):=by
 unfold gV qB;rw[←aw r];exact nZ _ (n8 _ r)
theorem Ir:HZ X (JT X):=by
 intro af s σ H x v vl vu lo hi sl Q I rx hs pl pu h;obtain⟨θ,M,d,hw,r,h⟩:=h;cases d with
 | tup ds=>
  obtain⟨a,vs,e,ta,ra⟩:=r
  by_cases hc:HT.sIx vs.length 0 lo=0∧HT.sIx vs.length vs.length hi=vs.length
  ·subst e;cases rx;obtain⟨its,rv,ht,hz⟩:=I.tuple ta.sq;have hlen:its.toArray.size=vs.length:=by rw[size_toArray];exact rv.length.symm
   refine⟨"tuple",_,PyProof.Rows.slot_tuple_getitem.lookup,ht.typeIs,?_⟩;refine jC ht hs pl pu (by rw[hlen];exact hc) ⟨.ref a,H,I,rfl,h _ θ H (.refl hw) ⟨a,vs,rfl,ta,?_⟩⟩;have e:gV ds lo hi=ds:=by
    unfold gV;rw[aw ra,hc.1,hc.2,drop_zero,Nat.sub_zero,←aw ra,take_length]
   rw[e];exact ra
  ·exact Dz af s σ H x v vl vu lo hi sl Q I rx hs pl pu ⟨a,vs,e,ta.sq,hc,fun p hp=>h _ θ _ (dh hw hp) (ig hw hp (kA ra lo hi))⟩
 | lst ds=>
  obtain⟨a,vs,e,ta,ra⟩:=r;exact oV af s σ H x v vl vu lo hi sl Q I rx hs pl pu ⟨a,vs,e,ta.sq,fun p hp=>h _ θ _ (dh hw hp) (gw hw hp (kA ra lo hi))⟩
 | ro ds=>
  obtain⟨a,vs,e,ta,ra⟩:=r;exact oV af s σ H x v vl vu lo hi sl Q I rx hs pl pu ⟨a,vs,e,ta.sq,fun p hp=>h _ θ _ (dh hw hp) (gw hw hp (kA ra lo hi))⟩
 | mr k=>
  obtain⟨a,e,ta⟩:=r;have h:aE X θ H Q (match M[k]? with|some (.lst xs)=>.ok (.lst (gV xs lo hi)) M|_=>.bad):=h;cases qm:M[k]? with
  | none=>rw[qm] at h;exact h.elim
  | some m=>
   cases m with
   | lst ys=>
    rw[qm] at h;obtain⟨vs,hv,ra⟩:=hw.at_ k a _ ta qm;exact oV af s σ H x v vl vu lo hi sl Q I rx hs pl pu ⟨a,vs,e,.inl (.inl hv),fun p hp=>h _ θ _ (dh hw hp) (gw hw hp (kA ra lo hi))⟩
   | _=>rw[qm] at h;exact h.elim
 | _=>exact h.elim
theorem yN {e:Expr}{lo hi:Option Expr}{g:GE}{gl gh:GO}{p2 pos:Pos}(he:PE X e (tE X g))(hl:PO X lo (tO X gl))(hh:PO X hi (tO X gh)):PE X (.Subscript e (.Slice lo hi none p2) pos) (tE X (lF g gl gh)):=
 (xZ Ir he hl hh).of fun σ H Q hxx=>by
  obtain⟨ρ,θ,M,hd,hw,h⟩:=hxx;refine bo hd hw (aE X θ H Q) (fun c M' h=>h) (fun h=>h) h fun d M1 v θ1 H1 g1 r1 h1=>?_
  refine Cb (hd.go g1) g1.wr (aE X θ1 H1 Q) (fun c M' h=>h) (fun h=>h) (h1.go g1) fun l M2 θ2 H2 g2 h2=>?_
  refine Cb ((hd.go g1).go g2) g2.wr (aE X θ2 H2 Q) (fun c M' h=>h) (fun h=>h) (h2.go g2) fun u M3 θ3 H3 g3 h3=>?_
  exact⟨θ3,M3,d,g3.wr,r1.go (g2.trans g3),h3.go g3⟩
def A8 (d:D)(M:aq):aU Bool:=match d with
 | .non=>.ok false M
 | .bl b=>.ok b M
 | .int i=>.ok (i != 0) M
 | .str x=>if x.length≤sizeLine then .ok ((x.length:Int) != 0) M else .bad
 | .tup xs=>.ok (!xs.isEmpty) M
 | .lst xs=>.ok (!xs.isEmpty) M
 | .ro xs=>.ok (!xs.isEmpty) M
 | .mr k=>match M[k]? with
  | some (.lst xs)=>.ok (!xs.isEmpty) M
  | _=>.bad
 | .exc _=>.bad
 | .any=>.bad
def cM (g:GE):GT:=fun ρ M=>(g ρ M).bind A8
theorem ia {K:W.Frag}{θ:List Addr}{H:Hp}{ds:List D}{vs:List V}(r:a9 K θ H ds vs):(!vs.isEmpty)=!ds.isEmpty:=by
 have:=aw r;cases ds <;> cases vs <;> simp_all
theorem Es {a:Expr}{g:GE}(ha:PE X a (tE X g))(he:∀whole,isTrue a X.env whole=(do let v ←whole;standAt a.pos;holding [v] (truthy v)):=by intro _;rfl):PT X a (tT X (cM g)):=
 (xN ha he).of fun σ H Q hxx=>by
  obtain⟨ρ,θ,M,hd,hw,h⟩:=hxx;refine bo hd hw (lq X θ H Q) (fun c M' h=>h) (fun h=>h) h fun d M1 v θ1 H1 g1 r1 h1=>?_
  cases d with
  | non=>have e:v=.non:=r1;subst e;exact⟨false,rfl,h1 θ1 H1 g1⟩
  | bl b=>have e:v=.bl b:=r1;subst e;exact⟨b,rfl,h1 θ1 H1 g1⟩
  | int i=>have e:v=.int i:=r1;subst e;exact⟨i != 0,rfl,h1 θ1 H1 g1⟩
  | str x=>
   have e:v=.str x:=r1;subst e;have h1:lq X θ H Q (if x.length≤sizeLine then .ok ((x.length:Int) != 0) M1 else .bad):=h1;split at h1
   ·rename_i hl;exact⟨_,⟨hl,rfl⟩,h1 θ1 H1 g1⟩
   ·exact h1.elim
  | tup xs=>
   obtain⟨a,vs,e,ta,ra⟩:=r1;subst e;exact⟨_,.inr (.inl ⟨vs,ta.sq,(ia ra).symm⟩),h1 θ1 H1 g1⟩
  | lst xs=>
   obtain⟨a,vs,e,ta,ra⟩:=r1;subst e;exact⟨_,.inl ⟨vs,ta.sq,(ia ra).symm⟩,h1 θ1 H1 g1⟩
  | ro xs=>
   obtain⟨a,vs,e,ta,ra⟩:=r1;subst e;exact⟨_,.inl ⟨vs,ta.sq,(ia ra).symm⟩,h1 θ1 H1 g1⟩
  | mr k=>
   obtain⟨a,e,ta⟩:=r1;subst e;have h1:lq X θ H Q (match M1[k]? with|some (.lst xs)=>.ok (!xs.isEmpty) M1|_=>.bad):=h1;cases qm:M1[k]? with
   | none=>rw[qm] at h1;exact h1.elim
   | some m=>
    cases m with
    | lst ys=>
     rw[qm] at h1;obtain⟨vs,hv,ra⟩:=g1.wr.at_ k a _ ta qm;exact⟨_,.inl ⟨vs,.inl (.inl hv),(ia ra).symm⟩,h1 θ1 H1 g1⟩
    | _=>rw[qm] at h1;exact h1.elim
  | exc c=>exact h1.elim
  | any=>exact h1.elim
def bp:FD:=fun ds M=>match ds with
 | [.str x]=>if x.length≤sizeLine then .ok (.int x.length) M else .bad
 | [d]=>match cb d M with
  | some xs=>.ok (.int xs.length) M
  | none=>.bad
 | _=>.bad
def oW:FD:=fun ds M=>match ds with
 | [.int i,.int j]=>.ok (.int (if j<i then j else i)) M
 | _=>.bad
def qh:FD:=fun ds M=>match ds with
 | [.int i,.int j]=>.ok (.int (if j>i then j else i)) M
 | _=>.bad
def rW:FD:=fun ds M=>match ds with
 | [.int i]=>.ok (.int i) M
 | [.bl b]=>.ok (.int (if b then 1 else 0)) M
 | _=>.bad
def lT:FD:=fun ds M=>match ds with
 | [d]=>match cb d M with
  | some xs=>.ok (.lst xs) M
  | none=>.bad
 | _=>.bad
def bV:FD:=fun ds M=>match ds with
 | [d]=>match cb d M with
  | some xs=>.ok (.tup xs) M
  | none=>.bad
 | _=>.bad
theorem gM {K:W.Frag}{θ:List Addr}{H:Hp}{d:D}{xs:List V}(r:a9 K θ H [d] xs):∃v,xs=[v]∧cX K θ H d v:=by
 obtain⟨v,rr,e,h1,h2⟩:=r;have e2:rr=[]:=h2;subst e2;exact⟨v,e,h1⟩
theorem yb {K:W.Frag}{θ:List Addr}{H:Hp}{d d':D}{xs:List V}(r:a9 K θ H [d,d'] xs):∃v v',xs=[v,v']∧cX K θ H d v∧cX K θ H d' v':=by
 obtain⟨v,rr,e,h1,h2⟩:=r;obtain⟨v',e2,h3⟩:=gM h2;subst e2;exact⟨v,v',e,h1,h3⟩
theorem EW:cF X (.builtin "len") (rC X bp):=by
 intro af s σ H xs us Q I r h;obtain⟨θ,M,ds,hw,rd,h⟩:=h;unfold bp at h;split at h
 ·rename_i x;split at h
  ·rename_i hl;obtain⟨v,e,rv⟩:=gM rd;exact o6 af s σ H xs us Q I r ⟨x,by rw[e,show v=.str x from rv],hl,h _ θ H (.refl hw) rfl⟩
  ·exact h.elim
 ·rename_i d _;split at h
  ·rename_i ys q;obtain⟨v,e,rv⟩:=gM rd;obtain⟨a,vs,ea,sq,ra⟩:=ph hw rv q;refine o3 af s σ H xs us Q I r ⟨a,vs,by rw[e,ea],sq,?_⟩;rw[←aw ra];exact h _ θ H (.refl hw) rfl
  ·exact h.elim
 ·exact h.elim
theorem CH (hc:X.calm=true):cF X (.builtin "min") (rC X oW):=by
 intro af s σ H xs us Q I r h;obtain⟨θ,M,ds,hw,rd,h⟩:=h;unfold oW at h;split at h
 ·rename_i i j;obtain⟨v,v',e,rv,rv'⟩:=yb rd;exact vj hc af s σ H xs us Q I r ⟨i,j,by rw[e,show v=.int i from rv,show v'=.int j from rv'],h _ θ H (.refl hw) rfl⟩
 ·exact h.elim
theorem Ei (hc:X.calm=true):cF X (.builtin "max") (rC X qh):=by
 intro af s σ H xs us Q I r h;obtain⟨θ,M,ds,hw,rd,h⟩:=h;unfold qh at h;split at h
 ·rename_i i j;obtain⟨v,v',e,rv,rv'⟩:=yb rd;exact vT hc af s σ H xs us Q I r ⟨i,j,by rw[e,show v=.int i from rv,show v'=.int j from rv'],h _ θ H (.refl hw) rfl⟩
 ·exact h.elim
theorem D0:cF X (.type "int") (rC X rW):=by
 intro af s σ H xs us Q I r h;obtain⟨θ,M,ds,hw,rd,h⟩:=h;unfold rW at h;split at h
 ·rename_i i;obtain⟨v,e,rv⟩:=gM rd;exact ow af s σ H xs us Q I r (.inl ⟨i,by rw[e,show v=.int i from rv],h _ θ H (.refl hw) rfl⟩)
 ·rename_i b;obtain⟨v,e,rv⟩:=gM rd;exact ow af s σ H xs us Q I r (.inr ⟨b,by rw[e,show v=.bl b from rv],h _ θ H (.refl hw) rfl⟩)
 ·exact h.elim
theorem A7:cF X (.type "list") (rC X lT):=by
 intro af s σ H xs us Q I r h;obtain⟨θ,M,ds,hw,rd,h⟩:=h;unfold lT at h;split at h
 ·rename_i d;split at h
  ·rename_i ys q;obtain⟨v,e,rv⟩:=gM rd;obtain⟨a,vs,ea,sq,ra⟩:=ph hw rv q;exact pY af s σ H xs us Q I r ⟨a,vs,by rw[e,ea],sq,fun l hl=>h _ θ _ (dh hw hl) (gw hw hl ra)⟩
  ·exact h.elim
 ·exact h.elim
theorem yB:cF X (.type "tuple") (rC X bV):=by
 intro af s σ H xs us Q I r h;obtain⟨θ,M,ds,hw,rd,h⟩:=h;unfold bV at h;split at h
 ·rename_i d;obtain⟨v,e,rv⟩:=gM rd;cases d with
  | tup ys=>
   obtain⟨a,vs,ea,ta,ra⟩:=rv;exact eQ af s σ H xs us Q I r ⟨a,vs,by rw[e,ea],.inr ⟨ta.sq,h _ θ H (.refl hw) ⟨a,vs,rfl,ta,ra⟩⟩⟩
  | lst ys=>
   obtain⟨a,vs,ea,ta,ra⟩:=rv;exact eQ af s σ H xs us Q I r ⟨a,vs,by rw[e,ea],.inl ⟨ta.sq,fun l hl=>h _ θ _ (dh hw hl) (ig hw hl ra)⟩⟩
  | ro ys=>
   obtain⟨a,vs,ea,ta,ra⟩:=rv;exact eQ af s σ H xs us Q I r ⟨a,vs,by rw[e,ea],.inl ⟨ta.sq,fun l hl=>h _ θ _ (dh hw hl) (ig hw hl ra)⟩⟩
  | mr k=>
   obtain⟨a,ea,ta⟩:=rv;cases qm:M[k]? with
   | none=>simp[cb,qm] at h;exact h.elim
   | some m=>
    cases m with
    | lst ys=>
     simp only[cb,qm] at h;obtain⟨vs,hv,ra⟩:=hw.at_ k a _ ta qm;exact eQ af s σ H xs us Q I r ⟨a,vs,by rw[e,ea],.inl ⟨.inl (.inl hv),fun l hl=>h _ θ _ (dh hw hl) (ig hw hl ra)⟩⟩
    | _=>simp[cb,qm] at h;exact h.elim
  | _=>exact h.elim
 ·exact h.elim
end
def dj (cells:List (Str×Addr)):List (Str×NameKind)→List (Str×Addr)→List (Str×Addr)
 | [],acc=>acc
 | (n,k)::r,acc=>if k==.free then dj cells r ((n,(cells.lookup n).getD 0)::acc) else dj cells r acc
theorem mH {env:Env}:∀(l:List (Str×NameKind)) (cs:List (Str×Addr)),(∀p∈l,p.2=.free→∃c,env.cells.lookup p.1=some c)→
  (forIn (m:=Sem) l cs fun x r=>match x with
   | (name,kind)=>if(kind==NameKind.free)=true then do let __do_lift ←cellOf env name;pure (ForInStep.yield ((name,__do_lift)::r)) else pure (ForInStep.yield r))=pure (dj env.cells l cs)
 | [],cs,h=>rfl
 | (n,k)::r,cs,h=>by
  have ih:=fun cs=>mH (env:=env) r cs fun p hp=>h p (mem_cons_of_mem _ hp)
  rw[forIn_cons]
  by_cases hk:(k==NameKind.free)=true
  ·obtain⟨c,hc⟩:=h (n,k) mem_cons_self (by simpa using hk);have e:cellOf env n=pure c:=by unfold cellOf;rw[show List.lookup n env.cells=some c from hc]
   simp only[hk,if_true,dj,e,pure_bind];rw[ih,show List.lookup n env.cells=some c from hc];rfl
  ·simp only[hk,if_false,dj,pure_bind,Bool.false_eq_true];exact ih cs
theorem kT {env:Env}{scope:Scope}(h:∀p∈scope.names,p.2=.free→∃c,env.cells.lookup p.1=some c):closureFor scope env=pure (dj env.cells scope.names []):=by
 have:=mH (env:=env) scope.names [] h;unfold closureFor;simp only[bind_pure_comp] at this ⊢
 first
  | (rw[this];rfl)
  | (simp[this])
  | exact this
theorem nq {cells:List (Str×Addr)}:∀(l:List (Str×NameKind)) (acc:List (Str×Addr)),(∀p∈acc,cells.lookup p.1=some p.2)→(∀p∈l,p.2=.free→∃c,cells.lookup p.1=some c)→
  ∀p∈dj cells l acc,cells.lookup p.1=some p.2
 | [],acc,ha,h=>ha
 | (n,k)::r,acc,ha,h=>by
  have hr:∀p∈r,p.2=.free→∃c,cells.lookup p.1=some c:=fun p hp=>h p (mem_cons_of_mem _ hp)
  unfold dj
  by_cases hk:(k==NameKind.free)=true
  ·rw[if_pos hk];refine nq r _ (fun p hp=>?_) hr;rcases mem_cons.mp hp with e|hp
   ·subst e;obtain⟨c,hc⟩:=h (n,k) mem_cons_self (by simpa using hk);have hc':cells.lookup n=some c:=hc;show cells.lookup n=some ((cells.lookup n).getD 0);rw[hc'];rfl
   ·exact ha p hp
  ·rw[if_neg hk];exact nq r acc ha hr
theorem m4 {cells:List (Str×Addr)}:∀(l:List (Str×NameKind)) (acc:List (Str×Addr)),∀p∈acc,p∈dj cells l acc
 | [],acc,p,h=>h
 | (n,k)::r,acc,p,h=>by
  unfold dj
  by_cases hk:(k==NameKind.free)=true
  ·rw[if_pos hk];exact m4 r _ p (mem_cons_of_mem _ h)
  ·rw[if_neg hk];exact m4 r acc p h
theorem ng {cells:List (Str×Addr)}:∀(l:List (Str×NameKind)) (acc:List (Str×Addr)) (n:Str),(n,NameKind.free)∈l→∃c,(n,c)∈dj cells l acc
 | [],acc,n,h=>by cases h
 | (m,k)::r,acc,n,h=>by
  unfold dj;rcases mem_cons.mp h with e|h
  ·cases e;rw[if_pos (by rfl)];exact⟨_,m4 r _ _ mem_cons_self⟩
  ·by_cases hk:(k==NameKind.free)=true
   ·rw[if_pos hk];exact ng r _ n h
   ·rw[if_neg hk];exact ng r acc n h
theorem jW {l:List (Str×Addr)}{n:Str}{c:Addr}(h:(n,c)∈l):∃c',l.lookup n=some c':=by
 induction l with
 | nil=>cases h
 | cons p r ih=>
  obtain⟨m,d⟩:=p
  by_cases e:(n==m)=true
  ·exact⟨d,by simp[List.lookup,e]⟩
  ·have e':(n==m)=false:=by simpa using e
   rcases mem_cons.mp h with q|q
   ·cases q;simp at e
   ·obtain⟨c',hc⟩:=ih q;exact⟨c',by simp only[List.lookup,e'];exact hc⟩
theorem fP {env:Env}:∀{names:List (Str×NameKind)} {x:Str} {k:NameKind},
  (names.map fun(n,k)=>if(k==NameKind.free&&env.scope.kind==.function&&env.kindOf n==some .cell) then(n,NameKind.cell) else(n,k)).lookup x=some k→
   names.lookup x=some k∨(k=.cell∧names.lookup x=some .free)
 | [],_,_,h=>by simp at h
 | (n,k')::r,x,k,h=>by
  have ih:=@fP env r x k;have h:List.lookup x ((if(k'==NameKind.free&&env.scope.kind==.function&&env.kindOf n==some .cell)=true then(n,NameKind.cell) else(n,k'))::_)=some k:=h
  by_cases hc:(k'==NameKind.free&&env.scope.kind==.function&&env.kindOf n==some .cell)=true
  ·rw[if_pos hc] at h;cases hx:x==n with
   | true=>
    simp only[lookup_cons,hx] at h ⊢;cases h;have:k'=.free:=by
     rw[Bool.and_eq_true,Bool.and_eq_true] at hc;simpa using hc.1.1
    subst this;exact .inr ⟨rfl,rfl⟩
   | false=>
    simp only[lookup_cons,hx] at h ⊢;exact ih h
  ·rw[if_neg hc] at h;cases hx:x==n with
   | true=>
    simp only[lookup_cons,hx] at h ⊢;exact .inl h
   | false=>
    simp only[lookup_cons,hx] at h ⊢;exact ih h
def cB (sc:Scope)(fk:Str→Option NameKind)(xs:List Str)(R N:List Str):Bool:=
 decide (sc.kind=.function)&&xs.all (fun x=>sc.names.lookup x==some .local) &&
 sc.names.all (fun p=>match p.2 with
  | .cell=>false
  | .local=>(xs.contains p.1||p.1==(".0":Str))&&sc.names.lookup p.1==some .local
  | .free=>fk p.1==some .cell||fk p.1==some .free
  | _=>true) &&
 decide ((xs++R).Nodup)&&!(R.contains (".0":Str))&&R.length==N.length &&
 (R.zip N).all (fun p=>p.1==p.2||sc.names.lookup p.1 != some .free)
structure bW (sc:Scope)(fk:Str→Option NameKind)(xs:List Str)(R N:List Str):Prop where
 kind:sc.kind=.function
 own:∀x∈xs,sc.names.lookup x=some .local
 nocell:∀p∈sc.names,p.2≠.cell
 locs:∀p∈sc.names,p.2=.local→p.1∈xs∨p.1=(".0":Str)
 lnames:∀p∈sc.names,p.2=.local→sc.names.lookup p.1=some .local
 free:∀p∈sc.names,p.2=.free→fk p.1=some .cell∨fk p.1=some .free
 nd:(xs++R).Nodup
 no0:(".0":Str)∉R
 len:R.length=N.length
 same:∀(i:Nat) y,R[i]?=some y→sc.names.lookup y=some .free→N[i]?=some y
theorem bW.of {sc:Scope}{fk:Str→Option NameKind}{xs:List Str}{R N:List Str}(h:cB sc fk xs R N=true):bW sc fk xs R N:=by
 unfold cB at h;simp only[Bool.and_eq_true,decide_eq_true_eq,all_eq_true,Bool.not_eq_true',beq_iff_eq] at h;obtain⟨⟨⟨⟨⟨⟨h1,h2⟩,h3⟩,h4⟩,h5⟩,h6⟩,h7⟩:=h;refine⟨h1,h2,fun p hp e=>?_,fun p hp e=>?_,fun p hp e=>?_,fun p hp e=>?_,h4,?_,h6,fun i y hy hf=>?_⟩
 ·have:=h3 p hp;rw[e] at this;simp at this
 ·have:=h3 p hp;rw[e] at this;simp at this;exact this.1
 ·have:=h3 p hp;rw[e] at this;simp at this;exact this.2
 ·have:=h3 p hp;rw[e] at this;simp at this;exact this
 ·intro hm;have:R.contains (".0":Str)=true:=by simpa using hm
  rw[this] at h5;cases h5
 ·obtain⟨hi,e⟩:=List.getElem?_eq_some_iff.mp hy;have hn:i<N.length:=by rw[←h6];exact hi
  have hz:(R[i],N[i])∈R.zip N:=by
   rw[mem_iff_getElem];exact⟨i,by simp;omega,by simp⟩
  have:=h7 _ hz;simp only[Bool.or_eq_true,beq_iff_eq,bne_iff_ne,ne_eq] at this;rcases this with q|q
  ·rw[getElem?_eq_getElem hn,←q,e]
  ·rw[e] at q;exact absurd hf q
def az (X:Cx)(scope:Scope)(xs:List Str)(R:List Str)(fp:List Addr)(s:Shared)(H:Hp)(C:Addr):Cx where
 prog:=X.prog
 w:=X.w
 K:=X.K
 mg:=X.mg
 base:=X.base
 A:=X.A
 N:=xs++R
 s₀:=s
 H₀:=H
 env:=compEnvC scope (dj X.env.cells scope.names []) C X.env
 outer:=X.stack
 stack:=X.stack
 ex:=fp
 fn:=fun _=>false
 calm:=X.calm
 pn:=[]
 xe:=fun _ _=>False
section
variable {X:Cx}{af:List (Addr×Obj)}{σ:L2.St}{H:Hp}{s:Shared}{scope:Scope}{xs:List Str}{R:List Str}{fp:List Addr}{C:Addr}
theorem bW.cells (S:bW scope X.env.kindOf xs R X.N)(I:L2.Inv X af σ H s):∀p∈scope.names,p.2=.free→∃c,X.env.cells.lookup p.1=some c:=fun p hp e=>I.ok.has p.1 (S.free p hp e)
theorem cx (S:bW scope X.env.kindOf xs R X.N)(I:L2.Inv X af σ H s){y:Str}{c:Addr}(h:(dj X.env.cells scope.names []).lookup y=some c):X.env.cells.lookup y=some c:=
 nq scope.names [] (fun _ z=>by cases z) (S.cells I) (y,c) (PySem.mem_of_lookup h)
theorem wY {h4:Heap}{m:Str→Option Value}{tk:Nat}(S:bW scope X.env.kindOf xs R X.N)(I:L2.Inv X af σ H s)(hC:s.heap.objs.size≤C)(k:∀b o,s.heap.get? b=some o→h4.get? b=some o)(hn:h4.Ns C m)
  (hf:∀b∈fp,l5 X af H b) (hfl:∀b∈fp,b<s.heap.objs.size):L2.Inv (az X scope xs R fp s H C) [] (List.replicate xs.length none++σ) H {s with heap:=h4,toks:=tk}:=by
 have hkn:∀y kk,(relabel scope X.env).names.lookup y=some kk→(kk=.cell∨kk=.free)→scope.names.lookup y=some .free:=fun y kk e hk=>by
  rcases fP e with q|q
  ·rcases hk with z|z
   ·subst z;exact absurd rfl (S.nocell _ (PySem.mem_of_lookup q))
   ·subst z;exact q
  ·exact q.2
 have hasc:∀y,scope.names.lookup y=some .free→∃c,(dj X.env.cells scope.names []).lookup y=some c:=fun y e=>by
  obtain⟨c,hc⟩:=ng (cells:=X.env.cells) scope.names [] y (PySem.mem_of_lookup e);exact jW hc
 refine⟨⟨I.ok.mod,S.kind,I.ok.glob,I.ok.blt,hC,fun y z c h1 h2=>I.ok.inj y z c (cx S I h1) (cx S I h2),fun y hy=>?_,fun y c z=>absurd (show false=true from z) Bool.false_ne_true,I.ok.hd,I.ok.frames,.inl rfl,fun b hb=>⟨?_,fun y c e=>?_⟩,I.bs,Nat.le_trans I.ok.bsz I.sz,fun b o e hb=>?_,fun b hb z=>?_,I.stack,I.stkFree⟩,
  rfl,I.bare,Un.kept k,⟨m,hn,fun i y v h1 h2 h3=>?_⟩,fun y c e=>?_,I.hok.fresh hC,fun y c e=>I.freeC y c (cx S I e),fun p hp=>absurd (show p∈([]:List (Addr×Obj)) from hp) (by simp),I.hok.kept k,?_⟩
 ·rcases hy with e|e
  ·exact hasc y (hkn y _ e (.inl rfl))
  ·exact hasc y (hkn y _ e (.inr rfl))
 ·exact Nat.ne_of_lt (Nat.lt_of_lt_of_le (hfl b hb) hC)
 ·exact(hf b hb).2.2.2.2.1 y c (cx S I e)
 ·rcases(hf b hb).2.2.2.1 with z|z
  ·exact I.ok.noex b o e z
  ·exact absurd (Nat.lt_of_lt_of_le (Heap.lt_size e) (Nat.le_trans I.ok.bsz z)) (Nat.lt_irrefl _)
 ·rcases mem_cons.mp (I.stkSub b z) with e|e
  ·exact(hf b hb).2.1 e
  ·exact(hf b hb).2.2.1 e
 ·by_cases hi:i<xs.length
  ·exfalso;rw[getElem?_append_left (by rw[length_replicate];exact hi),getElem?_replicate,if_pos hi] at h2;cases h2
  ·obtain⟨i,rfl⟩:∃j,i=xs.length+j:=⟨i-xs.length,by omega⟩;have h1:R[i]?=some y:=by
    have h1:(xs++R)[xs.length+i]?=some y:=h1;rw[getElem?_append_right (by omega)] at h1;simpa using h1
   have h2:σ[i]?=some (some v):=by
    rw[getElem?_append_right (by rw[length_replicate];omega)] at h2;simpa using h2
   have hyR:y∈R:=mem_of_getElem? h1;have hf':scope.names.lookup y=some .free∧((relabel scope X.env).names.lookup y=some .cell∨(relabel scope X.env).names.lookup y=some .free):=by
    have h3:(relabel scope X.env).names.lookup y=some .local∨(relabel scope X.env).names.lookup y=some .cell∨(relabel scope X.env).names.lookup y=some .free:=h3;rcases h3 with e|e|e
    ·rcases fP e with q|q
     ·exfalso;rcases S.locs _ (PySem.mem_of_lookup q) rfl with z|z
      ·exact(nodup_append.mp S.nd).2.2 y z y hyR rfl
      ·have z:y=(".0":Str):=z;rw[z] at hyR;exact S.no0 hyR
     ·exact absurd q.1 (by intro z;cases z)
    ·exact⟨hkn y _ e (.inl rfl),.inl e⟩
    ·exact⟨hkn y _ e (.inr rfl),.inr e⟩
   have hN:=S.same i y h1 hf'.1;have hk:=S.free (y,.free) (PySem.mem_of_lookup hf'.1) rfl;obtain⟨mX,hnX,hl⟩:=I.loc;have vis:FL X.env.scope y:=by
    rcases hk with z|z
    ·exact .inr (.inl z)
    ·exact .inr (.inr z)
   obtain⟨u,r,l⟩:=hl i y v hN h2 vis;refine⟨u,r,.inr ⟨hf'.2,?_⟩⟩;rcases l with⟨z,_⟩|⟨_,c,hc,o,ho,hod⟩
   ·exfalso;rcases hk with q|q
    ·have q:X.env.kindOf y=some .cell:=q;rw[z] at q;cases q
    ·have q:X.env.kindOf y=some .free:=q;rw[z] at q;cases q
   ·obtain⟨c',hc'⟩:=hasc y hf'.1;have:c'=c:=by
     have:=cx S I hc';rw[hc] at this;exact(Option.some.inj this).symm
    subst this;exact⟨c',hc',o,k _ _ ho,hod⟩
 ·obtain⟨v,o,ho,hd⟩:=I.cell y c (cx S I e);exact⟨v,o,k _ _ ho,hd⟩
 ·show(List.replicate xs.length none++σ).length=(xs++R).length;rw[length_append,length_append,length_replicate,I.len,S.len]
end
def ce (t:mn)(gc:GT)(ge:GE):List D→bC→aq→aU (List D)
 | [],ρ,M=>if t.ok M then .ok [] M else .bad
 | d::r,ρ,M=>if t.ok M then
   match gc (some d::ρ) M with
   | .ok true M1=>match ge (some d::ρ) M1 with
    | .ok e M2=>(ce t gc ge r ρ M2).bind fun es M3=>.ok (e::es) M3
    | _=>.bad
   | .ok false M1=>ce t gc ge r ρ M1
   | _=>.bad
  else .bad
def bK:GT:=fun _ M=>.ok true M
def aT (t:mn)(n:Nat)(sg:GG)(gc:GT)(ge:GE):List D→bC→aq→aU (List D)
 | [],ρ,M=>if t.ok M then .ok [] M else .bad
 | d::r,ρ,M=>if t.ok M then
   match sg d (List.replicate n none++ρ) with
   | none=>.bad
   | some ρ1=>match gc ρ1 M with
    | .ok true M1=>match ge ρ1 M1 with
     | .ok e M2=>(aT t n sg gc ge r ρ M2).bind fun es M3=>.ok (e::es) M3
     | _=>.bad
    | .ok false M1=>aT t n sg gc ge r ρ M1
    | _=>.bad
  else .bad
def cA (gi:GI)(n:Nat)(sg:GG)(gc:GT)(ge:GE)(mk:List D→aq→aU D):GE:=fun ρ M=>(gi ρ M).bind fun t M1=>(aT t n sg gc ge t.ds ρ M1).bind mk
theorem qw (t:mn)(gc:GT)(ge:GE):∀(ds:List D) (ρ:bC) (M:aq),ce t gc ge ds ρ M=aT t 1 (gK 0) gc ge ds ρ M
 | [],ρ,M=>rfl
 | d::r,ρ,M=>by
  have ih:=qw t gc ge r;unfold ce aT;show _=(if t.ok M=true then(match gc (some d::ρ) M with
    | .ok true M1=>match ge (some d::ρ) M1 with
     | .ok e M2=>(aT t 1 (gK 0) gc ge r ρ M2).bind fun es M3=>.ok (e::es) M3
     | _=>.bad
    | .ok false M1=>aT t 1 (gK 0) gc ge r ρ M1
    | _=>.bad) else .bad)
  simp only[ih]
def p8 (n:Nat)(sg:GG):Prop:=∀d ρ ρ',sg d ρ=some ρ'→ρ'.length=ρ.length∧∀i:Nat,n≤i→ρ'[i]?=ρ[i]?
theorem uw {n i:Nat}(h:i<n):p8 n (gK i):=fun d ρ ρ' e=>by
 have e:some (ρ.set i (some d))=some ρ':=e;cases e;exact⟨by rw[length_set],fun j hj=>by rw[getElem?_set_ne (by omega)]⟩
theorem qW {n:Nat}:∀{is:List Nat} {ds:List D} {ρ ρ':bC},is.all (fun i=>decide (i<n))=true→kU is ds ρ=some ρ'→ρ'.length=ρ.length∧∀i:Nat,n≤i→ρ'[i]?=ρ[i]?
 | [],[],ρ,ρ',_,e=>by cases e;exact⟨rfl,fun _ _=>rfl⟩
 | [],_::_,_,_,_,e=>by cases e
 | _::_,[],_,_,_,e=>by cases e
 | i::is,d::ds,ρ,ρ',h,e=>by
  rw[all_cons,Bool.and_eq_true] at h;have hi:i<n:=by simpa using h.1
  obtain⟨a,b⟩:=qW h.2 (show kU is ds (ρ.set i (some d))=some ρ' from e);exact⟨by rw[a,length_set],fun j hj=>by rw[b j hj,getElem?_set_ne (by omega)]⟩
theorem zW {n:Nat}{is:List Nat}(h:is.all (fun i=>decide (i<n))=true):p8 n (bN is):=fun d ρ ρ' e=>by
 cases d with
 | tup ds=>exact qW h e
 | _=>cases e
theorem p8.back {n:Nat}{sg:GG}{K:W.Frag}{θ:List Addr}{H:Hp}{τ:L2.St}{ρ ρ1:bC}{d:D}(o:p8 n sg)(e:sg d (List.replicate n none++ρ)=some ρ1)(h:ie K θ H τ ρ1):ie K θ H τ (List.replicate n none++ρ):=by
 obtain⟨a,b⟩:=o _ _ _ e;refine⟨by rw[←a];exact h.len,fun i d' q=>?_⟩
 by_cases hi:i<n
 ·rw[getElem?_append_left (by rw[length_replicate];exact hi),getElem?_replicate,if_pos hi] at q;cases q
 ·rw[←b i (by omega)] at q;exact h.at_ i d' q
def bB (gi:GI)(gc:GT)(ge:GE)(mk:List D→aq→aU D):GE:=fun ρ M=>(gi ρ M).bind fun t M1=>(ce t gc ge t.ds ρ M1).bind mk
theorem rh (elt target iter:Expr)(ifs:List Expr)(scope:Scope)(pos:Pos)(it acc:Value)(env:Env)(cond:Sem Bool)
  (hc:(forIn (m:=Sem) ifs true fun c r=>if r=true then do let ok ←isTrue c env (eval c env);pure (ForInStep.yield ok) else pure (ForInStep.yield r))=cond) :
  compTurn (.ListComp elt [⟨target,iter,ifs,0⟩] scope pos) 0 it acc env=(standAt iter.pos >>= fun _=>pyNext it >>= fun r=>match r with
   | none=>pure (.done .next)
   | some v=>letOwnedTupleGo target it v >>= fun _=>assign target env v >>= fun _=>cond >>= fun ok=>
    if ok=true then((eval elt env >>= fun x=>call (.builtin "list.append") [acc,x] >>= fun _=>pure ()) >>= fun _=>
     again (.compLoop (.ListComp elt [⟨target,iter,ifs,0⟩] scope pos) 0 it acc env)) else again (.compLoop (.ListComp elt [⟨target,iter,ifs,0⟩] scope pos) 0 it acc env)):=by
 subst hc;rfl
section
variable {prog:Program}{w:World}{A:Around}{R:Result→Shared→Prop}{s:Shared}
theorem i7 {elt target iter:Expr}{ifs:List Expr}{scope:Scope}{pos:Pos}{it acc:Value}{env:Env}{cond:Sem Bool}
  (hc:(forIn (m:=Sem) ifs true fun c r=>if r=true then do let ok ←isTrue c env (eval c env);pure (ForInStep.yield ok) else pure (ForInStep.yield r))=cond) (I:Nat→Shared→Prop)
  (turn:∀n s,I n s→wpAny (model prog w) A (pyNext it) (fun r s₁=>match r with
   | none=>R (.ok .next) s₁
   | some v=>wpAny (model prog w) A (letOwnedTupleGo target it v) (fun _ s₂=>wpAny (model prog w) A (assign target env v) (fun _ s₃=>wpAny (model prog w) A cond (fun ok s₄=>if ok=true then
     wpAny (model prog w) A (eval elt env) (fun x s₅=>wpAny (model prog w) A (call (.builtin "list.append") [acc,x]) (fun _ s₆=>∃m,m<n∧I m s₆) (fun _ _=>False) s₅) (fun _ _=>False) s₄
     else∃m,m<n∧I m s₄) (fun _ _=>False) s₃) (fun _ _=>False) s₂) (fun _ _=>False) s₁) (fun _ _=>False) s)
  (n:Nat) (h:I n s):codeAny (model prog w) A (.compLoop (.ListComp elt [⟨target,iter,ifs,0⟩] scope pos) 0 it acc env) R s:=by
 refine codeAny_loop rfl I (fun n s hI=>?_) n h;show wpAny _ _ ((compTurn (.ListComp elt [⟨target,iter,ifs,0⟩] scope pos) 0 it acc env).onRaise (fun x=>do noteFrame x env;theTreesLotGoes x)) _ _ s;refine wpAny_noted ?_;rw[rh _ _ _ _ _ _ _ _ _ _ hc];refine wpAny_bind (wpAny_standAt (wpAny_bind (wpAny_mono (turn n s hI) (fun r s₁ h₁=>?_) fun _ _ z=>z.elim)));cases r with
 | none=>exact wpAny_pure h₁
 | some v=>
  refine wpAny_bind (wpAny_mono h₁ (fun _ s₂ h₂=>?_) fun _ _ z=>z.elim);refine wpAny_bind (wpAny_mono h₂ (fun _ s₃ h₃=>?_) fun _ _ z=>z.elim);refine wpAny_bind (wpAny_mono h₃ (fun ok s₄ h₄=>?_) fun _ _ z=>z.elim);cases ok with
  | true=>
   rw[if_pos rfl] at h₄;rw[if_pos rfl];exact wpAny_bind (wpAny_bind (wpAny_mono h₄ (fun x s₅ h₅=>wpAny_bind (wpAny_mono h₅ (fun _ s₆ h₆=>wpAny_pure (wpAny_pure ⟨rfl,h₆⟩)) fun _ _ z=>z.elim)) fun _ _ z=>z.elim))
  | false=>
   rw[if_neg Bool.false_ne_true] at h₄;rw[if_neg Bool.false_ne_true];exact wpAny_pure ⟨rfl,h₄⟩
theorem sO {env:Env}:(forIn (m:=Sem) ([]:List Expr) true fun c r=>if r=true then do let ok ←isTrue c env (eval c env);pure (ForInStep.yield ok) else pure (ForInStep.yield r))=pure true:=rfl
end
theorem BC {b a c:Nat}(h:b<a)(e:c=a+1):b≠c:=by omega
theorem yu {b a c:Nat}(h:b<c)(e:c=a):a≠b:=by omega
theorem o8 {b a c:Nat}(h:b<c)(e:c=a):b≠a:=by omega
abbrev fS (its:List Value)(n:Nat):Obj:={cls:=.type "list",data:=.seq its.toArray n}
section
variable {X:Cx}{af:List (Addr×Obj)}{σ:L2.St}{s:Shared}{scope:Scope}{xs:List Str}{tg:Expr}{sg:GG}{R:List Str}{elt iter:Expr}{ifs:List Expr}{pos:Pos}{E:Value→Shared→Prop}
theorem Ao {K:W.Frag}{θ:List Addr}{H:Hp}{σ:L2.St}{ρ:bC}{n:Nat}(h:ie K θ H σ ρ):ie K θ H (List.replicate n none++σ) (List.replicate n none++ρ):=by
 refine⟨by rw[length_append,length_append,length_replicate,length_replicate,h.len],fun i d e=>?_⟩
 by_cases hi:i<n
 ·rw[getElem?_append_left (by rw[length_replicate];exact hi),getElem?_replicate,if_pos hi] at e;cases e
 ·rw[getElem?_append_right (by rw[length_replicate];omega),length_replicate] at e ⊢;exact h.at_ _ d e
inductive JX (X0:Cx) (fp:List Addr) (tn:Nat→Heap→Prop) (K:W.Frag) (acc:Addr) (t:mn) (ρ0:bC) (θ1:List Addr) (H2:Hp) (es:List D) (go:List D→aq→aU (List D)) (Mend:aq) (n:Nat) (s':Shared):Prop
 | mk (i:Nat) (τ:L2.St) (H':Hp) (θ':List Addr) (M':aq) (ds rest:List D) (vs:List V) (its:List Value) (na:Nat) (e1:n=t.ds.length-i) (e2:i≤t.ds.length)
   (e3:L2.Inv X0 [(acc,fS its na)] τ H' s') (e4:ie K θ' H' τ ρ0) (e5:tn i s'.heap) (e6:∀b∈fp,H' b=none) (e7:Go K θ1 H2 θ' H' M') (e8:a9 K θ' H' ds vs) (e9:aK vs its) (e10:go (t.ds.drop i) M'=.ok rest Mend) (e11:ds++rest=es)
theorem mT {fp:List Addr}{it:Addr}{tn:Nat→Heap→Prop}{J:It}{H2:Hp}{s2:Shared}{t:mn}{M1:aq}{θ1:List Addr}{ρ:bC}{gc:GT}{ge:GE}{es:List D}{Mend:aq}{RR:Value→Addr→Result→Shared→Prop}
  (S:bW scope X.env.kindOf xs R X.N) (hc:X.calm=true) (I2:L2.Inv X af σ H2 s2) (T:vK X.prog X.w X.K tg J fp it tn) (st2:tn 0 s2.heap) (f2:∀b∈fp,l5 X af H2 b)
  (hw1:Wr X.K θ1 H2 M1) (hd1:ie X.K θ1 H2 σ ρ) (hJ:AT X.K J θ1 H2 t) (hgo:aT t xs.length sg gc ge t.ds ρ M1=.ok es Mend) (hlen:es.length≤sizeLine)
  (hcd:∀C,∃cond,(forIn (m:=Sem) ifs true fun c r=>if r=true then do let ok ←isTrue c (az X scope xs R fp s2 H2 C).env (eval c (az X scope xs R fp s2 H2 C).env);pure (ForInStep.yield ok) else pure (ForInStep.yield r))=cond∧
   ∀(af:List (Addr×Obj)) (s:Shared) (σ:L2.St) (H:Hp) (Q:Bool→Hp→Prop),L2.Inv (az X scope xs R fp s2 H2 C) af σ H s→tT (az X scope xs R fp s2 H2 C) gc σ H Q→wpAny (model X.prog X.w) X.A cond (TP (az X scope xs R fp s2 H2 C) af σ Q) (fun _ _=>False) s)
  (own:p8 xs.length sg) (hg:∀C,PG (az X scope xs R fp s2 H2 C) tg (tG (az X scope xs R fp s2 H2 C) sg))
  (he:∀C,PE (az X scope xs R fp s2 H2 C) elt (tE (az X scope xs R fp s2 H2 C) ge))
  (fin:∀(acc C:Addr) (s':Shared) (H':Hp) (θ':List Addr) (vs:List V) (m:Str→Option Value),L2.Inv X af σ (bE H' acc (.lst vs)) s'→s'.heap.Ns C m→l5 X af (bE H' acc (.lst vs)) C→Go X.K θ1 H2 θ' H' Mend→H' acc=none→a9 X.K θ' H' es vs→RR (.ref acc) C (.ok .next) s') :
  wpAny (model X.prog X.w) X.A (newList []) (fun acc s₃=>wpAny (model X.prog X.w) X.A (newFunctionEnv scope X.env.globals (dj X.env.cells scope.names []) [] X.env.qual none .none (some X.env)) (fun cenv s₄=>
   codeAny (model X.prog X.w) X.A (.compStart (.ListComp elt [⟨tg,iter,ifs,0⟩] scope pos) 0 (.ref it) acc {cenv with scope:=relabel scope X.env}) (RR acc cenv.locals) s₄) E s₃) E s2:=by
 refine wpAny_newObj_type (wpAny_newFunctionEnv S.nocell (by intro y hy;simp at hy) (fun h₁ hns₁ hsb₁=>?_) S.kind);dsimp only at hns₁ hsb₁ ⊢;generalize hHp:s2.heap.push {cls:=.type "list",dict:=none,data:=.seq ([]:List Value).toArray}=Hp2 at hns₁ hsb₁ ⊢;have hCe:Hp2.objs.size=s2.heap.objs.size+1:=by rw[←hHp,Heap.size_push]
 generalize hCd:Hp2.objs.size=C at hns₁ hsb₁ hCe ⊢;generalize hAd:s2.heap.objs.size=acc at hCe ⊢;have hDC:acc≠C:=by rw[hCe];exact Nat.ne_of_lt (Nat.lt_succ_self _)
 have old:∀b o,s2.heap.get? b=some o→h₁.get? b=some o:=fun b o e=>by
  have hb:b<acc:=by rw[←hAd];exact Heap.lt_size e
  refine hsb₁.extBut b o (BC hb hCe) (Heap.get?_push_of_some _ ?_);rw[←hHp];exact Heap.get?_push_of_some _ e
 have hacc0:h₁.get? acc=some (fS [] 0):=by
  refine hsb₁.extBut acc _ hDC (Heap.get?_push_of_some _ ?_);rw[←hHp,←hAd];exact Heap.get?_push_size _ rfl
 have hfl:∀b∈fp,b<s2.heap.objs.size:=fun b hb=>by
  obtain⟨o,e,_⟩:=T.obj 0 _ st2 b hb;exact Heap.lt_size e
 have hCs:s2.heap.objs.size≤C:=by omega
 have IY0:L2.Inv (az X scope xs R fp s2 H2 C) [] (List.replicate xs.length none++σ) H2 {s2 with heap:=h₁,toks:=s2.toks+([]:List (Str×Value)).length}:=wY S I2 hCs old hns₁ f2 hfl;obtain⟨cond,hcond,hct⟩:=hcd C;have fpY:∀{H':Hp} {p:Obj},(∀b∈fp,H' b=none)→∀b∈fp,l5 (az X scope xs R fp s2 H2 C) [(acc,p)] H' b:=fun {H' p} hn b hb=>by
  refine⟨hn b hb,?_,fun z=>?_,.inl hb,fun y c e=>?_,fun q hq=>?_⟩
  ·exact Nat.ne_of_lt (Nat.lt_of_lt_of_le (hfl b hb) hCs)
  ·rcases mem_cons.mp (I2.stkSub b z) with e|e
   ·exact(f2 b hb).2.1 e
   ·exact(f2 b hb).2.2.1 e
  ·exact(f2 b hb).2.2.2.2.1 y c (cx S I2 e)
  ·have hq:q∈([]:List (Addr×Obj))++[(acc,p)]:=hq;have e:q=(acc,p):=by simpa using hq
   rw[e];exact yu (hfl b hb) hAd
 have accF:∀b∈mJ X.stack,acc≠b:=fun b hb e=>by
  have:acc∉X.env.locals::X.fs:=by
   intro z;rcases mem_cons.mp z with z|z
   ·exact yu I2.lt hAd z
   ·exact I2.nofs (Nat.le_of_eq hAd) z
  exact this (e▸I2.stkSub b hb)
 have loop:∀s₃:Shared,s₃={s2 with heap:=h₁,toks:=s2.toks+([]:List (Str×Value)).length}→
   codeAny (model X.prog X.w) X.A (.compLoop (.ListComp elt [⟨tg,iter,ifs,0⟩] scope pos) 0 (.ref it) (.ref acc) (az X scope xs R fp s2 H2 C).env) (RR (.ref acc) C) s₃:=by
  rintro s₃ rfl;have pin0:∀{σ':L2.St} {H':Hp} {s':Shared} {its:List Value} {n:Nat},L2.Inv (az X scope xs R fp s2 H2 C) [] σ' H' s'→s'.heap.get? acc=some (fS its n)→H' acc=none→L2.Inv (az X scope xs R fp s2 H2 C) [(acc,fS its n)] σ' H' s':=fun {σ' H' s' its n} I' e hn=>
   I'.pins_of fun p hp=>by
    have ep:p=(acc,fS its n):=by simpa using hp
    subst ep;exact⟨e,hn,hDC,fun z=>accF acc z rfl,fun v z=>by cases z⟩
  refine i7 hcond (JX (az X scope xs R fp s2 H2 C) fp tn X.K acc t (List.replicate xs.length none++ρ) θ1 H2 es (fun l N=>aT t xs.length sg gc ge l ρ N) Mend) ?_ t.ds.length
   ⟨0,_,H2,θ1,M1,[],es,[],[],0,rfl,Nat.zero_le _,pin0 IY0 hacc0 (I2.hok.fresh (Nat.le_of_eq hAd)),Ao hd1,T.keep 0 _ _ st2 (fun b hb o e=>old b o e),fun b hb=>(f2 b hb).1,.refl hw1,rfl,.nil,hgo,rfl⟩
  rintro n s' ⟨i,τ,H',θ',M',ds,rest,vs,its,na,rfl,hil,I',dn',st',fr',g',rd',rv',hrest,hes⟩;have hok:t.ok M'=true:=by
   cases hq:t.ok M' with
   | true=>rfl
   | false=>
    exfalso;cases hdr:t.ds.drop i with
    | nil=>rw[hdr,aT,if_neg (by rw[hq];exact Bool.false_ne_true)] at hrest;cases hrest
    | cons d r=>rw[hdr,aT,if_neg (by rw[hq];exact Bool.false_ne_true)] at hrest;cases hrest
  obtain⟨hy,hst⟩:=hJ θ' H' M' g' hok i
  by_cases hlt:i<t.ds.length
  ·have e1:t.ds[i]?=some t.ds[i]:=getElem?_eq_getElem hlt;obtain⟨hgo',hyl⟩:=hy _ e1;rw[drop_eq_getElem_cons hlt,aT,if_pos hok] at hrest;refine cj (T.item (az X scope xs R fp s2 H2 C) rfl rfl rfl hc i _ s' _ H' _ I' (fpY fr') st' hgo') fun r s4 hxx=>?_
   obtain⟨u,hr,h4⟩:=hxx;subst hr;refine cj h4 fun _ s5 hxx=>?_
   obtain⟨v,H5,I5,r5,y5,st5,fr5⟩:=hxx;obtain⟨gy,rx⟩:=hyl v H5 y5;have I5':=I5.pinned (fpY fr5) (T.obj _ _ st5);cases qs:sg t.ds[i] (List.replicate xs.length none++ρ) with
   | none=>rw[qs] at hrest;cases hrest
   | some ρ1=>
   rw[qs] at hrest;dsimp only at hrest;refine cj (hg C _ s5 _ H5 v u (fun σ6 H6=>ie X.K θ' H6 σ6 ρ1∧H6=H5) I5' r5 ⟨_,θ',M',t.ds[i],dn'.go gy,gy.wr,rx,ρ1,qs,fun σ6 d6=>⟨d6,rfl⟩⟩) fun _ s6 hxx=>?_
   obtain⟨σ6,H6,I6,hdY,eH6⟩:=hxx;subst eH6;cases qc:gc ρ1 M' with
   | bad=>rw[qc] at hrest;cases hrest
   | err c Mx=>rw[qc] at hrest;cases hrest
   | ok b Mb=>
    refine cj (hct _ s6 _ H6 (fun b' H7=>b'=b∧∃θ7,Go X.K θ' H6 θ7 H7 Mb) I6 ⟨_,θ',M',hdY,gy.wr,?_⟩) fun ok s7 ⟨H7,I7,eb,θ7,g7⟩=>?_
    ·rw[qc];exact fun θ7 H7 g7=>⟨rfl,θ7,g7⟩
    subst eb;have fpk:∀{s8:Shared} {σ8:L2.St} {H8:Hp},L2.Inv (az X scope xs R fp s2 H2 C) ([(acc,fS its na)]++nc fp s5.heap) σ8 H8 s8→(∀b∈fp,H8 b=none)∧(∀b∈fp,∀o,s5.heap.get? b=some o→s8.heap.get? b=some o)∧s8.heap.get? acc=some (fS its na)∧H8 acc=none:=fun {s8 σ8 H8} I8=>by
     have pa:=I8.pin (acc,fS its na) (mem_append_right _ (mem_append_left _ (by simp)));refine⟨fun b hb=>?_,fun b hb o e=>(I8.pin (b,o) (mem_append_right _ (mem_append_right _ (iu hb e)))).1,pa.1,pa.2.1⟩;obtain⟨o,e,d⟩:=T.obj _ _ st5 b hb;exact(I8.pin (b,o) (mem_append_right _ (mem_append_right _ (iu hb e)))).2.1
    cases ok with
    | false=>
     rw[if_neg Bool.false_ne_true];rw[qc] at hrest;obtain⟨k1,k2,k3,k4⟩:=fpk I7;exact⟨t.ds.length-(i+1),by omega,i+1,σ6,H7,θ7,Mb,ds,rest,vs,its,na,rfl,hlt,I7.unpinned,own.back qs (hdY.go g7),T.keep _ _ _ st5 k2,k1,g'.trans (gy.trans g7),rd'.go (gy.trans g7),rv',hrest,hes⟩
    | true=>
     rw[if_pos rfl];rw[qc] at hrest;have hrest:(match ge ρ1 Mb with
      | .ok e M2=>(aT t xs.length sg gc ge (t.ds.drop (i+1)) ρ M2).bind fun es M3=>.ok (e::es) M3
      | _=>.bad)=aU.ok rest Mend:=hrest
     cases qe:ge ρ1 Mb with
     | bad=>rw[qe] at hrest;cases hrest
     | err c Mx=>rw[qe] at hrest;cases hrest
     | ok dv Mv=>
      rw[qe] at hrest;have hrest:((aT t xs.length sg gc ge (t.ds.drop (i+1)) ρ Mv).bind fun es M3=>aU.ok (dv::es) M3)=aU.ok rest Mend:=hrest;refine cj (he C _ s7 _ H7 (fun w H8=>∃θ8,Go X.K θ7 H7 θ8 H8 Mv∧cX X.K θ8 H8 dv w) I7 ⟨_,θ7,Mb,hdY.go g7,g7.wr,?_⟩) fun uv s8 ⟨w,H8,I8,rw8,θ8,g8,rd8⟩=>?_
      ·rw[qe];exact fun w θ8 H8 g8 rd8=>⟨θ8,g8,rd8⟩
      obtain⟨k1,k2,k3,k4⟩:=fpk I8;cases qr:aT t xs.length sg gc ge (t.ds.drop (i+1)) ρ Mv with
      | bad=>rw[qr] at hrest;cases hrest
      | err c Mx=>rw[qr] at hrest;cases hrest
      | ok rest' Mr=>
       rw[qr] at hrest;have hrest:aU.ok (dv::rest') Mr=aU.ok rest Mend:=hrest;cases hrest;have hsz:its.length<sizeLine:=by
        have e2:(ds++dv::rest').length≤sizeLine:=by rw[hes];exact hlen
        rw[length_append,length_cons,aw rd',rv'.length] at e2;omega
       refine call_meets F.slot_list_append ⟨_,k3,rfl⟩ F.entry_list_append (F.args_list_append_2 _ _) (PySem.list_append acc its.toArray na uv (by rw[size_toArray];omega)) ⟨k3,?_⟩;have qup:=PySem.IsL.update k3 (fun a=>a.push uv);have eup:(its.toArray.push uv)=(its++[uv]).toArray:=by simp
       have keepb:∀b o,b≠acc→s8.heap.get? b=some o→(s8.heap.update acc (Obj.mapSeq fun a=>a.push uv)).get? b=some o:=fun b o hb e=>(Heap.get?_update_other s8.heap _ (Ne.symm hb)).trans e
       have I9:L2.Inv (az X scope xs R fp s2 H2 C) [] σ6 H8 {s8 with heap:=s8.heap.update acc (Obj.mapSeq fun a=>a.push uv),toks:=s8.toks}:=by
        refine Inv.turned (it:=acc) (I8.pins_of (pins':=[]) fun p hp=>absurd hp (by simp)) keepb k4 hDC (.inr (Nat.le_of_eq hAd)) (fun y c e z=>?_) fun p hp=>absurd (show p∈([]:List (Addr×Obj)) from hp) (by simp)
        obtain⟨v',o,ho,hdd⟩:=I2.cell y c (cx S I2 e);exact o8 (Heap.lt_size ho) hAd z
       obtain⟨n',eq'⟩:∃n',(s8.heap.update acc (Obj.mapSeq fun a=>a.push uv)).get? acc=some (fS (its++[uv]) n'):=by
        have q2:=qup;rw[eup] at q2;exact⟨_,q2⟩
       exact⟨t.ds.length-(i+1),by omega,i+1,σ6,H8,θ8,Mv,ds++[dv],rest',vs++[w],its++[uv],n',rfl,hlt,pin0 I9 eq' k4,own.back qs (hdY.go (g7.trans g8)),T.keep _ _ _ st5 (fun b hb o e=>keepb b o (o8 (hfl b hb) hAd) (k2 b hb o e)),k1,g'.trans (gy.trans (g7.trans g8)),cS (rd'.go (gy.trans (g7.trans g8))) ⟨w,[],rfl,rd8,rfl⟩,rv'.append (.cons rw8 .nil),qr,by rw[←hes];simp⟩
  ·have e:i=t.ds.length:=by omega
   subst e;rw[drop_length,aT,if_pos hok] at hrest;cases hrest;have hes:ds=es:=by rw[←hes];simp
   subst hes;refine cj (T.done (az X scope xs R fp s2 H2 C) rfl rfl rfl hc _ _ s' _ H' _ I' (fpY fr') st' (hst (Nat.le_refl _))) fun r s4 hxx=>?_
   obtain⟨hr,I4⟩:=hxx;subst hr;have pa:=I4.pin (acc,fS its na) (mem_append_right _ (by simp));have e4:s4.heap.get? acc=some (fS its na):=pa.1;have n4:H' acc=none:=pa.2.1;have lv:vs.length≤sizeLine:=by rw[←aw rd'];exact hlen
   obtain⟨mC,hnC,_⟩:=I4.loc;have hHC:H' C=none:=I4.free;have wg:Un (mJ X.stack) fp H2 H' s2.heap s4.heap:=I4.base;have neA:∀{b:Addr} {o:Obj},s2.heap.get? b=some o→b≠acc:=fun {b o} e=>o8 (Heap.lt_size e) hAd
   have neH:∀{b:Addr} {u:HO},H' b=some u→b≠acc:=fun {b u} e z=>by rw[z,n4] at e;cases e
   have un4:Un (mJ X.stack) fp H2 (bE H' acc (.lst vs)) s2.heap s4.heap:=by
    refine⟨wg.keep,wg.slot,fun b o e n hx=>?_,wg.there,fun b xs e=>?_,fun b o u e=>?_,fun b ps e=>?_⟩
    ·rw[ao (neA e)];exact wg.free b o e n hx
    ·have z:=wg.tups b xs e;rw[ao (neH z)];exact z
    ·have z:=wg.frzs b o u e;rw[ao (neH z)];exact z
    ·obtain⟨more,z⟩:=wg.tbls b ps e;exact⟨more,by rw[ao (neH z)];exact z⟩
   have hok4:jF X.prog X.w (bE H' acc (.lst vs)) s4.heap:=fun b u e=>by
    by_cases hb:b=acc
    ·subst hb;rw[bO] at e;cases e;exact⟨lv,its,na,rv',e4⟩
    ·rw[ao hb] at e;exact(I4.hok b u e).stay (fun c v _ q=>q) (fun c q=>by rw[ao (neH q)];exact q) fun c xs q=>by rw[ao (neH q)];exact q
   have IX:L2.Inv X af σ (bE H' acc (.lst vs)) s4:=I2.call' (ch:=fp) I4.os un4 hok4 I4.bare fun b hb=>⟨(f2 b hb).2.2.2.1,(f2 b hb).2.1,(f2 b hb).2.2.2.2.1,(f2 b hb).2.2.2.2.2⟩
   refine fin acc C s4 H' θ' vs mC IX hnC (I2.fpOk hCs ?_) g' n4 rd';rw[ao (Ne.symm hDC)];exact hHC
 exact codeAny_compStart_list (loop _ rfl) (T.self _ 0 _ _ _ (T.keep 0 _ _ st2 fun b hb o e=>old b o e) (loop _ rfl))
end
section
variable {X:Cx}{scope:Scope}{xs:List Str}{tg:Expr}{sg:GG}{x:Str}{px:Pos}{R:List Str}{elt iter:Expr}{ifs:List Expr}{pos:Pos}{gi:GI}{gc:GT}{ge:GE}
def E3 (mk:List D→aq→aU D):Prop:=∀(X:Cx) (θ:List Addr) (H:Hp) (Q:VK) (ds:List D) (M:aq) (vs:List V),aE X θ H Q (mk ds M)→Wr X.K θ H M→a9 X.K θ H ds vs→vs.length≤sizeLine∧∀p,H p=none→Q (.ref p) (bE H p (.lst vs))
theorem ye:E3 aR:=fun X θ H Q ds M vs h hw r=>aE.lst h hw r
theorem yQ:E3 dI:=fun X θ H Q ds M vs h hw r=>aE.mut h hw r
theorem zp {mk:List D→aq→aU D}(hm:mk=aR∨mk=dI){X:Cx}{θ:List Addr}{H:Hp}{Q:VK}{ds:List D}{M:aq}(h:aE X θ H Q (mk ds M)):ds.length≤sizeLine:=by
 rcases hm with e|e <;> subst e
 ·unfold aR at h;split at h
  ·assumption
  ·exact h.elim
 ·unfold dI at h;split at h
  ·assumption
  ·exact h.elim
theorem Co {mk:List D→aq→aU D}(hm:mk=aR∨mk=dI):E3 mk:=by
 rcases hm with e|e <;> subst e
 ·exact ye
 ·exact yQ
def ji (X:Cx)(scope:Scope)(xs:List Str)(R:List Str)(ifs:List Expr)(gc:GT):Prop:=∀fp s2 H2 C,∃cond,(forIn (m:=Sem) ifs true fun c r=>if r=true then do let ok ←isTrue c (az X scope xs R fp s2 H2 C).env (eval c (az X scope xs R fp s2 H2 C).env);pure (ForInStep.yield ok) else pure (ForInStep.yield r))=cond∧
   ∀(af:List (Addr×Obj)) (s:Shared) (σ:L2.St) (H:Hp) (Q:Bool→Hp→Prop),L2.Inv (az X scope xs R fp s2 H2 C) af σ H s→tT (az X scope xs R fp s2 H2 C) gc σ H Q→wpAny (model X.prog X.w) X.A cond (TP (az X scope xs R fp s2 H2 C) af σ Q) (fun _ _=>False) s
theorem xD:ji X scope xs R [] bK:=fun fp s2 H2 C=>⟨_,sO,fun af s σ H Q I ⟨ρ,θ,M,hd,hw,h⟩=>wpAny_pure ⟨H,I,h θ H (.refl hw)⟩⟩
theorem hG {t:mn}{n:Nat}{sg:GG}{gc:GT}{ge:GE}{ρ:bC}{c:Str}{M':aq}:∀(ds:List D) (M:aq),aT t n sg gc ge ds ρ M=.err c M'→False
 | [],M,h=>by
  unfold aT at h;split at h <;> cases h
 | d::r,M,h=>by
  unfold aT at h;split at h
  ·split at h
   ·cases h
   ·split at h
    ·rename_i M1 q1;split at h
     ·rename_i e M2 q2;cases q:aT t n sg gc ge r ρ M2 with
      | ok es M3=>rw[q] at h;cases h
      | err c2 M3=>exact hG r M2 q
      | bad=>rw[q] at h;cases h
     ·cases h
    ·rename_i M1 q1;exact hG r M1 h
    ·cases h
  ·cases h
theorem qy {mk:List D→aq→aU D}(hS:cB scope X.env.kindOf xs R X.N=true)(hc:X.calm=true)(hm:mk=aR∨mk=dI)(hi:PI X tg iter (tI X gi))(own:p8 xs.length sg)(hg:∀fp s H C,PG (az X scope xs R fp s H C) tg (tG (az X scope xs R fp s H C) sg))(hts:ji X scope xs R ifs gc)
  (he:∀fp s H C,PE (az X scope xs R fp s H C) elt (tE (az X scope xs R fp s H C) ge))
  (hs:∀x,foldedSetIterable iter X.env x=pure x:=by intro _;rfl):PE X (.ListComp elt [⟨tg,iter,ifs,0⟩] scope pos) (tE X (cA gi xs.length sg gc ge mk)):=by
 have S:=bW.of hS;intro af s σ H Q I h;obtain⟨ρ,θ,M,hd,hw,h⟩:=h;rw[eval_ListComp];refine wpAny_comprehension_free (use:=none) rfl hs (kT (S.cells I)) S.kind S.lnames ?_;refine cj (hi af s σ H (fun J H2=>∃t M1 θ1,gi ρ M=.ok t M1∧Go X.K θ H θ1 H2 M1∧AT X.K J θ1 H2 t) I ⟨ρ,θ,M,hd,hw,?_⟩) fun v s1 h1=>cj h1 fun itv s2 h2=>?_
 ·cases q:gi ρ M with
  | ok t M1=>exact fun J θ1 H1 g1 hJ=>⟨t,M1,θ1,rfl,g1,hJ⟩
  | err c M1=>unfold cA at h;rw[q] at h;exact h
  | bad=>unfold cA at h;rw[q] at h;exact h
 obtain⟨it,fp,tn,J,H2,rfl,I2,T,st2,f2,t,M1,θ1,eg,g1,hJ⟩:=h2;unfold cA at h;rw[eg] at h;have h:aE X θ H Q ((aT t xs.length sg gc ge t.ds ρ M1).bind mk):=h;cases q:aT t xs.length sg gc ge t.ds ρ M1 with
 | bad=>rw[q] at h;exact h.elim
 | err c Mx=>exact(hG _ _ q).elim
 | ok es Mend=>
  rw[q] at h;have h:aE X θ H Q (mk es Mend):=h;refine mT (RR:=fun acc C=>compPost (model X.prog X.w) X.A X.xe none (EP X af σ Q) acc C) S hc I2 T st2 f2 g1.wr (hd.go g1) hJ q (zp hm h) (fun C=>hts fp s2 H2 C) own (fun C=>hg fp s2 H2 C) (fun C=>he fp s2 H2 C) ?_;intro acc C s' H' θ' vs m IX hnC fC g' na rd;refine⟨m,hnC,fun h' sb=>?_⟩;have I3:L2.Inv X af σ (bE H' acc (.lst vs)) {s' with heap:=h',toks:=s'.toks}:=IX.turned (it:=C) (fun b o hb e=>(sb.2 b hb).trans e) fC.1 fC.2.1 fC.2.2.2.1 fC.2.2.2.2.1 fC.2.2.2.2.2;exact⟨.ref acc,_,I3,rfl,(Co hm X θ' H' Q es Mend vs (aE.go (g1.trans g') h) g'.wr rd).2 acc na⟩
theorem qZ {mk:List D→aq→aU D}{j:Nat}{y:Str}{py spos:Pos}(hS:cB scope X.env.kindOf xs R X.N=true)(hc:X.calm=true)(hm:mk=aR∨mk=dI)(hi:PI X tg iter (tI X gi))(own:p8 xs.length sg)(hg:∀fp s H C,PG (az X scope xs R fp s H C) tg (tG (az X scope xs R fp s H C) sg))(hts:ji X scope xs R ifs gc)
  (he:∀fp s H C,PE (az X scope xs R fp s H C) elt (tE (az X scope xs R fp s H C) ge))
  (hN:X.N.Nodup) (hj:X.N[j]?=some y) (hy:X.env.scope.names.lookup y=some .local)
  (hsw:swapsWith (.ListComp elt [⟨tg,iter,ifs,0⟩] scope pos) (some (.Name y py)) spos.line X.env=pure true)
  (hs:∀x,foldedSetIterable iter X.env x=pure x:=by intro _;rfl):PS X (.Assign [.Name y py] (.ListComp elt [⟨tg,iter,ifs,0⟩] scope pos) spos) (tS X (aG j (cA gi xs.length sg gc ge mk))):=by
 have S:=bW.of hS;intro af s σ H Q I h;obtain⟨ρ,θ,M,hd,hw,h⟩:=h;rw[exec_Assign_Name_used _ _ _ _ hsw];refine wpAny_bind (wpAny_standAt (wpAny_bind ?_));show wpAny _ X.A (do let _ ←comprehension (.ListComp elt [⟨tg,iter,ifs,0⟩] scope pos) scope X.env _ (newList []) false (eval iter X.env) (some (assign (.Name y py) X.env))) _ _ s;refine wpAny_bind (wpAny_mono (wpAny_comprehension_free (use:=some (assign (.Name y py) X.env)) (Q:=fun _ s'=>SP X af Q .next s') rfl hs (kT (S.cells I)) S.kind S.lnames ?_) (fun _ s' hq=>wpAny_pure (wpAny_pure hq)) fun _ _ e=>e);refine cj (hi af s σ H (fun J H2=>∃t M1 θ1,gi ρ M=.ok t M1∧Go X.K θ H θ1 H2 M1∧AT X.K J θ1 H2 t) I ⟨ρ,θ,M,hd,hw,?_⟩) fun v s1 h1=>cj h1 fun itv s2 h2=>?_
 ·cases q:gi ρ M with
  | ok t M1=>exact fun J θ1 H1 g1 hJ=>⟨t,M1,θ1,rfl,g1,hJ⟩
  | err c M1=>unfold aG cA at h;rw[q] at h;exact h
  | bad=>unfold aG cA at h;rw[q] at h;exact h
 obtain⟨it,fp,tn,J,H2,rfl,I2,T,st2,f2,t,M1,θ1,eg,g1,hJ⟩:=h2;unfold aG cA at h;rw[eg] at h;have h:bU X θ H Q (((aT t xs.length sg gc ge t.ds ρ M1).bind mk).bind fun d M2=>.ok (.nx (ρ.set j (some d))) M2):=h;cases q:aT t xs.length sg gc ge t.ds ρ M1 with
 | bad=>rw[q] at h;exact h.elim
 | err c Mx=>exact(hG _ _ q).elim
 | ok es Mend=>
  rw[q] at h;have h:bU X θ H Q ((mk es Mend).bind fun d M2=>.ok (.nx (ρ.set j (some d))) M2):=h;have hE:aE X θ H (fun v H'=>∃θ' M',Go X.K θ H θ' H' M'∧∃d,mk es Mend=.ok d M'∧cX X.K θ' H' d v) (mk es Mend):=by
   cases qm:mk es Mend with
   | ok d M2=>exact fun v θ' H' g' r=>⟨θ',M2,g',d,rfl,r⟩
   | err c M2=>rw[qm] at h;exact h
   | bad=>rw[qm] at h;exact h
  refine mT (RR:=fun acc C=>compPost (model X.prog X.w) X.A X.xe (some (assign (.Name y py) X.env)) (fun _ s'=>SP X af Q .next s') acc C) S hc I2 T st2 f2 g1.wr (hd.go g1) hJ q (zp hm hE) (fun C=>hts fp s2 H2 C) own (fun C=>hg fp s2 H2 C) (fun C=>he fp s2 H2 C) ?_;intro acc C s' H' θ' vs m IX hnC fC g' na rd;obtain⟨θe,Me,ge',d,ed,rde⟩:=(Co hm X θ' H' _ es Mend vs (aE.go (g1.trans g') hE) g'.wr rd).2 acc na;show wpAny _ X.A (assign (.Name y py) X.env (.ref acc)) _ _ s';refine wpAny_assign_Name (oA IX hN hj (.inl hy) (v:=.ref acc) rfl (fun s3 I3 hxx=>?_) (.inr hy));obtain⟨a,sa,ha⟩:=hxx;have hCa:C≠a:=by
   rcases ha with e|e
   ·rw[e];exact fC.2.1
   ·exact fun z=>fC.2.2.2.2.1 y a e z.symm
  refine⟨m,hnC.sameBut sa hCa,fun h' sb=>?_⟩;have I4:L2.Inv X af (σ.set j (some (.ref acc))) (bE H' acc (.lst vs)) {s3 with heap:=h',toks:=s3.toks}:=I3.turned (it:=C) (fun b o hb e=>(sb.2 b hb).trans e) fC.1 fC.2.1 fC.2.2.2.1 fC.2.2.2.2.1 fC.2.2.2.2.2;rw[ed] at h;exact⟨_,_,I4,h _ θe _ ge' ((hd.go ge').set rde j)⟩
theorem uZ {px:Pos}(hS:cB scope X.env.kindOf [x] R X.N=true)(fp:List Addr)(s:Shared)(H:Hp)(C:Addr):PG (az X scope [x] R fp s H C) (.Name x px) (tG (az X scope [x] R fp s H C) (gK 0)):=
 have S:=bW.of hS
 pF (X:=az X scope [x] R fp s H C) S.nd rfl (.inl (lookup_relabel_local (S.own x (by simp)))) (.inr (lookup_relabel_local (S.own x (by simp))))
theorem ur (mk:List D→aq→aU D):bB gi gc ge mk=cA gi 1 (gK 0) gc ge mk:=by
 funext ρ M;unfold bB cA;simp only[qw]
theorem Bl {mk:List D→aq→aU D}(hS:cB scope X.env.kindOf [x] R X.N=true)(hc:X.calm=true)(hm:mk=aR∨mk=dI)(hi:PI X (.Name x px) iter (tI X gi))(hts:ji X scope [x] R ifs gc)
  (he:∀fp s H C,PE (az X scope [x] R fp s H C) elt (tE (az X scope [x] R fp s H C) ge))
  (hs:∀x,foldedSetIterable iter X.env x=pure x:=by intro _;rfl):PE X (.ListComp elt [⟨.Name x px,iter,ifs,0⟩] scope pos) (tE X (bB gi gc ge mk)):=by
 rw[ur];exact qy (xs:=[x]) hS hc hm hi (uw (Nat.zero_lt_one)) (uZ hS) hts he hs
theorem sv {mk:List D→aq→aU D}{j:Nat}{y:Str}{py spos:Pos}(hS:cB scope X.env.kindOf [x] R X.N=true)(hc:X.calm=true)(hm:mk=aR∨mk=dI)(hi:PI X (.Name x px) iter (tI X gi))(hts:ji X scope [x] R ifs gc)
  (he:∀fp s H C,PE (az X scope [x] R fp s H C) elt (tE (az X scope [x] R fp s H C) ge))
  (hN:X.N.Nodup) (hj:X.N[j]?=some y) (hy:X.env.scope.names.lookup y=some .local)
  (hsw:swapsWith (.ListComp elt [⟨.Name x px,iter,ifs,0⟩] scope pos) (some (.Name y py)) spos.line X.env=pure true)
  (hs:∀x,foldedSetIterable iter X.env x=pure x:=by intro _;rfl):PS X (.Assign [.Name y py] (.ListComp elt [⟨.Name x px,iter,ifs,0⟩] scope pos) spos) (tS X (aG j (bB gi gc ge mk))):=by
 rw[ur];exact qZ (xs:=[x]) hS hc hm hi (uw (Nat.zero_lt_one)) (uZ hS) hts he hN hj hy hsw hs
end
def cD:List D→Option (List Bool)
 | []=>some []
 | .bl b::r=>(cD r).map (b::·)
 | _=>none
def hX:FD:=fun ds M=>match ds with
 | [d]=>match cb d M with
  | some xs=>match cD xs with
   | some bs=>.ok (.bl (bs.all id)) M
   | none=>.bad
  | none=>.bad
 | _=>.bad
theorem jK {K:W.Frag}{θ:List Addr}{H:Hp}:∀{ds:List D} {vs:List V} {us:List Value} {bs:List Bool},a9 K θ H ds vs→aK vs us→cD ds=some bs→us=bs.map Value.bool
 | [],vs,us,bs,r,q,e=>by
  have e1:vs=[]:=r;subst e1;cases q;cases e;rfl
 | d::ds,vs,us,bs,r,q,e=>by
  obtain⟨v,rr,e1,h1,h2⟩:=r;subst e1;cases d with
  | bl b=>
   cases qb:cD ds with
   | none=>simp[cD,qb] at e
   | some bs'=>
    simp[cD,qb] at e;subst e;have e2:v=.bl b:=h1;subst e2;cases q with
    | cons q1 q2=>
     cases q1;rw[map_cons,jK h2 q2 qb]
  | _=>simp[cD] at e
theorem wq (bs:List Bool):(List.range bs.length).all (fun i=>bs.getD i false)=bs.all id:=by
 rw[Bool.eq_iff_iff];simp only[all_eq_true,mem_range,id];constructor
 ·intro h b hb;obtain⟨i,hi,e⟩:=mem_iff_getElem.mp hb;have:=h i hi;rw[getD_eq_getElem?_getD,getElem?_eq_getElem hi] at this;rw[←e];exact this
 ·intro h i hi;rw[getD_eq_getElem?_getD,getElem?_eq_getElem hi];exact h _ (getElem_mem hi)
section
variable {X:Cx}
theorem lO {prog:Program}{w:World}{A:Around}(bs:List Bool):TruthOf prog w A (fun i v=>((bs.map Value.bool).toArray)[i]?=some v) (fun i=>bs.getD i false):=fun i v s Q E hP hQ=>by
 have hP:(bs.map Value.bool)[i]?=some v:=by simpa using hP
 rw[getElem?_map] at hP;cases q:bs[i]? with
 | none=>rw[q] at hP;cases hP
 | some b=>
  rw[q] at hP;cases hP;have e:bs.getD i false=b:=by rw[getD_eq_getElem?_getD,q];rfl
  dsimp only at hQ;rw[e] at hQ;exact wpAny_truthy_bool hQ
theorem rX {af:List (Addr×Obj)}{σ:L2.St}{H:Hp}{s:Shared}{d:D}{θ:List Addr}{M:aq}{xs:List D}{bs:List Bool}{v:V}{u:Value}(hc:X.calm=true)(I:L2.Inv X af σ H s)(hw:Wr X.K θ H M)(rv:cX X.K θ H d v)(ru:RelV v u)(q:cb d M=some xs)(qb:cD xs=some bs){Q:Bool→Hp→Prop}{f:(Nat→Bool)→Nat→Bool}{E:Value→Shared→Prop}
  (h:∀h' tk,L2.Inv X af σ H {s with heap:=h',toks:=tk}→Q (f (fun i=>bs.getD i false) bs.length) H) :
  wpAny (model X.prog X.w) X.A.in1 (pyIter u) (fun it s₂=>∃I fp wr n P St tr,it=.ref I∧Walks X.prog X.w X.A.in1 I fp wr n P St∧St 0 s₂.heap∧TruthOf X.prog X.w X.A.in1 P tr∧
   ∀h' tk,(∀b o,b∉wr→s₂.heap.get? b=some o→h'.get? b=some o)→EP X af σ (fun v H=>∃b,v=.bl b∧Q b H) (.bool (f tr n)) {s₂ with heap:=h',toks:=tk}) E s:=by
 have hh:X.A.in1.handled=none:=I.ok.hd hc;obtain⟨a,vs,ea,sq,ra⟩:=ph hw rv q;subst ea;cases ru;rcases sq with sq|sq
 ·obtain⟨its,r1,p,hz⟩:=I.list sq;have e:=jK ra r1 qb;subst e;have hlt:a<s.heap.objs.size:=by obtain⟨o,n,e,_⟩:=p;exact Heap.lt_size e
  refine wpAny_pyIter_list p.isList ⟨s.heap.objs.size,_,_,_,_,_,_,rfl,Walks.list hh s.heap.objs.size a (Nat.ne_of_lt hlt) _,⟨⟨_,Heap.get?_push_size _ rfl,rfl,rfl⟩,p.isList.push _⟩,lO bs,fun h' tk k=>?_⟩;have I':L2.Inv X af σ H {s with heap:=h',toks:=tk}:=I.kept fun b o e=>k b o (by have:=Heap.lt_size e;simp;exact Nat.ne_of_lt this) (Heap.get?_push_of_some _ e)
  refine⟨.bl _,H,I',rfl,_,rfl,?_⟩;have:=h h' tk I';simpa using this
 ·obtain⟨its,r1,p,hz⟩:=I.tuple sq;have e:=jK ra r1 qb;subst e;have hlt:a<s.heap.objs.size:=by obtain⟨o,e,_⟩:=p;exact Heap.lt_size e
  have pt:s.heap.IsTuple a (bs.map Value.bool).toArray:=p;refine wpAny_pyIter_tuple pt ⟨s.heap.objs.size,_,_,_,_,_,_,rfl,Walks.tuple hh s.heap.objs.size a (Nat.ne_of_lt hlt) _,⟨⟨_,Heap.get?_push_size _ rfl,rfl,rfl⟩,?_⟩,lO bs,fun h' tk k=>?_⟩
  ·obtain⟨o,e,r⟩:=p;exact⟨o,Heap.get?_push_of_some _ e,r⟩
  have I':L2.Inv X af σ H {s with heap:=h',toks:=tk}:=I.kept fun b o e=>k b o (by have:=Heap.lt_size e;simp;exact Nat.ne_of_lt this) (Heap.get?_push_of_some _ e)
  refine⟨.bl _,H,I',rfl,_,rfl,?_⟩;have:=h h' tk I';simpa using this
theorem Do (hc:X.calm=true):cF X (.builtin "all") (rC X hX):=by
 intro af s σ H xs us Q I r h;obtain⟨θ,M,ds,hw,rd,h⟩:=h;unfold hX at h;split at h
 ·rename_i d;obtain⟨v,e,rv⟩:=gM rd;subst e;obtain⟨u,rfl,ru⟩:=mS r;split at h
  ·rename_i ys q;split at h
   ·rename_i bs qb;refine cj (call_all_walk (rX hc I hw rv ru q qb (Q:=fun b H=>Q (.bl b) H) (f:=fun tr n=>(List.range n).all tr) (fun h' tk I'=>?_))) fun u' s' ⟨v',H',I',r',b,eb,q'⟩=>⟨v',H',I',r',by rw[eb];exact q'⟩
    rw[wq];exact h _ θ H (.refl hw) rfl
   ·exact h.elim
  ·exact h.elim
 ·exact h.elim
def Fs:D→Option String
 | .non=>some "NoneType"
 | .bl _=>some "bool"
 | .int _=>some "int"
 | .str _=>some "str"
 | .tup _=>some "tuple"
 | .lst _=>some "list"
 | .ro _=>some "list"
 | _=>none
def zO (d:D)(M:aq):Option String:=match d with
 | .mr k=>match M[k]? with
  | some (.lst _)=>some "list"
  | _=>none
 | d=>Fs d
def qV (t T:String):Bool:=t==T||(t=="bool"&&T=="int")
def eB (T:String)(g:GE):GE:=fun ρ M=>(g ρ M).bind fun d M1=>match zO d M1 with
 | some t=>.ok (.bl (qV t T)) M1
 | none=>.bad
def kK (T:String):Prop:=T="int"∨T="bool"∨T="str"∨T="tuple"∨T="list"
theorem dN (K:W.Frag){T:String}(hT:kK T):∀t∈["NoneType","bool","int","str","tuple","list"],W.kitOne K (.type t) (.type T)=some (qV t T):=by
 intro t ht;simp only[mem_cons,mem_nil_iff,or_false] at ht;rcases hT with rfl|rfl|rfl|rfl|rfl <;> rcases ht with rfl|rfl|rfl|rfl|rfl|rfl <;> rfl
theorem Ed {T:String}(hT:kK T):cF X (.builtin "isinstance") (fun xs H Q=>∃θ M d v,Wr X.K θ H M∧cX X.K θ H d v∧xs=[v,.ty T]∧aE X θ H Q (match zO d M with|some t=>.ok (.bl (qV t T)) M|none=>.bad)):=by
 intro af s σ H xs us Q I r h;obtain⟨θ,M,d,v,hw,rv,e,h⟩:=h;subst e;obtain⟨u,c,rfl,ru,rc⟩:=ul r;cases rc;have fin:∀t tk,zO d M=some t→EP X af σ Q (.bool (qV t T)) {s with toks:=tk}:=fun t tk e=>by
  rw[e] at h;exact⟨.bl _,H,I.tok _,rfl,h _ θ H (.refl hw) rfl⟩
 cases d with
 | non=>have e:v=.non:=rv;subst e;cases ru;exact W.kia_one W.kitx_none I.kIn True.intro (dN X.K hT "NoneType" (by simp)) (fun z=>nomatch z) fun tk=>fin _ tk rfl
 | bl b=>have e:v=.bl b:=rv;subst e;cases ru;exact W.kia_one W.kitx_bool I.kIn True.intro (dN X.K hT "bool" (by simp)) (fun z=>nomatch z) fun tk=>fin _ tk rfl
 | int i=>have e:v=.int i:=rv;subst e;obtain⟨t,rfl⟩:=ru;exact W.kia_one W.kitx_int I.kIn True.intro (dN X.K hT "int" (by simp)) (fun z=>nomatch z) fun tk=>fin _ tk rfl
 | str i=>have e:v=.str i:=rv;subst e;obtain⟨t,rfl⟩:=ru;exact W.kia_one W.kitx_str I.kIn True.intro (dN X.K hT "str" (by simp)) (fun z=>nomatch z) fun tk=>fin _ tk rfl
 | tup ds=>
  obtain⟨a,vs,e,ta,ra⟩:=rv;subst e;cases ru;obtain⟨its,_,⟨o,h1,h2,_⟩,_⟩:=I.tuple ta.sq;exact W.kia_one W.kitx_tuple I.kIn ⟨o,h1,h2⟩ (dN X.K hT "tuple" (by simp)) (fun z=>nomatch z) fun tk=>fin _ tk rfl
 | lst ds=>
  obtain⟨a,vs,e,ta,ra⟩:=rv;subst e;cases ru;obtain⟨its,_,⟨o,n,h1,h2,_⟩,_⟩:=I.list (ta.sq (K:=X.K));exact W.kia_one W.kitx_list I.kIn ⟨o,h1,h2⟩ (dN X.K hT "list" (by simp)) (fun z=>nomatch z) fun tk=>fin _ tk rfl
 | ro ds=>
  obtain⟨a,vs,e,ta,ra⟩:=rv;subst e;cases ru;obtain⟨its,_,⟨o,n,h1,h2,_⟩,_⟩:=I.list ta.sq;exact W.kia_one W.kitx_list I.kIn ⟨o,h1,h2⟩ (dN X.K hT "list" (by simp)) (fun z=>nomatch z) fun tk=>fin _ tk rfl
 | mr k=>
  obtain⟨a,e,ta⟩:=rv;subst e;cases ru;cases qm:M[k]? with
  | none=>simp only[zO,qm] at h;exact h.elim
  | some m=>
   cases m with
   | lst ys=>
    obtain⟨vs,hv,_⟩:=hw.at_ k a _ ta qm;obtain⟨its,_,⟨o,n,h1,h2,_⟩,_⟩:=I.list (X:=X) (xs:=vs) (.inl (.inl hv));exact W.kia_one W.kitx_list I.kIn ⟨o,h1,h2⟩ (dN X.K hT "list" (by simp)) (fun z=>nomatch z) fun tk=>fin _ tk (by simp only[zO,qm])
   | _=>simp only[zO,qm] at h;exact h.elim
 | exc c=>exact h.elim
 | any=>exact h.elim
theorem CN {T:String}{x:Str}{e:Expr}{p p2 pos:Pos}{g:GE}(hT:kK T)(hv:bootBuiltins x=some (.type T))(hg:Gl X x)(hm:X.mg x=none)(hgi:Gl X "isinstance")(hmi:X.mg "isinstance"=none)(he:PE X e (tE X g))
  (hn:x≠"__name__":=by decide) (hd:(x==("__debug__":Str))=false:=by decide) (hbi:bootBuiltins "isinstance"=some (.builtin "isinstance"):=by kernel_rfl) (hs:starEach [e,.Name x p2] X.env=(false,eval e X.env)::starEach [.Name x p2] X.env:=by rfl)
  (hs2:starEach [.Name x p2] X.env=(false,eval (.Name x p2) X.env)::starEach [] X.env:=by rfl) (hpl:(backTo pos (starEach [.Name x p2] X.env)).any (·.1)=false:=by rfl) :
  PE X (.Call (.Name "isinstance" p) [e,.Name x p2] [] pos) (tE X (eB T g)):=
 (kW (Ed hT) hgi hmi hbi (dY he (dY (uF hg hm hv (v:=.ty T) rfl hn hd) i5 hs2) hs) (by decide) (by decide) hs hpl).of fun σ H Q hxx=>by
  obtain⟨ρ,θ,M,hd,hw,h⟩:=hxx;refine bo hd hw (aE X θ H Q) (fun c M' h=>h) (fun h=>h) h fun d M1 v θ1 H1 g1 r1 h1=>?_
  exact⟨θ1,M1,d,v,g1.wr,r1,rfl,aE.go g1 h1⟩
end
def fQ:D→Bool
 | .non=>true
 | .bl _=>true
 | .int _=>true
 | .str _=>true
 | _=>false
def B6:D→V
 | .non=>.non
 | .bl b=>.bl b
 | .int i=>.int i
 | .str x=>.str x
 | _=>.non
theorem pc {K:W.Frag}{θ:List Addr}{H:Hp}{d:D}{v:V}(r:cX K θ H d v)(f:fQ d=true):v=B6 d∧gU v=true:=by
 cases d with
 | non=>have e:v=.non:=r;subst e;exact⟨rfl,rfl⟩
 | bl b=>have e:v=.bl b:=r;subst e;exact⟨rfl,rfl⟩
 | int b=>have e:v=.int b:=r;subst e;exact⟨rfl,rfl⟩
 | str b=>have e:v=.str b:=r;subst e;exact⟨rfl,rfl⟩
 | _=>cases f
theorem m3 {K:W.Frag}{θ:List Addr}{H:Hp}:∀{ds:List D} {vs:List V},a9 K θ H ds vs→ds.all fQ=true→vs=ds.map B6∧vs.all gU=true
 | [],vs,r,f=>by have e:vs=[]:=r;subst e;exact⟨rfl,rfl⟩
 | d::ds,vs,r,f=>by
  obtain⟨v,rr,e,h1,h2⟩:=r;subst e;rw[all_cons,Bool.and_eq_true] at f;obtain⟨e1,f1⟩:=pc h1 f.1;obtain⟨e2,f2⟩:=m3 h2 f.2;exact⟨by rw[map_cons,←e1,←e2],by rw[all_cons,f1,f2];rfl⟩
theorem uH {x y:D}(fx:fQ x=true)(fy:fQ y=true):ux (B6 x) (B6 y)=nF x y:=by
 cases x <;> first|exact ff fx|(cases y <;> first|exact ff fy|rfl)
section
variable {prog:Program}{w:World}{A:Around}{E:Value→Shared→Prop}{s:Shared}
theorem jE {α β:Type}{f:α→Option β}{g:α→β}:∀(l:List α),(∀k∈l,f k=some (g k))→l.filterMap f=l.map g
 | [],_=>rfl
 | k::l,h=>by rw[filterMap_cons,h k mem_cons_self,map_cons,jE l fun k' hk=>h k' (mem_cons_of_mem _ hk)]
theorem xI (xs:Array Value):((List.range xs.size).filterMap fun(k:Nat)=>xs[(((xs.size:Int)-1)+(k:Int)*(-1)).toNat]?).toArray=xs.toList.reverse.toArray:=by
 congr 1;have e:∀k∈List.range xs.size,xs[(((xs.size:Int)-1)+(k:Int)*(-1)).toNat]?=some (xs.toList.reverse.getD k .none):=fun k hk=>by
  have hk:=mem_range.mp hk;have e1:(((xs.size:Int)-1)+(k:Int)*(-1)).toNat=xs.size-1-k:=by omega
  rw[e1,getD_eq_getElem?_getD,getElem?_reverse (by simpa using hk)];simp;rw[Array.getElem?_eq_getElem (by omega)];rfl
 rw[jE _ e];apply ext_getElem
 ·simp
 ·intro i h1 h2;simp at h1 h2 ⊢;rw[getElem?_eq_getElem (by simpa using h2)];simp
end
theorem kX {K:W.Frag}{θ:List Addr}{H:Hp}:∀{ds:List D} {vs:List V},a9 K θ H ds vs→a9 K θ H ds.reverse vs.reverse
 | [],vs,r=>by have e:vs=[]:=r;subst e;exact rfl
 | d::ds,vs,r=>by
  obtain⟨v,rr,e,h1,h2⟩:=r;subst e;rw[reverse_cons,reverse_cons];exact cS (kX h2) ⟨v,[],rfl,h1,rfl⟩
section
variable {X:Cx}
def qx (k:Nat)(x:D)(M:aq):aU D:=match M[k]? with
 | some (.lst xs)=>if xs.length<sizeLine then .ok .non (M.set k (.lst (xs++[x]))) else .bad
 | _=>.bad
def j8 (go ge:GE):GE:=fun ρ M=>(go ρ M).bind fun o M1=>match o with
 | .mr k=>match M1[k]? with
  | some (.lst _)=>(ge ρ M1).bind (qx k)
  | _=>.bad
 | _=>.bad
theorem vH {o e:Expr}{go ge:GE}{apos cpos:Pos}(ho:PE X o (tE X go))(he:PE X e (tE X ge))
  (hbase:attributeBase o "append" X.env (eval o X.env)=eval o X.env:=by rfl)
  (hfew:((backTo cpos (starEach [e] X.env)).all (fun x=>!x.1)&&(backToKw cpos (keywordEach [] X.env)).all (fun x=>x.1.isSome)
   && decide ([e].length+([]:List Keyword).length+(if([]:List Keyword).isEmpty then 0 else 1)<30))=true:=by rfl)
  (hline:(apos.endLine==cpos.line)=true:=by rfl) (hs:starEach [e] X.env=(false,eval e X.env)::starEach [] X.env:=by rfl) (hplain:(backTo cpos (starEach [] X.env)).any (·.1)=false:=by rfl) :
  PE X (.Call (.Attribute o "append" apos) [e] [] cpos) (tE X (j8 go ge)):=
 (yM PySem.F.plainAttrs_list PySem.F.slot_list_append PySem.F.type_list_append vV ho (dY he i5 hs) hbase hfew hline hs hplain).of fun σ H Q hxx=>by
  obtain⟨ρ,θ,M,hd,hw,h⟩:=hxx;refine bo hd hw (aE X θ H Q) (fun c M' h=>h) (fun h=>h) h fun d M1 v θ1 H1 g1 r1 h1=>?_
  have h2:=aE.go g1 h1;cases d with
  | mr k=>
   have h2:aE X θ1 H1 Q (match M1[k]? with|some (.lst _)=>(ge ρ M1).bind (qx k)|_=>.bad):=h2;cases qm1:M1[k]? with
   | none=>rw[qm1] at h2;exact h2.elim
   | some m1=>
    cases m1 with
    | obj _ _=>rw[qm1] at h2;exact h2.elim
    | dK _=>rw[qm1] at h2;exact h2.elim
    | dT _=>rw[qm1] at h2;exact h2.elim
    | lst ys1=>
     rw[qm1] at h2;obtain⟨a1,ea1,ta1⟩:=id r1;obtain⟨vs1,hv1,_⟩:=g1.wr.at_ k a1 _ ta1 qm1;refine⟨by rw[ea1];exact .inl ⟨rfl,vs1,.inl (.inl hv1)⟩,?_⟩;refine bo (hd.go g1) g1.wr (aE X θ1 H1 Q) (fun c M' h=>h) (fun h=>h) h2 fun dx M2 vx θ2 H2 g2 r2 h3=>?_
     have h3:aE X θ1 H1 Q (match M2[k]? with|some (.lst xs)=>if xs.length<sizeLine then .ok .non (M2.set k (.lst (xs++[dx]))) else .bad|_=>.bad):=h3;obtain⟨a,ea,ta⟩:=r1.go g2;cases qm:M2[k]? with
     | none=>rw[qm] at h3;exact h3.elim
     | some m=>
      cases m with
      | obj _ _=>rw[qm] at h3;exact h3.elim
      | dK _=>rw[qm] at h3;exact h3.elim
      | dT _=>rw[qm] at h3;exact h3.elim
      | lst ys=>
       rw[qm] at h3;obtain⟨vs,hv,ra⟩:=g2.wr.at_ k a _ ta qm;have h3:aE X θ1 H1 Q (if ys.length<sizeLine then .ok .non (M2.set k (.lst (ys++[dx]))) else .bad):=h3;split at h3
       ·rename_i hl;have gs:=yS (ds:=ys) g2.wr ta (cS ra (show a9 X.K θ2 H2 [dx] [vx] from⟨vx,[],rfl,r2,rfl⟩));exact⟨a,vs,vx,ea,rfl,hv,by rw[←aw ra];exact hl,h3 _ θ2 _ (g2.trans gs) rfl⟩
       ·exact h3.elim
  | _=>exact h2.elim
end
def br (f:D→Option D):List D→Option (List D)
 | []=>some []
 | d::ds=>match f d,br f ds with
  | some x,some xs=>some (x::xs)
  | _,_=>none
def frz (n:Nat)(M:aq):Nat→D→Option D
 | 0,_=>none
 | f+1,d=>match d with
  | .mr k=>if k<n then some (.mr k) else match M[k]? with
   | some (.lst xs)=>(br (frz n M f) xs).map .lst
   | _=>none
  | .tup xs=>(br (frz n M f) xs).map .tup
  | .lst xs=>(br (frz n M f) xs).map .lst
  | .ro xs=>(br (frz n M f) xs).map .ro
  | d=>some d
def rG (f:D→Option D):List (Str×D)→Option (List (Str×D))
 | []=>some []
 | (x,d)::r=>match f d,rG f r with
  | some e,some r'=>some ((x,e)::r')
  | _,_=>none
def nO {κ:Type}(f:D→Option D):List (κ×D)→Option (List (κ×D))
 | []=>some []
 | (x,d)::r=>match f d,nO f r with
  | some e,some r'=>some ((x,e)::r')
  | _,_=>none
def fX (n:Nat)(M:aq):List MO→Option (List MO)
 | []=>some []
 | .lst xs::r=>match br (frz n M 30) xs,fX n M r with
  | some ys,some r'=>some (.lst ys::r')
  | _,_=>none
 | .obj c fs::r=>match rG (frz n M 30) fs,fX n M r with
  | some gs,some r'=>some (.obj c gs::r')
  | _,_=>none
 | .dK fs::r=>match nO (frz n M 30) fs,fX n M r with
  | some gs,some r'=>some (.dK gs::r')
  | _,_=>none
 | .dT fs::r=>match nO (frz n M 30) fs,fX n M r with
  | some gs,some r'=>some (.dT gs::r')
  | _,_=>none
def lV (n:Nat)(o:aU D):aU D:=match o with
 | .ok d M=>if M.length=n then .ok d M else match frz n M 30 d,fX n M (M.take n) with
  | some d',some M'=>.ok d' M'
  | _,_=>.bad
 | .err c M=>if M.length=n then .err c M else match fX n M (M.take n) with
  | some M'=>.err c M'
  | none=>.bad
 | .bad=>.bad
section
variable {K:W.Frag}{θ more:List Addr}{H:Hp}{M:aq}{n:Nat}
theorem fG {f:D→Option D}{θ':List Addr}:∀{ds es:List D} {vs:List V},br f ds=some es→a9 K θ' H ds vs→(∀d∈ds,∀e v,f d=some e→cX K θ' H d v→cX K θ H e v)→a9 K θ H es vs
 | [],es,vs,h,r,k=>by cases h;exact r
 | d::ds,es,vs,h,r,k=>by
  obtain⟨v,rr,e,h1,h2⟩:=r;unfold br at h;cases q1:f d with
  | none=>rw[q1] at h;cases h
  | some x=>
   cases q2:br f ds with
   | none=>rw[q1,q2] at h;cases h
   | some xs=>
    rw[q1,q2] at h;cases h;exact⟨v,rr,e,k d mem_cons_self x v q1 h1,fG q2 h2 fun d' hd=>k d' (mem_cons_of_mem _ hd)⟩
theorem lK (hw:Wr K (θ++more) H M)(hn:θ.length=n):∀(f:Nat) (d e:D) (v:V),frz n M f d=some e→cX K (θ++more) H d v→cX K θ H e v
 | 0,d,e,v,h,r=>by cases h
 | f+1,d,e,v,h,r=>by
  have ih:=lK hw hn f;have sub:∀{a:Addr},a∉θ++more→a∉θ:=fun {a} z y=>z (mem_append_left _ y)
  cases d with
  | mr k=>
   obtain⟨a,ea,ta⟩:=r
   by_cases hk:k<n
   ·have h:(if k<n then some (D.mr k) else _)=some e:=h;rw[if_pos hk] at h;cases h;exact⟨a,ea,by rw[getElem?_append_left (by rw[hn];exact hk)] at ta;exact ta⟩
   ·have h:(if k<n then some (D.mr k) else match M[k]? with|some (.lst xs)=>(br (frz n M f) xs).map .lst|_=>none)=some e:=h;rw[if_neg hk] at h;cases qm:M[k]? with
    | none=>rw[qm] at h;cases h
    | some m=>
     cases m with
     | lst xs=>
      rw[qm] at h;have h:(br (frz n M f) xs).map D.lst=some e:=h;obtain⟨vs,hv,ra⟩:=hw.at_ k a _ ta qm;cases qo:br (frz n M f) xs with
      | none=>rw[qo] at h;cases h
      | some ys=>
       rw[qo] at h;cases h;refine⟨a,vs,ea,⟨hv,fun z=>?_⟩,fG qo ra fun d _ e v=>ih d e v⟩;rw[getElem?_append_right (by omega)] at ta;have hm:=mem_of_getElem? ta;exact(nodup_append.mp hw.nd).2.2 a z a hm rfl
     | _=>rw[qm] at h;cases h
  | tup xs=>
   have h:(br (frz n M f) xs).map D.tup=some e:=h;cases qo:br (frz n M f) xs with
   | none=>rw[qo] at h;cases h
   | some ys=>
    rw[qo] at h;cases h;obtain⟨a,vs,ea,ta,ra⟩:=r;exact⟨a,vs,ea,⟨ta.1,sub ta.2⟩,fG qo ra fun d _ e v=>ih d e v⟩
  | lst xs=>
   have h:(br (frz n M f) xs).map D.lst=some e:=h;cases qo:br (frz n M f) xs with
   | none=>rw[qo] at h;cases h
   | some ys=>
    rw[qo] at h;cases h;obtain⟨a,vs,ea,ta,ra⟩:=r;exact⟨a,vs,ea,⟨ta.1,sub ta.2⟩,fG qo ra fun d _ e v=>ih d e v⟩
  | ro xs=>
   have h:(br (frz n M f) xs).map D.ro=some e:=h;cases qo:br (frz n M f) xs with
   | none=>rw[qo] at h;cases h
   | some ys=>
    rw[qo] at h;cases h;obtain⟨a,vs,ea,ta,ra⟩:=r;refine⟨a,vs,ea,?_,fG qo ra fun d _ e v=>ih d e v⟩;rcases ta with⟨t1,t2⟩|t
    ·exact .inl ⟨t1,sub t2⟩
    ·exact .inr t
  | non=>cases h;exact r
  | bl b=>cases h;exact r
  | int b=>cases h;exact r
  | str b=>cases h;exact r
  | exc c=>
   cases h;obtain⟨a,C,ea,kc,t1,t2⟩:=r;exact⟨a,C,ea,kc,t1,sub t2⟩
  | any=>cases h;exact r
theorem uT {f:D→Option D}{θ':List Addr}:∀{fs gs:List (Str×D)} {vs:List (Str×V)},rG f fs=some gs→kQ K θ' H fs vs→(∀d e v,f d=some e→cX K θ' H d v→cX K θ H e v)→kQ K θ H gs vs
 | [],gs,vs,h,r,k=>by cases h;exact r
 | (x,d)::fs,gs,vs,h,r,k=>by
  obtain⟨v,rr,e,h1,h2⟩:=r;unfold rG at h;cases q1:f d with
  | none=>rw[q1] at h;cases h
  | some y=>
   cases q2:rG f fs with
   | none=>rw[q1,q2] at h;cases h
   | some ys=>
    rw[q1,q2] at h;cases h;exact⟨v,rr,e,k d y v q1 h1,uT q2 h2 k⟩
theorem oS {κ:Type}{f:D→Option D}{θ':List Addr}:∀{fs gs:List (κ×D)} {vs:List (κ×V)},nO f fs=some gs→kn K θ' H fs vs→(∀d e v,f d=some e→cX K θ' H d v→cX K θ H e v)→kn K θ H gs vs
 | [],gs,vs,h,r,k=>by cases h;exact r
 | (x,d)::fs,gs,vs,h,r,k=>by
  obtain⟨v,rr,e,h1,h2⟩:=r;unfold nO at h;cases q1:f d with
  | none=>rw[q1] at h;cases h
  | some y=>
   cases q2:nO f fs with
   | none=>rw[q1,q2] at h;cases h
   | some ys=>
    rw[q1,q2] at h;cases h;exact⟨v,rr,e,k d y v q1 h1,oS q2 h2 k⟩
theorem kS (hw:Wr K (θ++more) H M)(hn:θ.length=n):∀(l l':List MO),fX n M l=some l'→l'.length=l.length∧∀(i:Nat) m m' a,l[i]?=some m→l'[i]?=some m'→nL K (θ++more) H m a→nL K θ H m' a
 | [],l',h=>by cases h;exact⟨rfl,fun i m m' a e=>by simp at e⟩
 | .lst xs::r,l',h=>by
  unfold fX at h;cases q1:br (frz n M 30) xs with
  | none=>rw[q1] at h;cases h
  | some ys=>
   cases q2:fX n M r with
   | none=>rw[q1,q2] at h;cases h
   | some r'=>
    rw[q1,q2] at h;cases h;obtain⟨hl,hr⟩:=kS hw hn r r' q2;refine⟨by rw[length_cons,length_cons,hl],fun i m m' a e1 e2 ok=>?_⟩;cases i with
    | zero=>
     have e1:some (MO.lst xs)=some m:=e1;have e2:some (MO.lst ys)=some m':=e2;cases e1;cases e2;obtain⟨vs,hv,ra⟩:=ok;exact⟨vs,hv,fG q1 ra fun d _ e v=>lK hw hn 30 d e v⟩
    | succ i=>exact hr i m m' a e1 e2 ok
 | .obj c fs::r,l',h=>by
  unfold fX at h;cases q1:rG (frz n M 30) fs with
  | none=>rw[q1] at h;cases h
  | some gs=>
   cases q2:fX n M r with
   | none=>rw[q1,q2] at h;cases h
   | some r'=>
    rw[q1,q2] at h;cases h;obtain⟨hl,hr⟩:=kS hw hn r r' q2;refine⟨by rw[length_cons,length_cons,hl],fun i m m' a e1 e2 ok=>?_⟩;cases i with
    | zero=>
     have e1:some (MO.obj c fs)=some m:=e1;have e2:some (MO.obj c gs)=some m':=e2;cases e1;cases e2;obtain⟨C,dx,vs,kC,hv,ra⟩:=ok;exact⟨C,dx,vs,kC,hv,uT q1 ra fun d e v=>lK hw hn 30 d e v⟩
    | succ i=>exact hr i m m' a e1 e2 ok
 | .dK fs::r,l',h=>by
  unfold fX at h;cases q1:nO (frz n M 30) fs with
  | none=>rw[q1] at h;cases h
  | some gs=>
   cases q2:fX n M r with
   | none=>rw[q1,q2] at h;cases h
   | some r'=>
    rw[q1,q2] at h;cases h;obtain⟨hl,hr⟩:=kS hw hn r r' q2;refine⟨by rw[length_cons,length_cons,hl],fun i m m' a e1 e2 ok=>?_⟩;cases i with
    | zero=>
     have e1:some (MO.dK fs)=some m:=e1;have e2:some (MO.dK gs)=some m':=e2;cases e1;cases e2;obtain⟨vs,hv,ra⟩:=ok;exact⟨vs,hv,oS q1 ra fun d e v=>lK hw hn 30 d e v⟩
    | succ i=>exact hr i m m' a e1 e2 ok
 | .dT fs::r,l',h=>by
  unfold fX at h;cases q1:nO (frz n M 30) fs with
  | none=>rw[q1] at h;cases h
  | some gs=>
   cases q2:fX n M r with
   | none=>rw[q1,q2] at h;cases h
   | some r'=>
    rw[q1,q2] at h;cases h;obtain⟨hl,hr⟩:=kS hw hn r r' q2;refine⟨by rw[length_cons,length_cons,hl],fun i m m' a e1 e2 ok=>?_⟩;cases i with
    | zero=>
     have e1:some (MO.dT fs)=some m:=e1;have e2:some (MO.dT gs)=some m':=e2;cases e1;cases e2;obtain⟨vs,hv,ra⟩:=ok;exact⟨vs,hv,oS q1 ra fun d e v=>lK hw hn 30 d e v⟩
    | succ i=>exact hr i m m' a e1 e2 ok
theorem zw {θ0:List Addr}{H0:Hp}{θ':List Addr}{H':Hp}{M' M2:aq}{n:Nat}(hn:θ0.length=n)(g:Go K θ0 H0 θ' H' M')(h:fX n M' (M'.take n)=some M2):Go K θ0 H0 θ0 H' M2:=by
 obtain⟨m,em,hm⟩:=g.ext;have hw:=g.wr;rw[em] at hw;obtain⟨hl,hr⟩:=kS hw hn _ _ h;have hlen:n≤M'.length:=by rw[←g.wr.len,em,length_append];omega
 refine⟨⟨⟨[],by simp,fun _ z=>by cases z⟩,g.keep,g.tkeep⟩,by rw[hl,length_take];omega,(nodup_append.mp hw.nd).1,fun i a mo e1 e2=>?_,g.wr.tb⟩;have hi:i<n:=by rw[←hn];exact(List.getElem?_eq_some_iff.mp e1).1
 have hiM:i<M'.length:=by omega
 refine hr i M'[i] mo a (by rw[getElem?_take_of_lt hi];exact getElem?_eq_getElem hiM) e2 (hw.at_ i a _ ?_ (getElem?_eq_getElem hiM));rw[getElem?_append_left (by rw[hn];exact hi)];exact e1
end
theorem Eh {P:Program}{w:World}{K:W.Frag}{mg:Str→Option Value}{base:Heap}{k n:Nat}{f:Addr}{fd:FuncData}{ps:List Str}{F:FD}{CX:wA}(h:dE P w K mg base CX k f fd ps (mw K n F)) :
  dE P w K mg base CX k f fd ps (mw K n fun ds M=>lV M.length (F ds M)):=h.imp fun vs H Q E hxx=>by
 obtain⟨θ,M,ds,hl,r,hw,q⟩:=hxx;refine⟨θ,M,ds,hl,r,hw,?_⟩;have q:xO K θ H Q E (lV M.length (F ds M)):=q;cases e:F ds M with
 | bad=>rw[e] at q;exact q
 | err c M1=>
  rw[e] at q;have q:xO K θ H Q E (if M1.length=M.length then .err c M1 else match fX M.length M1 (M1.take M.length) with|some M'=>.err c M'|none=>.bad):=q;split at q
  ·exact q
  ·split at q
   ·rename_i M2 e2;exact fun C θ' H' a kC g=>q C θ H' a kC (zw hw.len g e2)
   ·exact q.elim
 | ok d M1=>
  rw[e] at q;have q:xO K θ H Q E (if M1.length=M.length then .ok d M1 else match frz M.length M1 30 d,fX M.length M1 (M1.take M.length) with|some d',some M'=>.ok d' M'|_,_=>.bad):=q;split at q
  ·exact q
  ·split at q
   ·rename_i d' M2 e1 e2;intro v θ' H' g rd;refine q v θ H' (zw hw.len g e2) ?_;obtain⟨m,em,_⟩:=g.ext;have hw':=g.wr;rw[em] at hw' rd;exact lK hw' hw.len 30 d d' v e1 rd
   ·exact q.elim
structure Fn (K:W.Frag)(mg:Str→Option Value)(x:Str)(st:Stmt)(f:Addr)(fd:FuncData)(ps:List Str):Prop where
 F:Dv K x x st f fd
 m:mg x=some (.ref f)
 b:dg K fd ps []
section
variable {X:Cx}
theorem vv (i:Nat){x:Str}{pos:Pos}(hN:X.N[i]?=some x:=by rfl)(hv:FL X.env.scope x:=by first|exact Or.inl rfl|exact Or.inr (Or.inl rfl)|exact Or.inr (Or.inr rfl))(hd:(x==("__debug__":Str))=false:=by decide)
  (hcd:(x==("__classdict__":Str))=false:=by decide):PE X (.Name x pos) (tE X (ae i)):=Fa (DB hN hv hd hcd)
theorem ss (i:Nat){x:Str}{pos pos':Pos}{e:Expr}{g:GE}(hN:X.N.Nodup)(he:PE X e (tE X g))(hi:X.N[i]?=some x:=by rfl)(hx:zL X.env.scope x:=by first|exact Or.inl rfl|exact Or.inr rfl)
  (hs:swapsWith e (some (.Name x pos')) pos.line X.env=pure false:=by rfl) (hf:X.fn x=true∨X.env.scope.names.lookup x=some .local:=by first|exact .inl rfl|exact .inr rfl) :
  PS X (.Assign [.Name x pos'] e pos) (tS X (aG i g)):=C9 hN hi hx he hs hf
theorem gg (i:Nat){x:Str}{pos:Pos}(hN:X.N.Nodup)(hi:X.N[i]?=some x:=by rfl)(hx:zL X.env.scope x:=by first|exact Or.inl rfl|exact Or.inr rfl)(hf:X.fn x=true∨X.env.scope.names.lookup x=some .local:=by first|exact .inl rfl|exact .inr rfl):PG X (.Name x pos) (tG X (gK i)):=pF hN hi hx hf
end
theorem DI {K:W.Frag}{F:FD}{H:Hp}{a:Addr}{ns:List Int}(tb:lj K H)(hS:lw K H a (ns.map V.int))(h:∃M',F [.ro (ns.map D.int)] []=.ok (.bl true) M'){E:XK}:mw K 1 F [.ref a] H (fun v _=>v=.bl true) E:=by
 obtain⟨M',e⟩:=h;refine⟨[],[],[.ro (ns.map D.int)],rfl,⟨_,[],rfl,⟨a,ns.map V.int,rfl,?_,?_⟩,rfl⟩,⟨rfl,nodup_nil,fun i a m e=>by simp at e,tb⟩,?_⟩
 ·rcases hS with h|h
  ·exact .inl ⟨h,by simp⟩
  ·exact .inr h
 ·clear e
  induction ns with
  | nil=>exact rfl
  | cons n ns ih=>
   refine⟨.int n,ns.map V.int,rfl,rfl,?_⟩;have gen:∀l:List Int,a9 K [] H (l.map D.int) (l.map V.int):=by
    intro l
    induction l with
    | nil=>exact rfl
    | cons m l ih=>exact⟨_,_,rfl,rfl,ih⟩
   exact gen ns
 ·rw[e];exact fun v θ' H' g r=>r
def dO (t:GT)(b:GS):Nat→bC→aq→aU Fl
 | 0,_,_=>.bad
 | n+1,ρ,M=>(t ρ M).bind fun c M1=>if c then(b ρ M1).bind fun f M2=>match f with
   | .nx ρ2=>dO t b n ρ2 M2
   | .ct ρ2=>dO t b n ρ2 M2
   | .bk ρ2=>.ok (.nx ρ2) M2
   | .rt d=>.ok (.rt d) M2
  else .ok (.nx ρ) M1
def nz (n:Nat)(t:GT)(b:GS):GS:=dO t b n
theorem xV {X:Cx}{c:Expr}{body:List Stmt}{tc:GT}{gb:GS}{pos:Pos}{n:Nat}(hp:PassesOwn (model X.prog X.w) X.A X.env X.xe)(hc:PT X c (tT X tc))(hb:PSs X body (tS X gb)):PS X (.While c body [] pos) (tS X (nz n tc gb)):=
 (yU hp hc hb).of fun D σ H hxx=>by
  obtain⟨ρ,θ,M,hd,hw,h⟩:=hxx;refine⟨fun m σ' H'=>∃ρ' θ' M',ie X.K θ' H' σ' ρ'∧Wr X.K θ' H' M'∧bU X θ' H' D (dO tc gb m ρ' M'),⟨n,ρ,θ,M,hd,hw,h⟩,?_⟩;rintro m σ' H' ⟨ρ',θ',M',hd',hw',h'⟩;cases m with
  | zero=>exact h'.elim
  | succ m=>
   have h':bU X θ' H' D ((tc ρ' M').bind _):=h';refine rF hd' hw' (bU X θ' H' D) (fun c M' h=>h) (fun h=>h) h' fun c M1 θ1 H1 g1 h1=>?_
   cases c with
   | false=>
    rw[if_neg Bool.false_ne_true];exact h1 σ' θ1 H1 g1 (hd'.go g1)
   | true=>
    rw[if_pos rfl];refine⟨fun σ2 H2=>∃ρ2 θ2 M2,ie X.K θ2 H2 σ2 ρ2∧Wr X.K θ2 H2 M2∧bU X θ2 H2 D (dO tc gb m ρ2 M2),fun σ2 H2 q=>⟨m,Nat.lt_succ_self _,q⟩,ρ',θ1,M1,hd'.go g1,g1.wr,?_⟩;have h2:=bU.go g1 h1;have h2:bU X θ1 H1 D ((gb ρ' M1).bind _):=h2;cases q:gb ρ' M1 with
    | bad=>rw[q] at h2;exact h2
    | err c M2=>rw[q] at h2;exact h2
    | ok f M2=>
     rw[q] at h2;cases f with
     | nx ρ2=>exact fun σ2 θ2 H2 g2 d2=>⟨ρ2,θ2,M2,d2,g2.wr,bU.go g2 h2⟩
     | ct ρ2=>exact fun σ2 θ2 H2 g2 d2=>⟨ρ2,θ2,M2,d2,g2.wr,bU.go g2 h2⟩
     | bk ρ2=>exact h2
     | rt d=>exact h2
def aJ:Expr→Bool
 | .Starred _ _=>false
 | _=>true
def bP (es:List Expr):Bool:=es.all aJ
theorem sE {e:Expr}{es:List Expr}{env:Env}(h:aJ e=true):starEach (e::es) env=(false,eval e env)::starEach es env:=by
 cases e <;> first|rfl|(simp[aJ] at h)
theorem sS {pos:Pos}{env:Env}:∀{es:List Expr},bP es=true→(backTo pos (starEach es env)).any (·.1)=false
 | [],_=>rfl
 | e::es,h=>by
  unfold bP at h;rw[all_cons,Bool.and_eq_true] at h;have ih:=sS (pos:=pos) (env:=env) (es:=es) h.2;rw[sE h.1];unfold backTo at ih ⊢;rw[map_cons,any_cons,ih];rfl
section
variable {X:Cx}{e:Expr}{es:List Expr}{x:Str}{p pos:Pos}{k n:Nat}{f:Addr}{fd:FuncData}{ps:List Str}{F:FD}{ga:GA}{g:GE}{tg:Expr}
theorem Im {gr:GA}(ha:PE X e (tE X g))(hr:PA X es (tA X gr))(h:aJ e=true:=by rfl):PA X (e::es) (tA X (aa g gr)):=AU ha hr (sE h)
theorem G1 (Fn:dE X.prog X.w X.K X.mg X.base (jx X.prog X.w) k f fd ps (mw X.K n F))(hr:bL k X.A)(hg:Gl X x)(hm:X.mg x=some (.ref f))(hk:W.keepIn X.K (.ref f)=true)(hb:dg X.K fd ps [])
  (ha:PA X (e::es) (tA X ga)) (hdb:(x==("__debug__":Str))=false:=by decide) (h1:aJ e=true:=by rfl) (h2:bP es=true:=by rfl) :
  PE X (.Call (.Name x p) (e::es) [] pos) (tE X (aj n F ga)):=Bw Fn hr hg hm hk hb ha hdb (sE h1) (sS h2)
theorem F4 {id:String}(hc:cF X (.builtin id) (rC X F))(hg:Gl X x)(hm:X.mg x=none)(hv:bootBuiltins x=some (.builtin id))(ha:PA X (e::es) (tA X ga))(hn:x≠"__name__":=by decide)(hdb:(x==("__debug__":Str))=false:=by decide)
  (h1:aJ e=true:=by rfl) (h2:bP es=true:=by rfl):PE X (.Call (.Name x p) (e::es) [] pos) (tE X (aB F ga)):=yI hc hg hm hv ha hn hdb (sE h1) (sS h2)
theorem HL {T:String}(hc:cF X (.type T) (rC X F))(hg:Gl X x)(hm:X.mg x=none)(hv:bootBuiltins x=some (.type T))(ha:PA X (e::es) (tA X ga))(hn:x≠"__name__":=by decide)(hdb:(x==("__debug__":Str))=false:=by decide)
  (h1:aJ e=true:=by rfl) (h2:bP es=true:=by rfl):PE X (.Call (.Name x p) (e::es) [] pos) (tE X (aB F ga)):=vD hc hg hm hv ha hn hdb (sE h1) (sS h2)
theorem FA {T:String}{p2:Pos}(hT:kK T)(hv:bootBuiltins x=some (.type T))(hg:Gl X x)(hm:X.mg x=none)(hgi:Gl X "isinstance")(hmi:X.mg "isinstance"=none)(he:PE X e (tE X g))
  (h1:aJ e=true:=by rfl) (hn:x≠"__name__":=by decide) (hd:(x==("__debug__":Str))=false:=by decide):PE X (.Call (.Name "isinstance" p) [e,.Name x p2] [] pos) (tE X (eB T g)):=
 CN hT hv hg hm hgi hmi he hn hd boot_isinstance (sE h1) (sE rfl) (sS rfl)
theorem FV {a:Expr}(hg:Gl X "range")(hm:X.mg "range"=none)(ha:PA X [a] (tA X ga))(h1:aJ a=true:=by rfl):PI X tg (.Call (.Name "range" p) [a] [] pos) (tI X (fe ga)):=vn hg hm ha (sE h1)
end
end DL
namespace DL
open PySem L2
theorem pP {j:Int}(h:-(2 ^ 62)≤j∧j<2 ^ 62)(M:aq):xx [.int j] M=.ok ⟨bi 0 j.toNat,none⟩ M:=by
 unfold xx;exact if_pos h
theorem zr {n:Nat}(h:n≤1000000)(M:aq):xx [.int (n:Int)] M=.ok ⟨bi 0 n,none⟩ M:=by
 have:=pP (j:=(n:Int)) (by omega) M;rw[this];rfl
theorem sL {ds:List D}{M:aq}:mn.ok ⟨ds,none⟩ M=true:=rfl
theorem gP {ds0:List D}{ge:GE}{ρ:bC}{P:aq→Prop}{Q:D→Prop}:∀(ds:List D),(∀d∈ds,∀M,P M→∃e M',P M'∧Q e∧ge (some d::ρ) M=.ok e M')→∀M,P M→
  ∃es M',P M'∧es.length=ds.length∧(∀e∈es,Q e)∧ce ⟨ds0,none⟩ bK ge ds ρ M=.ok es M'
 | [],h,M,hM=>⟨[],M,hM,rfl,(fun e he=>by cases he),rfl⟩
 | d::ds,h,M,hM=>by
  obtain⟨e,M1,h1,q1,e1⟩:=h d List.mem_cons_self M hM;obtain⟨es,M2,h2,l2,q2,e2⟩:=gP (ds0:=ds0) ds (fun d' hd=>h d' (List.mem_cons_of_mem _ hd)) M1 h1;refine⟨e::es,M2,h2,by simp[l2],fun x hx=>?_,?_⟩
  ·rcases List.mem_cons.mp hx with z|z
   ·subst z;exact q1
   ·exact q2 x z
  ·simp[ce,sL,bK,e1,e2]
theorem qC {ds0:List D}{ge:GE}{ρ:bC}{f:D→D}{M:aq}:∀(ds:List D),(∀d∈ds,ge (some d::ρ) M=.ok (f d) M)→ce ⟨ds0,none⟩ bK ge ds ρ M=.ok (ds.map f) M
 | [],h=>rfl
 | d::ds,h=>by
  have e1:=h d List.mem_cons_self;have e2:=qC (ds0:=ds0) ds fun d' hd=>h d' (List.mem_cons_of_mem _ hd)
  simp[ce,sL,bK,e1,e2]
theorem bJ (lo:Int)(n:Nat):(bi lo n).length=n:=by simp[bi]
theorem z8 {ds:List D}{Q:Int→Prop}(h:∀d∈ds,∃k,d=.int k∧Q k):∃ks:List Int,ds=ks.map D.int∧∀k∈ks,Q k:=by
 induction ds with
 | nil=>exact⟨[],rfl,fun k hk=>by cases hk⟩
 | cons d ds ih=>
  obtain⟨k,e,q⟩:=h d List.mem_cons_self;obtain⟨ks,e2,q2⟩:=ih fun d' hd=>h d' (List.mem_cons_of_mem _ hd)
  refine⟨k::ks,by rw[e,e2];rfl,fun x hx=>?_⟩;rcases List.mem_cons.mp hx with z|z
  ·subst z;exact q
  ·exact q2 x z
theorem BR {ds:List D}{Q:List Int→Prop}(h:∀d∈ds,∃ks:List Int,d=.tup (ks.map D.int)∧Q ks):∃rs:List (List Int),ds=rs.map (fun r=>D.tup (r.map D.int))∧∀r∈rs,Q r:=by
 induction ds with
 | nil=>exact⟨[],rfl,fun k hk=>by cases hk⟩
 | cons d ds ih=>
  obtain⟨k,e,q⟩:=h d List.mem_cons_self;obtain⟨ks,e2,q2⟩:=ih fun d' hd=>h d' (List.mem_cons_of_mem _ hd)
  refine⟨k::ks,by rw[e,e2];rfl,fun x hx=>?_⟩;rcases List.mem_cons.mp hx with z|z
  ·subst z;exact q
  ·exact q2 x z
theorem bn {n:Nat}(h:n≤1000000):n≤sizeLine:=Nat.le_trans h (by rw[sizeLine_eq];decide)
theorem iU (n:Nat):∀ks:List Int,bj n (ks.map D.int)=true
 | []=>by cases n <;> rfl
 | k::ks=>Bool.and_eq_true_iff.mpr ⟨by cases n <;> rfl,iU n ks⟩
end DL
namespace DL
@[simp] theorem Jz (i j:Int):nF (.int i) (.int j)=(i==j):=rfl
@[simp] theorem IP (i j:Bool):nF (.bl i) (.bl j)=(i==j):=rfl
@[simp] theorem JC (i j:PySem.Str):nF (.str i) (.str j)=(i==j):=rfl
@[simp] theorem ID:nF .non .non=true:=rfl
@[simp] theorem Ji (i:Int):nF (.int i) .non=false:=rfl
@[simp] theorem Iu (i:Int):nF .non (.int i)=false:=rfl
@[simp] theorem Iy (xs ys:List D):nF (.tup xs) (.tup ys)=jB xs ys:=rfl
@[simp] theorem Jv (xs ys:List D):nF (.lst xs) (.lst ys)=jB xs ys:=rfl
@[simp] theorem GK:jB [] []=true:=rfl
@[simp] theorem Ij (y:D) (ys:List D):jB [] (y::ys)=false:=rfl
@[simp] theorem HV (y:D) (ys:List D):jB (y::ys) []=false:=rfl
@[simp] theorem HU (x y:D) (xs ys:List D):jB (x::xs) (y::ys)=(nF x y&&jB xs ys):=rfl
@[simp] theorem Fi (n:Nat) (i:Int):aO n (.int i)=true:=by cases n <;> rfl
@[simp] theorem G4 (n:Nat) (i:Bool):aO n (.bl i)=true:=by cases n <;> rfl
@[simp] theorem Fo (n:Nat):aO n .non=true:=by cases n <;> rfl
@[simp] theorem Fj (n:Nat) (x:PySem.Str):aO n (.str x)=PySem.PyData.strOk x:=by cases n <;> rfl
@[simp] theorem wo (n:Nat) (xs:List D):aO (n+1) (.tup xs)=bj n xs:=rfl
@[simp] theorem v7 (n:Nat) (xs:List D):aO (n+1) (.lst xs)=bj n xs:=rfl
@[simp] theorem Cf (xs:List D):aO 40 (.tup xs)=bj 39 xs:=wo 39 xs
@[simp] theorem Cg (xs:List D):aO 40 (.lst xs)=bj 39 xs:=v7 39 xs
@[simp] theorem DS (n:Nat):bj n []=true:=by cases n <;> rfl
@[simp] theorem B7 (n:Nat) (x:D) (xs:List D):bj n (x::xs)=(aO n x&&bj n xs):=by cases n <;> rfl
@[simp] theorem Il (i:Int) (M:aq):now (.int i) M=.int i:=rfl
@[simp] theorem IN (i:Bool) (M:aq):now (.bl i) M=.bl i:=rfl
@[simp] theorem Ia (M:aq):now .non M=.non:=rfl
@[simp] theorem HR (x:PySem.Str) (M:aq):now (.str x) M=.str x:=rfl
@[simp] theorem Ih (xs:List D) (M:aq):now (.tup xs) M=.tup xs:=rfl
@[simp] theorem Ii (xs:List D) (M:aq):now (.lst xs) M=.lst xs:=rfl
end DL
namespace DL
open PySem PySem.Spec PyProof.Rows L2 PySem.W PySem.Builtin PySem.Builtin.ObjectAttr PySem.Builtin.Getset_descriptor List
structure jS (K:Frag)(C:Addr):Prop where
 cl:(clsIn K C).isSome=true
 ca:findIn K (.ref C) "__class__"=some (some (.builtin "object.__class__"))
 sp:specialIn K (.builtin "object.__class__") "__get__"=some (some (.builtin "getset_descriptor.__get__"))
 tk:takesIn K (.builtin "object.__class__")=some true
 ob:mroIn K C (.type "object")=some true
 ga:findIn K (.ref C) "__getattribute__"=some (some (.builtin "BaseException.__getattribute__"))
 gh:findIn K (.ref C) "__getattr__"=some none
 be:mroIn K C (.type "BaseException")=some true
def Bd (a C:Addr)(h:Heap):Prop:=∃o,h.get? a=some o∧o.cls=.ref C
section
variable {prog:Program}{w:World}{A:Around}{E:Value→Shared→Prop}{K:Frag}{a C:Addr}{h:Heap}{g:Array GenState}{d:Drawn}{t:Nat}{os:OsState}
theorem Bd.type {M:Model}(I:Bd a C h):Looks M h (typeOf (.ref a)) (.ref C):=by
 obtain⟨o,e,c⟩:=I;exact c▸(Looks.ld e).andThen .now
theorem AF {R:Result→Shared→Prop}{tp:Value}(X:K.In h)(I:Bd a C h)(k:jS K C)(hq:R (.ok (.ret (.ref C))) ⟨h,g,d,t,os⟩) :
  codeAny (model prog w) A (.call (.builtin "getset_descriptor.__get__") ⟨[.builtin "object.__class__",.ref a,tp],[]⟩) R ⟨h,g,d,t,os⟩:=by
 have L0:=I.type (M:=model prog w);have L1:=looks_mroIn (M:=model prog w) X k.ob;have go:=KF.slot_gs.check (model prog w) A.in1;refine codeAny_call_builtin KF.slot_gs.plain KF.entry_gs ?_;refine go _ _ _ _ _ _ KF.type_class (KF.args_gs _ _ _) ?_;unfold Builtin.«getset_descriptor.__get__» descrGet;rw[dga_obj];refine wpAny_bind (wpAny_pure ?_);unfold descrGetter descrCheckInstance descrNameAndClass isInstance;simp only[KF.owner_class]
 repeat lk
 refine⟨Code.quiet_builtin _ (by decide +kernel),codeAny_builtin KF.entry_class ?_⟩;unfold Builtin.«object.__class__» shownTypeOf
 repeat lk
 exact hq
theorem yo (X:K.In h)(I:Bd a C h)(k:jS K C):Looks (model prog w) h (Builtin.ObjectAttr.find (.ref a) (.ref C) "__class__") (.bind (.builtin "getset_descriptor.__get__") (.builtin "object.__class__")):=by
 have L1:=looks_findIn (M:=model prog w) X k.ca;have L2:Looks (model prog w) h (Builtin.ObjectAttr.getOf (some (.builtin "object.__class__"))) (some (.builtin "getset_descriptor.__get__")):=looks_specialIn X k.sp;unfold Builtin.ObjectAttr.find;refine L1.andThen (L2.andThen ?_);have L3:=looks_takesIn (M:=model prog w) X k.tk;have L4:Looks (model prog w) h (Builtin.ObjectAttr.dataDescriptor? (some (.builtin "object.__class__")) (some (.builtin "getset_descriptor.__get__"))) (some (.builtin "getset_descriptor.__get__",.builtin "object.__class__")):=L3.andThen .now;exact L4.andThen (Looks.tag .now)
theorem v6 {tk:Tok}{Q:PySem.Fin→Shared→Prop}(X:K.In h)(I:Bd a C h)(k:jS K C)(hq:Q (.done (.ret (.ref C))) ⟨h,g,d,t,os⟩) :
  wpAny (model prog w) A (Builtin.«object.__getattribute__» ⟨[.ref a,.str "__class__" tk],[]⟩) Q E ⟨h,g,d,t,os⟩:=by
 unfold Builtin.«object.__getattribute__»;refine wpAny_bind (wpAny_pure ?_);refine wpAny_bind (wpAny_pure ?_);refine wpAny_bind (I.type.at ?_);refine wpAny_bind ((yo X I k).at ?_);show wpAny (model prog w) A (Builtin.ObjectAttr.bindTo _ _ _ _) Q E _;unfold Builtin.ObjectAttr.bindTo;refine wpAny_bind (wpAny_holding (wpAny_call (AF X I k ?_)));exact wpAny_pure hq
theorem CP {tk:Tok}{Q:Value→Shared→Prop}(X:K.In h)(I:Bd a C h)(k:jS K C)(hq:Q (.ref C) ⟨h,g,d,t,os⟩):wpAny (model prog w) A (getAttrBy (.ref a) (.str "__class__" tk) false) Q E ⟨h,g,d,t,os⟩:=by
 have L0:=I.type (M:=model prog w);have L1:=looks_findIn (M:=model prog w) X k.ga;have L2:=looks_findIn (M:=model prog w) X k.gh;have hkind:builtinKind "BaseException.__getattribute__"=some .slot:=by decide +kernel
 have hcut:splitId "BaseException.__getattribute__"=some ("BaseException","__getattribute__"):=by decide +kernel
 have hargs:=F.args_bexc_ga (.ref a) (.str "__class__" tk);have LB:=looks_mroIn (M:=model prog w) X k.be;have chk:∀{A':Around} {E':Value→Shared→Prop} {Q':Unit→Shared→Prop},Q' () ⟨h,g,d,t,os⟩→wpAny (model prog w) A' (checkBuiltinCall "BaseException.__getattribute__" ⟨[.ref a,.str "__class__" tk],[]⟩) Q' E' ⟨h,g,d,t,os⟩:=fun hq'=>by
  simp only[checkBuiltinCall,hkind,hcut];refine wpAny_bind ?_;unfold isInstance;refine wpAny_bind (L0.at (LB.at ?_))
  repeat (first|wp_step)
  exact hq'
 have f3:=PySem.F.attr_ValueError.ga.bind (.ref a);unfold getAttrBy;refine wpAny_holding (wpAny_bind (L0.at (wpAny_bind (L1.at ?_))));show wpAny _ _ (getAttrByItsOwn _ _ _ _ _ _) _ _ _;unfold getAttrByItsOwn hookBefore;refine wpAny_bind ?_;rw[if_pos (show onTheHeap (Value.ref C)=true from rfl)];refine L2.at ?_;refine wpAny_bind (wpAny_attempt (wpAny_holding ?_));unfold callGetattribute;rw[if_neg (by simp)];unfold boundAndCalled;rw[f3];refine wpAny_bind (wpAny_pure ?_);refine wpAny_call (codeAny_call_builtin PySem.F.attr_ValueError.ga.plain F.entry_bexc_ga (chk (v6 X I k ?_)));exact wpAny_pure hq
theorem wD {Q:Option Value→Shared→Prop}(X:K.In h)(I:Bd a C h)(k:jS K C)(hq:Q (some (.ref C)) ⟨h,g,d,t+1,os⟩):wpAny (model prog w) A (getAttr? (.ref a) "__class__") Q E ⟨h,g,d,t,os⟩:=by
 unfold getAttr? getAttrBy?;refine wpAny_bind (wpAny_mkText ?_);refine wpAny_bind (wpAny_attempt (CP X I k ?_));exact wpAny_pure hq
theorem xF (k:jS K C):KitX K (.ref a) (.ref C) (Bd a C) where
 ty:=fun M h _ I=>I.type
 it:=fun M h X I=>by
  have hc:=k.cl;obtain⟨cd,hc⟩:=Option.isSome_iff_exists.mp hc;unfold clsIn at hc;split at hc
  ·rename_i ho;intro A' Q' E' s' k' q;unfold isType loadHead;exact wpAny_bind (wpAny_loadPart (k' _ _ (X _ _ ho)) (wpAny_pure q))
  ·cases hc
 ne:=fun h tp dd its n sl X htp=>by
  refine Bool.eq_false_iff.mpr fun q=>?_
  obtain⟨cd,hc⟩:=Option.isSome_iff_exists.mp k.cl;have e:C=tp:=Value.ref.inj (beq_iff_eq.mp q);subst e;unfold clsIn at hc;split at hc
  ·rename_i ho;have z:=(X _ _ ho).symm.trans htp;cases z
  ·cases hc
 ca:=fun {prog w A E Q s} X I hq=>by
  obtain⟨h,g,d,t,os⟩:=s;exact wD X I k hq
end
end DL
namespace DL
open PySem PySem.Spec PyProof.Rows L2 List
abbrev Gf:List Value:=[.type "ValueError",.type "Exception",.type "BaseException",.type "object"]
structure Ec (K:W.Frag)(mg:Str→Option Value)(c:Str)(C:Addr):Prop where
 at_:cw K c C
 m:mg c=some (.ref C)
 k:jS K C
 ex:W.excIn K C Gf "ValueError.__new__"=true
 ty:W.typeIn K (.ref C)=some (.type "type")
 sf:W.mroIn K C (.ref C)=some true
theorem Cv {K:W.Frag}{h:Heap}{C:Addr}{bmB:List Value}{newId:String}(X:K.In h)(q:W.excIn K C bmB newId=true) :
  ∃bm N nm qn bs hdct sn sub ab col dd k0 k1 k2 k3 k5 mN,h.get? C=some (excClassObj nm qn C N bs bm hdct sn sub ab col dd k0 k1 k2 k3 k5 newId)∧h.Ns N mN∧mN "__init__"=none∧OwnTail h bmB bm:=by
 unfold W.excIn at q;split at q
 ·rename_i d1 cd s1 at1;split at q
  ·rename_i C2 rest j0 j1 j2 j3 nn j5 e1 e2;simp only[Bool.and_eq_true,beq_iff_eq,Bool.not_eq_true'] at q;obtain⟨⟨⟨⟨⟨r1,r2⟩,r3⟩,r4⟩,r5⟩,r6⟩:=q;subst r1;subst r2;cases cd with
   | mk c1 c2 c3 c4 c5 c6 c7 c8 c9 c10 c11=>
    dsimp only at e1 r3 r5 r6;subst e1;subst r3;have e3:s1=#[j0,j1,j2,j3,some (.builtin nn),j5]:=by
     cases s1 with
     | mk l=>
      have e4:l=_:=e2;rw[e4]
    subst e3;refine⟨rest,c4,c1,c5,c2,c6,c7,c8,c9,c10,d1,j0,j1,j2,j3,j5,h.nsMap c4,X _ _ at1,?_,W.nsMap_none_of_in X r5 r6,W.tail_of_in X r4⟩;exact Heap.Ns.of_isNs (W.isNs_of_in X r5)
  ·cases q
 ·cases q
def eX (c:Str)(g:GE):GS:=fun ρ M=>(g ρ M).bind fun _ M1=>.err c M1
theorem ym {X:Cx}{c:Str}{C:Addr}{e:Expr}{g:GE}{np cpos pos:Pos}(k:Ec X.K X.mg c C)(hc:X.calm=true)(hg:Gl X c)(he:PE X e (tE X g))(h1:aJ e=true:=by rfl)(hd:(c==("__debug__":Str))=false:=by decide) :
  PS X (.Raise (some (.Call (.Name c np) [e] [] cpos)) none pos) (tS X (eX c g)):=by
 intro af s σ H D I h;obtain⟨ρ,θ,M,hdn,hw,h⟩:=h;obtain⟨bm,N,nm,qn,bs,hdct,sn,sub,ab,col,dd,k0,k1,k2,k3,k5,mN,hC,hN,hni,T⟩:=Cv I.ok.mod.kin k.ex;have hs:starEach [e] X.env=(false,eval e X.env)::starEach [] X.env:=sE h1;have hplain:(backTo cpos (starEach [e] X.env)).any (·.1)=false:=sS (by unfold bP;simp[h1]);refine wpAny_Raise_call_subT (C:=C) (nm:=nm) (q:=qn) (N:=N) (bs:=bs) (bm:=bm) (hdct:=hdct) (sn:=sn) (sub:=sub) (ab:=ab) (col:=col) (dd:=dd) (k0:=k0) (k1:=k1) (k2:=k2) (k3:=k3) (k5:=k5)
  PySem.F.excBase_ValueError (mN:=mN) (T.hasType PySem.F.excBase_ValueError.hasBase) (I.ok.hd hc) hplain hni (kZ I hg k.m ⟨rfl,?_⟩ hd)
 have hv:=dY he i5 hs cpos af s σ H (fun vs H1=>vs.length=1∧∃θ1 M1,Go X.K θ H θ1 H1 M1∧dm X θ1 H1 c M1) I (by
  refine bo hdn hw (bU X θ H D) (fun c M' h=>h) (fun h=>h) h fun d M1 v θ1 H1 g1 r1 h2=>?_
  exact⟨rfl,θ1,M1,g1,dm.go g1 h2⟩)
 rw[hs] at hv ⊢;refine Calls.evalArgs_plain (wpAny_mono hv (fun us s2 hq=>⟨rfl,?_⟩) fun _ _ y=>y);obtain⟨vs,H1,I1,rv,hl,θ1,M1,g1,ok⟩:=hq;refine⟨by show us.length≤sizeLine;rw[←rv.length,hl];exact Nat.le_trans (by decide:1≤1000000) (by rw[sizeLine_eq];decide),I1.bk _ _ hC,hN.keeps I1.bk,T.keeps I1.bk,fun h' e' hm=>?_⟩;exact ok C θ1 H1 e' _ k.at_ (.refl g1.wr) ⟨af,σ,.inl ⟨s2.heap,us,I1,hm⟩⟩
section
variable {M:Model}{A:Around}{E:Value→Shared→Prop}{K:W.Frag}{a C G:Addr}{h:Heap}{g:Array GenState}{d:Drawn}{t:Nat}{os:OsState}
theorem pS (X:K.In h)(k:(W.clsIn K G).isSome=true):W.Looks M h (isType (.ref G)) true:=by
 obtain⟨cd,hc⟩:=Option.isSome_iff_exists.mp k;unfold W.clsIn at hc;split at hc
 ·rename_i ho;intro A' Q' E' s' k' q;unfold isType loadHead;exact wpAny_bind (wpAny_loadPart (k' _ _ (X _ _ ho)) (wpAny_pure q))
 ·cases hc
theorem rL {Q:Bool→Shared→Prop}{b:Bool}(X:K.In h)(I:Bd a C h)(kG:jS K G)(tG:W.typeIn K (.ref G)=some (.type "type"))(hm:W.mroIn K C (.ref G)=some b)
  (hq:Q b ⟨h,g,d,t,os⟩):wpAny M A (excMatches (.ref a) (.ref G)) Q E ⟨h,g,d,t,os⟩:=by
 have L0:W.Looks M h (typeOf (.ref a)) (.ref C):=I.type;have L1:=W.looks_typeIn (M:=M) X tG;have L2:W.Looks M h (isSubtype (.type "type") (.type "tuple")) false:=W.Looks.of_pure tc_notTuple;have L3:=W.looks_mroIn (M:=M) X kG.be;have L4:=W.looks_mroIn (M:=M) X hm;have L5:W.Looks M h (isInstance (.ref G) (.type "tuple")) false:=L1.andThen L2;have L6:W.Looks M h (isType (.ref G)) true:=pS X kG.cl;unfold excMatches;refine wpAny_bind (L5.at ?_);simp only[Bool.false_eq_true,if_false];refine wpAny_bind (wpAny_pure ?_);simp only[forIn_cons,forIn_nil];unfold isExcClass;refine wpAny_bind (wpAny_bind (wpAny_bind (wpAny_bind (L6.at ?_))));simp only[if_true];refine L3.at ?_;simp only[Bool.not_true,Bool.false_eq_true,if_false];refine wpAny_pure ?_;refine wpAny_pure ?_;refine wpAny_bind (L0.at ?_);refine wpAny_bind (wpAny_bind (wpAny_bind (L4.at ?_)));cases b with
 | true=>
  simp only[if_true];exact wpAny_pure (wpAny_pure (wpAny_pure hq))
 | false=>
  simp only[Bool.false_eq_true,if_false];exact wpAny_pure (wpAny_pure (wpAny_pure hq))
end
section
variable {X:Cx}{af:List (Addr×Obj)}{σ:L2.St}{H:Hp}{s:Shared}{B:Heap}{a C:Addr}{a0:Value}
theorem v8 (I:L2.Inv X af σ H s)(cov:Dq X af H B)(fl:Heap.FlyingW B X.stack a (.ref C) a0 s.heap)(hn:H a=none):L2.Inv X af σ (bE H a (AG a C)) s:=by
 obtain⟨oe,vs,he,hcl,hd,_⟩:=fl.first;have hBa:B.get? a=none:=fl.2.1;have nfld:∀b o,s.heap.get? b=some o→(∀ws,o.data≠.fields ws)→b≠a:=fun b o e n z=>by
  subst z;rw[he] at e;cases e;exact n vs hd
 have nB:∀b o,B.get? b=some o→b≠a:=fun b o e z=>by rw[z,hBa] at e;cases e
 have nloc:X.env.locals≠a:=by
  obtain⟨m,⟨o,es,ep,ho,hdat,_⟩,_⟩:=I.loc;exact nfld _ o ho fun ws q=>by rw[hdat] at q;cases q
 have nold:∀b o,X.s₀.heap.get? b=some o→b∉X.ex→b≠a:=fun b o e nx=>by
  by_cases hf:b∈X.fs
  ·obtain⟨_,ob,e2,nf⟩:=I.funs.mem hf;exact nfld b ob e2 nf
  ·obtain⟨o',e'⟩:=cov.old b o e nx (l7 I e hf);exact nB b o' e'
 refine⟨I.ok,I.os,I.bare,⟨I.base.keep,I.base.slot,fun b o e n nx=>?_,I.base.there,fun b xs e=>?_,fun b o u e=>?_,fun b ps e=>?_⟩,I.loc,I.cell,?_,fun x c e=>?_,fun p hp=>?_,fun b o e=>?_,I.len⟩
 ·rw[ao (nold b o e nx)];exact I.base.free b o e n nx
 ·have q:=I.base.tups b xs e;rw[ao (fun z=>by rw[z,hn] at q;cases q)];exact q
 ·have q:=I.base.frzs b o u e;rw[ao (fun z=>by rw[z,hn] at q;cases q)];exact q
 ·obtain⟨m,q⟩:=I.base.tbls b ps e;exact⟨m,by rw[ao (fun z=>by rw[z,hn] at q;cases q)];exact q⟩
 ·rw[ao nloc];exact I.free
 ·obtain⟨v,o,ho,hdat⟩:=I.cell x c e;rw[ao (nfld c o ho fun ws q=>by rw[hdat] at q;cases q)];exact I.freeC x c e
 ·obtain⟨e,n,ne,nf,d⟩:=I.pin p hp;obtain⟨o',e'⟩:=cov.pin p hp;exact⟨e,by rw[ao (nB _ _ e')];exact n,ne,nf,d⟩
 ·by_cases hb:b=a
  ·subst hb;rw[bO] at e;cases e;exact⟨⟨oe,he,hcl⟩,⟨oe,he⟩,fun h1 h2 ⟨o,e1,e2⟩ k=>⟨o,k o e1,e2⟩⟩
  ·rw[ao hb] at e;exact(I.hok b o e).stay (fun _ _ _ q=>q) (fun c q=>by rw[ao (fun z=>by rw[z,hn] at q;cases q)];exact q) fun c xs q=>by rw[ao (fun z=>by rw[z,hn] at q;cases q)];exact q
theorem jq {M:Model}{A:Around}{E:Value→Shared→Prop}{i:Nat}{n:Str}{pos:Pos}{Q:Unit→Shared→Prop}(I:L2.Inv X af σ H s)(hN:X.N.Nodup)(hi:X.N[i]?=some n)(hl:X.env.kindOf n=some .local)
  (h:∀s',L2.Inv X af (σ.set i none) H s'→Q () s'):wpAny M A (do bindName X.env n .none;unbindBehindTheSuite X.env n pos) Q E s:=by
 obtain⟨m,hn,lk⟩:=I.loc;have hcls:(X.env.scope.kind==.class||(X.env.scope.kind==.module&&X.env.locals != X.env.globals))=false:=by rw[I.ok.kind];rfl
 have hiσ:i<σ.length:=by rw[I.len];exact(List.getElem?_eq_some_iff.mp hi).1
 refine wpAny_nameGoes_keeps hl hn hcls fun h' v hn' hs=>h _ ?_
 have old:∀b o,X.s₀.heap.get? b=some o→b≠X.env.locals:=fun b o e=>Nat.ne_of_lt (Nat.lt_of_lt_of_le (Heap.lt_size e) I.ok.above)
 refine⟨I.ok,I.os,I.bare,⟨fun b o e n hb hx=>(hs.2 b (old b o e)).trans (I.base.keep b o e n hb hx),fun b o e n hb hx=>?_,I.base.free,fun b o e hx=>?_,I.base.tups,I.base.frzs,I.base.tbls⟩,⟨_,hn',fun j y v' e1 e2 e3=>?_⟩,fun y c e=>?_,I.free,I.freeC,fun p hp=>?_,fun b o e=>?_,?_⟩
 ·obtain⟨sl,e1⟩:=I.base.slot b o e n hb hx;exact⟨sl,(hs.2 b (old b o e)).trans e1⟩
 ·obtain⟨o',e1⟩:=I.base.there b o e hx;exact⟨o',(hs.2 b (old b o e)).trans e1⟩
 ·by_cases hj:j=i
  ·subst hj;rw[getElem?_set_self hiσ] at e2;cases e2
  ·rw[getElem?_set_ne (Ne.symm hj)] at e2;obtain⟨u',r',q⟩:=lk j y v' e1 e2 e3;refine⟨u',r',?_⟩;rcases q with⟨k,e⟩|⟨k,c,e,z⟩
   ·have ny:y≠n:=fun e=>hj (mE hN e1 (e▸hi))
    exact .inl ⟨k,by show(if y=n then v else m y)=some u';rw[if_neg ny];exact e⟩
   ·exact .inr ⟨k,c,e,z.sameBut hs (I.cne y c e)⟩
 ·obtain⟨w',z⟩:=I.cell y c e;exact⟨w',z.sameBut hs (I.cne y c e)⟩
 ·obtain⟨e,n,ne,nf,d⟩:=I.pin p hp;exact⟨(hs.2 p.1 ne).trans e,n,ne,nf,d⟩
 ·refine(I.hok b o e).stay (fun c w' hc q=>(hs.2 c ?_).trans q) (fun _ q=>q) fun _ _ q=>q
  rintro z;have hf:=I.free;rw[←z] at hf;rcases hc with hc|hc
  ·rw[←hc,hf] at e;cases e
  ·rw[hf] at hc;cases hc
 ·rw[length_set];exact I.len
theorem sR {M:Model}{A:Around}{E:Value→Shared→Prop}{env:Env}{outer:List Env}{L:Addr}{base h:Heap}{vs:List Value}{Q:Unit→Shared→Prop}
  (hfr:A.frames=some (env::outer)) (hf:env.frame=some L) (hkb:base.StaysIn h) (hl:h.FunFrames base (env::outer)) (m:Heap.MadeExcOf h s.heap a (.ref C) vs)
  (hQ:∀h' t,Heap.HeldW base (env::outer) a (.ref C) (.ref t) L h'→s.heap.UpToSlots h'→Q () {s with heap:=h'}):wpAny M A (noteFrame (.ref a) env) Q E s:=by
 obtain⟨t,he,htn,ht⟩:=m.there;have fresh:base.get? a=none:=by
  cases hq:base.get? a with
  | none=>rfl
  | some o'=>have z:=hkb a o' hq;rw[m.new] at z;cases z
 unfold noteFrame;simp only[hf];refine wpAny_bind (wpAny_field he rfl (x:=.none) rfl ?_);rw[if_neg (by decide)];refine wpAny_entryW (a0:=.ref t) hfr (hl.of_keeps fun b o hb _=>⟨o,m.keeps b o hb,rfl⟩) hf he (fun b o hb=>m.keeps b o (hkb b o hb)) fresh rfl (by show 1<6;decide) rfl fun h' hN=>?_
 obtain⟨x1,x2,x3,x4⟩:=hN;exact hQ h' t ⟨x1,fresh,x2,x3⟩ x4
end
def wg (i:Nat):Fl→Fl
 | .nx ρ=>.nx (ρ.set i none)
 | .bk ρ=>.bk (ρ.set i none)
 | .ct ρ=>.ct (ρ.set i none)
 | .rt d=>.rt d
def mL (i:Nat)(ok:Str→Bool)(gb gh:GS):GS:=fun ρ M=>match gb ρ M with
 | .err c M1=>if ok c then match gh ((List.replicate ρ.length none).set i (some (.exc c))) M1 with
   | .ok f M2=>.ok (wg i f) M2
   | _=>.bad
  else .bad
 | o=>o
abbrev mZ (X:Cx)(pn:List (Addr×Obj))(E:Value→Shared→Prop):Cx:={X with pn:=pn,xe:=E}
abbrev jZ (X:Cx)(pn:List (Addr×Obj))(a:Addr):Cx:={X with A:=X.A.mark (some (.ref a)),calm:=false,pn:=pn,xe:=fun _ _=>False}
section
variable {X:Cx}{af pins' pn:List (Addr×Obj)}{σ:L2.St}{H:Hp}{s:Shared}{E:Value→Shared→Prop}{a:Addr}
theorem EE (k:X.Ok):(mZ X pn E).Ok:=⟨k.mod,k.kind,k.glob,k.blt,k.above,k.inj,k.has,k.cab,k.hd,k.frames,k.stk,k.exf,k.bs,k.bsz,k.noex,k.exfs,k.funs,k.frf⟩
theorem z6 (k:X.Ok):(jZ X pn a).Ok:=⟨k.mod,k.kind,k.glob,k.blt,k.above,k.inj,k.has,k.cab,(fun z=>by cases z),k.frames,k.stk,k.exf,k.bs,k.bsz,k.noex,k.exfs,k.funs,k.frf⟩
theorem rE (k:(mZ X pn E).Ok):X.Ok:=⟨k.mod,k.kind,k.glob,k.blt,k.above,k.inj,k.has,k.cab,k.hd,k.frames,k.stk,k.exf,k.bs,k.bsz,k.noex,k.exfs,k.funs,k.frf⟩
theorem Ba (I:L2.Inv X af σ H s):L2.Inv (mZ X (X.pn++af) E) [] σ H s:=⟨EE I.ok,I.os,I.bare,I.base,I.loc,I.cell,I.free,I.freeC,fun p hp=>I.pin p (by simpa using hp),I.hok,I.len⟩
theorem ju (I:L2.Inv (mZ X (X.pn++af) E) pins' σ H s):L2.Inv X af σ H s:=⟨rE I.ok,I.os,I.bare,I.base,I.loc,I.cell,I.free,I.freeC,fun p hp=>I.pin p (mem_append_left _ hp),I.hok,I.len⟩
theorem zi (I:L2.Inv (mZ X pn E) pins' σ H s):L2.Inv (jZ X pn a) pins' σ H s:=⟨z6 (rE I.ok),I.os,I.bare,I.base,I.loc,I.cell,I.free,I.freeC,I.pin,I.hok,I.len⟩
theorem gZ (k:X.Ok)(I:L2.Inv (jZ X (X.pn++af) a) pins' σ H s):L2.Inv X af σ H s:=⟨k,I.os,I.bare,I.base,I.loc,I.cell,I.free,I.freeC,fun p hp=>I.pin p (mem_append_left _ hp),I.hok,I.len⟩
end
theorem ie.clear {K:W.Frag}{θ:List Addr}{H:Hp}{σ:L2.St}{ρ:bC}(h:ie K θ H σ ρ)(i:Nat):ie K θ H (σ.set i none) (ρ.set i none):=by
 refine⟨by rw[length_set,length_set];exact h.len,fun j d e=>?_⟩
 by_cases hj:j=i
 ·subst hj;have hl:j<ρ.length:=by have:=(List.getElem?_eq_some_iff.mp e).1;rw[length_set] at this;exact this
  rw[getElem?_set_self hl] at e;cases e
 ·rw[getElem?_set_ne (Ne.symm hj)] at e;obtain⟨u,e1,r1⟩:=h.at_ j d e;exact⟨u,by rw[getElem?_set_ne (Ne.symm hj)];exact e1,r1⟩
theorem zq {K:W.Frag}{θ:List Addr}{H:Hp}{σ:L2.St}{n i:Nat}{d:D}{v:V}(hl:σ.length=n)(r:cX K θ H d v):ie K θ H (σ.set i (some v)) ((List.replicate n none).set i (some d)):=by
 refine⟨by rw[length_set,length_set,length_replicate,hl],fun j d' e=>?_⟩
 by_cases hj:j=i
 ·subst hj;have hlt:j<n:=by have:=(List.getElem?_eq_some_iff.mp e).1;rw[length_set,length_replicate] at this;exact this
  rw[getElem?_set_self (by rw[length_replicate];exact hlt)] at e;have e':d=d':=by simpa using e
  subst e';exact⟨v,getElem?_set_self (by rw[hl];exact hlt),r⟩
 ·rw[getElem?_set_ne (Ne.symm hj),getElem?_replicate] at e;split at e <;> cases e
theorem EL {X:Cx}{G n:Str}{Ga:Addr}{i:Nat}{ok:Str→Bool}{gb gh:GS}{body suite:List Stmt}{b0:Stmt}{np hpos pos:Pos}(kG:Ec X.K X.mg G Ga)(hok:∀c C,ok c=true→cw X.K c C→W.mroIn X.K C (.ref Ga)=some true)
  (hg:Gl X G) (hst:X.stack=X.env::X.outer) (hf:X.env.frame=some X.env.locals) (hN:X.N.Nodup) (hi:X.N[i]?=some n) (hl:X.env.kindOf n=some .local) (hfn:X.fn n=true∨X.env.scope.names.lookup n=some .local)
  (hb:∀pn E,PSs (mZ X pn E) body (tS (mZ X pn E) gb)) (hh:∀pn a,PSs (jZ X pn a) (b0::suite) (tS (jZ X pn a) gh)) (hd:(G==("__debug__":Str))=false:=by decide) :
  PS X (.Try body [.ExceptHandler (some (.Name G np)) (some n) (b0::suite) hpos] [] [] pos) (tS X (mL i ok gb gh)):=by
 intro af s σ H D I h;obtain⟨ρ,θ,M,hdn,hw,h⟩:=h;have fin:∀(f:Flow) (s1:Shared) (E:Value→Shared→Prop),SP (mZ X (X.pn++af) E) [] D f s1→SP X af D f s1:=fun f s1 E q=>by
  cases f with
  | next=>obtain⟨σ',H',I',q⟩:=q;exact⟨σ',H',ju I',q⟩
  | brk=>obtain⟨σ',H',I',q⟩:=q;exact⟨σ',H',ju I',q⟩
  | cont=>obtain⟨σ',H',I',q⟩:=q;exact⟨σ',H',ju I',q⟩
  | ret u=>obtain⟨v,σ',H',I',r,q⟩:=q;exact⟨v,σ',H',ju I',r,q⟩
 refine wpAny_Try_except ?_;obtain⟨E,hE⟩:∃E:Value→Shared→Prop,E=(fun e s₁=>wpAny (model X.prog X.w) X.A (noteFrame e X.env) (fun _ s₂=>wpAny (model X.prog X.w) X.A (setFlight e none) (fun _ s₃=>wpAny (model X.prog X.w) X.A (handleBy e X.env [.ExceptHandler (some (.Name G np)) (some n) (b0::suite) hpos]) (SP X af D) X.xe s₃) X.xe s₂) X.xe s₁):=⟨_,rfl⟩;refine wpAny_mono (hb (X.pn++af) E [] s σ H D (Ba I) ⟨ρ,θ,M,hdn,hw,?_⟩) (fun f s1 q=>?_) fun e s₁ y=>by rw[hE] at y;exact y
 ·unfold mL at h;cases q:gb ρ M with
  | ok f M1=>rw[q] at h;cases f <;> exact h
  | bad=>rw[q] at h;exact h
  | err c M1=>
   rw[q] at h;have h:bU X θ H D (if ok c=true then(match gh ((List.replicate ρ.length none).set i (some (.exc c))) M1 with | .ok f M2=>.ok (wg i f) M2|_=>.bad) else .bad):=h
   by_cases hc:ok c=true
   ·rw[if_pos hc] at h;intro C θ1 H1 a s1 kC g1 fl;obtain⟨pins',σ',fl⟩:=fl;show E (.ref a) s1;rw[hE];have land:∀(B:Heap) (a0:Value) (s5:Shared),L2.Inv (mZ X (X.pn++af) E) pins' σ' H1 s5→H1 a=none→
      Heap.FlyingW B X.stack a (.ref C) a0 s5.heap→Dq (jZ X (X.pn++af) a) pins' H1 B→wpAny (model X.prog X.w) X.A (handleBy (.ref a) X.env [.ExceptHandler (some (.Name G np)) (some n) (b0::suite) hpos]) (SP X af D) X.xe s5:=fun B a0 s5 I5 hn fl5 cov=>by
     have J5:L2.Inv (jZ X (X.pn++af) a) pins' σ' H1 s5:=zi I5;refine wpAny_handleBy_cons (codeAny_handlers_test (kZ (X:=jZ X (X.pn++af) a) J5 hg kG.m ?_ hd)) (by intro q;cases q);obtain⟨hp5,gg5,dd5,tt5,os5⟩:=s5;refine rL J5.kIn fl5.there kG.k kG.ty (hok c C hc kC) (codeAny_handlers_suite_as ?_);refine lands_againW fl5 fun h6 fl6 up6=>?_
     have J6:=iL J5 cov fl5.1 fl6.1 up6;have J7:=v8 J6 cov fl6 hn;refine jb (X:=jZ X (X.pn++af) a) J7 hN hi (.inl hl) (v:=.ref a) rfl (fun s8 J8=>?_) hfn;have g7:Go X.K θ1 H1 θ1 (bE H1 a (AG a C)) M1:=dh g1.wr hn;have ra:cX X.K θ1 (bE H1 a (AG a C)) (.exc c) (.ref a):=⟨a,C,rfl,kC,bO,g1.wr.fresh hn⟩;have hlen:σ'.length=ρ.length:=by rw[hdn.len,J7.len];exact I.len.symm
     refine wpAny_mono (hh (X.pn++af) a pins' s8 _ _ {nx:=fun σ2 H2=>D.nx (σ2.set i none) H2,bk:=fun σ2 H2=>D.bk (σ2.set i none) H2,ct:=fun σ2 H2=>D.ct (σ2.set i none) H2,rt:=D.rt} J8 ⟨_,θ1,M1,zq hlen ra,g7.wr,?_⟩) (fun f s9 q9=>?_) fun _ _ z=>z.elim
     ·cases qg:gh ((List.replicate ρ.length none).set i (some (.exc c))) M1 with
      | bad=>rw[qg] at h;exact h
      | err c2 M2=>rw[qg] at h;exact h.elim
      | ok f M2=>
       rw[qg] at h;have gg:=g1.trans g7;cases f with
       | nx ρ2=>exact fun σ2 θ2 H2 g2 d2=>h (σ2.set i none) θ2 H2 (gg.trans g2) (d2.clear i)
       | bk ρ2=>exact fun σ2 θ2 H2 g2 d2=>h (σ2.set i none) θ2 H2 (gg.trans g2) (d2.clear i)
       | ct ρ2=>exact fun σ2 θ2 H2 g2 d2=>h (σ2.set i none) θ2 H2 (gg.trans g2) (d2.clear i)
       | rt d=>exact fun v θ2 H2 g2 r2=>h v θ2 H2 (gg.trans g2) r2
     ·cases f with
      | next=>
       obtain⟨σ9,H9,I9,q9⟩:=q9;exact jq (X:=jZ X (X.pn++af) a) I9 hN hi hl fun s' I'=>⟨_,H9,gZ I.ok I',q9⟩
      | brk=>
       obtain⟨σ9,H9,I9,q9⟩:=q9;exact jq (X:=jZ X (X.pn++af) a) I9 hN hi hl fun s' I'=>⟨_,H9,gZ I.ok I',q9⟩
      | cont=>
       obtain⟨σ9,H9,I9,q9⟩:=q9;exact jq (X:=jZ X (X.pn++af) a) I9 hN hi hl fun s' I'=>⟨_,H9,gZ I.ok I',q9⟩
      | ret u=>
       obtain⟨v9,σ9,H9,I9,r9,q9⟩:=q9;exact jq (X:=jZ X (X.pn++af) a) I9 hN hi hl fun s' I'=>⟨v9,_,H9,gZ I.ok I',r9,q9⟩
    have hfrm:X.A.frames=some (X.env::X.outer):=by rw[←hst];exact I.ok.frames
    rcases fl with⟨h0,vs,I0,m⟩|⟨I0,hn,B,a0,fl,cov⟩|⟨I0,hn,B,a0,L,hL,held,cov⟩
    ·have cov:=qL I0;have hid:∀b o,(W.hideAll h0 (mJ X.stack)).get? b=some o→h0.get? b=some o:=fun b o q=>W.of_hideAll _ q
     have ff:h0.FunFrames (W.hideAll h0 (mJ X.stack)) (X.env::X.outer):=by rw[←hst];exact lP I0
     refine sR hfrm hf hid ff m fun h4 t held4 up4=>?_
     refine wpAny_landsW held4 fun h5 fl5 up5=>?_
     have I1:=I0.kept (t':=s1.toks) (h':=s1.heap) m.keeps;have I5:=iL (s:=s1) (h':=h5) I1 cov (fun b o q=>m.keeps b o (hid b o q)) fl5.1 (up4.trans up5);have fl6:=fl5;rw[←hst] at fl6;exact land _ _ _ I5 (oo I0 m) fl6 ⟨cov.trk,cov.pin,cov.old⟩
    ·have fl:Heap.FlyingW B (X.env::X.outer) a (.ref C) a0 s1.heap:=by rw[←hst];exact fl
     refine wpAny_looks_onW hfrm hf fl fun h4 held4 up4=>?_
     refine wpAny_landsW held4 fun h5 fl5 up5=>?_
     have I5:=iL (s:=s1) (h':=h5) I0 cov fl.1 fl5.1 (up4.trans up5);have fl6:=fl5;rw[←hst] at fl6;exact land B a0 _ I5 hn fl6 ⟨cov.trk,cov.pin,cov.old⟩
    ·refine wpAny_noteFrame_againW hL held.2.2.2 ?_;refine wpAny_landsW held fun h5 fl5 up5=>?_
     have I5:=iL (s:=s1) (h':=h5) I0 cov held.1 fl5.1 up5;exact land B a0 _ I5 hn fl5 ⟨cov.trk,cov.pin,cov.old⟩
   ·rw[if_neg hc] at h;exact h.elim
 ·cases f with
  | next=>exact wpAny_execs_nil (fin .next s1 _ q)
  | brk=>exact fin .brk s1 _ q
  | cont=>exact fin .cont s1 _ q
  | ret u=>exact fin (.ret u) s1 _ q
section
variable {X:Cx}
theorem ni {x:V}:∀{xs:List V} {us:List Value},aK xs us→xs.all gU=true→us.countP (Fk x)=xs.countP fun y=>ux y x
 | _,_,.nil,_=>rfl
 | y::xs,u::us,.cons r t,f=>by
  rw[all_cons,Bool.and_eq_true] at f;rw[countP_cons,countP_cons,sA r f.1,ni t f.2]
theorem uG {x:V}:∀{xs:List V} {us:List Value},aK xs us→xs.all gU=true→us.findIdx? (Fk x)=xs.findIdx? fun y=>ux y x
 | _,_,.nil,_=>rfl
 | y::xs,u::us,.cons r t,f=>by
  rw[all_cons,Bool.and_eq_true] at f;rw[findIdx?_cons,findIdx?_cons,sA r f.1,uG t f.2]
def iH (d:D)(M:aq):Option (List D):=match d with
 | .lst xs=>some xs
 | .ro xs=>some xs
 | .mr k=>match M[k]? with
  | some (.lst xs)=>some xs
  | _=>none
 | _=>none
theorem sQ {K:W.Frag}{θ:List Addr}{H:Hp}{M:aq}{d:D}{xs:List D}{v:V}(hw:Wr K θ H M)(r:cX K θ H d v)(e:iH d M=some xs):∃a vs,v=.ref a∧lw K H a vs∧a9 K θ H xs vs:=by
 cases d with
 | lst ys=>cases e;obtain⟨a,vs,ea,ta,ra⟩:=r;exact⟨a,vs,ea,ta.sq,ra⟩
 | ro ys=>cases e;obtain⟨a,vs,ea,ta,ra⟩:=r;exact⟨a,vs,ea,ta.sq,ra⟩
 | mr k=>
  obtain⟨a,ea,ta⟩:=r;have e:(match M[k]? with|some (.lst xs)=>some xs|_=>none)=some xs:=e;cases q:M[k]? with
  | none=>rw[q] at e;cases e
  | some m=>
   cases m with
   | lst ys=>
    rw[q] at e;cases e;obtain⟨vs,hv,ra⟩:=hw.at_ k a _ ta q;exact⟨a,vs,ea,.inl (.inl hv),ra⟩
   | _=>rw[q] at e;cases e
 | _=>cases e
def xY (K:W.Frag):V→List V→Hp→VK→Prop:=fun x vs H Q=>∃p xs y,x=.ref p∧vs=[y]∧lw K H p xs∧gU y=true∧xs.all gU=true∧Q (.int (xs.countP fun z=>ux z y)) H
theorem xE:JB X "list.count" (xY X.K):=by
 intro af s σ H x vs v us Q I rx rv h;obtain⟨p,xs,y,rfl,rfl,hq,fy,fs,q⟩:=h;cases rx;obtain⟨u,rfl,ru⟩:=rv.one;obtain⟨its,r,⟨o,n,h1,h2,h3,h4⟩,hz⟩:=I.list hq;obtain⟨c,dd,dat,sl⟩:=o;have e1:c=.type "list":=h2;have e2:dat=.seq its.toArray n:=h4;subst e1;subst e2;refine call_meets F.slot_list_count ⟨_,h1,rfl⟩ F.entry_list_count (F.args_list_count_2 _ _) (SeqAt.list_countAt p its.toArray n dd sl u (Fk y)) ⟨h1,fun w hw=>mF ru fy r fs w (by simpa using hw),?_⟩;refine⟨.int (xs.countP fun z=>ux z y),H,I.tok _,⟨s.toks,?_⟩,q⟩;rw[←ni r fs]
def yt (K:W.Frag):V→List V→Hp→VK→Prop:=fun x vs H Q=>∃p xs y j,x=.ref p∧vs=[y]∧lw K H p xs∧gU y=true∧xs.all gU=true∧(xs.findIdx? fun z=>ux z y)=some j∧Q (.int (j:Nat)) H
theorem yw:JB X "list.index" (yt X.K):=by
 intro af s σ H x vs v us Q I rx rv h;obtain⟨p,xs,y,j,rfl,rfl,hq,fy,fs,hj,q⟩:=h;cases rx;obtain⟨u,rfl,ru⟩:=rv.one;obtain⟨its,r,⟨o,n,h1,h2,h3,h4⟩,hz⟩:=I.list hq;obtain⟨c,dd,dat,sl⟩:=o;have e1:c=.type "list":=h2;have e2:dat=.seq its.toArray n:=h4;subst e1;subst e2;rw[←uG r fs] at hj;obtain⟨hlt,hhit,hno⟩:=findIdx?_eq_some_iff_getElem.mp hj;have hsz:j<its.toArray.size:=by simpa using hlt
 have hsmall:(j:Int)<2 ^ 63-1:=by
  have l1:=r.length;have l2:=jO;omega
 refine call_meets F.slot_list_index ⟨_,h1,rfl⟩ F.entry_list_index (F.args_list_index_2 _ _) (SeqAt.list_indexAt p its.toArray n dd sl u (Fk y) j hsz hsmall (by simpa using hhit) (fun m hm hmj=>by have:=hno m hmj;simpa using this)) ⟨h1,fun w hw=>mF ru fy r fs w (by simpa using hw),?_⟩;exact⟨.int j,H,I.tok _,⟨s.toks,rfl⟩,q⟩
def gq (F:List D→D→aq→aU D)(go ge:GE):GE:=fun ρ M=>(go ρ M).bind fun o M1=>match iH o M1 with
 | some _=>(ge ρ M1).bind fun x M2=>match iH o M2 with
  | some xs=>F xs x M2
  | none=>.bad
 | none=>.bad
def i6 (xs:List D)(x:D)(M:aq):aU D:=if fQ x&&xs.all fQ then .ok (.int (xs.countP fun y=>nF y x)) M else .bad
def iY (xs:List D)(x:D)(M:aq):aU D:=if fQ x&&xs.all fQ then(match xs.findIdx? fun y=>nF y x with|some j=>.ok (.int (j:Nat)) M|none=>.bad) else .bad
theorem mY {x:D}:∀{ds:List D},fQ x=true→ds.all fQ=true→(ds.map B6).countP (fun z=>ux z (B6 x))=ds.countP fun y=>nF y x
 | [],_,_=>rfl
 | d::ds,fx,f=>by
  rw[all_cons,Bool.and_eq_true] at f;rw[map_cons,countP_cons,countP_cons,mY fx f.2,uH f.1 fx]
theorem uI {x:D}:∀{ds:List D},fQ x=true→ds.all fQ=true→(ds.map B6).findIdx? (fun z=>ux z (B6 x))=ds.findIdx? fun y=>nF y x
 | [],_,_=>rfl
 | d::ds,fx,f=>by
  rw[all_cons,Bool.and_eq_true] at f;rw[map_cons,findIdx?_cons,findIdx?_cons,uI fx f.2,uH f.1 fx]
section
variable {o e:Expr}{go ge:GE}{apos cpos:Pos}
theorem uK {F:List D→D→aq→aU D}{rr:V→List V→Hp→VK→Prop}{σ:L2.St}{H:Hp}{Q:VK}(hs:starEach [e] X.env=(false,eval e X.env)::starEach [] X.env)
  (hF:∀θ H M o x xs v y Q,Wr X.K θ H M→cX X.K θ H o v→iH o M=some xs→cX X.K θ H x y→aE X θ H Q (F xs x M)→rr v [y] H Q) (h:tE X (gq F go ge) σ H Q):JJ X.K "list" rr (tE X go) (uz (tE X ge) Az) σ H Q:=by
 obtain⟨ρ,θ,M,hd,hw,h⟩:=h;refine bo hd hw (aE X θ H Q) (fun c M' h=>h) (fun h=>h) h fun d M1 v θ1 H1 g1 r1 h1=>?_
 have h2:=aE.go g1 h1;cases ql:iH d M1 with
 | none=>rw[ql] at h2;exact h2.elim
 | some xs0=>
  rw[ql] at h2;obtain⟨a,vs,ea,sq,ra⟩:=sQ g1.wr r1 ql;refine⟨by rw[ea];exact .inl ⟨rfl,vs,sq⟩,?_⟩;refine bo (hd.go g1) g1.wr (aE X θ1 H1 Q) (fun c M' h=>h) (fun h=>h) h2 fun dx M2 vx θ2 H2 g2 r2 h3=>?_
  have h4:=aE.go g2 h3;cases ql2:iH d M2 with
  | none=>rw[ql2] at h4;exact h4.elim
  | some xs=>
   rw[ql2] at h4;exact hF θ2 H2 M2 d dx xs v vx Q g2.wr (r1.go g2) ql2 r2 h4
theorem yT {θ:List Addr}{H:Hp}{M:aq}{o x:D}{xs:List D}{v y:V}{Q:VK}(hw:Wr X.K θ H M)(r:cX X.K θ H o v)(el:iH o M=some xs)(ry:cX X.K θ H x y)(h:aE X θ H Q (i6 xs x M)):xY X.K v [y] H Q:=by
 obtain⟨a,vs,ea,sq,ra⟩:=sQ hw r el;unfold i6 at h;split at h
 ·rename_i hc;rw[Bool.and_eq_true] at hc;obtain⟨e1,f1⟩:=pc ry hc.1;obtain⟨e2,f2⟩:=m3 ra hc.2;refine⟨a,vs,y,ea,rfl,sq,f1,f2,?_⟩;rw[e1,e2,mY hc.1 hc.2];exact h _ θ H (.refl hw) rfl
 ·exact h.elim
theorem wV {θ:List Addr}{H:Hp}{M:aq}{o x:D}{xs:List D}{v y:V}{Q:VK}(hw:Wr X.K θ H M)(r:cX X.K θ H o v)(el:iH o M=some xs)(ry:cX X.K θ H x y)(h:aE X θ H Q (iY xs x M)):yt X.K v [y] H Q:=by
 obtain⟨a,vs,ea,sq,ra⟩:=sQ hw r el;unfold iY at h;split at h
 ·rename_i hc;rw[Bool.and_eq_true] at hc;obtain⟨e1,f1⟩:=pc ry hc.1;obtain⟨e2,f2⟩:=m3 ra hc.2;split at h
  ·rename_i j hj;exact⟨a,vs,y,j,ea,rfl,sq,f1,f2,by rw[e1,e2,uI hc.1 hc.2];exact hj,h _ θ H (.refl hw) rfl⟩
  ·exact h.elim
 ·exact h.elim
theorem tP {env:Env}(h:aJ e=true):((backTo cpos (starEach [e] env)).all (fun x=>!x.1)&&(backToKw cpos (keywordEach [] env)).all (fun x=>x.1.isSome)
   && decide ([e].length+([]:List Keyword).length+(if([]:List Keyword).isEmpty then 0 else 1)<30))=true:=by
 rw[sE h];rfl
theorem xJ (ho:PE X o (tE X go))(he:PE X e (tE X ge))(h1:aJ e=true:=by rfl)(hbase:attributeBase o "count" X.env (eval o X.env)=eval o X.env:=by rfl)(hline:(apos.endLine==cpos.line)=true:=by rfl) :
  PE X (.Call (.Attribute o "count" apos) [e] [] cpos) (tE X (gq i6 go ge)):=
 (yM PySem.F.plainAttrs_list PySem.F.slot_list_count PySem.F.type_list_count xE ho (dY he i5 (sE h1)) hbase (tP h1) hline (sE h1) rfl).of fun σ H Q h=>uK (sE h1) (fun θ H M o x xs v y Q=>yT) h
theorem xC (ho:PE X o (tE X go))(he:PE X e (tE X ge))(h1:aJ e=true:=by rfl)(hbase:attributeBase o "index" X.env (eval o X.env)=eval o X.env:=by rfl)(hline:(apos.endLine==cpos.line)=true:=by rfl) :
  PE X (.Call (.Attribute o "index" apos) [e] [] cpos) (tE X (gq iY go ge)):=
 (yM PySem.F.plainAttrs_list PySem.F.slot_list_index PySem.F.type_list_index yw ho (dY he i5 (sE h1)) hbase (tP h1) hline (sE h1) rfl).of fun σ H Q h=>uK (sE h1) (fun θ H M o x xs v y Q=>wV) h
end
def fR (ok:Str→Option Bool)(g:GE):GE:=fun ρ M=>(g ρ M).bind fun d M1=>match d with
 | .exc c=>match ok c with
  | some b=>.ok (.bl b) M1
  | none=>.bad
 | _=>.bad
theorem yE {c0:Value}{v0:V}{ok:Str→Option Bool}(r0:∀c,L2.RelV v0 c→c=c0)(hk:∀c b C,ok c=some b→cw X.K c C→jS X.K C∧W.kitOne X.K (.ref C) c0=some b) :
  cF X (.builtin "isinstance") (fun xs H Q=>∃θ M d v,Wr X.K θ H M∧cX X.K θ H d v∧xs=[v,v0]∧aE X θ H Q (match d with | .exc c=>(match ok c with|some b=>.ok (.bl b) M|none=>.bad)|_=>.bad)):=by
 intro af s σ H xs us Q I r h;obtain⟨θ,M,d,v,hw,rv,e,h⟩:=h;subst e;obtain⟨u,c,rfl,ru,rc⟩:=ul r;have ec:c=c0:=r0 c rc;subst ec;cases d with
 | exc c=>
  obtain⟨a,C,ea,kC,t,na⟩:=rv;subst ea;cases ru;cases q:ok c with
  | none=>simp only[q] at h;exact h.elim
  | some b=>
   simp only[q] at h;obtain⟨kx,e1⟩:=hk c b C q kC;obtain⟨p,_,_⟩:=I.hok a _ t;exact W.kia_one (xF kx) I.kIn p e1 (fun z=>nomatch z) fun tk=>⟨.bl b,H,I.tok _,rfl,h _ θ H (.refl hw) rfl⟩
 | _=>exact h.elim
def p0 (l:List (Str×Bool))(c:Str):Option Bool:=l.lookup c
theorem yl {K:W.Frag}{l:List (Str×Bool)}{c0:Value}(h:∀p∈l,∃C,cw K p.1 C∧jS K C∧W.kitOne K (.ref C) c0=some p.2):∀c b C,p0 l c=some b→cw K c C→jS K C∧W.kitOne K (.ref C) c0=some b:=fun c b C e kC=>by
 obtain⟨C',k1,k2,k3⟩:=h (c,b) (PySem.mem_of_lookup e);have:=k1.inj kC;subst this;exact⟨k2,k3⟩
theorem Bk {K:W.Frag}{mg:Str→Option Value}{g:Str}{C G:Addr}{b:Bool}(kG:Ec K mg g G)(hm:W.mroIn K C (.ref G)=some b):W.kitOne K (.ref C) (.ref G)=some b:=by
 unfold W.kitOne;split
 ·rename_i q;have e:C=G:=Value.ref.inj (beq_iff_eq.mp q);subst e;rw[kG.sf] at hm;exact hm
 ·show(if((W.clsIn K G).isSome&&W.typeIn K (.ref G)==some (.type "type"))=true then W.subIn K (.ref C) (.ref G) else none)=some b;rw[if_pos (by rw[kG.k.cl,kG.ty];rfl)];exact hm
theorem wC {K:W.Frag}{T:String}{C:Addr}{b:Bool}(hT:W.kitMeta T=true)(hm:W.mroIn K C (.type T)=some b):W.kitOne K (.ref C) (.type T)=some b:=by
 unfold W.kitOne;rw[if_neg (by intro q;cases beq_iff_eq.mp q)];show(if W.kitMeta T=true then W.subIn K (.ref C) (.type T) else none)=some b;rw[if_pos hT];exact hm
section
variable {e:Expr}{g:GE}{p p2 pos:Pos}{x:Str}{ok:Str→Option Bool}
theorem xu {v0:V}{σ:L2.St}{H:Hp}{Q:VK}(h:tE X (fR ok g) σ H Q):Ie (fun xs H Q=>∃θ M d v,Wr X.K θ H M∧cX X.K θ H d v∧xs=[v,v0]∧aE X θ H Q (match d with | .exc c=>(match ok c with|some b=>.ok (.bl b) M|none=>.bad)|_=>.bad)) (uz (tE X g) (uz (tC v0) Az)) σ H Q:=by
 obtain⟨ρ,θ,M,hd,hw,h⟩:=h;refine bo hd hw (aE X θ H Q) (fun c M' h=>h) (fun h=>h) h fun d M1 v θ1 H1 g1 r1 h1=>?_
 exact⟨θ1,M1,d,v,g1.wr,r1,rfl,aE.go g1 h1⟩
theorem Ct {G:Addr}(hm:X.mg x=some (.ref G))(hk:∀c b C,ok c=some b→cw X.K c C→jS X.K C∧W.kitOne X.K (.ref C) (.ref G)=some b)(hg:Gl X x)(hgi:Gl X "isinstance")(hmi:X.mg "isinstance"=none)(he:PE X e (tE X g))
  (h1:aJ e=true:=by rfl) (hd:(x==("__debug__":Str))=false:=by decide):PE X (.Call (.Name "isinstance" p) [e,.Name x p2] [] pos) (tE X (fR ok g)):=
 (kW (yE (v0:=.ref G) (fun c z=>z) hk) hgi hmi boot_isinstance (dY he (dY (uL hg hm (v:=.ref G) rfl hd) i5 (sE rfl)) (sE h1)) (by decide) (by decide) (sE h1) (sS rfl)).of fun σ H Q h=>xu h
theorem BH {T:String}(hv:bootBuiltins x=some (.type T))(hm:X.mg x=none)(hk:∀c b C,ok c=some b→cw X.K c C→jS X.K C∧W.kitOne X.K (.ref C) (.type T)=some b)(hg:Gl X x)(hgi:Gl X "isinstance")(hmi:X.mg "isinstance"=none)(he:PE X e (tE X g))
  (h1:aJ e=true:=by rfl) (hn:x≠"__name__":=by decide) (hd:(x==("__debug__":Str))=false:=by decide):PE X (.Call (.Name "isinstance" p) [e,.Name x p2] [] pos) (tE X (fR ok g)):=
 (kW (yE (v0:=.ty T) (fun c z=>z) hk) hgi hmi boot_isinstance (dY he (dY (uF hg hm hv (v:=.ty T) rfl hn hd) i5 (sE rfl)) (sE h1)) (by decide) (by decide) (sE h1) (sS rfl)).of fun σ H Q h=>xu h
end
theorem JS {K:W.Frag}{l:List Str}{Ga:Addr}(h:∀c∈l,∃C,cw K c C∧W.mroIn K C (.ref Ga)=some true):∀c C,l.contains c=true→cw K c C→W.mroIn K C (.ref Ga)=some true:=fun c C e kC=>by
 obtain⟨C',k1,k2⟩:=h c (contains_iff_mem.mp e);have:=k1.inj kC;subst this;exact k2
end
end DL
namespace DL
open PySem L2
theorem HF {P:Program}{w:World}{H:Hp}{s:Shared}{e:Value}{s':Shared}(z:jx P w [] H s (fun _ _ _=>False) e s'):False:=by
 obtain⟨_,_,_,_,_,_,_,_,_,_,_,_,_,_,h⟩:=z;exact h
end DL
namespace DL
open PySem PySem.Spec PyProof.Rows L2 List
section
variable {K:W.Frag}{θ:List Addr}{H:Hp}{M:aq}
def eo (f:Str)(d:D):List (Str×D)→List (Str×D)
 | []=>[(f,d)]
 | (g,x)::r=>if g=f then(g,d)::r else(g,x)::eo f d r
theorem yG {f:Str}{d:D}:∀{fs:List (Str×D)} {vs:List (Str×V)},kQ K θ H fs vs→fs.lookup f=some d→∃v,vs.lookup f=some v∧cX K θ H d v
 | [],vs,h,e=>by cases e
 | (g,x)::fs,vs,h,e=>by
  obtain⟨v,r,rfl,h1,h2⟩:=h;rw[lookup_cons] at e ⊢;cases q:f==g with
  | true=>rw[q] at e;cases e;exact⟨v,rfl,h1⟩
  | false=>rw[q] at e;exact yG h2 e
theorem uW {f:Str}:∀{fs:List (Str×D)} {vs:List (Str×V)},kQ K θ H fs vs→fs.lookup f=none→vs.lookup f=none
 | [],vs,h,e=>by cases (show vs=[] from h);rfl
 | (g,x)::fs,vs,h,e=>by
  obtain⟨v,r,rfl,h1,h2⟩:=h;rw[lookup_cons] at e ⊢;cases q:f==g with
  | true=>rw[q] at e;cases e
  | false=>rw[q] at e;exact uW h2 e
theorem wG:∀{fs:List (Str×D)} {vs:List (Str×V)},kQ K θ H fs vs→fs.length=vs.length
 | [],vs,h=>by cases (show vs=[] from h);rfl
 | (g,x)::fs,vs,h=>by
  obtain⟨v,r,rfl,h1,h2⟩:=h;rw[length_cons,length_cons,wG h2]
theorem yn {f:Str}{d:D}{v:V}(hd:cX K θ H d v):∀{fs:List (Str×D)} {vs:List (Str×V)},kQ K θ H fs vs→kQ K θ H (eo f d fs) (ik f v vs)
 | [],vs,h=>by cases (show vs=[] from h);exact⟨v,[],rfl,hd,rfl⟩
 | (g,x)::fs,vs,h=>by
  obtain⟨u,r,rfl,h1,h2⟩:=h;show kQ K θ H (if g=f then(g,d)::fs else(g,x)::eo f d fs) (if g=f then(g,v)::r else(g,u)::ik f v r)
  by_cases q:g=f
  ·rw[if_pos q,if_pos q];exact⟨v,r,rfl,hd,h2⟩
  ·rw[if_neg q,if_neg q];exact⟨u,_,rfl,h1,yn hd h2⟩
theorem BB {i:Nat}{a C dx:Addr}{c f:Str}{fs:List (Str×D)}{vs:List (Str×V)}{d:D}{v:V}(w:Wr K θ H M)(hi:θ[i]?=some a)(k:cw K c C)(r:kQ K θ H fs vs)(hd:cX K θ H d v) :
  Go K θ H θ (bE H a (.ins C dx (ik f v vs))) (M.set i (.obj c (eo f d fs))):=
 o7 w hi ⟨C,dx,_,k,bO,lB (mq w hi) (yn hd r)⟩
theorem Bt {x dx C:Addr}{c:Str}(w:Wr K θ H M)(hx:H x=none)(hdx:H dx=none)(ne:dx≠x)(k:cw K c C):Go K θ H (θ++[x]) (bE (bE H dx (.own x)) x (.ins C dx [])) (M++[.obj c []]):=by
 have np:=w.fresh hx;have hx':∀b u,H b=some u→b≠x∧b≠dx:=fun b u h=>⟨bc h hx,bc h hdx⟩
 have g:Grow θ H (θ++[x]) (bE (bE H dx (.own x)) x (.ins C dx [])):=⟨⟨[x],rfl,fun a ha=>by rw[mem_singleton.mp ha];exact hx⟩,fun b u h _ _=>by rw[ao (hx' b u h).1,ao (hx' b u h).2];exact h,fun b ps h=>⟨ps,by rw[ao (hx' b _ h).1,ao (hx' b _ h).2];exact h⟩⟩;refine⟨g,by rw[length_append,length_append,w.len];rfl,?_,fun i a m h1 h2=>?_,(w.tb.new hdx).new (by rw[ao (Ne.symm ne)];exact hx)⟩
 ·rw[nodup_append];exact⟨w.nd,by simp,fun y hy z hz e=>np (by rw[mem_singleton.mp hz] at e;rw[←e];exact hy)⟩
 ·by_cases hi:i<θ.length
  ·rw[getElem?_append_left hi] at h1;rw[getElem?_append_left (by rw[←w.len];exact hi)] at h2;have hm:=mem_of_getElem? h1;have ha:a≠x:=fun e=>np (by rw[←e];exact hm)
   have ha2:a≠dx:=fun e=>w.fresh hdx (by rw[←e];exact hm)
   exact(w.at_ i a m h1 h2).grow g (by rw[ao ha,ao ha2])
  ·have hi':i=θ.length:=by
    have:=(List.getElem?_eq_some_iff.mp h1).1;rw[length_append,length_singleton] at this;omega
   subst hi';rw[getElem?_append_right (Nat.le_refl _)] at h1;rw[getElem?_append_right (by rw[w.len];exact Nat.le_refl _)] at h2;simp only[Nat.sub_self,w.len,getElem?_cons_zero,Option.some.injEq] at h1 h2;subst h1;subst h2;exact⟨C,dx,[],k,bO,rfl⟩
end
structure Kc (K:W.Frag)(mg:Str→Option Value)(c:Str)(C:Addr):Prop where
 at_:cw K c C
 m:mg c=some (.ref C)
 cl:zN K C
def iI (c:Str)(o:D)(M:aq):Option (Nat×List (Str×D)):=match o with
 | .mr k=>match M[k]? with
  | some (.obj c' fs)=>if c'=c then some (k,fs) else none
  | _=>none
 | _=>none
theorem rZ {K:W.Frag}{θ:List Addr}{H:Hp}{M:aq}{c:Str}{C:Addr}{o:D}{v:V}{k:Nat}{fs:List (Str×D)}(hw:Wr K θ H M)(kC:cw K c C)(r:cX K θ H o v)(e:iI c o M=some (k,fs)) :
  ∃a dx vs,v=.ref a∧θ[k]?=some a∧H a=some (.ins C dx vs)∧kQ K θ H fs vs∧M[k]?=some (.obj c fs):=by
 cases o with
 | mr j=>
  obtain⟨a,ea,ta⟩:=r;have e:(match M[j]? with|some (.obj c' fs)=>if c'=c then some (j,fs) else none|_=>none)=some (k,fs):=e;cases q:M[j]? with
  | none=>rw[q] at e;cases e
  | some m=>
   cases m with
   | lst ys=>rw[q] at e;cases e
   | dK _=>rw[q] at e;cases e
   | dT _=>rw[q] at e;cases e
   | obj c' gs=>
    rw[q] at e;have e:(if c'=c then some (j,gs) else none)=some (k,fs):=e
    by_cases hc:c'=c
    ·rw[if_pos hc] at e;cases e;subst hc;obtain⟨C',dx,vs,kC',hv,rf⟩:=hw.at_ _ a _ ta q;have:=kC'.inj kC;subst this;exact⟨a,dx,vs,ea,ta,hv,rf,q⟩
    ·rw[if_neg hc] at e;cases e
 | _=>cases e
section
variable {X:Cx}{c f:Str}{C:Addr}{o e value:Expr}{g go gv:GE}{pos pos' apos p:Pos}
def bS (c f:Str)(g:GE):GE:=fun ρ M=>(g ρ M).bind fun o M1=>match iI c o M1 with
 | some (_,fs)=>match fs.lookup f with
  | some d=>.ok d M1
  | none=>.bad
 | none=>.bad
theorem Er (k:Kc X.K X.mg c C)(n:fV X.K C f)(he:PE X e (tE X g))(hb:attributeBase e f X.env (eval e X.env)=eval e X.env:=by rfl):PE X (.Attribute e f pos) (tE X (bS c f g)):=
 (Eb he hb).of fun σ H Q hxx=>by
  obtain⟨ρ,θ,M,hd,hw,h⟩:=hxx;refine bo hd hw (aE X θ H Q) (fun c M' h=>h) (fun h=>h) h fun d M1 v θ1 H1 g1 r1 h1=>?_
  have h2:=aE.go g1 h1;cases q:iI c d M1 with
  | none=>simp only[q] at h2;exact h2.elim
  | some p=>
   obtain⟨j,fs⟩:=p;simp only[q] at h2;obtain⟨a,dx,vs,ea,ta,hv,rf,_⟩:=rZ g1.wr k.at_ r1 q;cases ql:fs.lookup f with
   | none=>simp only[ql] at h2;exact h2.elim
   | some y=>
    simp only[ql] at h2;obtain⟨u,eu,ru⟩:=yG rf ql;exact⟨a,C,dx,vs,u,ea,hv,k.cl,n,eu,h2 u θ1 H1 (.refl g1.wr) ru⟩
def sC (c f:Str)(o y:D)(M:aq):aU Unit:=match iI c o M with
 | some (k,fs)=>if fs.length<1000 then .ok () (M.set k (.obj c (eo f y fs))) else .bad
 | none=>.bad
def fh (c f:Str)(go gv:GE):GS:=fun ρ M=>(gv ρ M).bind fun y M1=>(go ρ M1).bind fun o M2=>(sC c f o y M2).bind fun _ M3=>.ok (.nx ρ) M3
theorem EC (k:Kc X.K X.mg c C)(n:fV X.K C f)(ho:PE X o (tE X go))(hv:PE X value (tE X gv))(hs:swapsWith value (some (.Attribute o f pos')) pos.line X.env=pure false:=by rfl):PS X (.Assign [.Attribute o f pos'] value pos) (tS X (fh c f go gv)):=
 (CZ ho hv hs).of fun D σ H hxx=>by
  obtain⟨ρ,θ,M,hd,hw,h⟩:=hxx;refine bo hd hw (bU X θ H D) (fun c M' h=>h) (fun h=>h) h fun y M1 vy θ1 H1 g1 r1 h1=>?_
  refine bo (hd.go g1) g1.wr (bU X θ1 H1 D) (fun c M' h=>h) (fun h=>h) (h1.go g1) fun d M2 v θ2 H2 g2 r2 h2=>?_
  have h3:=h2.go g2;unfold sC at h3;cases q:iI c d M2 with
  | none=>simp only[q] at h3;exact h3.elim
  | some p=>
   obtain⟨j,fs⟩:=p;simp only[q] at h3
   by_cases hl:fs.length<1000
   ·simp only[if_pos hl] at h3;obtain⟨a,dx,vs,ea,ta,hv,rf,_⟩:=rZ g2.wr k.at_ r2 q;have gs:=BB (f:=f) (dx:=dx) g2.wr ta k.at_ rf (r1.go g2);exact⟨a,C,dx,vs,ea,hv,k.cl,n,by rw[←wG rf];exact hl,h3 σ θ2 _ gs (((hd.go g1).go g2).go gs)⟩
   ·simp only[if_neg hl] at h3;exact h3.elim
def cG (c m:Str)(n:Nat)(F:FD)(go:GE)(ga:GA):GE:=fun ρ M=>(go ρ M).bind fun o M1=>match iI c o M1 with
 | some (_,fs)=>if fs.lookup m=none then(ga ρ M1).bind fun ds M2=>if ds.length+1=n then F (o::ds) M2 else .bad else .bad
 | none=>.bad
theorem xk {m:Str}{n:Nat}{F:FD}{ga:GA}{σ:L2.St}{H:Hp}{Q:VK}(k:Kc X.K X.mg c C)(h:tE X (cG c m n F go ga) σ H Q):xL C m (mw X.K n F) [] (By X) (tE X go) (tA X ga) σ H Q:=by
 obtain⟨ρ,θ,M,hd,hw,h⟩:=h;refine bo hd hw (aE X θ H Q) (fun c M' h=>h) (fun h=>h) h fun d M1 v θ1 H1 g1 r1 h1=>?_
 have h2:=aE.go g1 h1;cases q:iI c d M1 with
 | none=>simp only[q] at h2;exact h2.elim
 | some p=>
  obtain⟨j,fs⟩:=p;simp only[q] at h2;obtain⟨a,dx,vs,ea,ta,hv,rf,_⟩:=rZ g1.wr k.at_ r1 q
  by_cases hl:fs.lookup m=none
  ·simp only[if_pos hl] at h2;refine⟨a,dx,vs,ea,hv,uW rf hl,?_⟩;refine i8 (hd.go g1) g1.wr (aE X θ1 H1 Q) (fun c M' h=>h) (fun h=>h) h2 fun ds M2 us θ2 H2 g2 r2 h3=>?_
   by_cases hn:ds.length+1=n
   ·rw[if_pos hn] at h3;have h4:=aE.go g2 h3;refine⟨θ2,M2,d::ds,hn,⟨v,us++[],rfl,r1.go g2,by rw[append_nil];exact r2⟩,g2.wr,?_⟩;cases qf:F (d::ds) M2 with
    | ok d2 M3=>rw[qf] at h4;exact h4
    | err c2 M3=>rw[qf] at h4;exact pV h4
    | bad=>rw[qf] at h4;exact h4
   ·rw[if_neg hn] at h3;exact h3.elim
  ·simp only[if_neg hl] at h2;exact h2.elim
section
variable {m:Str}{k n:Nat}{fa:Addr}{fd:FuncData}{ps:List Str}{F:FD}{ga:GA}{es:List Expr}{pl:Sem Bool}
theorem EF (kc:Kc X.K X.mg c C)(hm:oR X.K C m fa)(Fn:dE X.prog X.w X.K X.mg X.base (jx X.prog X.w) k fa fd ps (mw X.K n F))(hr:bL k X.A)(hb:dg X.K fd ps [])(ho:PE X o (tE X go))(ha:PA X (e::es) (tA X ga))
  (h1:aJ e=true:=by rfl) (h2:bP es=true:=by rfl)
  (ht:eval (.Call (.Attribute o m apos) (e::es) [] pos) X.env=(do
   let ov ←eval o X.env
   standAt apos.atName
   let (f,first) ←holding [ov] (getMethod ov m pl)
   callWith pos f first (backTo pos (starEach (e::es) X.env)) (backToKw pos (keywordEach [] X.env))):=by rfl) :
  PE X (.Call (.Attribute o m apos) (e::es) [] pos) (tE X (cG c m n F go ga)):=
 (As (pl:=pl) ho kc.cl hm Fn hr hb .nil gF ha (sE h1) (sS h2) ht).of fun σ H Q h=>xk kc h
theorem zX (kc:Kc X.K X.mg c C)(hm:oR X.K C m fa)(Fn:dE X.prog X.w X.K X.mg X.base (jx X.prog X.w) k fa fd ps (mw X.K n F))(hr:bL k X.A)(hb:dg X.K fd ps [])(ho:PE X o (tE X go))
  (ht:eval (.Call (.Attribute o m apos) [] [] pos) X.env=(do
   let ov ←eval o X.env
   standAt apos.atName
   let (f,first) ←holding [ov] (getMethod ov m pl)
   callWith pos f first (backTo pos (starEach [] X.env)) (backToKw pos (keywordEach [] X.env))):=by rfl) :
  PE X (.Call (.Attribute o m apos) [] [] pos) (tE X (cG c m n F go ag)):=
 (xn (pl:=pl) ho kc.cl hm Fn hr hb .nil gF ht).of fun σ H Q h=>by
  obtain⟨ρ,θ,M,hd,hw,h⟩:=xk kc h;refine⟨ρ,θ,M,hd,hw,?_⟩;cases q:go ρ M with
  | ok d M1=>
   rw[q] at h;intro v θ1 H1 g1 r1;obtain⟨a,dx,fs,e1,e2,e3,h⟩:=h v θ1 H1 g1 r1;refine⟨a,dx,fs,e1,e2,e3,?_⟩;obtain⟨ρ',θ',M',hd',hw',h'⟩:=h;exact h' [] θ' H1 (.refl hw') rfl
  | err c2 M1=>rw[q] at h;exact h
  | bad=>rw[q] at h;exact h
end
def gD (c:Str)(n:Nat)(F:FD)(ga:GA):GE:=fun ρ M=>(ga ρ M).bind fun ds M1=>if ds.length+1=n then(F (.mr M1.length::ds) (M1++[.obj c []])).bind fun d M2=>match d with
  | .non=>.ok (.mr M1.length) M2
  | _=>.bad
 else .bad
theorem BK {n:Nat}{F:FD}{ga:GA}{σ:L2.St}{H:Hp}{Q:VK}(k:cw X.K c C)(h:tE X (gD c n F ga) σ H Q):Ck C (mw X.K n F) [] (By X) (tA X ga) σ H Q:=by
 obtain⟨ρ,θ,M,hd,hw,h⟩:=h;refine i8 hd hw (aE X θ H Q) (fun c M' h=>h) (fun h=>h) h fun ds M1 us θ1 H1 g1 r1 h1=>?_
 intro x dx hx hdx ne;have h2:=aE.go g1 h1
 by_cases hn:ds.length+1=n
 ·simp only[if_pos hn] at h2;have gm:=Bt (C:=C) g1.wr hx hdx ne k;have rx:cX X.K (θ1++[x]) (bE (bE H1 dx (.own x)) x (.ins C dx [])) (.mr M1.length) (.ref x):=mR g1.wr;refine⟨θ1++[x],M1++[.obj c []],.mr M1.length::ds,hn,⟨.ref x,us++[],rfl,rx,by rw[append_nil];exact r1.go gm⟩,gm.wr,?_⟩;have h3:=aE.go gm h2;cases qf:F (.mr M1.length::ds) (M1++[.obj c []]) with
  | bad=>rw[qf] at h3;exact h3
  | err c2 M3=>rw[qf] at h3;exact pV h3
  | ok d2 M3=>
   rw[qf] at h3;intro v θ2 H2 g2 r2;cases d2 with
   | non=>exact⟨r2,h3 _ θ2 H2 g2 (rx.go g2)⟩
   | _=>exact h3.elim
 ·simp only[if_neg hn] at h2;exact h2.elim
section
variable {x:Str}{k n:Nat}{fa:Addr}{fd:FuncData}{ps:List Str}{F:FD}{ga:GA}{es:List Expr}
theorem AI (kc:Kc X.K X.mg x C)(Mc:Mk X.K C fa)(Fn:dE X.prog X.w X.K X.mg X.base (jx X.prog X.w) k fa fd ps (mw X.K n F))(hr:bL (k+1) X.A)(hg:Gl X x)(hb:dg X.K fd ps [])(ha:PA X (e::es) (tA X ga))
  (hdb:(x==("__debug__":Str))=false:=by decide) (h1:aJ e=true:=by rfl) (h2:bP es=true:=by rfl):PE X (.Call (.Name x p) (e::es) [] pos) (tE X (gD x n F ga)):=
 (AS Mc Fn hr hg kc.m hb .nil gF ha hdb (sE h1) (sS h2)).of fun σ H Q h=>BK kc.at_ h
end
end
end DL
namespace DL
open PySem PySem.Spec PyProof.Rows L2 List
section
variable {prog:Program}{w:World}{A:Around}{E:Value→Shared→Prop}{s:Shared}
theorem m6 {I a:Addr}{k:Nat}{its:Array Value}{x:Value}{Q:Value→Shared→Prop}(st:s.heap.IsTupleIter I a k)(ta:s.heap.IsTuple a its)(hx:its[k]?=some x)
  (q:∀h',h'.IsTupleIter I a (k+1)→Heap.SameBut I s.heap h'→Q x {s with heap:=h'}):wpAny (model prog w) A (Builtin.SmallTypes.nextOf (.ref I)) Q E s:=by
 obtain⟨u,hu,uc,ud⟩:=id st;obtain⟨oa,hoa,_,na,da⟩:=ta;unfold Builtin.SmallTypes.nextOf;refine wpAny_bind (wpAny_callSpecial?_slot (name:=Str.ofString "__next__") st.typeIs F.slot_tuple_iterator_next (wpAny_call_entry F.slot_tuple_iterator_next st.typeIs F.entry_tuple_iterator_next ?_ (F.args_tuple_iterator_next_1 _)));show wpAny _ _ (field (.ref I) 0 >>= _) _ _ s;refine wpAny_bind (wpAny_field hu ud (x:=.ref a) rfl ?_);show wpAny _ _ (if(Value.ref a==Value.none)=true then _ else _) _ _ s;rw[if_neg (show¬((Value.ref a==Value.none)=true) from Bool.false_ne_true)];show wpAny _ _ (field (.ref I) 1 >>= _) _ _ s;refine wpAny_bind (wpAny_field hu ud (x:=.int k 0) rfl ?_);show wpAny _ _ (seqItems? (.ref a) >>= _) _ _ s;refine wpAny_bind (wpAny_seqItems hoa da ?_);simp only[Int.toNat_natCast,hx];refine wpAny_bind (wpAny_setField hu ud (by simp) (wpAny_pure ⟨x,rfl,wpAny_pure (q _ ?_ (Heap.SameBut.update ..))⟩));exact⟨_,Heap.get?_update_self _ hu (Obj.isFreed_of_fields (Obj.data_mapFields ud _)),(Obj.cls_mapFields ..).trans uc,by rw[Obj.data_mapFields ud];simp[rawInt]⟩
theorem mO {I a:Addr}{k:Nat}{its:Array Value}{Q:Value→Shared→Prop}(hh:A.handled=none)(st:s.heap.IsTupleIter I a k)(ta:s.heap.IsTuple a its)(hx:its[k]?=none)
  (q:∀h' e,Heap.ExtBut I s.heap h'→(∃o,h'.get? e=some o∧o.cls=.type "StopIteration")→E (.ref e) {s with heap:=h'}):wpAny (model prog w) A (Builtin.SmallTypes.nextOf (.ref I)) Q E s:=by
 obtain⟨u,hu,uc,ud⟩:=id st;obtain⟨oa,hoa,_,na,da⟩:=ta;unfold Builtin.SmallTypes.nextOf;refine wpAny_bind (wpAny_callSpecial?_slot (name:=Str.ofString "__next__") st.typeIs F.slot_tuple_iterator_next (wpAny_call_entry F.slot_tuple_iterator_next st.typeIs F.entry_tuple_iterator_next ?_ (F.args_tuple_iterator_next_1 _)));show wpAny _ _ (field (.ref I) 0 >>= _) _ _ s;refine wpAny_bind (wpAny_field hu ud (x:=.ref a) rfl ?_);show wpAny _ _ (if(Value.ref a==Value.none)=true then _ else _) _ _ s;rw[if_neg (show¬((Value.ref a==Value.none)=true) from Bool.false_ne_true)];show wpAny _ _ (field (.ref I) 1 >>= _) _ _ s;refine wpAny_bind (wpAny_field hu ud (x:=.int k 0) rfl ?_);show wpAny _ _ (seqItems? (.ref a) >>= _) _ _ s;refine wpAny_bind (wpAny_seqItems hoa da ?_);simp only[Int.toNat_natCast,hx];refine wpAny_bind (wpAny_rule (wpAny_bind (wpAny_setField hu ud (by simp) ?_)));show wpAny _ _ (newExc (.type "StopIteration") [] >>= _) _ _ _;refine wpAny_bind ?_;simp only[newExc,newTuple];refine wpAny_bind (wpAny_newObj_type ?_ (by size_fits));refine wpAny_bind (m:=firstArgMember _ _) (wpAny_of_eq (a:=Value.none) (by first|rfl|(simp only[firstArgMember];rfl)) ?_);refine wpAny_newObj_type ?_ (by size_fits);simp only[raiseNew];refine wpAny_bind (wpAny_handled ?_)
 first|rw[show A.in1.handled=none from hh]|rw[hh]
 exact wpAny_bind (wpAny_pure (wpAny_throw (q _ _ (((Heap.SameBut.update ..).extBut.push _).push _) ⟨_,Heap.get?_push_size _ rfl,rfl⟩)))
end
open AutoSeq1 (wpAny_loadPart') in
section
variable {X:Cx}{af:List (Addr×Obj)}{σ:L2.St}{H:Hp}{s:Shared}
theorem o9 {ch:List Addr}{a:Addr}{o:HO}{h':Heap}{t':Nat}(I:L2.Inv X af σ H s)(hf:∀b∈ch,l5 X af H b)(k:∀b u,b∉ch→s.heap.get? b=some u→h'.get? b=some u)
  (hp:s.heap.objs.size≤a) (new:ck X.prog X.w (bE H a o) h' a o):L2.Inv X af σ (bE H a o) {s with heap:=h',toks:=t'}:=by
 have hn:H a=none:=I.hok.fresh hp;have ne:∀{b:Addr} {u:HO},H b=some u→b≠a:=fun {b u} e z=>by rw[z,hn] at e;cases e
 have nch:∀b u,H b=some u→b∉ch:=fun b u e z=>by rw[(hf b z).1] at e;cases e
 refine I.step (g':=s.gens) (d':=s.drawn) (ch:=ch) (fun b hb=>⟨(hf b hb).2.2.2.1,(hf b hb).2.1,(hf b hb).2.2.2.2.1,(hf b hb).2.2.2.2.2⟩) (fun b u _ _ hc e _=>k b u hc e) (fun b u _ _ hc e _=>⟨u.slots,k b u hc e⟩)
  (fun b u _ e n=>by rw[ao (Nat.ne_of_lt (Nat.lt_of_lt_of_le (Heap.lt_size e) hp))];exact n) (fun b u hc e=>⟨u,k b u hc e⟩) (fun b xs e=>by rw[ao (ne e)];exact e) (fun b u v e=>by rw[ao (ne e)];exact e)
  (fun b ps e=>⟨#[],by rw[ao (ne e),e];simp⟩) (fun m hm=>?_) (fun b u e=>?_) I.bare
 ·obtain⟨u,es,ep,ho,r⟩:=hm;exact⟨u,es,ep,k _ u (fun z=>(hf _ z).2.1 rfl) ho,r⟩
 ·by_cases hb:b=a
  ·subst hb;rw[bO] at e;cases e;exact new
  ·rw[ao hb] at e;refine(I.hok b u e).stay (fun c v hc q=>k c v ?_ q) (fun c q=>by rw[ao (ne q)];exact q) fun c xs q=>by rw[ao (ne q)];exact q
   rcases hc with z|z
   ·rw[z];exact nch b u e
   ·exact nch c _ z
theorem wf {ch:List Addr}{h':Heap}{t':Nat}(I:L2.Inv X af σ H s)(hf:∀b∈ch,l5 X af H b)(k:∀b u,b∉ch→s.heap.get? b=some u→h'.get? b=some u):L2.Inv X af σ H {s with heap:=h',toks:=t'}:=by
 have nch:∀b u,H b=some u→b∉ch:=fun b u e z=>by rw[(hf b z).1] at e;cases e
 refine I.step (g':=s.gens) (d':=s.drawn) (ch:=ch) (fun b hb=>⟨(hf b hb).2.2.2.1,(hf b hb).2.1,(hf b hb).2.2.2.2.1,(hf b hb).2.2.2.2.2⟩) (fun b u _ _ hc e _=>k b u hc e) (fun b u _ _ hc e _=>⟨u.slots,k b u hc e⟩)
  (fun b u _ e n=>n) (fun b u hc e=>⟨u,k b u hc e⟩) (fun b xs e=>e) (fun b u v e=>e) (fun b ps e=>⟨#[],by rw[e];simp⟩) (fun m hm=>?_) (fun b u e=>?_) I.bare
 ·obtain⟨u,es,ep,ho,r⟩:=hm;exact⟨u,es,ep,k _ u (fun z=>(hf _ z).2.1 rfl) ho,r⟩
 ·refine(I.hok b u e).stay (fun c v hc q=>k c v ?_ q) (fun c q=>q) fun c xs q=>q
  rcases hc with z|z
  ·rw[z];exact nch b u e
  ·exact nch c _ z
end
end DL
namespace DL
open PySem PySem.Spec PyProof.Rows L2 List
section
variable {X:Cx}{e o lo hi:Expr}{g go gl gh:GE}{pos ip sp:Pos}
def tN (i j:Nat)(ga:GA):GS:=fun ρ M=>(ga ρ M).bind fun ds M1=>match ds with
 | [d,e]=>.ok (.nx ((ρ.set i (some d)).set j (some e))) M1
 | _=>.bad
theorem CO {i j:Nat}{x y:Str}{a b:Expr}{ga:GA}{px py pt:Pos}{kt k2 pt2}(hc:X.calm=true)(hN:X.N.Nodup)(hi:X.N[i]?=some x)(hj:X.N[j]?=some y)(hij:i≠j)
  (hx:X.env.scope.names.lookup x=some .local) (hy:X.env.scope.names.lookup y=some .local) (ha:PA X [a,b] (tA X ga))
  (hw:swappedStores [.Tuple [.Name x px,.Name y py] kt pt] (.Tuple [a,b] k2 pt2) X.env=pure (some [x,y]))
  (hs:swapsWithSole [.Tuple [.Name x px,.Name y py] kt pt] (.Tuple [a,b] k2 pt2) pos.line X.env=pure false:=by rfl) :
  PS X (.Assign [.Tuple [.Name x px,.Name y py] kt pt] (.Tuple [a,b] k2 pt2) pos) (tS X (tN i j ga)):=(DT hc hN hi hj hij hx hy ha hw hs).of fun D σ H hxx=>by
 obtain⟨ρ,θ,M,hd,hwr,h⟩:=hxx;refine i8 hd hwr (bU X θ H D) (fun c M' h=>h) (fun h=>h) h fun ds M1 vs θ1 H1 g1 r1 h1=>?_
 match ds,r1,h1 with
 | [d,e],⟨v,r,e1,rv,v2,r2,e2,rv2,e3⟩,h1=>
  have e3:r2=[]:=e3;subst e3 e2;exact⟨v,v2,e1,h1 _ θ1 H1 g1 (((hd.go g1).set rv i).set rv2 j)⟩
 | [],_,h1=>exact False.elim h1
 | [_],_,h1=>exact False.elim h1
 | _::_::_::_,_,h1=>exact False.elim h1
end
def H0 (K:W.Frag)(a:Addr)(so:Obj)(xs:List V)(ts:List Addr)(bm:Addr)(ob:Obj):Hp:=fun b=>
 if b=a then(if K.lookup a=none then some (.frz so (.lst xs)) else none) else if b∈ts then some (.tbl #[]) else if b=bm then some (JK ob) else none
structure IZ (K:W.Frag)(x:Str)(c P:Addr):Prop where
 mem:x∈fM
 tab:W.tabIn K x=some (c,P)
 uniq:∀y,y∈fM→y≠x→∀c2,W.tabIn K y≠some (c2,P)
 hd:∃o vs file tf flags tg inF text tt,K.lookup c=some o∧o.cls=.type "code"∧o.data=.fields vs∧vs[11]?=some (.ref P)∧vs.getD 11 .none=.ref P∧vs.getD 18 .none=.str file tf∧
  vs.getD 7 .none=.int flags tg∧vs.getD 9 .none=.bool inF∧vs.getD 10 .none=.int text tt∧c≠P
end DL
namespace DL
open PySem PySem.Spec PyProof.Rows L2 List
section
open PySem.SeqAt
open PySem.AutoSeq1 (wpAny_loadPart')
open PySem.MeetsSeq PySem.MeetsSeq2 PySem.MeetsSeq3
end
end DL
namespace DL
open PySem PySem.Spec PyProof.Rows L2 List
end DL
namespace DL
open PySem PySem.Spec PyProof.Rows L2 List
section
open Builtin Builtin.Str
end
end DL
namespace DL
open PySem PySem.Spec PyProof.Rows L2 List
structure QE (X:Cx)(e:Expr)(g:GE):Prop where
 h:PE X e (tE X g)
structure QT (X:Cx)(e:Expr)(g:GT):Prop where
 h:PT X e (tT X g)
structure QW (X:Cx)(e:Expr)(g:GT):Prop where
 h:PW X e (tT X g)
structure QA (X:Cx)(es:List Expr)(g:GA):Prop where
 h:PA X es (tA X g)
structure QS (X:Cx)(st:Stmt)(g:GS):Prop where
 h:PS X st (tS X g)
structure QB (X:Cx)(st:List Stmt)(g:GS):Prop where
 h:PSs X st (tS X g)
structure QI (X:Cx)(tg e:Expr)(g:GI):Prop where
 h:PI X tg e (tI X g)
structure QG (X:Cx)(tg:Expr)(s:GG):Prop where
 h:PG X tg (tG X s)
structure Hm (X:Cx)(tgs:List Expr)(is:List Nat):Prop where
 h:Af X tgs (Hz X is)
structure QP (X:Cx)(e:Option Expr)(g:GO):Prop where
 h:PO X e (tO X g)
structure Q2 (X:Cx)(f:Value→Value→Sem Value)(F:F2):Prop where
 h:fY X f (rD X F)
structure QC (X:Cx)(f:Value)(F:FD):Prop where
 h:cF X f (rC X F)
structure B8 (X:Cx)(scope:Scope)(xs:List Str)(R:List Str)(ifs:List Expr)(gc:GT):Prop where
 h:ji X scope xs R ifs gc
structure QO (n:Nat)(sg:GG):Prop where
 h:p8 n sg
section
variable {X:Cx}{e a b c o i:Expr}{es rest:List Expr}{x:Str}{p p2 pos pos':Pos}{g ga gb gc go gi ge:GE}{ta tb:GT}{gA:GA}
theorem Hk:Q2 X (binaryOp .Add) bb:=⟨Ds⟩
theorem E2:Q2 X (binaryOp .Add) o5:=⟨AQ⟩
theorem Gd:Q2 X (binaryOp .Sub) du:=⟨DV⟩
theorem Hx:Q2 X (binaryOp .Mult) fv:=⟨EQ⟩
theorem D3:Q2 X (binaryOp .FloorDiv) dt:=⟨zS⟩
theorem Hn:Q2 X (binaryOp .Mod) fI:=⟨C6⟩
theorem FE:Q2 X (binaryOp .Pow) j9:=⟨CG⟩
theorem IV:Q2 X (compareOp .Lt) qI:=⟨HB⟩
theorem Jy:Q2 X (compareOp .LtE) k8:=⟨GZ⟩
theorem IY:Q2 X (compareOp .Gt) rp:=⟨Gi⟩
theorem Jp:Q2 X (compareOp .GtE) Ak:=⟨HH⟩
theorem Jw {k:Nat}(hr:bL k X.A):Q2 X (compareOp .Eq) (aW false):=⟨G6 hr.units⟩
theorem Iz {k:Nat}(hr:bL k X.A):Q2 X (compareOp .NotEq) (aW true):=⟨Gr hr.units⟩
theorem IK:Q2 X (compareOp .Is) (jL false):=⟨Gz⟩
theorem Ae:Q2 X (compareOp .IsNot) (jL true):=⟨yj⟩
theorem FW:QC X (.builtin "len") bp:=⟨EW⟩
theorem Gq (hc:X.calm=true:=by rfl):QC X (.builtin "min") oW:=⟨CH hc⟩
theorem Hj (hc:X.calm=true:=by rfl):QC X (.builtin "max") qh:=⟨Ei hc⟩
theorem HM (hc:X.calm=true:=by rfl):QC X (.builtin "all") hX:=⟨Do hc⟩
theorem Fv:QC X (.type "int") rW:=⟨D0⟩
theorem Ea:QC X (.type "list") lT:=⟨A7⟩
theorem Ai:QC X (.type "tuple") bV:=⟨yB⟩
theorem qv (i:Nat){x:Str}{pos:Pos}(hN:X.N[i]?=some x:=by rfl)(hv:FL X.env.scope x:=by first|exact Or.inl rfl|exact Or.inr (Or.inl rfl)|exact Or.inr (Or.inr rfl))(hd:(x==("__debug__":Str))=false:=by decide)
  (hcd:(x==("__classdict__":Str))=false:=by decide):QE X (.Name x pos) (ae i):=⟨vv i hN hv hd hcd⟩
theorem DA {i:Int}{j pos}:QE X (.Constant (.int i) j pos) (gC (.int i)):=⟨C7⟩
theorem Hl {b j pos}:QE X (.Constant (.bool b) j pos) (gC (.bl b)):=⟨GQ⟩
theorem E7 {j pos}:QE X (.Constant .none j pos) (gC .non):=⟨CD⟩
theorem D2 {x j pos}:QE X (.Constant (.str x) j pos) (gC (.str x)):=⟨EI⟩
theorem Cy (h:QE X a g):QE X (.UnaryOp .USub a pos) (eW g):=⟨EV h.h⟩
theorem EY (h:QE X a g):QE X (.UnaryOp .Not a pos) (rg (aM g)):=⟨Eu h.h⟩
theorem FZ {op:Operator}{f:F2}(ho:Q2 X (binaryOp op) f)(ha:QE X a ga)(hb:QE X b gb):QE X (.BinOp a op b pos) (g2 f ga gb):=⟨GN ho.h ha.h hb.h⟩
def CI:CmpOp→Bool
 | .In=>false
 | .NotIn=>false
 | _=>true
theorem oJ {op:CmpOp}{b:Expr}(h:CI op=true):behindInMarks op b=false:=by
 cases op <;> first|exact ER _|(cases h)
theorem CV {op:CmpOp}{f:F2}(ho:Q2 X (compareOp op) f)(ha:QE X a ga)(hb:QE X b gb)(hm:CI op=true:=by rfl):QE X (.Compare a [op] [b] pos) (g2 f ga gb):=⟨EK ho.h ha.h hb.h (oJ hm)⟩
theorem Dh {op:CmpOp}{f:F2}(ho:Q2 X (compareOp op) f)(ha:QE X a ga)(hb:QE X b gb)(hm:CI op=true:=by rfl):QT X (.Compare a [op] [b] pos) (aM (g2 f ga gb)):=⟨xq ho.h ha.h hb.h (oJ hm)⟩
theorem BS {op:CmpOp}{f:F2}(ho:Q2 X (compareOp op) f)(ha:QE X a ga)(hb:QE X b gb)(hm:behindInMarks op b=false:=by with_unfolding_all rfl):QT X (.Compare a [op] [b] pos) (aM (g2 f ga gb)):=⟨xq ho.h ha.h hb.h hm⟩
theorem zy {op op':CmpOp}{f f':F2}(ho:Q2 X (compareOp op) f)(ho':Q2 X (compareOp op') f')(ha:QE X a ga)(hb:QE X b gb)(hc:QE X c gc)(hm:lastMarks [op,op'] [b,c]=false:=by with_unfolding_all rfl):QE X (.Compare a [op,op'] [b,c] pos) (oh f f' ga gb gc):=⟨zo ho.h ho'.h ha.h hb.h hc.h hm⟩
theorem wZ {op op':CmpOp}{f f':F2}(ho:Q2 X (compareOp op) f)(ho':Q2 X (compareOp op') f')(ha:QE X a ga)(hb:QE X b gb)(hc:QE X c gc)(hm:lastMarks [op,op'] [b,c]=false:=by with_unfolding_all rfl):QT X (.Compare a [op,op'] [b,c] pos) (aM (oh f f' ga gb gc)):=⟨xr ho.h ho'.h ha.h hb.h hc.h hm⟩
theorem ED {op}(h:QE X a g):QE X (.BoolOp op [a] pos) g:=⟨CC h.h⟩
theorem CT (ha:QE X a ga)(hb:QE X (.BoolOp .And (b::rest) pos) gb):QE X (.BoolOp .And (a::b::rest) pos) (cR ga gb):=⟨Eo ha.h hb.h⟩
theorem He (ha:QE X a ga)(hb:QE X (.BoolOp .Or (b::rest) pos) gb):QE X (.BoolOp .Or (a::b::rest) pos) (Cj ga gb):=⟨GX ha.h hb.h⟩
theorem AR (ha:QT X a ta):QW X (.BoolOp .And [a] pos) ta:=⟨zT ha.h⟩
theorem C4 (ha:QT X a ta):QW X (.BoolOp .Or [a] pos) ta:=⟨C0 ha.h⟩
theorem EN (ha:QT X a ta)(hb:QW X (.BoolOp .And (b::rest) pos) tb):QW X (.BoolOp .And (a::b::rest) pos) (eA ta tb):=⟨DD ha.h hb.h⟩
theorem GC (ha:QT X a ta)(hb:QW X (.BoolOp .Or (b::rest) pos) tb):QW X (.BoolOp .Or (a::b::rest) pos) (fZ ta tb):=⟨FS ha.h hb.h⟩
theorem GH (h:QW X a ta):QT X a ta:=⟨PW.pt h.h⟩
theorem ES (h:QT X a ta):QT X (.UnaryOp .Not a pos) (bY ta):=⟨C8 h.h⟩
theorem DN (h:QE X a g)(he:∀whole,isTrue a X.env whole=(do let v ←whole;standAt a.pos;holding [v] (truthy v)):=by intro _;rfl):QT X a (cM g):=⟨Es h.h he⟩
theorem E8:QA X [] ag:=⟨DZ⟩
theorem Jd {gr:GA}(ha:QE X e g)(hr:QA X es gr)(h:aJ e=true:=by rfl):QA X (e::es) (aa g gr):=⟨Im ha.h hr.h h⟩
theorem D7 {x1}(h:QA X es gA):QE X (.Tuple es x1 pos) (aF gA):=⟨Df h.h⟩
theorem DP (h:QA X es gA):QE X (.List es pos) (dk gA):=⟨En h.h⟩
theorem CJ (h:QA X es gA):QE X (.List es pos) (fB gA):=⟨Ep h.h⟩
theorem BN:QP X none bh:=⟨AV⟩
theorem Aq (h:QE X e g):QP X (some e) (cH g):=⟨zZ h.h⟩
theorem y9 {lo hi:Option Expr}{gl gh:GO}(he:QE X e g)(hl:QP X lo gl)(hh:QP X hi gh):QE X (.Subscript e (.Slice lo hi none p2) pos) (lF g gl gh):=⟨yN he.h hl.h hh.h⟩
theorem GB (ha:QE X a ga)(hb:QE X b gb)(hs:pv b:=by intro _ _;rfl):QE X (.Subscript a b pos) (g2 aL ga gb):=⟨FJ ha.h hb.h hs⟩
section
variable {apos cpos:Pos}{k n:Nat}{f:Addr}{fd:FuncData}{ps:List Str}{F:FD}{T:String}{id:String}
theorem ww (ho:QE X o go)(he:QE X e ge)(h1:aJ e=true:=by rfl)(hbase:attributeBase o "append" X.env (eval o X.env)=eval o X.env:=by rfl)(hline:(apos.endLine==cpos.line)=true:=by rfl):QE X (.Call (.Attribute o "append" apos) [e] [] cpos) (j8 go ge):=⟨vH ho.h he.h hbase (tP h1) hline (sE h1) rfl⟩
theorem yi (ho:QE X o go)(he:QE X e ge)(h1:aJ e=true:=by rfl)(hbase:attributeBase o "count" X.env (eval o X.env)=eval o X.env:=by rfl)(hline:(apos.endLine==cpos.line)=true:=by rfl):QE X (.Call (.Attribute o "count" apos) [e] [] cpos) (gq i6 go ge):=⟨xJ ho.h he.h h1 hbase hline⟩
theorem zc (ho:QE X o go)(he:QE X e ge)(h1:aJ e=true:=by rfl)(hbase:attributeBase o "index" X.env (eval o X.env)=eval o X.env:=by rfl)(hline:(apos.endLine==cpos.line)=true:=by rfl):QE X (.Call (.Attribute o "index" apos) [e] [] cpos) (gq iY go ge):=⟨xC ho.h he.h h1 hbase hline⟩
theorem F6 (Fn:dE X.prog X.w X.K X.mg X.base (jx X.prog X.w) k f fd ps (mw X.K n F))(hr:bL k X.A)(hg:Gl X x)(hm:X.mg x=some (.ref f))(hk:W.keepIn X.K (.ref f)=true)(hb:dg X.K fd ps [])(ha:QA X (e::es) gA)
  (hdb:(x==("__debug__":Str))=false:=by decide) (h1:aJ e=true:=by rfl) (h2:bP es=true:=by rfl):QE X (.Call (.Name x p) (e::es) [] pos) (aj n F gA):=⟨G1 Fn hr hg hm hk hb ha.h hdb h1 h2⟩
theorem GY (hc:QC X (.builtin id) F)(hg:Gl X x)(hm:X.mg x=none)(hv:bootBuiltins x=some (.builtin id))(ha:QA X (e::es) gA)(hn:x≠"__name__":=by decide)(hdb:(x==("__debug__":Str))=false:=by decide)
  (h1:aJ e=true:=by rfl) (h2:bP es=true:=by rfl):QE X (.Call (.Name x p) (e::es) [] pos) (aB F gA):=⟨F4 hc.h hg hm hv ha.h hn hdb h1 h2⟩
theorem Hi (hc:QC X (.type T) F)(hg:Gl X x)(hm:X.mg x=none)(hv:bootBuiltins x=some (.type T))(ha:QA X (e::es) gA)(hn:x≠"__name__":=by decide)(hdb:(x==("__debug__":Str))=false:=by decide)
  (h1:aJ e=true:=by rfl) (h2:bP es=true:=by rfl):QE X (.Call (.Name x p) (e::es) [] pos) (aB F gA):=⟨HL hc.h hg hm hv ha.h hn hdb h1 h2⟩
theorem Fy (hT:kK T)(hv:bootBuiltins x=some (.type T))(hg:Gl X x)(hm:X.mg x=none)(hgi:Gl X "isinstance")(hmi:X.mg "isinstance"=none)(he:QE X e g)
  (h1:aJ e=true:=by rfl) (hn:x≠"__name__":=by decide) (hd:(x==("__debug__":Str))=false:=by decide):QE X (.Call (.Name "isinstance" p) [e,.Name x p2] [] pos) (eB T g):=⟨FA hT hv hg hm hgi hmi he.h h1 hn hd⟩
theorem DE {G:Addr}{ok:Str→Option Bool}(hm:X.mg x=some (.ref G))(hk:∀c b C,ok c=some b→cw X.K c C→jS X.K C∧W.kitOne X.K (.ref C) (.ref G)=some b)(hg:Gl X x)(hgi:Gl X "isinstance")(hmi:X.mg "isinstance"=none)(he:QE X e g)
  (h1:aJ e=true:=by rfl) (hd:(x==("__debug__":Str))=false:=by decide):QE X (.Call (.Name "isinstance" p) [e,.Name x p2] [] pos) (fR ok g):=⟨Ct hm hk hg hgi hmi he.h h1 hd⟩
theorem z7 {ok:Str→Option Bool}(hv:bootBuiltins x=some (.type T))(hm:X.mg x=none)(hk:∀c b C,ok c=some b→cw X.K c C→jS X.K C∧W.kitOne X.K (.ref C) (.type T)=some b)(hg:Gl X x)(hgi:Gl X "isinstance")(hmi:X.mg "isinstance"=none)(he:QE X e g)
  (h1:aJ e=true:=by rfl) (hn:x≠"__name__":=by decide) (hd:(x==("__debug__":Str))=false:=by decide):QE X (.Call (.Name "isinstance" p) [e,.Name x p2] [] pos) (fR ok g):=⟨BH hv hm hk hg hgi hmi he.h h1 hn hd⟩
end
theorem Hb {tg:Expr}(hg:Gl X "range")(hm:X.mg "range"=none)(ha:QA X [a] gA)(h1:aJ a=true:=by rfl):QI X tg (.Call (.Name "range" p) [a] [] pos) (fe gA):=⟨FV hg hm ha.h h1⟩
theorem Dj {tg:Expr}(h:QE X e g):QI X tg e (eE g):=⟨E6 h.h⟩
section
variable {scope:Scope}{R:List Str}{iter elt:Expr}{ifs:List Expr}{gI:GI}{gC:GT}{px:Pos}{mk:List D→aq→aU D}
theorem vU {xs:List Str}:B8 X scope xs R [] bK:=⟨xD⟩
theorem z5 (hS:cB scope X.env.kindOf [x] R X.N=true)(hm:mk=aR∨mk=dI)(hi:QI X (.Name x px) iter gI)(hts:B8 X scope [x] R ifs gC)(he:∀fp s H C,QE (az X scope [x] R fp s H C) elt ge)
  (hc:X.calm=true:=by rfl) (hs:∀x,foldedSetIterable iter X.env x=pure x:=by intro _;rfl):QE X (.ListComp elt [⟨.Name x px,iter,ifs,0⟩] scope pos) (bB gI gC ge mk):=⟨Bl hS hc hm hi.h hts.h (fun fp s H C=>(he fp s H C).h) hs⟩
theorem ua {j:Nat}{y:Str}{py spos:Pos}(hS:cB scope X.env.kindOf [x] R X.N=true)(hm:mk=aR∨mk=dI)(hN:X.N.Nodup)(hi:QI X (.Name x px) iter gI)(hts:B8 X scope [x] R ifs gC)(he:∀fp s H C,QE (az X scope [x] R fp s H C) elt ge)
  (hc:X.calm=true:=by rfl) (hj:X.N[j]?=some y:=by rfl) (hy:X.env.scope.names.lookup y=some .local:=by rfl) (hsw:swapsWith (.ListComp elt [⟨.Name x px,iter,ifs,0⟩] scope pos) (some (.Name y py)) spos.line X.env=pure true:=by rfl)
  (hs:∀x,foldedSetIterable iter X.env x=pure x:=by intro _;rfl):QS X (.Assign [.Name y py] (.ListComp elt [⟨.Name x px,iter,ifs,0⟩] scope pos) spos) (aG j (bB gI gC ge mk)):=⟨sv hS hc hm hi.h hts.h (fun fp s H C=>(he fp s H C).h) hN hj hy hsw hs⟩
theorem CF (n:Nat){is:List Nat}(h:is.all (fun i=>decide (i<n))=true:=by rfl):QO n (bN is):=⟨zW h⟩
theorem ot {xs:List Str}{fp:List Addr}{s:Shared}{H:Hp}{C:Addr}{y:Str}(hS:cB scope X.env.kindOf xs R X.N=true)(h:y∈xs):(az X scope xs R fp s H C).env.scope.names.lookup y=some .local:=lookup_relabel_local ((bW.of hS).own y h)
theorem JR {xs:List Str}{fp:List Addr}{s:Shared}{H:Hp}{C:Addr}{y:Str}(i:Nat)(hS:cB scope X.env.kindOf xs R X.N=true)(hi:(xs++R)[i]?=some y:=by rfl)(hx:y∈xs:=by simp):QG (az X scope xs R fp s H C) (.Name y pos) (gK i):=
 ⟨pF (X:=az X scope xs R fp s H C) (bW.of hS).nd hi (.inl (ot hS hx)) (.inr (ot hS hx))⟩
theorem xm {tg:Expr}{sg:GG}(xs:List Str)(hS:cB scope X.env.kindOf xs R X.N=true)(hm:mk=aR∨mk=dI)(own:QO xs.length sg)(hi:QI X tg iter gI)(hg:∀fp s H C,QG (az X scope xs R fp s H C) tg sg)(hts:B8 X scope xs R ifs gC)(he:∀fp s H C,QE (az X scope xs R fp s H C) elt ge)
  (hc:X.calm=true:=by rfl) (hs:∀x,foldedSetIterable iter X.env x=pure x:=by intro _;rfl):QE X (.ListComp elt [⟨tg,iter,ifs,0⟩] scope pos) (cA gI xs.length sg gC ge mk):=⟨qy hS hc hm hi.h own.h (fun fp s H C=>(hg fp s H C).h) hts.h (fun fp s H C=>(he fp s H C).h) hs⟩
end
def hZ:Expr→Bool
 | .ListComp ..=>false
 | .SetComp ..=>false
 | .DictComp ..=>false
 | _=>true
theorem iN {t:Option Expr}{l:Nat}{env:Env}(h:hZ e=true):swapsWith e t l env=pure false:=by
 cases e <;> first|rfl|exact ff h
section
variable {st:Stmt}{stmts:List Stmt}{t u:GS}
theorem DJ:QB X [] aD:=⟨C3⟩
theorem AN (h1:QS X st t)(h2:QB X stmts u):QB X (st::stmts) (ar t u):=⟨Bn h1.h h2.h⟩
theorem D4 (h1:QS X st t):QB X [st] t:=⟨C5 h1.h⟩
theorem Ew (i:Nat){x:Str}(hN:X.N.Nodup)(he:QE X e g)(hi:X.N[i]?=some x:=by rfl)(hx:zL X.env.scope x:=by first|exact Or.inl rfl|exact Or.inr rfl)(hs:hZ e=true:=by rfl)(hf:X.fn x=true∨X.env.scope.names.lookup x=some .local:=by first|exact .inl rfl|exact .inr rfl) :
  QS X (.Assign [.Name x pos'] e pos) (aG i g):=⟨ss i hN he.h hi hx (iN hs) hf⟩
theorem El (he:QE X e g):QS X (.Return (some e) pos) (aA g):=⟨Ex he.h⟩
theorem z9 (he:QE X e g)(hs:hZ e=true:=by rfl):QS X (.Expr e pos) (cV g):=⟨zY he.h (iN hs)⟩
theorem F9 {a b:List Stmt}{tc:GT}(hc:QT X c tc)(ha:QB X a t)(hb:QB X b u):QS X (.If c a b pos) (dL tc t u):=⟨G3 hc.h ha.h hb.h⟩
theorem qn (i:Nat){x:Str}(hN:X.N.Nodup)(hi:X.N[i]?=some x:=by rfl)(hx:zL X.env.scope x:=by first|exact Or.inl rfl|exact Or.inr rfl)(hf:X.fn x=true∨X.env.scope.names.lookup x=some .local:=by first|exact .inl rfl|exact .inr rfl):QG X (.Name x pos) (gK i):=⟨gg i hN hi hx hf⟩
theorem AE:Hm X [] []:=⟨AY⟩
theorem GW {i:Nat}{is:List Nat}(h1:QG X e (gK i))(h2:Hm X es is)(hs:(assignEach (e::es) X.env).map (·.2)=assign e X.env::(assignEach es X.env).map (·.2):=by rfl):Hm X (e::es) (i::is):=⟨xy h1.h h2.h hs⟩
theorem Cu {is:List Nat}{k n:Nat}(h:Hm X es is)(hc:X.calm=true:=by rfl)(hl:is.length=n:=by rfl)(hn:(assignEach es X.env).length=n:=by rfl)(hst:(assignEach es X.env).findIdx? (·.1)=none:=by rfl):QG X (.Tuple es k pos) (bN is):=⟨D5 hc h.h hl hn hst⟩
theorem CS {tg:Expr}{s:GG}(he:QE X e g)(hg:QG X tg s)(hs:hZ e=true:=by rfl)(hw:swappedStores [tg] e X.env=pure none:=by rfl)(h1:(assignEach [tg] X.env).map (·.2)=[assign tg X.env]:=by rfl):QS X (.Assign [tg] e pos) (cg s g):=⟨Dr he.h hg.h (iN hs) hw h1⟩
theorem D1 {ip:Pos}(he:QE X e g)(ho:QE X o go)(hi:QE X i gi)
  (ha:∀v,assign (.Subscript o i ip) X.env v=(do
   let ov ←holding [v] (eval o X.env)
   let iv ←holding [v,ov] (eval i X.env)
   standAt ip
   holding [v,ov,iv] (setItem ov iv v)
   release [v,ov,iv] []):=by intro _;rfl)
  (hs:hZ e=true:=by rfl) (hw:swappedStores [.Subscript o i ip] e X.env=pure none:=by rfl):QS X (.Assign [.Subscript o i ip] e pos) (iK go gi g):=⟨EO he.h ho.h hi.h ha (by unfold swapsWithSole;exact iN hs) hw rfl⟩
theorem Dt {tg iter:Expr}{body:List Stmt}{gI:GI}{sg:GG}{gB:GS}(hp:PassesOwn (model X.prog X.w) X.A X.env X.xe)(hi:QI X tg iter gI)(hg:QG X tg sg)(hb:QB X body gB)(hc:X.calm=true:=by rfl)(hs:∀x,foldedSetIterable iter X.env x=pure x:=by intro _;rfl) :
  QS X (.For tg iter body [] pos) (m9 gI sg gB):=⟨DC hp hc hi.h hg.h hb.h hs⟩
theorem yx {body:List Stmt}{tc:GT}{gB:GS}{n:Nat}(hp:PassesOwn (model X.prog X.w) X.A X.env X.xe)(hc:QT X c tc)(hb:QB X body gB):QS X (.While c body [] pos) (nz n tc gB):=⟨xV hp hc.h hb.h⟩
theorem xt {x:Str}{C:Addr}{np cpos:Pos}(k:Ec X.K X.mg x C)(hg:Gl X x)(he:QE X e g)(hc:X.calm=true:=by rfl)(h1:aJ e=true:=by rfl)(hd:(x==("__debug__":Str))=false:=by decide):QS X (.Raise (some (.Call (.Name x np) [e] [] cpos)) none pos) (eX x g):=⟨ym k hc hg he.h h1 hd⟩
theorem CY {G n:Str}{Ga:Addr}{i:Nat}{ok:Str→Bool}{gB gh:GS}{body suite:List Stmt}{b0:Stmt}{np hpos:Pos}(kG:Ec X.K X.mg G Ga)(hok:∀c C,ok c=true→cw X.K c C→W.mroIn X.K C (.ref Ga)=some true)(hN:X.N.Nodup)
  (hb:∀pn E,QB (mZ X pn E) body gB) (hh:∀pn a,QB (jZ X pn a) (b0::suite) gh)
  (hg:Gl X G:=by rfl) (hst:X.stack=X.env::X.outer:=by rfl) (hf:X.env.frame=some X.env.locals:=by rfl) (hi:X.N[i]?=some n:=by rfl) (hl:X.env.kindOf n=some .local:=by rfl) (hfn:X.fn n=true∨X.env.scope.names.lookup n=some .local:=by first|exact .inl rfl|exact .inr rfl)
  (hd:(G==("__debug__":Str))=false:=by decide):QS X (.Try body [.ExceptHandler (some (.Name G np)) (some n) (b0::suite) hpos] [] [] pos) (mL i ok gB gh):=⟨EL kG hok hg hst hf hN hi hl hfn (fun pn E=>(hb pn E).h) (fun pn a=>(hh pn a).h) hd⟩
end
end
section
variable {X:Cx}{c f m:Str}{C:Addr}{o e value:Expr}{es:List Expr}{g go gv:GE}{gA:GA}{pos pos' apos p:Pos}{k n:Nat}{fa:Addr}{fd:FuncData}{ps:List Str}{F:FD}{pl:Sem Bool}
theorem Ek (kc:Kc X.K X.mg c C)(na:fV X.K C f)(he:QE X e g)(hb:attributeBase e f X.env (eval e X.env)=eval e X.env:=by rfl):QE X (.Attribute e f pos) (bS c f g):=⟨Er kc na he.h hb⟩
theorem EJ (kc:Kc X.K X.mg c C)(na:fV X.K C f)(ho:QE X o go)(hv:QE X value gv)(hs:hZ value=true:=by rfl):QS X (.Assign [.Attribute o f pos'] value pos) (fh c f go gv):=⟨EC kc na ho.h hv.h (iN hs)⟩
theorem D6 (kc:Kc X.K X.mg c C)(hm:oR X.K C m fa)(Fn:dE X.prog X.w X.K X.mg X.base (jx X.prog X.w) k fa fd ps (mw X.K n F))(hr:bL k X.A)(hb:dg X.K fd ps [])(ho:QE X o go)(ha:QA X (e::es) gA)
  (h1:aJ e=true:=by rfl) (h2:bP es=true:=by rfl)
  (ht:eval (.Call (.Attribute o m apos) (e::es) [] pos) X.env=(do
   let ov ←eval o X.env
   standAt apos.atName
   let (f,first) ←holding [ov] (getMethod ov m pl)
   callWith pos f first (backTo pos (starEach (e::es) X.env)) (backToKw pos (keywordEach [] X.env))):=by rfl):QE X (.Call (.Attribute o m apos) (e::es) [] pos) (cG c m n F go gA):=⟨EF (pl:=pl) kc hm Fn hr hb ho.h ha.h h1 h2 ht⟩
theorem zQ (kc:Kc X.K X.mg c C)(hm:oR X.K C m fa)(Fn:dE X.prog X.w X.K X.mg X.base (jx X.prog X.w) k fa fd ps (mw X.K n F))(hr:bL k X.A)(hb:dg X.K fd ps [])(ho:QE X o go)
  (ht:eval (.Call (.Attribute o m apos) [] [] pos) X.env=(do
   let ov ←eval o X.env
   standAt apos.atName
   let (f,first) ←holding [ov] (getMethod ov m pl)
   callWith pos f first (backTo pos (starEach [] X.env)) (backToKw pos (keywordEach [] X.env))):=by rfl):QE X (.Call (.Attribute o m apos) [] [] pos) (cG c m n F go ag):=⟨zX (pl:=pl) kc hm Fn hr hb ho.h ht⟩
theorem BQ (kc:Kc X.K X.mg c C)(Mc:Mk X.K C fa)(Fn:dE X.prog X.w X.K X.mg X.base (jx X.prog X.w) k fa fd ps (mw X.K n F))(hr:bL (k+1) X.A)(hg:Gl X c)(hb:dg X.K fd ps [])(ha:QA X (e::es) gA)
  (hdb:(c==("__debug__":Str))=false:=by decide) (h1:aJ e=true:=by rfl) (h2:bP es=true:=by rfl):QE X (.Call (.Name c p) (e::es) [] pos) (gD c n F gA):=⟨AI kc Mc Fn hr hg hb ha.h hdb h1 h2⟩
end
section
variable {X:Cx}{e o lo hi i:Expr}{g go gl gh:GE}{pos ip sp dpos p1 p2:Pos}{keys:List (Option Expr)}{values:List Expr}{tab:List (Str×Int)}
theorem CQ {i j:Nat}{x y:Str}{a b:Expr}{ga:GA}{px py pt:Pos}{kt k2 pt2}(hN:X.N.Nodup)(ha:QA X [a,b] ga)(hc:X.calm=true:=by rfl)(hi:X.N[i]?=some x:=by rfl)(hj:X.N[j]?=some y:=by rfl)(hij:i≠j:=by decide)
  (hx:X.env.scope.names.lookup x=some .local:=by rfl) (hy:X.env.scope.names.lookup y=some .local:=by rfl)
  (hw:swappedStores [.Tuple [.Name x px,.Name y py] kt pt] (.Tuple [a,b] k2 pt2) X.env=pure (some [x,y]):=by rfl) :
  QS X (.Assign [.Tuple [.Name x px,.Name y py] kt pt] (.Tuple [a,b] k2 pt2) pos) (tN i j ga):=⟨CO hc hN hi hj hij hx hy ha.h hw rfl⟩
end
structure Mf (K:W.Frag)(C:Addr)(x qual:Str)(st:Stmt)(f:Addr)(fd:FuncData)(ps:List Str):Prop where
 F:Dv K x qual st f fd
 me:oR K C x f
 b:dg K fd ps []
theorem Dw {P:Program}{w:World}{K:W.Frag}{mg:Str→Option Value}{base:Heap}{x qual:Str}{st:Stmt}{f:Addr}{fd:FuncData}{N ps:List Str}{k n:Nat}{g:GS}(F:Dv K x qual st f fd)(S:iy N ps (aV st))(hn:ps.length=n)
  (hbody:∀(cdv:Value) (A:Around) (outer:List Env) (s:Shared) (H:Hp) (E:XK),bL k (A.deeper (envOfC qual (aV st) s.heap.objs.size f cdv))→QB (jQ (jx P w) P w K mg base N qual (aV st) f cdv A outer s H E) (df st) g) :
  dE P w K mg base (jx P w) (k+1) f fd ps (mw K n (aX (N.length-n) g)):=Jh F S hn fun cdv A outer s H E hr=>(hbody cdv A outer s H E hr).h
theorem CM {l:W.OpenLaw}{n k:Nat}{q:Program}{loose:List Str}{XP:(Str→Option Value)→Heap→Prop}{YP:World→Heap→Prop}{d:DefRec}{K:Params→W.Frag}{x:Str}{F:FD}
  (hn:l.most=some n) (hn2:n≤sizeLine) (hdf:d.params.defaults=[]) (hr:bL k callerA) (hY:∀(w:World) (h:Heap),YP w h→(K w.params).In h)
  (hF:∀(w:World) (mg:Str→Option Value) (fa:Addr) (h:Heap),(K w.params).In h→h.Ns mainGlobals mg→mg d.name=some (.ref fa)→
   ∃fd:FuncData,(∀(s:Shared) (u:Value),BindsTo s fd ⟨[u],[]⟩ [(x,u)])∧∀base:Heap,(K w.params).In base→base.Ns mainGlobals mg→dE l.prog w (K w.params) mg base (jx l.prog w) k fa fd [x] (mw (K w.params) 1 F))
  (h1:∀w:World,W.nsIn (K w.params) mainGlobals "ink_shown"=some none) (h2:∀w:World,W.nsIn (K w.params) mainGlobals "table_within"=some none)
  (h3:∀w:World,W.nsIn (K w.params) mainGlobals "slots_given"=some none) (h4:∀w:World,W.nsIn (K w.params) mainGlobals "cast_on_slots"=some none)
  (ht:∀ns:List Int,ns.length≤n→∃M',F [.ro (ns.map D.int)] []=.ok (.bl true) M') :
  W.WalkO q loose XP YP l.row.toRowW d [] (fun f vs=>PySem.call f vs):=
 L2.walk_of (CX:=fun w=>jx l.prog w) (sp:=fun w=>mw (K w.params) 1 F) hn hn2 hdf hr hY hF (fun w H a ns hl _ hS=>DI (.no fun y hy=>by
  simp only[fM,mem_cons,not_mem_nil,or_false] at hy;rcases hy with rfl|rfl|rfl|rfl
  ·exact h1 w
  ·exact h2 w
  ·exact h3 w
  ·exact h4 w) hS (ht ns hl)) fun w H s e s' z=>HF z
section
variable {X:Cx}{x:Str}{z:Int}{pos:Pos}
theorem Br {tk:Tok}(hg:Gl X x)(hm:X.mg x=some (.int z tk))(hd:(x==("__debug__":Str))=false:=by decide):PE X (.Name x pos) (tE X (gC (.int z))):=
 (uL hg hm (v:=.int z) ⟨tk,rfl⟩ hd).of fun σ H Q h=>by
  obtain⟨ρ,θ,M,_,hw,h⟩:=h;exact h _ θ H (.refl hw) rfl
theorem Ap (hm:∃tk,X.mg x=some (.int z tk))(hg:Gl X x:=by rfl)(hd:(x==("__debug__":Str))=false:=by decide):QE X (.Name x pos) (gC (.int z)):=by
 obtain⟨tk,hm⟩:=hm;exact⟨Br hg hm hd⟩
end
end DL
namespace PySem
end PySem
namespace L2
open PySem PySem.Spec PyProof.Rows List
end L2
namespace DL
open PySem PySem.Spec PyProof.Rows L2 List
def uV:D→Option cr
 | .int i=>some (.inl i)
 | .str x=>some (.inr x)
 | _=>none
def vC:List D→Option (List cr)
 | []=>some []
 | d::ds=>match uV d,vC ds with
  | some k,some ks=>some (k::ks)
  | _,_=>none
def nu:D→Option (List cr)
 | .tup ds=>vC ds
 | _=>none
def eF {κ:Type}[DecidableEq κ](kvs:List (κ×D))(k:κ):Option D:=(kvs.find? fun kv=>decide (kv.1=k)).map (·.2)
section
variable {K:W.Frag}{θ:List Addr}{H:Hp}
theorem F7 {d:D}{k:cr}{v:V}(e:uV d=some k)(r:cX K θ H d v):v=kV k:=by
 cases d <;> simp only[uV,Option.some.injEq,reduceCtorEq] at e
 ·subst e;exact r
 ·subst e;exact r
theorem yR:∀{ds:List D} {ks:List cr} {vs:List V},vC ds=some ks→a9 K θ H ds vs→vs=ks.map kV
 | [],ks,vs,e,r=>by
  simp only[vC,Option.some.injEq] at e;subst e;exact r
 | d::ds,ks,vs,e,r=>by
  obtain⟨v,us,e1,r1,r2⟩:=r;simp only[vC] at e;cases q1:uV d with
  | none=>rw[q1] at e;cases e
  | some k=>
   cases q2:vC ds with
   | none=>rw[q1,q2] at e;cases e
   | some ks'=>
    rw[q1,q2] at e;cases e;rw[e1,F7 q1 r1,yR q2 r2];rfl
theorem DF {d:D}{ks:List cr}{v:V}(e:nu d=some ks)(r:cX K θ H d v):∃b,v=.ref b∧H b=some (.tup (ks.map kV))∧b∉θ:=by
 cases d with
 | tup ds=>
  obtain⟨a,vs,e1,t,r1⟩:=r;rw[yR e r1] at t;exact⟨a,e1,t.1,t.2⟩
 | _=>cases e
section
variable {κ:Type}[DecidableEq κ]
theorem wH {p:κ×D}{r:List (κ×D)}{k:κ}(e:p.1=k):eF (p::r) k=some p.2:=by simp[eF,find?_cons,e]
theorem wM {p:κ×D}{r:List (κ×D)}{k:κ}(e:¬p.1=k):eF (p::r) k=eF r k:=by simp[eF,find?_cons,e]
theorem kY:∀{fs:List (κ×D)} {vs:List (κ×V)} (k:κ),kn K θ H fs vs→(∀d,eF fs k=some d→∃v,jA vs k=some v∧cX K θ H d v)∧(eF fs k=none→jA vs k=none)
 | [],vs,k,r=>by
  have e:vs=[]:=r;subst e;exact⟨fun d h=>(by cases h),fun _=>rfl⟩
 | p::fs,vs,k,r=>by
  obtain⟨k0,d0⟩:=p;obtain⟨v,us,e,h1,h2⟩:=r;subst e
  by_cases q:k0=k
  ·rw[wH (p:=(k0,d0)) q,kL (p:=(k0,v)) q];exact⟨fun d h=>(by cases h;exact⟨v,rfl,h1⟩),fun h=>(by cases h)⟩
  ·rw[wM (p:=(k0,d0)) q,kF (p:=(k0,v)) q];exact kY k h2
theorem nW {k:κ}{d:D}{v:V}(h:cX K θ H d v):∀{fs:List (κ×D)} {vs:List (κ×V)},kn K θ H fs vs→kn K θ H (fs++[(k,d)]) (vs++[(k,v)])
 | [],vs,r=>by
  have e:vs=[]:=r;subst e;exact⟨v,[],rfl,h,rfl⟩
 | (k0,d0)::fs,vs,r=>by
  obtain⟨u,us,e,h1,h2⟩:=r;subst e;exact⟨u,us++[(k,v)],rfl,h1,nW h h2⟩
theorem gu:∀{fs:List (κ×D)} {vs:List (κ×V)},kn K θ H fs vs→fs.length=vs.length
 | [],vs,r=>by
  have e:vs=[]:=r;subst e;rfl
 | (k0,d0)::fs,vs,r=>by
  obtain⟨u,us,e,h1,h2⟩:=r;subst e;rw[length_cons,length_cons,gu h2]
end
end
section
variable {X:Cx}{pos apos cpos:Pos}{o e f:Expr}
def rH:GE:=fun _ M=>.ok (.mr M.length) (M++[.dT []])
theorem BP:PE X (.Dict [] [] pos) (tE X rH):=yY.of fun σ H Q ⟨ρ,θ,M,hd,hw,h⟩ p hp=>by
 have h:aE X θ H Q (.ok (.mr M.length) (M++[.dT []])):=h;exact h _ _ _ (ug hw hp ⟨[],bO,rfl⟩) (mR hw)
end
section
variable {X:Cx}{pos apos cpos:Pos}{o e f:Expr}{go gy gz:GE}
theorem Am:QE X (.Dict [] [] pos) rH:=⟨BP⟩
end
end DL
namespace L2
open PySem PySem.Spec PyProof.Rows List
end L2
namespace DL
open PySem PySem.Spec PyProof.Rows L2 List
end DL
namespace L2
open PySem PySem.Spec PyProof.Rows List
end L2
namespace DL
open PySem PySem.Spec PyProof.Rows L2 List
theorem aI {N ps:List Str}{sc:Scope}(h1:sc.kind=.function:=by rfl)(h2:sc.isCoroutine=false:=by rfl)(h3:sc.isGenerator=false:=by rfl)(h4:N.Nodup:=by decide +kernel)(h5:N.take ps.length=ps:=by rfl)
  (h6:∀x∈ps,sc.names.lookup x=some .local∨sc.names.lookup x=some .cell:=by decide +kernel) (h7:∀y∈sc.names,y.2≠.free:=by decide +kernel):iy N ps sc:=⟨h1,h2,h3,h4,h5,h6,h7⟩
section
variable {X:Cx}{e:Expr}{es:List Expr}{x:Str}{p pos:Pos}{gA:GA}{k k' n:Nat}{f:Addr}{fd:FuncData}{ps:List Str}{F:FD}{st:Stmt}{id:String}{T:String}
theorem FO (hc:QC X (.builtin id) F)(hm:X.mg x=none)(hv:bootBuiltins x=some (.builtin id))(ha:QA X (e::es) gA)(hg:Gl X x:=by rfl)(hn:x≠"__name__":=by decide)(hdb:(x==("__debug__":Str))=false:=by decide)
  (h1:aJ e=true:=by rfl) (h2:bP es=true:=by rfl):QE X (.Call (.Name x p) (e::es) [] pos) (aB F gA):=GY hc hg hm hv ha hn hdb h1 h2
end
def FF (K:W.Frag)(mg:Str→Option Value)(x:Str)(st:Stmt)(ps:List Str):Prop:=∃f fd,Fn K mg x st f fd ps
def KC (K:W.Frag)(mg:Str→Option Value)(c:Str)(C:Addr):Prop:=Kc K mg c C∧W.makesIn K C=true∧W.keepIn K (.ref C)=true
def MF (K:W.Frag)(mg:Str→Option Value)(c m q:Str)(st:Stmt)(ps:List Str):Prop:=∃C f fd,KC K mg c C∧Mf K C m q st f fd ps
def LF (K:W.Frag)(mg:Str→Option Value)(x:Str)(st:Stmt)(ps:List Str):Prop:=∃f fd c P,Fn K mg x st f fd ps∧W.nsIn K mainGlobals x=some (some (.ref f))∧IZ K x c P
def NA (K:W.Frag)(mg:Str→Option Value)(c f:Str):Prop:=∃C,KC K mg c C∧fV K C f
def EX (K:W.Frag)(mg:Str→Option Value)(x:Str):Prop:=∃C,Ec K mg x C
def IX (K:W.Frag)(mg:Str→Option Value)(x:Str)(tab:List (Str×Bool)):Prop:=∃G,Ec K mg x G∧∀p∈tab,∃C,Ec K mg p.1 C∧W.mroIn K C (.ref G)=some p.2
def IB (K:W.Frag)(mg:Str→Option Value)(x:String)(tab:List (Str×Bool)):Prop:=∀p∈tab,∃C,Ec K mg p.1 C∧W.mroIn K C (.type x)=some p.2
def Ls {α:Type}(P:α→Prop)(l:List α):Prop:=∀t∈l,P t
section
variable {α β γ:Type}{P:α→Prop}{l:List α}{a:α}
theorem Ls.nil:Ls P []:=fun _ h=>by cases h
theorem Ls.cons (h:P a)(t:Ls P l):Ls P (a::l):=fun x hx=>by
 rcases mem_cons.mp hx with e|e
 ·rw[e];exact h
 ·exact t x e
end
structure RN (l c:Nat)(xs R:List Str):Prop
theorem rn (l c:Nat)(xs R:List Str):RN l c xs R:=⟨⟩
def Ok (P:Program)(w:World)(K:W.Frag)(mg:Str→Option Value)(base:Heap)(x:Str)(k n:Nat)(F:FD):Prop:=
 ∃f fd ps,dE P w K mg base (jx P w) k f fd ps (mw K n F)∧mg x=some (.ref f)∧W.keepIn K (.ref f)=true∧dg K fd ps []
def Om (P:Program)(w:World)(K:W.Frag)(mg:Str→Option Value)(base:Heap)(c m:Str)(k n:Nat)(F:FD):Prop:=
 ∃C f fd ps,dE P w K mg base (jx P w) k f fd ps (mw K n F)∧KC K mg c C∧oR K C m f∧dg K fd ps []
section
variable {P:Program}{w:World}{K:W.Frag}{mg:Str→Option Value}{base:Heap}{x c m q:Str}{st:Stmt}{N ps:List Str}{k n:Nat}{g:GS}{F:FD}
theorem rV (h:Ok P w K mg base x k n F):Ok P w K mg base x k n fun ds M=>lV M.length (F ds M):=by
 obtain⟨f,fd,ps,h1,h2,h3,h4⟩:=h;exact⟨f,fd,ps,Eh h1,h2,h3,h4⟩
theorem bR (T:FF K mg x st ps)(N:List Str)(S:iy N ps (aV st))(hn:ps.length=n)
  (hb:∀(f:Addr) (cdv:Value) (A:Around) (outer:List Env) (s:Shared) (H:Hp) (E:XK),N.Nodup→bL k (A.deeper (envOfC x (aV st) s.heap.objs.size f cdv))→QB (jQ (jx P w) P w K mg base N x (aV st) f cdv A outer s H E) (df st) g) :
  Ok P w K mg base x (k+1) n (aX (N.length-n) g):=by
 obtain⟨f,fd,T⟩:=T;exact⟨f,fd,ps,Dw T.F S hn fun cdv A outer s H E hr=>hb f cdv A outer s H E S.nd hr,T.m,T.F.kp,T.b⟩
theorem pJ (T:MF K mg c m q st ps)(N:List Str)(S:iy N ps (aV st))(hn:ps.length=n)
  (hb:∀(f:Addr) (cdv:Value) (A:Around) (outer:List Env) (s:Shared) (H:Hp) (E:XK),N.Nodup→bL k (A.deeper (envOfC q (aV st) s.heap.objs.size f cdv))→QB (jQ (jx P w) P w K mg base N q (aV st) f cdv A outer s H E) (df st) g) :
  Om P w K mg base c m (k+1) n (aX (N.length-n) g):=by
 obtain⟨C,f,fd,kC,T⟩:=T;exact⟨C,f,fd,ps,Dw T.F S hn fun cdv A outer s H E hr=>hb f cdv A outer s H E S.nd hr,kC,T.me,T.b⟩
end
section
variable {X:Cx}{e a o value:Expr}{es:List Expr}{x c m f:Str}{p p2 pos apos pos':Pos}{gA:GA}{g go gv:GE}{k k' n:Nat}{F:FD}{tab:List (Str×Bool)}{bs:List Str}
theorem FC (h:Ok X.prog X.w X.K X.mg X.base x k n F)(hr:bL k' X.A)(ha:QA X (e::es) gA)(hk:k≤k':=by first|decide|omega)(hg:Gl X x:=by rfl)
  (hdb:(x==("__debug__":Str))=false:=by decide) (h1:aJ e=true:=by rfl) (h2:bP es=true:=by rfl):QE X (.Call (.Name x p) (e::es) [] pos) (aj n F gA):=by
 obtain⟨f,fd,ps,h1',h2',h3,h4⟩:=h;exact F6 h1' (hr.mono hk) hg h2' h3 h4 ha hdb h1 h2
theorem Bj {pl:Sem Bool}(h:Om X.prog X.w X.K X.mg X.base c m k n F)(hr:bL k' X.A)(ho:QE X o go)(ha:QA X (e::es) gA)(hk:k≤k':=by first|decide|omega)(h1:aJ e=true:=by rfl)(h2:bP es=true:=by rfl)
  (ht:eval (.Call (.Attribute o m apos) (e::es) [] pos) X.env=(do
   let ov ←eval o X.env
   standAt apos.atName
   let (f,first) ←holding [ov] (getMethod ov m pl)
   callWith pos f first (backTo pos (starEach (e::es) X.env)) (backToKw pos (keywordEach [] X.env))):=by rfl):QE X (.Call (.Attribute o m apos) (e::es) [] pos) (cG c m n F go gA):=by
 obtain⟨C,f,fd,ps,a1,a2,a3,a4⟩:=h;exact D6 (pl:=pl) a2.1 a3 a1 (hr.mono hk) a4 ho ha h1 h2 ht
theorem wJ {pl:Sem Bool}(h:Om X.prog X.w X.K X.mg X.base c m k n F)(hr:bL k' X.A)(ho:QE X o go)(hk:k≤k':=by first|decide|omega)
  (ht:eval (.Call (.Attribute o m apos) [] [] pos) X.env=(do
   let ov ←eval o X.env
   standAt apos.atName
   let (f,first) ←holding [ov] (getMethod ov m pl)
   callWith pos f first (backTo pos (starEach [] X.env)) (backToKw pos (keywordEach [] X.env))):=by rfl):QE X (.Call (.Attribute o m apos) [] [] pos) (cG c m n F go ag):=by
 obtain⟨C,f,fd,ps,a1,a2,a3,a4⟩:=h;exact zQ (pl:=pl) a2.1 a3 a1 (hr.mono hk) a4 ho ht
theorem yC (h:Om X.prog X.w X.K X.mg X.base c "__init__" k n F)(hr:bL k' X.A)(ha:QA X (e::es) gA)(hk:k+1≤k':=by first|decide|omega)(hg:Gl X c:=by rfl)
  (hdb:(c==("__debug__":Str))=false:=by decide) (h1:aJ e=true:=by rfl) (h2:bP es=true:=by rfl):QE X (.Call (.Name c p) (e::es) [] pos) (gD c n F gA):=by
 obtain⟨C,f,fd,ps,a1,a2,a3,a4⟩:=h;exact BQ a2.1 ⟨a2.2.1,a3.at_,a3.fn,a2.2.2⟩ a1 (hr.mono hk) hg a4 ha hdb h1 h2
theorem Bv (h:NA X.K X.mg c f)(he:QE X e g)(hb:attributeBase e f X.env (eval e X.env)=eval e X.env:=by rfl):QE X (.Attribute e f pos) (bS c f g):=by
 obtain⟨C,h1,h2⟩:=h;exact Ek h1.1 h2 he hb
theorem BL (h:NA X.K X.mg c f)(ho:QE X o go)(hv:QE X value gv)(hs:hZ value=true:=by rfl):QS X (.Assign [.Attribute o f pos'] value pos) (fh c f go gv):=by
 obtain⟨C,h1,h2⟩:=h;exact EJ h1.1 h2 ho hv hs
theorem vF {np cpos:Pos}(h:EX X.K X.mg x)(he:QE X e g)(hg:Gl X x:=by rfl)(hc:X.calm=true:=by rfl)(h1:aJ e=true:=by rfl)(hd:(x==("__debug__":Str))=false:=by decide):QS X (.Raise (some (.Call (.Name x np) [e] [] cpos)) none pos) (eX x g):=by
 obtain⟨C,h⟩:=h;exact xt h hg he hc h1 hd
theorem Aw (h:IX X.K X.mg x tab)(hmi:X.mg "isinstance"=none)(he:QE X e g)(hg:Gl X x:=by rfl)(hgi:Gl X "isinstance":=by rfl)
  (h1:aJ e=true:=by rfl) (hd:(x==("__debug__":Str))=false:=by decide):QE X (.Call (.Name "isinstance" p) [e,.Name x p2] [] pos) (fR (p0 tab) g):=by
 obtain⟨G,h,t⟩:=h;exact DE h.m (yl fun p hp=>(t p hp).elim fun C q=>⟨C,q.1.at_,q.1.k,Bk h q.2⟩) hg hgi hmi he h1 hd
theorem yH {T:String}(h:IB X.K X.mg T tab)(hm:X.mg x=none)(hmi:X.mg "isinstance"=none)(he:QE X e g)(hT:W.kitMeta T=true)(hv:bootBuiltins x=some (.type T))(hg:Gl X x:=by rfl)(hgi:Gl X "isinstance":=by rfl)
  (h1:aJ e=true:=by rfl) (hn:x≠"__name__":=by decide) (hd:(x==("__debug__":Str))=false:=by decide):QE X (.Call (.Name "isinstance" p) [e,.Name x p2] [] pos) (fR (p0 tab) g):=
 z7 hv hm (yl fun p hp=>(h p hp).elim fun C q=>⟨C,q.1.at_,q.1.k,wC hT q.2⟩) hg hgi hmi he h1 hn hd
theorem Bf {l:List Str}{G n:Str}{i:Nat}{gB gh:GS}{body suite:List Stmt}{b0:Stmt}{np hpos:Pos}(h:IX X.K X.mg G tab)(hN:X.N.Nodup)
  (hb:∀pn E,QB (mZ X pn E) body gB) (hh:∀pn a,QB (jZ X pn a) (b0::suite) gh) (hl:tab=l.map (·,true):=by rfl)
  (hg:Gl X G:=by rfl) (hst:X.stack=X.env::X.outer:=by rfl) (hf:X.env.frame=some X.env.locals:=by rfl) (hi:X.N[i]?=some n:=by rfl) (hl:X.env.kindOf n=some .local:=by rfl) (hfn:X.fn n=true∨X.env.scope.names.lookup n=some .local:=by first|exact .inl rfl|exact .inr rfl)
  (hd:(G==("__debug__":Str))=false:=by decide):QS X (.Try body [.ExceptHandler (some (.Name G np)) (some n) (b0::suite) hpos] [] [] pos) (mL i (List.contains l) gB gh):=by
 obtain⟨C,h,t⟩:=h;refine CY h (JS (l:=l) fun c hc=>?_) hN hb hh hg hst hf hi hl hfn hd;subst tab;obtain⟨D,q1,q2⟩:=t (c,true) (mem_map.mpr ⟨c,hc,rfl⟩);exact⟨D,q1.at_,q2⟩
end
section
variable {X:Cx}{x:Str}{pos px:Pos}{ge:GE}{scope:Scope}{xs R:List Str}{iter elt tg:Expr}{ifs:List Expr}{gI:GI}{gC:GT}{sg:GG}{mk:List D→aq→aU D}{j:Nat}{y:Str}{py spos:Pos}{n:Nat}
theorem zd (hS:cB scope X.env.kindOf [x] X.N X.N=true)(hm:mk=aR∨mk=dI)(hi:QI X (.Name x px) iter gI)(hts:B8 X scope [x] X.N ifs gC)(he:∀fp s H C,QE (az X scope [x] X.N fp s H C) elt ge)
  (hc:X.calm=true:=by rfl) (hs:∀x,foldedSetIterable iter X.env x=pure x:=by intro _;rfl):QE X (.ListComp elt [⟨.Name x px,iter,ifs,0⟩] scope pos) (bB gI gC ge mk):=z5 hS hm hi hts he hc hs
theorem rP (hS:cB scope X.env.kindOf [x] X.N X.N=true)(hm:mk=aR∨mk=dI)(hN:X.N.Nodup)(hi:QI X (.Name x px) iter gI)(hts:B8 X scope [x] X.N ifs gC)(he:∀fp s H C,QE (az X scope [x] X.N fp s H C) elt ge)
  (hc:X.calm=true:=by rfl) (hj:X.N[j]?=some y:=by rfl) (hy:X.env.scope.names.lookup y=some .local:=by rfl) (hsw:swapsWith (.ListComp elt [⟨.Name x px,iter,ifs,0⟩] scope pos) (some (.Name y py)) spos.line X.env=pure true:=by rfl)
  (hs:∀x,foldedSetIterable iter X.env x=pure x:=by intro _;rfl):QS X (.Assign [.Name y py] (.ListComp elt [⟨.Name x px,iter,ifs,0⟩] scope pos) spos) (aG j (bB gI gC ge mk)):=ua hS hm hN hi hts he hc hj hy hsw hs
theorem wd (_:RN pos.line pos.col xs R)(hS:cB scope X.env.kindOf xs R X.N=true)(hm:mk=aR∨mk=dI)(own:QO xs.length sg)(hi:QI X tg iter gI)(hg:∀fp s H C,QG (az X scope xs R fp s H C) tg sg)(hts:B8 X scope xs R ifs gC)(he:∀fp s H C,QE (az X scope xs R fp s H C) elt ge)
  (hn:xs.length=n:=by rfl) (hc:X.calm=true:=by rfl) (hs:∀x,foldedSetIterable iter X.env x=pure x:=by intro _;rfl):QE X (.ListComp elt [⟨tg,iter,ifs,0⟩] scope pos) (cA gI n sg gC ge mk):=hn▸xm xs hS hm own hi hg hts he hc hs
end
structure Tx (tab:List (Str×Stmt×List Str))(mtab:List (Str×Str×Str×Stmt×List Str))(ls:List (Str×Stmt×List Str))(zs es:List Str)(rs:List (Str×List (Str×Bool)))(vt:List (Str×Bool))(nas:List (Str×Str))(cs:List (Str×Str))(ci:List (Str×Int))
  (P:Program) (w:World) (K:W.Frag) (mg:Str→Option Value) (base:Heap):Prop where
 f:Ls (fun t=>FF K mg t.1 t.2.1 t.2.2) tab
 m:Ls (fun t=>MF K mg t.1 t.2.1 t.2.2.1 t.2.2.2.1 t.2.2.2.2) mtab
 l:Ls (fun t=>LF K mg t.1 t.2.1 t.2.2) ls
 z:∀x∈zs,mg x=none
 e:∀x∈es,EX K mg x
 r:Ls (fun t=>IX K mg t.1 t.2) rs
 b:IB K mg "ValueError" vt
 a:∀t∈nas,NA K mg t.1 t.2
 s:Ls (fun t=>∃tk,mg t.1=some (.str t.2 tk)) cs
 i:Ls (fun t=>∃tk,mg t.1=some (.int t.2 tk)) ci
theorem xG {K:W.Frag}{mg:Str→Option Value}{l:List (Str×Str)}(h:∀t∈l,NA K mg t.1 t.2)(c f:Str)(e:(c,f)∈l:=by decide +kernel):NA K mg c f:=h (c,f) e
theorem p4 {K:W.Frag}{mg:Str→Option Value}{l:List (Str×List (Str×Bool))}{x:Str}{t:List (Str×Bool)}(h:Ls (fun t=>IX K mg t.1 t.2) l)(e:l.lookup x=some t):IX K mg x t:=by
 refine h (x,t) ?_
 induction l with
 | nil=>cases e
 | cons p l ih=>
  obtain⟨y,u⟩:=p;rw[lookup_cons] at e;split at e
  ·rename_i q;cases e;rw[eq_of_beq q];exact .head _
  ·exact .tail _ (ih (fun t ht=>h t (.tail _ ht)) e)
section
variable {K:W.Frag}{mg:Str→Option Value}{x c m q:Str}{st:Stmt}{ps:List Str}{l:List (Str×Stmt×List Str)}{l':List (Str×Str×Str×Stmt×List Str)}
theorem bQ (h:Ls (fun t=>FF K mg t.1 t.2.1 t.2.2) l)(i:Nat)(e:l[i]?=some (x,st,ps):=by rfl):FF K mg x st ps:=h _ (mem_of_getElem? e)
theorem pk (h:Ls (fun t=>MF K mg t.1 t.2.1 t.2.2.1 t.2.2.2.1 t.2.2.2.2) l')(i:Nat)(e:l'[i]?=some (c,m,q,st,ps):=by rfl):MF K mg c m q st ps:=h _ (mem_of_getElem? e)
theorem JW {l:List (Str×Int)}{z:Int}(h:Ls (fun t=>∃tk,mg t.1=some (.int t.2 tk)) l)(i:Nat)(e:l[i]?=some (x,z):=by rfl):∃tk,mg x=some (.int z tk):=h _ (mem_of_getElem? e)
end
section
variable {K:W.Frag}{h:Heap}{mg:Str→Option Value}{x c m q f':Str}{st:Stmt}{ps:List Str}{f C G:Addr}{oc kV dc pm cd ct:Value}{od an:Option Addr}{sl:Array (Option Value)}
theorem Gk (X:K.In h)(Gm:h.Ns mainGlobals mg)(a:W.nsIn K mainGlobals x=some (some (.ref f)))(l:K.lookup f=some ⟨oc,od,.func (W.fnOf x x (fu st) (df st) (aV st) .none kV dc pm an cd ct),sl⟩)(c:W.codeIn K cd x=true)(k:W.keepIn K (.ref f)=true)
  (b:∀(kV doc pm:Value) (an:Option Addr) (cdv ct:Value) (us:List Value),us.length=ps.length→bindArgs (W.fnOf x x (fu st) (df st) (aV st) .none kV doc pm an cdv ct) ⟨us,[]⟩=pure (ps.zip us)):FF K mg x st ps:=
 ⟨f,_,pL (st:=st) l c k,W.mg_of X Gm a,(pL (st:=st) l c k).binds b⟩
theorem Hh (X:K.In h)(Gm:h.Ns mainGlobals mg)(q:W.nsIn K mainGlobals c=some (some (.ref C)))(pg:W.plainGet K C Str.empty=true)(hd:W.hasDictIn K C=true)(po:W.plainOver K C=true)(sa:W.findIn K (.ref C) "__setattr__"=some (some (.builtin "object.__setattr__")))
  (mi:W.makesIn K C=true) (kp:W.keepIn K (.ref C)=true):KC K mg c C:=⟨⟨q,W.mg_of X Gm q,pg,hd,po,sa⟩,mi,kp⟩
theorem HE (kC:KC K mg c C)(a:W.findIn K (.ref C) m=some (some (.ref f)))(l:K.lookup f=some ⟨oc,od,.func (W.fnOf m q (fu st) (df st) (aV st) .none kV dc pm an cd ct),sl⟩)(cc:W.codeIn K cd q=true)(k:W.keepIn K (.ref f)=true)(n:W.isFn K (.ref f)=true)
  (b:∀(kV doc pm:Value) (an:Option Addr) (cdv ct:Value) (us:List Value),us.length=ps.length→bindArgs (W.fnOf m q (fu st) (df st) (aV st) .none kV doc pm an cdv ct) ⟨us,[]⟩=pure (ps.zip us)):MF K mg c m q st ps:=
 ⟨C,f,_,kC,pL (st:=st) l cc k,⟨a,n,k⟩,(pL (st:=st) l cc k).binds b⟩
theorem Hg (kC:KC K mg c C)(a:W.findIn K (.ref C) f'=some none):NA K mg c f':=⟨C,kC,a⟩
theorem FN (X:K.In h)(Gm:h.Ns mainGlobals mg)(q:W.nsIn K mainGlobals x=some (some (.ref C)))(cl:W.isClsIn K C=true)(ca:W.findIn K (.ref C) "__class__"=some (some (.builtin "object.__class__")))(sp:W.specialIn K (.builtin "object.__class__") "__get__"=some (some (.builtin "getset_descriptor.__get__")))(tk:W.takesIn K (.builtin "object.__class__")=some true)
  (ob:W.mroIn K C (.type "object")=some true) (ga:W.findIn K (.ref C) "__getattribute__"=some (some (.builtin "BaseException.__getattribute__"))) (gh:W.findIn K (.ref C) "__getattr__"=some none) (be:W.mroIn K C (.type "BaseException")=some true)
  (ex:W.excIn K C Gf "ValueError.__new__"=true) (ty:W.typeIn K (.ref C)=some (.type "type")) (sf:W.mroIn K C (.ref C)=some true):Ec K mg x C:=⟨q,W.mg_of X Gm q,⟨cl,ca,sp,tk,ob,ga,gh,be⟩,ex,ty,sf⟩
theorem G5 (h:Ec K mg x C):EX K mg x:=⟨C,h⟩
theorem Fz {tab:List (Str×Bool)}(h:Ec K mg x G)(t:Ls (fun p=>∃C,Ec K mg p.1 C∧W.mroIn K C (.ref G)=some p.2) tab):IX K mg x tab:=⟨G,h,t⟩
theorem Gx {T:Value}{b:Bool}(h:Ec K mg x C)(e:W.mroIn K C T=some b):∃C,Ec K mg x C∧W.mroIn K C T=some b:=⟨C,h,e⟩
theorem Jq (X:K.In h)(Gm:h.Ns mainGlobals mg)(e:W.nsIn K mainGlobals x=some none):mg x=none:=W.mg_none_of X Gm e
theorem GD {u:Tok→Value}{tk:Tok}(X:K.In h)(Gm:h.Ns mainGlobals mg)(e:W.nsIn K mainGlobals x=some (some (u tk))):∃tk,mg x=some (u tk):=⟨tk,W.mg_of X Gm e⟩
end
section
variable {P:List Value→Prop}
theorem JN (h:∀a b,P [a,b])(us:List Value)(hl:us.length=2):P us:=by
 match us,hl with
 | [a,b],_=>exact h a b
end
theorem Ee {l:W.OpenLaw}{w:World}{K:W.Frag}{mg:Str→Option Value}{fa:Addr}{st:Stmt}{k:Nat}{F:FD}(hfa:mg "law"=some (.ref fa))(L:FF K mg "law" st ["script"])
  (h:∀(base:Heap) (f:Addr) (fd:FuncData),Fn K mg "law" st f fd ["script"]→dE l.prog w K mg base (jx l.prog w) k f fd ["script"] (mw K 1 F))
  (hb:∀(kV doc pm:Value) (an:Option Addr) (cdv ct:Value) (v:Value),bindArgs (W.fnOf "law" "law" (fu st) (df st) (aV st) .none kV doc pm an cdv ct) ⟨[v],[]⟩=pure [(("script":Str),v)]) :
  ∃fd:FuncData,(∀(s:Shared) (v:Value),BindsTo s fd ⟨[v],[]⟩ [("script",v)])∧∀base:Heap,K.In base→base.Ns mainGlobals mg→dE l.prog w K mg base (jx l.prog w) k fa fd ["script"] (mw K 1 F):=by
 obtain⟨f,fd,L⟩:=L;have e:=hfa.symm.trans L.m;cases e;refine⟨fd,fun s v=>?_,fun base _ _=>h base _ fd L⟩;obtain⟨oc,od,kV,doc,pm,an,cdv,ct,osl,rfl,lk,hcd⟩:=L.F.ex;exact .of_eq (hb kV doc pm an cdv ct v)
end DL
namespace DL
open PySem PySem.Spec PyProof.Rows PySem.W L2 List
section
variable {key:Nat→Int}{N:Nat}{s:Shared}{cmp:Nat→Nat→(Bool→Shared→Prop)→Shared→Prop}
def kp (key:Nat→Int)(p:Array Nat)(k:Nat):Int:=key (p.getD k 0)
def up (key:Nat→Int)(p:Array Nat)(n:Nat):Prop:=∀k,k+1<n→kp key p k≤kp key p (k+1)
def down (key:Nat→Int)(p:Array Nat)(n:Nat):Prop:=∀k,k+1<n→kp key p (k+1)≤kp key p k
end
section
def rank (zs:List (List Int))(z:List Int):Int:=(zs.countP fun y=>HT.lexLt y z:Nat)
end
end DL
namespace DL
open PySem PySem.Spec PyProof.Rows L2 List
def Ht (x y:D)(M:aq)(i:Nat)(kvs:List (List cr×D))(k:List cr):Prop:=x=.mr i∧M[i]?=some (.dT kvs)∧nu y=some k
def gX {α:Type}(f:Nat→List (List cr×D)→List cr→aq→aU α)(x y:D)(M:aq):aU α:=match x with
 | .mr i=>match M[i]? with
  | some (.dT kvs)=>match nu y with
   | some k=>f i kvs k M
   | none=>.bad
  | _=>.bad
 | _=>.bad
theorem m8 {α:Type}(f:Nat→List (List cr×D)→List cr→aq→aU α)(x y:D)(M:aq):gX f x y M=.bad∨∃i kvs k,Ht x y M i kvs k∧gX f x y M=f i kvs k M:=by
 cases x with
 | mr i=>
  cases q:M[i]? with
  | none=>exact .inl (by unfold gX;dsimp only;rw[q])
  | some m=>
   cases m with
   | dT kvs=>
    cases qk:nu y with
    | none=>exact .inl (by unfold gX;dsimp only;rw[q];dsimp only;rw[qk])
    | some k=>exact .inr ⟨i,kvs,k,⟨rfl,q,qk⟩,by unfold gX;dsimp only;rw[q];dsimp only;rw[qk]⟩
   | _=>exact .inl (by unfold gX;dsimp only;rw[q])
 | _=>exact .inl rfl
def Fg (neg:Bool):F2:=fun y x=>gX (fun _ kvs k M=>.ok (.bl ((eF kvs k).isSome != neg)) M) x y
def qu:F2:=gX fun _ kvs k M=>match eF kvs k with
 | some r=>.ok r M
 | none=>.bad
section
variable {K:W.Frag}{θ:List Addr}{H:Hp}{M:aq}
theorem zu {x y:D}{i:Nat}{kvs:List (List cr×D)}{k:List cr}{vx vy:V}(hw:Wr K θ H M)(h:Ht x y M i kvs k)(r1:cX K θ H x vx)(r2:cX K θ H y vy) :
  ∃a b vs,vx=.ref a∧vy=.ref b∧θ[i]?=some a∧H a=some (.dT vs)∧H b=some (.tup (k.map kV))∧kn K θ H kvs vs:=by
 rw[h.1] at r1;obtain⟨a,ea,ta⟩:=r1;obtain⟨vs,hv,ra⟩:=hw.at_ i a _ ta h.2.1;obtain⟨b,eb,hb,_⟩:=DF h.2.2 r2;exact⟨a,b,vs,ea,eb,ta,hv,hb,ra⟩
theorem An {kvs:List (List cr×D)}{vs:List (List cr×V)}(k:List cr)(ra:kn K θ H kvs vs):(jA vs k).isSome=(eF kvs k).isSome:=by
 obtain⟨i1,i2⟩:=kY k ra;cases q:eF kvs k with
 | none=>rw[i2 q];rfl
 | some r=>
  obtain⟨v,e,_⟩:=i1 r q;rw[e];rfl
end
section
variable {X:Cx}{pos:Pos}{o i e:Expr}{go gi ge:GE}
theorem vw (hu:X.A.units+1<cLine):fY X (compareOp .NotIn) (rD X (Fg true)):=by
 intro af s σ H x y v u Q I rx ry h;obtain⟨θ,M,dx,dy,hw,r1,r2,h⟩:=h;rcases m8 (fun _ kvs k M=>aU.ok (D.bl ((eF kvs k).isSome != true)) M) dy dx M with e|⟨j,kvs,k,t,e⟩
 ·have h:aE X θ H Q (gX _ dy dx M):=h;rw[e] at h;exact h.elim
 have h:aE X θ H Q (gX _ dy dx M):=h;rw[e] at h;obtain⟨a,b,vs,ea,eb,ta,hv,hb,ra⟩:=zu hw t r2 r1;rw[ea] at ry;have eu:u=.ref a:=ry;rw[eb] at rx;rw[eu];refine Bq hu I (qD.t hv hb) rx fun s' I'=>⟨.bl (!(jA vs k).isSome),H,I',rfl,?_⟩
 rw[An k ra,show(!(eF kvs k).isSome)=((eF kvs k).isSome != true) by cases (eF kvs k).isSome <;> rfl];exact h _ θ H (.refl hw) rfl
theorem AL (hu:X.A.units+1<cLine)(ho:PE X o (tE X go))(hi:PE X i (tE X gi))(hs:AX i):PE X (.Subscript o i pos) (tE X (g2 qu go gi)):=(zR hu ho hi hs).of fun σ H Q hxx=>by
 obtain⟨ρ,θ,M,hd,hw,h⟩:=hxx;refine bo hd hw (aE X θ H Q) (fun c M' h=>h) (fun h=>h) h fun d1 M1 v1 θ1 H1 g1 r1 h1=>?_
 have h1:=aE.go g1 h1;refine bo (hd.go g1) g1.wr (aE X θ1 H1 Q) (fun c M' h=>h) (fun h=>h) h1 fun d2 M2 v2 θ2 H2 g2 r2 h2=>?_
 have h2:=aE.go g2 h2;have r1:=r1.go g2;unfold qu at h2;rcases m8 (fun _ kvs k M=>match eF kvs k with|some r=>aU.ok r M|none=>.bad) d1 d2 M2 with e|⟨j,kvs,k,t,e⟩
 ·rw[e] at h2;exact h2.elim
 rw[e] at h2;obtain⟨a,b,vs,ea,eb,ta,hv,hb,ra⟩:=zu g2.wr t r1 r2;cases q:eF kvs k with
 | none=>rw[q] at h2;exact h2.elim
 | some r=>
  rw[q] at h2;obtain⟨v,ev,rv⟩:=(kY k ra).1 r q;refine⟨a,v,ea,?_,h2 v θ2 H2 (.refl g2.wr) rv⟩;rw[eb,←ev];exact qD.t hv hb
def CA (z:D):D→D→aq→aU Unit:=gX fun i kvs k N=>match eF kvs k with
 | some _=>.bad
 | none=>if kvs.length<sizeLine then .ok () (N.set i (.dT (kvs++[(k,z)]))) else .bad
def oj (gd gy gv:GE):GS:=fun ρ M=>(gv ρ M).bind fun z M1=>(gd ρ M1).bind fun d M2=>(gy ρ M2).bind fun y M3=>(CA z d y M3).bind fun _ M4=>.ok (.nx ρ) M4
theorem BF {pos':Pos}(hu:X.A.units+1<cLine)(ho:PE X o (tE X go))(hi:PE X i (tE X gi))(hv:PE X e (tE X ge))(hs:swapsWith e (some (.Subscript o i pos')) pos.line X.env=pure false:=by rfl) :
  PS X (.Assign [.Subscript o i pos'] e pos) (tS X (oj go gi ge)):=(Ac hu ho hi hv hs).of fun D σ H hxx=>by
 obtain⟨ρ,θ,M,hd,hw,h⟩:=hxx;refine bo hd hw (bU X θ H D) (fun c M' h=>h) (fun h=>h) h fun z M1 v1 θ1 H1 g1 r1 h1=>?_
 have h1:=bU.go g1 h1;refine bo (hd.go g1) g1.wr (bU X θ1 H1 D) (fun c M' h=>h) (fun h=>h) h1 fun d M2 v2 θ2 H2 g2 r2 h2=>?_
 have h2:=bU.go g2 h2;refine bo ((hd.go g1).go g2) g2.wr (bU X θ2 H2 D) (fun c M' h=>h) (fun h=>h) h2 fun y M3 v3 θ3 H3 g3 r3 h3=>?_
 have h3:=bU.go g3 h3;have r1:=r1.go (g2.trans g3);have r2:=r2.go g3;unfold CA at h3;rcases m8 (fun i kvs k N=>match eF kvs k with|some _=>aU.bad|none=>if kvs.length<sizeLine then aU.ok () (N.set i (.dT (kvs++[(k,z)]))) else .bad) d y M3 with q|⟨j,kvs,k,t,q⟩
 ·rw[q] at h3;exact h3.elim
 rw[q] at h3;obtain⟨a,b,vs,ea,eb,ta,hva,hb,ra⟩:=zu g3.wr t r2 r3;cases qg:eF kvs k with
 | some r=>rw[qg] at h3;exact h3.elim
 | none=>
  rw[qg] at h3;dsimp only at h3
  by_cases hl:kvs.length<sizeLine
  ·rw[if_pos hl] at h3;have nv:=(kY k ra).2 qg;refine⟨a,_,ea,by rw[eb];exact zJ.t hva hb (by rw[←gu ra];exact hl),?_⟩;rw[xv v1 nv];have gs:=o7 (m:=.dT (kvs++[(k,z)])) (o:=.dT (vs++[(k,v1)])) g3.wr ta ⟨_,bO,jw (mq g3.wr ta) (nW r1 ra)⟩;exact h3 σ θ3 _ gs ((((hd.go g1).go g2).go g3).go gs)
  ·rw[if_neg hl] at h3;exact h3.elim
end
end DL
namespace DL
open PySem PySem.Spec PyProof.Rows PySem.W L2 List
def mB (h:Heap)(d:Addr)(es:Array DictEntry)(ep:Nat):Prop:=∃o,h.get? d=some o∧o.ExactDict∧o.data=.dict es ep
section
variable {prog:Program}{w:World}{A:Around}{E:Value→Shared→Prop}{s:Shared}{d it:Addr}{es:Array DictEntry}{ep i:Nat}
theorem mB.typeIs (x:mB s.heap d es ep):s.TypeIs (.ref d) "dict":=by
 obtain⟨o,ho,hc,_⟩:=x;exact⟨o,ho,hc.1⟩
theorem xP {Q:Value→Shared→Prop}(hd:(d==sysModules)=false)(x:mB s.heap d es ep)
  (hQ:Q (.ref s.heap.objs.size) {s with heap:=s.heap.push {cls:=.type "dict_keyiterator",data:=.fields #[.ref d,.int 0 0,.int es.size 0,.int ep 0]}}):wpAny (model prog w) A (pyIter (.ref d)) Q E s:=by
 have T:=x.typeIs;obtain⟨o,ho,hc,hx⟩:=x;refine wpAny_pyIter_slot T PySem.F.slot_dict_iter (wpAny_call_entry PySem.F.slot_dict_iter T PySem.F.entry_dict_iter ?_ (PySem.F.args_dict_iter_1 _));unfold Builtin.«dict.__iter__»;refine wpAny_bind ?_;unfold Builtin.Dict.dictSlotNone;refine wpAny_bind (wpAny_notOrdered_dict T ?_);show wpAny _ _ (pure (Value.ref d)) _ _ s;refine wpAny_pure ?_;show wpAny _ _ (Builtin.Dict.showsAll d >>= _) _ _ s;unfold Builtin.Dict.showsAll;rw[if_neg (by rw[hd];exact Bool.false_ne_true)];refine wpAny_bind (wpAny_pure (wpAny_bind (wpAny_dictEntries ho hx (wpAny_bind (wpAny_dictEpoch ho hx (wpAny_bind (wpAny_newObj_type (wpAny_pure ⟨_,rfl,"dict_keyiterator",_,⟨_,Heap.get?_push_size _ rfl,rfl⟩,PySem.F.slot_dict_keyiterator_next.lookup,?_⟩))))))));exact hQ
theorem Ay {Q:Value→Shared→Prop}(hd:(d==sysModules)=false)(x:mB s.heap d es ep)(hf:(es.size:Int)<2 ^ 63)(h:Q (.int es.size (s.toks+1)) {s with toks:=s.toks+1+1}):wpAny (model prog w) A (call (.builtin "len") [.ref d]) Q E s:=by
 have T:=x.typeIs;obtain⟨o,ho,hc,hx⟩:=x;have m:MeetsIn prog w (Builtin.«dict.__len__» ⟨[.ref d],[]⟩) (fun _ R s'=>s'.heap=s.heap∧R (.ok (.ret (.int es.size s'.toks))) {s' with toks:=s'.toks+1}):=.of_wp fun A R s' hxx=>by
  obtain⟨eh,h⟩:=hxx;show wpAny _ _ (dictSize d >>= _) _ _ s';unfold dictSize;refine wpAny_bind (wpAny_bind (wpAny_dictEntries (by rw[eh];exact ho) hx (wpAny_pure ?_)));show wpAny _ _ (Builtin.Dict.pendingCount d >>= _) _ _ s';refine wpAny_bind (wpAny_pendingCount_other hd (wpAny_ret_mkInt ?_));rw[Nat.add_zero];exact h
 refine Calls.call_function_entry kind_len plain_len entry_len (args_len1 _) ?_;unfold Builtin.«len»;refine wpAny_bind (m:=oneArg "len" _) (wpAny_pure (wpAny_bind (m:=callSpecial? (.ref d) (Str.ofString "__len__")) (wpAny_callSpecial?_slot (name:=Str.ofString "__len__") T PySem.F.slot_dict_len (call_meetsIn PySem.F.slot_dict_len T PySem.F.entry_dict_len (PySem.F.args_dict_len_1 _) m ⟨rfl,?_⟩))));show wpAny _ _ _ _ _ {s with toks:=s.toks+1};refine wpAny_bind (wpAny_holding (wpAny_pure (wpAny_bind (wpAny_letGo ?_))));show wpAny _ _ (if((es.size:Nat):Int)<0 then _ else _) _ _ _;rw[if_neg (by omega)];show wpAny _ _ (if((es.size:Nat):Int)≥2 ^ 63 then _ else _) _ _ _;rw[if_neg (by omega)];exact wpAny_bind (wpAny_mkInt (wpAny_pure ⟨_,rfl,h⟩))
theorem mB.stay {h h':Heap}(x:mB h d es ep)(k:∀o,h.get? d=some o→h'.get? d=some o):mB h' d es ep:=by
 obtain⟨o,ho,r⟩:=x;exact⟨o,k o ho,r⟩
theorem wL {Q:Option Value→Shared→Prop}(hit:s.heap.IsKeyIter it d i es.size ep)(x:mB s.heap d es ep)(hi:i<es.size)
  (hQ:∀h',h'.IsKeyIter it d (i+1) es.size ep→Heap.SameBut it s.heap h'→Q (some es[i].key) {s with heap:=h'}):wpAny (model prog w) A (pyNext (.ref it)) Q E s:=by
 have T:=hit.typeIs;obtain⟨o,ho,hc,hd⟩:=hit;obtain⟨od,hod,hcd,hx⟩:=x;unfold pyNext;refine wpAny_bind (wpAny_attempt (wpAny_callSpecial?_slot (name:=Str.ofString "__next__") T PySem.F.slot_dict_keyiterator_next (wpAny_call_entry PySem.F.slot_dict_keyiterator_next T PySem.F.entry_dict_keyiterator_next ?_ (PySem.F.args_dict_keyiterator_next_1 _))));refine wpAny_bind (wpAny_pure (wpAny_bind (wpAny_bind ?_)))
 first|refine wpAny_bind (wpAny_typeNameOfWhole_keyiter T (wpAny_pure ?_))|refine wpAny_bind (wpAny_typeNameOf_keyiter T (wpAny_pure ?_))
 refine wpAny_bind (wpAny_fieldsOf ho hd ?_);simp only[show Builtin.Dict_items.ownsTuple "dict_keyiterator"=false by decide,Bool.false_eq_true,if_false];show wpAny _ _ (if(Value.ref d==Value.none)=true then _ else _) _ _ s;rw[if_neg (show¬((Value.ref d==Value.none)=true) from Bool.false_ne_true)];refine wpAny_bind (wpAny_pure (wpAny_bind (wpAny_dictEntries hod hx ?_)));rw[if_neg (by simp)];refine wpAny_bind (wpAny_pure (wpAny_bind (wpAny_dictEpoch hod hx ?_)));rw[if_neg (by simp)];refine wpAny_pure ?_;simp only[show¬((i:Int)<0) from by omega,if_false,Int.toNat_natCast,Array.getElem?_eq_getElem hi];refine wpAny_bind ?_
 first|refine wpAny_bind (wpAny_typeNameOfWhole_keyiter T (wpAny_pure ?_))|refine wpAny_bind (wpAny_typeNameOf_keyiter T (wpAny_pure ?_))
 refine wpAny_bind (wpAny_isOneOf_keyiter T ?_);show wpAny _ _ (setField (.ref it) 1 (rawInt ((i:Int)+1)) >>= _) _ _ s;refine wpAny_bind (wpAny_setField ho hd (by simp) ?_);have hit2:(s.heap.update it (Obj.mapFields (·.setIfInBounds 1 (rawInt ((i:Int)+1))))).IsKeyIter it d (i+1) es.size ep:=
  ⟨_,Heap.get?_update_self _ ho (Obj.isFreed_of_fields (Obj.data_mapFields hd _)),(Obj.cls_mapFields ..).trans hc,by rw[Obj.data_mapFields hd];simp[rawInt]⟩
 refine wpAny_bind (wpAny_holding (wpAny_bind (wpAny_isOneOf_keyiter (s:={s with heap:=s.heap.update it (Obj.mapFields (·.setIfInBounds 1 (rawInt ((i:Int)+1))))}) hit2.typeIs ?_)));show wpAny _ _ (pure es[i].key) _ _ _;exact wpAny_pure (wpAny_pure ⟨_,rfl,wpAny_pure (hQ _ hit2 (Heap.SameBut.update ..))⟩)
theorem BJ {Q:Option Value→Shared→Prop}(hh:A.handled=none)(hit:s.heap.IsKeyIter it d es.size es.size ep)(x:mB s.heap d es ep)
  (hQ:∀h',Heap.ExtBut it s.heap h'→Q none {s with heap:=h'}):wpAny (model prog w) A (pyNext (.ref it)) Q E s:=by
 have T:=hit.typeIs;obtain⟨o,ho,hc,hd⟩:=hit;obtain⟨od,hod,hcd,hx⟩:=x;unfold pyNext;refine wpAny_bind (wpAny_attempt (wpAny_callSpecial?_slot (name:=Str.ofString "__next__") T PySem.F.slot_dict_keyiterator_next (wpAny_call_entry PySem.F.slot_dict_keyiterator_next T PySem.F.entry_dict_keyiterator_next ?_ (PySem.F.args_dict_keyiterator_next_1 _))));refine wpAny_bind (wpAny_pure (wpAny_bind (wpAny_bind ?_)))
 first|refine wpAny_bind (wpAny_typeNameOfWhole_keyiter T (wpAny_pure ?_))|refine wpAny_bind (wpAny_typeNameOf_keyiter T (wpAny_pure ?_))
 refine wpAny_bind (wpAny_fieldsOf ho hd ?_);simp only[show Builtin.Dict_items.ownsTuple "dict_keyiterator"=false by decide,Bool.false_eq_true,if_false];show wpAny _ _ (if(Value.ref d==Value.none)=true then _ else _) _ _ s;rw[if_neg (show¬((Value.ref d==Value.none)=true) from Bool.false_ne_true)];refine wpAny_bind (wpAny_pure (wpAny_bind (wpAny_dictEntries hod hx ?_)));rw[if_neg (by simp)];refine wpAny_bind (wpAny_pure (wpAny_bind (wpAny_dictEpoch hod hx ?_)));rw[if_neg (by simp)];refine wpAny_pure ?_;simp only[show¬((es.size:Int)<0) from by omega,if_false,Int.toNat_natCast,Array.getElem?_eq_none (Nat.le_refl es.size)];refine wpAny_bind ?_
 first|refine wpAny_bind (wpAny_typeNameOfWhole_keyiter T (wpAny_pure ?_))|refine wpAny_bind (wpAny_typeNameOf_keyiter T (wpAny_pure ?_))
 show wpAny _ _ (setField (.ref it) 0 .none >>= _) _ _ s;refine wpAny_bind (wpAny_setField ho hd (by simp) ?_);show wpAny _ _ (newExc (.type "StopIteration") [] >>= _) _ _ _;refine wpAny_bind ?_;simp only[newExc,newTuple];refine wpAny_bind (wpAny_newObj_type ?_ (by size_fits));refine wpAny_bind (m:=firstArgMember _ _) (wpAny_of_eq (a:=Value.none) (by first|rfl|(simp only[firstArgMember];rfl)) (wpAny_newObj_type ?_ (by size_fits)));simp only[raiseNew];refine wpAny_bind (wpAny_handled ?_);rw[show A.in1.handled=none from hh];refine wpAny_bind (wpAny_pure (wpAny_throw ?_));refine wpAny_bind (wpAny_isInstance (T:="StopIteration") (b:=true) ⟨_,Heap.get?_push_size _ rfl,rfl⟩ isSubtype_stop (wpAny_pure (hQ _ (((Heap.SameBut.update ..).extBut.push _).push _))))
theorem vG (hh:A.handled=none)(hne:d≠it):Walks prog w A it [it,d] [it] es.size (fun i v=>∃e,es[i]?=some e∧v=e.key) (fun i h=>h.IsKeyIter it d i es.size ep∧mB h d es ep) where
 sub:=fun b hb=>by rw[mem_singleton.mp hb];exact mem_cons_self
 frame:=fun _ _ _ st hk=>⟨st.1.at fun o e=>hk it mem_cons_self o e,st.2.stay fun o e=>hk d (mem_cons_of_mem _ mem_cons_self) o e⟩
 item:=fun i s Q E hi st hQ=>wL st.1 st.2 hi fun h' k1 k2=>hQ _ h' s.toks ⟨_,Array.getElem?_eq_getElem hi,rfl⟩ ⟨k1,st.2.stay fun o e=>k2.extBut d o hne e⟩ fun b o hb e=>k2.extBut b o (fun z=>hb (by rw[z];exact mem_cons_self)) e
 done:=fun s Q E st hQ=>BJ hh st.1 st.2 fun h' k=>hQ h' s.toks fun b o hb e=>k b o (fun z=>hb (by rw[z];exact mem_cons_self)) e
 self:=fun _ _ _ _ st hQ=>wpAny_pyIter_keyiter st.1 hQ
theorem Bc (lo:(d==sysModules)=false):KdlSrc prog w "dict" d d es.size (fun i v=>∃e,es[i]?=some e∧v=e.key) (fun h=>mB h d es ep) where
 type:=fun _ x=>x.typeIs
 there:=fun _ x=>by obtain⟨o,ho,_⟩:=x;exact⟨Heap.lt_size ho,Heap.lt_size ho⟩
 keep:=fun _ _ x hk=>x.stay fun o e=>hk d (.inl rfl) o e
 notList:=by decide
 notTuple:=by decide
 hint:=fun _ _ _ _ x hq=>kdl_hint_dict x.typeIs hq
 iter:=fun _ s hh x=>⟨_,_,(fun _ _ hq=>xP lo x hq),vG hh (by obtain⟨o,ho,_⟩:=x;exact Nat.ne_of_lt (Heap.lt_size ho)),⟨⟨_,Heap.get?_push_size _ rfl,rfl,rfl⟩,x.stay fun o e=>Heap.get?_push_of_some _ e⟩⟩
end
def tH:cr→D
 | .inl i=>.int i
 | .inr x=>.str x
def lW (f:List (List cr×D)→D):FD:=fun ds M=>match ds with
 | [.mr i]=>match M[i]? with
  | some (.dT kvs)=>.ok (f kvs) M
  | _=>.bad
 | _=>.bad
theorem ut (f:List (List cr×D)→D)(ds:List D)(M:aq):lW f ds M=.bad∨∃i kvs,ds=[.mr i]∧M[i]?=some (.dT kvs)∧lW f ds M=.ok (f kvs) M:=by
 match ds with
 | []=>exact .inl rfl
 | _::_::_=>exact .inl (by unfold lW;split <;> first|rfl|(rename_i h;cases h))
 | [x]=>
  cases x with
  | mr i=>
   cases q:M[i]? with
   | none=>exact .inl (by unfold lW;dsimp only;rw[q])
   | some m=>
    cases m with
    | dT kvs=>exact .inr ⟨i,kvs,rfl,q,by unfold lW;dsimp only;rw[q]⟩
    | _=>exact .inl (by unfold lW;dsimp only;rw[q])
  | _=>exact .inl rfl
section
variable {K:W.Frag}{θ:List Addr}{H:Hp}{M:aq}
theorem A9 (ks:List cr):a9 K θ H (ks.map tH) (ks.map kV):=by
 induction ks with
 | nil=>exact rfl
 | cons k ks ih=>exact⟨_,_,rfl,by cases k <;> exact rfl,ih⟩
theorem xi {a:Addr}{ys:List V}(hw:Wr K θ H M)(h:H a=some (.tup ys)):a∉θ:=fun z=>by
 obtain⟨i,hi,e⟩:=mem_iff_getElem.mp z;have h2:i<M.length:=by rw[←hw.len];exact hi
 have k:=hw.at_ i a M[i] (by rw[getElem?_eq_getElem hi,e]) (getElem?_eq_getElem h2);cases q:M[i] with
 | lst _=>rw[q] at k;obtain⟨_,z,_⟩:=k;rw[h] at z;cases z
 | obj _ _=>rw[q] at k;obtain⟨_,_,_,_,z,_⟩:=k;rw[h] at z;cases z
 | dK _=>rw[q] at k;obtain⟨_,z,_⟩:=k;rw[h] at z;cases z
 | dT _=>rw[q] at k;obtain⟨_,z,_⟩:=k;rw[h] at z;cases z
end
section
variable {X:Cx}
theorem AW:cF X (.builtin "len") (rC X (lW fun kvs=>.int kvs.length)):=by
 intro af s σ H xs us Q I r h;obtain⟨θ,M,ds,hw,rd,h⟩:=h;rcases ut (fun kvs=>.int kvs.length) ds M with e|⟨i,kvs,rfl,q,e⟩
 ·rw[e] at h;exact h.elim
 rw[e] at h;obtain⟨v,ev,a,ea,ta⟩:=gM rd;obtain⟨vs,hv,ra⟩:=hw.at_ i a _ ta q;rw[ev,ea] at r;cases r with
 | cons r1 r2=>
  cases r2;rw[show _=Value.ref a from r1];obtain⟨z,lo,ys,rel,o,es,ep,h1,h2,h3,h4,_⟩:=(show ck X.prog X.w H s.heap a (.dT vs) from I.hok a _ hv);have sz:es.size=kvs.length:=by rw[←Array.length_toList,h4,length_map,←rel.length,gu ra]
  have le:kvs.length≤sizeLine:=by rw[gu ra];exact z
  refine Ay lo ⟨o,h1,h2,h3⟩ (by rw[sz];rw[sizeLine_eq] at le;omega) ⟨.int kvs.length,H,I.tok _,⟨_,by rw[sz]⟩,h _ θ H (.refl hw) rfl⟩
theorem re {K:W.Frag}{θ:List Addr}{H:Hp}{M:aq}(hw:Wr K θ H M):∀{kvs:List (List cr×D)} {vs:List (List cr×V)} {ys:List (List cr×Addr×Value)},kn K θ H kvs vs→Paired (fun(p:List cr×V) (q:List cr×Addr×Value)=>p.1=q.1∧H q.2.1=some (.tup (p.1.map kV))∧RelV p.2 q.2.2) vs ys→a9 K θ H (kvs.map fun p=>.tup (p.1.map tH)) (ys.map fun q=>V.ref q.2.1)
 | [],vs,ys,ra,rel=>by
  have e:vs=[]:=ra;subst e;cases rel;exact rfl
 | (k,d)::fs,vs,ys,ra,rel=>by
  obtain⟨v,r,e,_,h2⟩:=ra;subst e;cases rel with
  | cons hq t=>exact⟨_,_,rfl,⟨_,_,rfl,⟨hq.2.1,xi hw hq.2.1⟩,A9 k⟩,re hw h2 t⟩
theorem rS:∀ys:List (List cr×Addr×Value),aK (ys.map fun q=>V.ref q.2.1) (ys.map fun q=>Value.ref q.2.1)
 | []=>.nil
 | _::ys=>.cons rfl (rS ys)
theorem yh (hc:X.calm=true):cF X (.type "list") (rC X (lW fun kvs=>.lst (kvs.map fun p=>.tup (p.1.map tH)))):=by
 intro af s σ H xs us Q I r h;obtain⟨θ,M,ds,hw,rd,h⟩:=h;rcases ut (fun kvs=>.lst (kvs.map fun p=>.tup (p.1.map tH))) ds M with e|⟨i,kvs,rfl,q,e⟩
 ·rw[e] at h;exact h.elim
 rw[e] at h;obtain⟨v,ev,a,ea,ta⟩:=gM rd;obtain⟨vs,hv,ra⟩:=hw.at_ i a _ ta q;rw[ev,ea] at r;cases r with
 | cons r1 r2=>
  cases r2;rw[show _=Value.ref a from r1];obtain⟨z,lo,ys,rel,o,es,ep,h1,h2,h3,h4,_⟩:=(show ck X.prog X.w H s.heap a (.dT vs) from I.hok a _ hv);have sz:es.size=ys.length:=by rw[←Array.length_toList,h4,length_map]
  have ly:ys.length≤sizeLine:=by rw[←rel.length];exact z
  refine kdl_call (Bc lo) (show X.A.handled=none from I.ok.hd hc) ⟨o,h1,h2,h3⟩ (by rw[sz];exact ly) fun h' tk acc c hk hS hacc=>?_
  have hp:H s.heap.objs.size=none:=I.hok.fresh (Nat.le_refl _);have el:acc.toList=ys.map fun q=>Value.ref q.2.1:=by
   apply ext_getElem?;intro j;rw[Array.getElem?_toList,getElem?_map]
   by_cases hj:j<acc.size
   ·obtain⟨e',he,hx⟩:=hacc.2 j _ (Array.getElem?_eq_getElem hj);rw[Array.getElem?_eq_getElem hj,hx];rw[←Array.getElem?_toList,h4,getElem?_map] at he;obtain⟨y,hy,rfl⟩:=Option.map_eq_some_iff.mp he;rw[hy];rfl
   ·rw[Array.getElem?_eq_none (by omega),getElem?_eq_none (by rw[←sz,←hacc.1];omega)];rfl
  refine⟨.ref s.heap.objs.size,bE H s.heap.objs.size (.lst (ys.map fun q=>V.ref q.2.1)),I.laid (t':=tk) hk (Nat.le_refl _) ⟨by rw[length_map];exact ly,acc.toList,c,by rw[el];exact rS ys,by rw[Array.toArray_toList];exact hS⟩,rfl,h _ θ _ (dh hw hp) (gw hw hp (re hw ra rel))⟩
end
end DL
namespace DL
open PySem PySem.Spec PyProof.Rows L2 List
section
variable {prog:Program}{w:World}{A:Around}{E:Value→Shared→Prop}{s:Shared}{z TI TO i1 i2 l1 l2:Addr}{k1 k2:Nat}{xs ys:Array Value}{x y a b:Value}
structure vg (h:Heap)(z TI TO i1 i2 l1 l2:Addr)(k:Nat):Prop where
 z:IsZip h z TI TO .none
 ti:IsPair h TI (.ref i1) (.ref i2)
 to:∃a b,IsPair h TO a b
 i1:h.IsTupleIter i1 l1 k
 i2:h.IsTupleIter i2 l2 k
theorem wz {Q:Value→Shared→Prop}{k:Nat}(D:ZipApart z TI TO i1 i2 l1 l2)(t:vg s.heap z TI TO i1 i2 l1 l2 k)(hl1:s.heap.IsTuple l1 xs)(hl2:s.heap.IsTuple l2 ys)(hx:xs[k]?=some x)(hy:ys[k]?=some y)
  (hQ:∀h',IsZip h' z TI TO (rawInt s.heap.objs.size)→IsPair h' TO x y→h'.IsTupleIter i1 l1 (k+1)→h'.IsTupleIter i2 l2 (k+1)→IsPair h' s.heap.objs.size x y→h'.objs.size=s.heap.objs.size+1→
   (∀c o,c∉[z,TO,i1,i2]→s.heap.get? c=some o→h'.get? c=some o)→Q (.ref s.heap.objs.size) {s with heap:=h'}) :
  wpAny (model prog w) A (Builtin.«zip.__next__» ⟨[.ref z],[]⟩) (fun fin s'=>∃v,fin=.done (.ret v)∧Q v s') E s:=by
 obtain⟨hz,hTI,⟨a,b,hTO⟩,h1,h2⟩:=t;show wpAny _ _ (field (.ref z) 2 >>= _) _ _ _;refine wpAny_bind (wpAny_field hz rfl (x:=.bool false) rfl ?_);show wpAny _ _ (field (.ref z) 3 >>= _) _ _ _;refine wpAny_bind (wpAny_field hz rfl (x:=.ref TI) rfl (wpAny_bind (wpAny_seqItems hTI rfl ?_)));show wpAny _ _ (Builtin.SmallTypes.ownedTupleIsFree (.ref z) >>= _) _ _ _;refine wpAny_bind ?_;unfold Builtin.SmallTypes.ownedTupleIsFree;refine wpAny_bind (wpAny_field hz rfl (x:=.none) rfl (wpAny_pure ?_));simp only[if_true];refine wpAny_bind (wpAny_rule (wpAny_bind (wpAny_field hz rfl (x:=.ref TO) rfl (wpAny_bind (wpAny_setField_rec hz (by simp) fun ha za sa=>?_)))));have za:IsZip ha z TI TO .ellipsis:=za;refine wpAny_bind ?_;simp only[zipIdx_cons,zipIdx_nil,forIn_cons,forIn_nil];refine wpAny_bind (wpAny_bind (wpAny_onRaise ?_));show wpAny _ _ (Builtin.SmallTypes.nextOf (.ref i1) >>= _) _ _ _;refine wpAny_bind (m6 (h1.at fun o e=>sa.extBut _ o D.i1z e) (hl1.extBut sa.extBut D.l1z) hx fun hb ib sb=>wpAny_pure ?_);have tb:IsPair hb TO a b:=sb.extBut _ _ D.TOi1 (sa.extBut _ _ D.TOz hTO);refine wpAny_bind (wpAny_seqItems tb rfl (wpAny_bind (wpAny_updateSeq_pair tb fun hc tc sc=>?_)));have tc:IsPair hc TO x b:=tc;refine wpAny_bind (wpAny_letGo (wpAny_pure (wpAny_bind (wpAny_bind (wpAny_onRaise ?_)))));show wpAny _ _ (Builtin.SmallTypes.nextOf (.ref i2) >>= _) _ _ _;refine wpAny_bind (m6 (h2.at fun o e=>sc.extBut _ o D.TOi2.symm (sb.extBut _ o D.i12.symm (sa.extBut _ o D.i2z e))) (((hl2.extBut sa.extBut D.l2z).extBut sb.extBut D.l2i1).extBut sc.extBut D.l2TO) hy fun hd id sd=>wpAny_pure ?_);have td:IsPair hd TO x b:=sd.extBut _ _ D.TOi2 tc;refine wpAny_bind (wpAny_seqItems td rfl (wpAny_bind (wpAny_updateSeq_pair td fun he te se=>?_)));have te:IsPair he TO x y:=te;refine wpAny_bind (wpAny_letGo (wpAny_pure (wpAny_pure (wpAny_bind (wpAny_seqItems te rfl (wpAny_bind (wpAny_newTuple ?_)))))));have hsz:he.objs.size=s.heap.objs.size:=by rw[se.1,sd.1,sc.1,sb.1,sa.1]
 have ze:IsZip he z TI TO .ellipsis:=se.extBut _ _ D.TOz.symm (sd.extBut _ _ D.i2z.symm (sc.extBut _ _ D.TOz.symm (sb.extBut _ _ D.i1z.symm za)));have ke:∀c o,c∉[z,TO,i1,i2]→s.heap.get? c=some o→he.get? c=some o:=fun c o hc e=>by
  have c1:c≠z:=fun q=>hc (by simp[q])
  have c2:c≠TO:=fun q=>hc (by simp[q])
  have c3:c≠i1:=fun q=>hc (by simp[q])
  have c4:c≠i2:=fun q=>hc (by simp[q])
  exact se.extBut _ _ c2 (sd.extBut _ _ c4 (sc.extBut _ _ c2 (sb.extBut _ _ c3 (sa.extBut _ _ c1 e))))
 have ie1:he.IsTupleIter i1 l1 (k+1):=ib.at fun o e=>se.extBut _ o D.TOi1.symm (sd.extBut _ o D.i12 (sc.extBut _ o D.TOi1.symm e))
 have ie2:he.IsTupleIter i2 l2 (k+1):=id.at fun o e=>se.extBut _ o D.TOi2.symm e
 have zlt:z<he.objs.size:=Heap.lt_size ze;show wpAny _ _ (Builtin.SmallTypes.ownedTupleHandOut (.ref z) (.ref he.objs.size) >>= _) _ _ _;refine wpAny_bind ?_;unfold Builtin.SmallTypes.ownedTupleHandOut;have zf:IsZip (he.push {cls:=.type "tuple",data:=.seq #[x,y]}) z TI TO .ellipsis:=Heap.get?_push_of_some _ ze;refine wpAny_bind (wpAny_setField_rec zf (by simp) fun hg zg sg=>?_);have zg:IsZip hg z TI TO (rawInt he.objs.size):=zg;refine wpAny_setField_rec zg (by simp) fun hh zh sh=>?_
 have zh:IsZip hh z TI TO (rawInt he.objs.size):=zh;have up:∀c o,c≠z→he.get? c=some o→hh.get? c=some o:=fun c o c1 e=>sh.extBut _ _ c1 (sg.extBut _ _ c1 (Heap.get?_push_of_some _ e))
 have th:IsPair hh he.objs.size x y:=sh.extBut _ _ (Nat.ne_of_gt zlt) (sg.extBut _ _ (Nat.ne_of_gt zlt) (Heap.get?_push_size _ rfl));have lh:hh.objs.size=he.objs.size+1:=by rw[sh.1,sg.1,Heap.size_push]
 rw[hsz] at zh th lh;refine wpAny_pure ⟨_,rfl,?_⟩;show Q (.ref he.objs.size) _;rw[hsz];exact hQ hh zh (up _ _ D.TOz te) (ie1.at fun o e=>up _ o D.i1z e) (ie2.at fun o e=>up _ o D.i2z e) th lh fun c o hc e=>up c o (fun q=>hc (by simp[q])) (ke c o hc e)
theorem xl {Q:PySem.Fin→Shared→Prop}{k:Nat}(hh:A.handled=none)(D:ZipApart z TI TO i1 i2 l1 l2)(t:vg s.heap z TI TO i1 i2 l1 l2 k)(hl1:s.heap.IsTuple l1 xs)(hx:xs[k]?=none)
  (hE:∀h' e,(∀c o,c∉[z,TO,i1,i2]→s.heap.get? c=some o→h'.get? c=some o)→(∃o,h'.get? e=some o∧o.cls=.type "StopIteration")→E (.ref e) {s with heap:=h'}) :
  wpAny (model prog w) A (Builtin.«zip.__next__» ⟨[.ref z],[]⟩) Q E s:=by
 obtain⟨hz,hTI,⟨a,b,hTO⟩,h1,h2⟩:=t;show wpAny _ _ (field (.ref z) 2 >>= _) _ _ _;refine wpAny_bind (wpAny_field hz rfl (x:=.bool false) rfl ?_);show wpAny _ _ (field (.ref z) 3 >>= _) _ _ _;refine wpAny_bind (wpAny_field hz rfl (x:=.ref TI) rfl (wpAny_bind (wpAny_seqItems hTI rfl ?_)));show wpAny _ _ (Builtin.SmallTypes.ownedTupleIsFree (.ref z) >>= _) _ _ _;refine wpAny_bind ?_;unfold Builtin.SmallTypes.ownedTupleIsFree;refine wpAny_bind (wpAny_field hz rfl (x:=.none) rfl (wpAny_pure ?_));simp only[if_true];refine wpAny_bind (wpAny_rule (wpAny_bind (wpAny_field hz rfl (x:=.ref TO) rfl (wpAny_bind (wpAny_setField_rec hz (by simp) fun ha za sa=>?_)))));have za:IsZip ha z TI TO .ellipsis:=za;refine wpAny_bind ?_;simp only[zipIdx_cons,zipIdx_nil,forIn_cons,forIn_nil];refine wpAny_bind (wpAny_bind (wpAny_onRaise ?_));show wpAny _ _ (Builtin.SmallTypes.nextOf (.ref i1) >>= _) _ _ _;refine wpAny_bind (mO hh (h1.at fun o e=>sa.extBut _ o D.i1z e) (hl1.extBut sa.extBut D.l1z) hx fun hb e sb he=>?_);obtain⟨oe,hoe,hce⟩:=he;have zb:IsZip hb z TI TO .ellipsis:=sb _ _ D.i1z.symm za;have ez:e≠z:=fun q=>by rw[q,zb] at hoe;cases hoe;simp at hce
 exact wpAny_setField_rec zb (by simp) fun hc _ sc=>hE hc e (fun c o hx q=>sc.extBut _ _ (fun p=>hx (by simp[p])) (sb _ _ (fun p=>hx (by simp[p])) (sa.extBut _ _ (fun p=>hx (by simp[p])) q))) ⟨oe,sc.extBut _ _ ez hoe,hce⟩
theorem vI {Q:Option Value→Shared→Prop}{k:Nat}(D:ZipApart z TI TO i1 i2 l1 l2)(t:vg s.heap z TI TO i1 i2 l1 l2 k)(hl1:s.heap.IsTuple l1 xs)(hl2:s.heap.IsTuple l2 ys)(hx:xs[k]?=some x)(hy:ys[k]?=some y)
  (hQ:∀h',IsZip h' z TI TO (rawInt s.heap.objs.size)→IsPair h' TO x y→h'.IsTupleIter i1 l1 (k+1)→h'.IsTupleIter i2 l2 (k+1)→IsPair h' s.heap.objs.size x y→h'.objs.size=s.heap.objs.size+1→
   (∀c o,c∉[z,TO,i1,i2]→s.heap.get? c=some o→h'.get? c=some o)→Q (some (.ref s.heap.objs.size)) {s with heap:=h'}):wpAny (model prog w) A (pyNext (.ref z)) Q E s:=by
 have hT:s.TypeIs (.ref z) "zip":=⟨_,t.z,rfl⟩;unfold pyNext;exact wpAny_bind (wpAny_attempt (wpAny_callSpecial?_slot (name:=Str.ofString "__next__") hT PySem.F.slot_zip_next (wpAny_call_entry PySem.F.slot_zip_next hT PySem.F.entry_zip_next (wz D t hl1 hl2 hx hy fun h' b1 b2 b3 b4 b5 b6 b7=>wpAny_pure (hQ h' b1 b2 b3 b4 b5 b6 b7)) (PySem.F.args_zip_next_1 _))))
theorem vp {Q:Option Value→Shared→Prop}{k:Nat}(hh:A.handled=none)(D:ZipApart z TI TO i1 i2 l1 l2)(t:vg s.heap z TI TO i1 i2 l1 l2 k)(hl1:s.heap.IsTuple l1 xs)(hx:xs[k]?=none)
  (hQ:∀h',(∀c o,c∉[z,TO,i1,i2]→s.heap.get? c=some o→h'.get? c=some o)→Q none {s with heap:=h'}):wpAny (model prog w) A (pyNext (.ref z)) Q E s:=by
 have hT:s.TypeIs (.ref z) "zip":=⟨_,t.z,rfl⟩;unfold pyNext;refine wpAny_bind (wpAny_attempt (wpAny_callSpecial?_slot (name:=Str.ofString "__next__") hT PySem.F.slot_zip_next (wpAny_call_entry PySem.F.slot_zip_next hT PySem.F.entry_zip_next (xl hh D t hl1 hx fun h' e hk he=>?_) (PySem.F.args_zip_next_1 _))));obtain⟨o,ho,hc⟩:=he;exact wpAny_bind (wpAny_isInstance (T:="StopIteration") (b:=true) ⟨o,ho,hc⟩ isSubtype_stop (wpAny_pure (hQ _ hk)))
end
def k6 (l:Addr):Obj:={cls:=.type "tuple_iterator",data:=.fields #[.ref l,.int 0 0]}
def vN (a b:Value):Obj:={cls:=.type "tuple",data:=.seq #[a,b]}
def JI (a b:Addr):Obj:={cls:=.type "zip",data:=.fields #[.none,.bool false,.bool false,.ref a,.ref b]}
def zH (h:Heap)(l1 l2:Addr):Heap:=((((h.push (k6 l1)).push (k6 l2)).push (vN (.ref h.objs.size) (.ref (h.push (k6 l1)).objs.size))).push (vN .none .none)).push (JI ((h.push (k6 l1)).push (k6 l2)).objs.size (((h.push (k6 l1)).push (k6 l2)).push (vN (.ref h.objs.size) (.ref (h.push (k6 l1)).objs.size))).objs.size)
theorem qG (l1 l2:Addr)(xs ys:Array Value) :
  Meets (Builtin.«zip.__new__» ⟨[.type "zip",.ref l1,.ref l2],[]⟩) (fun _ R s=>s.heap.IsTuple l1 xs∧s.heap.IsTuple l2 ys∧
   R (.ok (.ret (.ref ((((s.heap.push (k6 l1)).push (k6 l2)).push (vN (.ref s.heap.objs.size) (.ref (s.heap.push (k6 l1)).objs.size))).push (vN .none .none)).objs.size))) {s with heap:=zH s.heap l1 l2}):=
 .of_wp fun prog w A R s h=>by
  obtain⟨hp,g,d,tk,os⟩:=s;obtain⟨hl1,hl2,h⟩:=h;have hsub:=sub_zip;have T1:Heap.IsTuple (Shared.heap ⟨hp,g,d,tk,os⟩) l1 xs:=hl1;have T2:Heap.IsTuple (Shared.heap ⟨hp.push {cls:=.type "tuple_iterator",data:=.fields #[.ref l1,.int 0 0]},g,d,tk,os⟩) l2 ys:=by
   obtain⟨o,ho,r⟩:=hl2;exact⟨o,Heap.get?_push_of_some _ ho,r⟩
  wp_walk using wpAny_pyIter_tuple T1,wpAny_pyIter_tuple T2
  exact⟨_,rfl,h⟩
theorem oN {prog:Program}{w:World}{A:Around}{E:Value→Shared→Prop}{s:Shared}{l1 l2:Addr}{xs ys:Array Value}{Q:Value→Shared→Prop}(hl1:s.heap.IsTuple l1 xs)(hl2:s.heap.IsTuple l2 ys)
  (q:∀h',vg h' (s.heap.objs.size+4) (s.heap.objs.size+2) (s.heap.objs.size+3) s.heap.objs.size (s.heap.objs.size+1) l1 l2 0→(∀b o,s.heap.get? b=some o→h'.get? b=some o)→Q (.ref (s.heap.objs.size+4)) {s with heap:=h'}) :
  wpAny (model prog w) A (call (.type "zip") [.ref l1,.ref l2]) Q E s:=by
 refine callType_new PySem.F.called_zip (by decide) (PySem.F.typeCall_zip_2 _ _) (PySem.F.newCall_zip_2 _ _) (fun obj=>PySem.F.args_object_init_3 obj _ _) PySem.F.entry_zip_new (qG l1 l2 xs ys) ⟨hl1,hl2,?_⟩;show _∧_;have z1:(s.heap.push (k6 l1)).objs.size=s.heap.objs.size+1:=Heap.size_push ..;have z2:((s.heap.push (k6 l1)).push (k6 l2)).objs.size=s.heap.objs.size+2:=by rw[Heap.size_push,z1]
 unfold zH;rw[z1,z2];have z3:(((s.heap.push (k6 l1)).push (k6 l2)).push (vN (.ref s.heap.objs.size) (.ref (s.heap.objs.size+1)))).objs.size=s.heap.objs.size+3:=by rw[Heap.size_push,z2]
 rw[z3];have z4:((((s.heap.push (k6 l1)).push (k6 l2)).push (vN (.ref s.heap.objs.size) (.ref (s.heap.objs.size+1)))).push (vN .none .none)).objs.size=s.heap.objs.size+4:=by rw[Heap.size_push,z3]
 rw[z4];have g1:(s.heap.push (k6 l1)).get? s.heap.objs.size=some (k6 l1):=Heap.get?_push_size _ rfl;have g2:=Heap.get?_push_size (s.heap.push (k6 l1)) (o:=k6 l2) rfl;rw[z1] at g2;have g3:=Heap.get?_push_size ((s.heap.push (k6 l1)).push (k6 l2)) (o:=vN (.ref s.heap.objs.size) (.ref (s.heap.objs.size+1))) rfl;rw[z2] at g3;have g4:=Heap.get?_push_size (((s.heap.push (k6 l1)).push (k6 l2)).push (vN (.ref s.heap.objs.size) (.ref (s.heap.objs.size+1)))) (o:=vN .none .none) rfl;rw[z3] at g4;have g5:=Heap.get?_push_size ((((s.heap.push (k6 l1)).push (k6 l2)).push (vN (.ref s.heap.objs.size) (.ref (s.heap.objs.size+1)))).push (vN .none .none)) (o:=JI (s.heap.objs.size+2) (s.heap.objs.size+3)) rfl;rw[z4] at g5;refine⟨⟨_,g5,rfl⟩,q _ ⟨g5,Heap.get?_push_of_some _ (Heap.get?_push_of_some _ g3),⟨_,_,Heap.get?_push_of_some _ g4⟩,⟨_,Heap.get?_push_of_some _ (Heap.get?_push_of_some _ (Heap.get?_push_of_some _ (Heap.get?_push_of_some _ g1))),rfl,rfl⟩,⟨_,Heap.get?_push_of_some _ (Heap.get?_push_of_some _ (Heap.get?_push_of_some _ g2)),rfl,rfl⟩⟩ fun b o e=>Heap.get?_push_of_some _ (Heap.get?_push_of_some _ (Heap.get?_push_of_some _ (Heap.get?_push_of_some _ (Heap.get?_push_of_some _ e))))⟩
def IL (K:W.Frag)(a b:Addr):It:=
 ⟨fun i H=>∃xs ys x y,k9 K H a xs∧k9 K H b ys∧xs[i]?=some x∧ys[i]?=some y,
  fun i H v H'=>∃p x y,H p=none∧H'=bE H p (.tup [x,y])∧v=.ref p∧(∀xs,k9 K H a xs→xs[i]?=some x)∧∀ys,k9 K H b ys→ys[i]?=some y,
  fun i H=>∃xs,k9 K H a xs∧xs.length≤i⟩
theorem yy {P:Program}{w:World}{K:W.Frag}{es:List Expr}{kt:Nat}{pos:Pos}{z TI TO i1 i2 a b:Addr}(D:ZipApart z TI TO i1 i2 a b) :
  vK P w K (.Tuple es kt pos) (IL K a b) [z,TO,i1,i2,TI] z (fun i h=>vg h z TI TO i1 i2 a b i) where
 mem:=by simp
 obj:=fun i h st c hc=>by
  obtain⟨hz,hTI,⟨x,y,hTO⟩,⟨o1,e1,_,d1⟩,⟨o2,e2,_,d2⟩⟩:=st;simp only[mem_cons,not_mem_nil,or_false] at hc;rcases hc with rfl|rfl|rfl|rfl|rfl
  ·exact⟨_,hz,fun v q=>by cases q⟩
  ·exact⟨_,hTO,fun v q=>by cases q⟩
  ·exact⟨o1,e1,fun v q=>by rw[d1] at q;cases q⟩
  ·exact⟨o2,e2,fun v q=>by rw[d2] at q;cases q⟩
  ·exact⟨_,hTI,fun v q=>by cases q⟩
 keep:=fun i h h' st k=>by
  obtain⟨hz,hTI,⟨x,y,hTO⟩,h1,h2⟩:=st;exact⟨k z (by simp) _ hz,k TI (by simp) _ hTI,⟨x,y,k TO (by simp) _ hTO⟩,h1.at fun o e=>k i1 (by simp) o e,h2.at fun o e=>k i2 (by simp) o e⟩
 item:=by
  intro X hP hw hK hc i af s σ H E I hf st hg;subst hP hw hK;obtain⟨xs,ys,x,y,hq1,hq2,hx,hy⟩:=hg;obtain⟨its1,rv1,p1,_⟩:=I.tuple hq1;obtain⟨its2,rv2,p2,_⟩:=I.tuple hq2;obtain⟨u1,hu1,ru1⟩:=rv1.get hx;obtain⟨u2,hu2,ru2⟩:=rv2.get hy;have p1:s.heap.IsTuple a its1.toArray:=p1;have p2:s.heap.IsTuple b its2.toArray:=p2;refine vI D st p1 p2 (x:=u1) (y:=u2) (by simpa using hu1) (by simpa using hu2) fun h' hz ht h1 h2 hT hsz hk=>⟨_,rfl,wpAny_letOwnedTupleGo_zip hz fun h3 hz3 hs3=>?_⟩
  have hs3:Heap.SameBut z h' h3:=hs3;have zlt:z<s.heap.objs.size:=Heap.lt_size st.z;have fr:H s.heap.objs.size=none:=I.hok.fresh (Nat.le_refl _);have hT3:h3.get? s.heap.objs.size=some {cls:=.type "tuple",data:=.seq #[u1,u2]}:=(hs3.2 _ (Nat.ne_of_gt zlt)).trans hT;have k3:∀c o,c∉[z,TO,i1,i2]→s.heap.get? c=some o→h3.get? c=some o:=fun c o hc e=>(hs3.2 c (fun q=>hc (by simp[q]))).trans (hk c o hc e)
  have new:ck X.prog X.w (bE H s.heap.objs.size (.tup [x,y])) h3 s.heap.objs.size (.tup [x,y]):=
   ⟨Nat.le_trans (by decide:2≤1000) (by rw[sizeLine_eq];decide),[u1,u2],.cons ru1 (.cons ru2 .nil),⟨_,hT3,rfl,_,rfl⟩⟩
  have I3:=o9 (t':=s.toks) I hf (fun c o hc e=>k3 c o (fun q=>hc (by simp only[mem_cons,not_mem_nil,or_false] at q ⊢;rcases q with q|q|q|q <;> simp[q])) e) (Nat.le_refl _) new;refine⟨.ref s.heap.objs.size,_,I3,rfl,⟨_,x,y,fr,rfl,rfl,fun zs h=>by rw[I.tuple_inj h hq1];exact hx,fun zs h=>by rw[I.tuple_inj h hq2];exact hy⟩,⟨hz3,?_,⟨u1,u2,(hs3.2 _ D.TOz).trans ht⟩,h1.at fun o e=>(hs3.2 _ D.i1z).trans e,h2.at fun o e=>(hs3.2 _ D.i2z).trans e⟩,fun c hc=>?_⟩
  ·exact k3 TI _ (by simp[D.TIz,D.TITO,D.TIi1,D.TIi2]) st.ti
  ·have lt:c<s.heap.objs.size:=by
    obtain⟨hz,hTI,⟨x,y,hTO⟩,⟨o1,e1,_,d1⟩,⟨o2,e2,_,d2⟩⟩:=st;have hc2:=hc;simp only[mem_cons,not_mem_nil,or_false] at hc2;rcases hc2 with q|q|q|q|q <;> rw[q]
    ·exact Heap.lt_size hz
    ·exact Heap.lt_size hTO
    ·exact Heap.lt_size e1
    ·exact Heap.lt_size e2
    ·exact Heap.lt_size hTI
   rw[ao (Nat.ne_of_lt lt)];exact(hf c hc).1
 done:=by
  intro X hP hw hK hc i af s σ H E I hf st hg;subst hP hw hK;obtain⟨xs,hq1,hx⟩:=hg;obtain⟨its1,rv1,p1,_⟩:=I.tuple hq1;have p1:s.heap.IsTuple a its1.toArray:=p1;have hl:=rv1.length;refine vp (I.ok.hd hc) D st p1 (by simp;omega) fun h' hk=>⟨rfl,wf (t':=s.toks) I hf fun c o hc e=>hk c o (fun q=>hc (by simp only[mem_cons,not_mem_nil,or_false] at q ⊢;rcases q with q|q|q|q <;> simp[q])) e⟩
 self:=fun _ _ _ _ _ st h=>wpAny_pyIter_zip st.z h
theorem EZ {X:Cx}{es:List Expr}{kt:Nat}{tp:Pos}{l r:Expr}{tl:TA}{p pos:Pos}(hg:Gl X "zip")(hm:X.mg "zip"=none)(hv:bootBuiltins "zip"=some (.type "zip"))(hl:PA X [l,r] tl)(hs:starEach [l,r] X.env=(false,eval l X.env)::starEach [r] X.env:=by rfl)(hp:(backTo pos (starEach [r] X.env)).any (·.1)=false:=by rfl) :
  PI X (.Tuple es kt tp) (.Call (.Name "zip" p) [l,r] [] pos) (fun σ H R=>tl σ H fun xs H1=>∃a b,xs=[.ref a,.ref b]∧(∃xs,k9 X.K H1 a xs)∧(∃ys,k9 X.K H1 b ys)∧R (IL X.K a b) H1):=by
 intro af s σ H R I h;refine Call_ (nl I hg hm hv (PyProof.Rows.callWith_type1 (cj (hl pos af s σ H _ I h) fun us s1 hxx=>?_) hs hp));obtain⟨vs,H1,I1,r1,a,b,e,⟨xs,hq1⟩,⟨ys,hq2⟩,q⟩:=hxx;subst e;cases r1 with
 | cons ra rr=>
  cases rr with
  | cons rb rr=>
   cases rr;rw[show _=Value.ref a from ra,show _=Value.ref b from rb];obtain⟨its1,rv1,p1,_⟩:=I1.tuple hq1;obtain⟨its2,rv2,p2,_⟩:=I1.tuple hq2;have p1:s1.heap.IsTuple a its1.toArray:=p1;have p2:s1.heap.IsTuple b its2.toArray:=p2;refine oN p1 p2 fun h' zt hk=>wpAny_pyIter_zip zt.z ⟨_,[s1.heap.objs.size+4,s1.heap.objs.size+3,s1.heap.objs.size,s1.heap.objs.size+1,s1.heap.objs.size+2],_,_,H1,rfl,I1.kept (t':=s1.toks) hk,yy (zipApart_new (by obtain⟨o,e,_⟩:=p1;exact Heap.lt_size e) (by obtain⟨o,e,_⟩:=p2;exact Heap.lt_size e)),zt,fun c hc=>?_,q⟩
   have hb:s1.heap.objs.size≤c:=by
    simp only[mem_cons,not_mem_nil,or_false] at hc;rcases hc with q|q|q|q|q <;> rw[q] <;> omega
   exact I1.fpOk hb (I1.hok.fresh hb)
def mW (xs ys:List D):List D:=xs.zipWith (fun x y=>D.tup [x,y]) ys
theorem xw {xs ys:List D}{i:Nat}{d:D}(h:(mW xs ys)[i]?=some d):∃x y,xs[i]?=some x∧ys[i]?=some y∧d=.tup [x,y]:=by
 unfold mW at h;rw[getElem?_zipWith] at h;cases q:xs[i]? with
 | none=>rw[q] at h;cases h
 | some x=>
  cases q2:ys[i]? with
  | none=>rw[q,q2] at h;cases h
  | some y=>rw[q,q2] at h;exact⟨x,y,rfl,rfl,(Option.some.inj h).symm⟩
def u6 (ds:List D)(M:aq):aU mn:=match ds with
 | [.tup xs,.tup ys]=>if xs.length=ys.length then .ok ⟨mW xs ys,none⟩ M else .bad
 | _=>.bad
theorem yV (ds:List D)(M:aq):u6 ds M=.bad∨∃xs ys,ds=[.tup xs,.tup ys]∧xs.length=ys.length∧u6 ds M=.ok ⟨mW xs ys,none⟩ M:=by
 match ds with
 | []=>exact .inl rfl
 | [x]=>cases x <;> exact .inl rfl
 | _::_::_::_=>exact .inl (by unfold u6;split <;> first|rfl|(rename_i h;cases h))
 | [x,y]=>
  cases x with
  | tup xs=>
   cases y with
   | tup ys=>
    by_cases h:xs.length=ys.length
    ·exact .inr ⟨xs,ys,rfl,h,if_pos h⟩
    ·exact .inl (if_neg h)
   | _=>exact .inl rfl
  | _=>exact .inl rfl
def oX (g:GA):GI:=fun ρ M=>(g ρ M).bind u6
theorem Bp {K:W.Frag}{θ:List Addr}{H:Hp}{a b:Addr}{xs ys:List D}{vs us:List V}(ta:∀θ1 H1,Grow θ H θ1 H1→k9 K H1 a vs)(tb:∀θ1 H1,Grow θ H θ1 H1→k9 K H1 b us)(hl:xs.length=ys.length)(r1:a9 K θ H xs vs)(r2:a9 K θ H ys us):AT K (IL K a b) θ H ⟨mW xs ys,none⟩:=by
 intro θ1 H1 M1 g _ i;have t1:=ta θ1 H1 g.toGrow;have t2:=tb θ1 H1 g.toGrow;have r1:=r1.go g;have r2:=r2.go g;refine⟨fun d e=>?_,fun h=>⟨vs,t1,by
  have h:(mW xs ys).length≤i:=h;unfold mW at h;rw[length_zipWith,←hl,Nat.min_self,aw r1] at h;exact h⟩⟩
 obtain⟨x,y,ex,ey,ed⟩:=xw e;obtain⟨v,ev,rv⟩:=eV r1 ex;obtain⟨u,eu,ru⟩:=eV r2 ey;refine⟨⟨vs,us,v,u,t1,t2,ev,eu⟩,fun x' H2 q=>?_⟩;obtain⟨p,x2,y2,np,eH,exr,h1,h2⟩:=q;have e1:=h1 vs t1;rw[ev] at e1;cases e1;have e2:=h2 us t2;rw[eu] at e2;cases e2;subst eH exr ed;exact⟨dh g.wr np,ig (ds:=[x,y]) g.wr np ⟨_,_,rfl,rv,_,_,rfl,ru,rfl⟩⟩
theorem EG {X:Cx}{es:List Expr}{kt:Nat}{tp:Pos}{l r:Expr}{g:GA}{p pos:Pos}(hg:Gl X "zip")(hm:X.mg "zip"=none)(hv:bootBuiltins "zip"=some (.type "zip"))(hl:PA X [l,r] (tA X g))(hs:starEach [l,r] X.env=(false,eval l X.env)::starEach [r] X.env:=by rfl)(hp:(backTo pos (starEach [r] X.env)).any (·.1)=false:=by rfl) :
  PI X (.Tuple es kt tp) (.Call (.Name "zip" p) [l,r] [] pos) (tI X (oX g)):=by
 intro af s σ H R I h;refine EZ hg hm hv hl hs hp af s σ H R I ?_;obtain⟨ρ,θ,M,hd,hw,h⟩:=h;refine i8 hd hw (xR X θ H R) (fun c M' h=>h) (fun h=>h) h fun ds M1 vs θ1 H1 g1 r1 h1=>?_
 rcases yV ds M1 with e|⟨xs,ys,rfl,hl,e⟩
 ·rw[e] at h1;exact h1.elim
 rw[e] at h1;obtain⟨v,rr,ev,⟨a,us,e2,ta,rs⟩,v2,rr2,ev2,⟨b,JN,e3,tb,rs2⟩,rr3⟩:=r1;have rr3:rr2=[]:=rr3;subst rr3 ev2 e2 e3;exact⟨a,b,ev,⟨us,ta.sq⟩,⟨JN,tb.sq⟩,h1 _ θ1 H1 g1 (Bp (fun θ2 H2 g2=>(ta.grow g2).sq) (fun θ2 H2 g2=>(tb.grow g2).sq) hl rs rs2)⟩
def vJ:FD:=lW fun kvs=>.int kvs.length
def oC:FD:=lW fun kvs=>.lst (kvs.map fun p=>.tup (p.1.map tH))
section
variable {X:Cx}{k:Nat}{o i e a b:Expr}{go gi ge:GE}{gA:GA}{pos p:Pos}
theorem Jn (hr:bL k X.A):X.A.units+1<cLine:=Nat.lt_of_le_of_lt (Nat.add_le_add_left (by decide) _) hr.units
theorem xa (hr:bL k X.A):Q2 X (compareOp .NotIn) (Fg true):=⟨vw (Jn hr)⟩
theorem Aj (hr:bL k X.A)(ho:QE X o go)(hi:QE X i gi)(hs:AX i:=by intro _ _;rfl):QE X (.Subscript o i pos) (g2 qu go gi):=⟨AL (Jn hr) ho.h hi.h hs⟩
theorem AJ {pos':Pos}(hr:bL k X.A)(ho:QE X o go)(hi:QE X i gi)(hv:QE X e ge)(hs:swapsWith e (some (.Subscript o i pos')) pos.line X.env=pure false:=by rfl):QS X (.Assign [.Subscript o i pos'] e pos) (oj go gi ge):=⟨BF (Jn hr) ho.h hi.h hv.h hs⟩
theorem Cw:QC X (.builtin "len") vJ:=⟨AW⟩
theorem AM (hc:X.calm=true:=by rfl):QC X (.type "list") oC:=⟨yh hc⟩
theorem Dm {es:List Expr}{kt:Nat}{tp:Pos}(hg:Gl X "zip")(hm:X.mg "zip"=none)(hv:bootBuiltins "zip"=some (.type "zip"))(ha:QA X [a,b] gA)(h1:aJ a=true:=by rfl)(h2:bP [b]=true:=by rfl):QI X (.Tuple es kt tp) (.Call (.Name "zip" p) [a,b] [] pos) (oX gA):=⟨EG hg hm hv ha.h (sE h1) (sS h2)⟩
end
theorem wN (xs:Array Value):slicePick xs none none (some (-1))=xs.toList.reverse.toArray:=by
 rw[←xI];unfold slicePick;have e:sliceBounds none none (some (-1)) xs.size=((xs.size:Int)-1,-1,-1):=rfl;rw[e];unfold sliceRange;dsimp only;rw[if_neg (by decide)];have c:(if((xs.size:Int)-1)>-1 then(((xs.size:Int)-1)-(-1)-(-1)-1) / (-(-1)) else 0).toNat=xs.size:=by
  by_cases h:((xs.size:Int)-1)>-1
  ·rw[if_pos h,show(-(-1):Int)=1 by decide,Int.ediv_one];omega
  ·rw[if_neg h];omega
 rw[c,filterMap_map];congr 2;funext k;show xs[(((xs.size:Int)-1)+-1*(k:Int)).toNat]?=_;rw[Int.mul_comm]
def ox (g:GE):GE:=fun ρ M=>(g ρ M).bind fun x M1=>match x with
 | .lst xs=>.ok (.lst xs.reverse) M1
 | _=>.bad
section
variable {X:Cx}
theorem Av {e:Expr}{g:GE}{i j p1 p2 p3 pos}(hi:i=1)(he:PE X e (tE X g)):PE X (.Subscript e (.Slice none none (some (.UnaryOp .USub (.Constant (.int i) j p1) p2)) p3) pos) (tE X (ox g)):=by
 subst hi;intro af s σ H Q I h;obtain⟨ρ,θ,M,hd,hw,h⟩:=h;have h2:tE X g σ H (fun x H1=>∃a vs,x=.ref a∧lw X.K H1 a vs∧∀p,H1 p=none→Q (.ref p) (bE H1 p (.lst vs.reverse))):=by
  refine bo hd hw (aE X θ H Q) (fun c M' h=>h) (fun h=>h) h fun d M1 v θ1 H1 g1 r1 h1=>?_
  split at h1
  ·rename_i xs;obtain⟨a,vs,e1,ta,ra⟩:=r1;exact⟨a,vs,e1,ta.sq,fun p hp=>h1 _ θ1 _ (g1.trans (dh g1.wr hp)) (gw g1.wr hp (kX ra))⟩
  ·exact h1.elim
 refine Subscript_ (cj (he af s σ H _ I h2) fun v s1 hxx=>?_);obtain⟨x,H1,I1,r1,a,vs,ex,sq,q1⟩:=hxx;subst ex;cases r1;refine wpAny_Slice ?_;rw[evalPart_none];refine wpAny_pure (wpAny_pure ?_);rw[evalPart_some];refine cj ((Cq xK zl) af s1 σ H1 (fun y H'=>y=.int (-1)∧H'=H1) I1 ⟨1,rfl,rfl,rfl⟩) fun vst s3 hxx=>?_
 obtain⟨y,H3,I3,r3,ey,eH⟩:=hxx;subst ey;subst eH;obtain⟨tk,rfl⟩:=r3;have I4:L2.Inv X af σ H3 {s3 with heap:=s3.heap.push {cls:=.type "slice",data:=.fields #[.none,.none,.int (-1) tk]}}:=I3.kept (t':=s3.toks) fun b ob q=>Heap.get?_push_of_some _ q
 obtain⟨its,rv,ht,hz⟩:=I4.list sq;have hlen:=rv.length;refine tail_any (ops:=[.ref a,.ref s3.heap.objs.size]) ht.isList.typeIs slot_list_getitem.lookup (wpAny_getItem_list_slice ht.isList (Heap.IsSliceOf.new ..) .none .none (.int (-1) tk) (by decide) ?_ (by rw[size_toArray] <;> omega)) (by with_unfolding_all rfl);rw[wN];refine⟨.ref _,_,I4.laid (t':=s3.toks) (o:=.lst vs.reverse) (fun b ob q=>Heap.get?_push_of_some _ q) (Nat.le_refl _) ?_,rfl,q1 _ (I4.hok.fresh (Nat.le_refl _))⟩;exact⟨by rw[length_reverse];exact hz,_,0,rv.reverse,Heap.get?_push_size _ rfl⟩
theorem Be {e:Expr}{g:GE}{i:Int}{j p1 p2 p3 pos}(hi:i=1)(he:QE X e g):QE X (.Subscript e (.Slice none none (some (.UnaryOp .USub (.Constant (.int i) j p1) p2)) p3) pos) (ox g):=⟨Av hi he.h⟩
end
end DL
namespace DL
open PySem L2
def ay:Nat→D→Bool
 | 0,_=>false
 | f+1,d=>match d with
  | .mr _=>false
  | .tup xs=>xs.all (ay f)
  | .lst xs=>xs.all (ay f)
  | .ro xs=>xs.all (ay f)
  | _=>true
theorem cz {f:D→Option D}:∀{xs:List D},(∀x∈xs,f x=some x)→br f xs=some xs
 | [],_=>rfl
 | x::xs,h=>by
  unfold br;rw[h x List.mem_cons_self,cz fun y hy=>h y (List.mem_cons_of_mem _ hy)]
theorem kd {n:Nat}{M:aq}:∀(f:Nat) (d:D),ay f d=true→frz n M f d=some d
 | 0,d,h=>by cases h
 | f+1,d,h=>by
  cases d with
  | mr k=>cases h
  | tup xs=>
   have h:xs.all (ay f)=true:=h;show(br (frz n M f) xs).map D.tup=_;rw[cz fun x hx=>kd f x (List.all_eq_true.mp h x hx)];rfl
  | lst xs=>
   have h:xs.all (ay f)=true:=h;show(br (frz n M f) xs).map D.lst=_;rw[cz fun x hx=>kd f x (List.all_eq_true.mp h x hx)];rfl
  | ro xs=>
   have h:xs.all (ay f)=true:=h;show(br (frz n M f) xs).map D.ro=_;rw[cz fun x hx=>kd f x (List.all_eq_true.mp h x hx)];rfl
  | _=>rfl
def B9:MO→Bool
 | .lst xs=>xs.all (ay 30)
 | .obj _ fs=>fs.all fun p=>ay 30 p.2
 | .dK fs=>fs.all fun p=>ay 30 p.2
 | .dT fs=>fs.all fun p=>ay 30 p.2
theorem lJ {κ:Type}{f:D→Option D}:∀{fs:List (κ×D)},(∀p∈fs,f p.2=some p.2)→nO f fs=some fs
 | [],_=>rfl
 | (x,d)::fs,h=>by
  unfold nO;rw[h (x,d) List.mem_cons_self,lJ fun y hy=>h y (List.mem_cons_of_mem _ hy)]
theorem oG {f:D→Option D}:∀{fs:List (Str×D)},(∀p∈fs,f p.2=some p.2)→rG f fs=some fs
 | [],_=>rfl
 | (x,d)::fs,h=>by
  unfold rG;rw[h (x,d) List.mem_cons_self,oG fun y hy=>h y (List.mem_cons_of_mem _ hy)]
@[simp] theorem Fp (f:Nat) (i:Int):ay (f+1) (.int i)=true:=rfl
@[simp] theorem G2 (f:Nat) (i:Bool):ay (f+1) (.bl i)=true:=rfl
@[simp] theorem Fh (f:Nat):ay (f+1) .non=true:=rfl
@[simp] theorem Ff (f:Nat) (x:Str):ay (f+1) (.str x)=true:=rfl
theorem Fq (f:Nat)(xs:List D):ay (f+1) (.tup xs)=xs.all (ay f):=rfl
theorem ll (f:Nat)(l:List Int):(l.map D.int).all (ay (f+1))=true:=by
 rw[List.all_map];exact List.all_eq_true.mpr fun x _=>rfl
theorem yA {t:GT}{b:GS}{n:Nat}{ρ ρ2:bC}{M M1 M2:aq}(h1:t ρ M=.ok true M1)(h2:b ρ M1=.ok (.nx ρ2) M2):dO t b (n+1) ρ M=dO t b n ρ2 M2:=by
 rw[dO,h1,ai,if_pos rfl,h2,ai]
theorem sP {t:GT}{b:GS}{n:Nat}{ρ:bC}{M M1:aq}(h1:t ρ M=.ok false M1):dO t b (n+1) ρ M=.ok (.nx ρ) M1:=by
 rw[dO,h1,ai,if_neg Bool.false_ne_true]
end DL
namespace DL
open PySem L2
theorem am {a b:GS}{ρ ρ1:bC}{M M1:aq}(h:a ρ M=.ok (.nx ρ1) M1):ar a b ρ M=b ρ1 M1:=by
 unfold ar;rw[h];rfl
theorem bH {a b:GS}{ρ:bC}{d:D}{M M1:aq}(h:a ρ M=.ok (.rt d) M1):ar a b ρ M=.ok (.rt d) M1:=by
 unfold ar;rw[h];rfl
theorem FU {a b:GS}{ρ:bC}{c:Str}{M M1:aq}(h:a ρ M=.err c M1):ar a b ρ M=.err c M1:=by
 unfold ar;rw[h];rfl
theorem cu {t:GT}{a b:GS}{ρ:bC}{M M1:aq}(h:t ρ M=.ok true M1):dL t a b ρ M=a ρ M1:=by
 unfold dL;rw[h,ai,if_pos rfl]
theorem db {t:GT}{a b:GS}{ρ:bC}{M M1:aq}(h:t ρ M=.ok false M1):dL t a b ρ M=b ρ M1:=by
 unfold dL;rw[h,ai,if_neg Bool.false_ne_true]
theorem aC {i:Nat}{g:GE}{ρ:bC}{M M1:aq}{d:D}(h:g ρ M=.ok d M1):aG i g ρ M=.ok (.nx (ρ.set i (some d))) M1:=by
 unfold aG;rw[h,ai]
theorem dX {g:GE}{ρ:bC}{M M1:aq}{d:D}(h:g ρ M=.ok d M1):cV g ρ M=.ok (.nx ρ) M1:=by
 unfold cV;rw[h,ai]
theorem aN {g:GE}{ρ:bC}{M M1:aq}{d:D}(h:g ρ M=.ok d M1):aA g ρ M=.ok (.rt d) M1:=by
 unfold aA;rw[h,ai]
theorem aZ {a b:GE}{ρ:bC}{M:aq}{x y:Bool}(ha:a ρ M=.ok (.bl x) M)(hb:x=true→b ρ M=.ok (.bl y) M):cR a b ρ M=.ok (.bl (x&&y)) M:=by
 unfold cR;rw[ha,ai];cases x with
 | true=>exact hb rfl
 | false=>rfl
theorem B4 {a b:GE}{ρ:bC}{M:aq}{x y:Bool}(ha:a ρ M=.ok (.bl x) M)(hb:x=false→b ρ M=.ok (.bl y) M):Cj a b ρ M=.ok (.bl (x||y)) M:=by
 unfold Cj;rw[ha,ai];cases x with
 | true=>rfl
 | false=>exact hb rfl
theorem mf {a b:GT}{ρ:bC}{M:aq}{x y:Bool}(ha:a ρ M=.ok x M)(hb:x=true→b ρ M=.ok y M):eA a b ρ M=.ok (x&&y) M:=by
 unfold eA;rw[ha,ai];cases x with
 | true=>exact hb rfl
 | false=>rfl
theorem dP {a b:GT}{ρ:bC}{M:aq}{x y:Bool}(ha:a ρ M=.ok x M)(hb:x=false→b ρ M=.ok y M):fZ a b ρ M=.ok (x||y) M:=by
 unfold fZ;rw[ha,ai];cases x with
 | true=>rfl
 | false=>exact hb rfl
theorem bA {a:GT}{ρ:bC}{M:aq}{x:Bool}(ha:a ρ M=.ok x M):bY a ρ M=.ok (!x) M:=by
 unfold bY;rw[ha,ai]
theorem cf {a:GE}{ρ:bC}{M M1:aq}{x:Bool}(ha:a ρ M=.ok (.bl x) M1):cM a ρ M=.ok x M1:=by
 unfold cM;rw[ha,ai];rfl
theorem bq {a:GE}{ρ:bC}{M M1:aq}{x:Bool}(ha:a ρ M=.ok (.bl x) M1):aM a ρ M=.ok x M1:=by
 unfold aM;rw[ha,ai];rfl
theorem au {f:F2}{a b:GE}{ρ:bC}{M M1 M2:aq}{x y:D}{o:aU D}(ha:a ρ M=.ok x M1)(hb:b ρ M1=.ok y M2)(h:f x y M2=o):g2 f a b ρ M=o:=by
 unfold g2;rw[ha,ai,hb,ai,h]
theorem lX {F:FD}{a:GE}{ρ:bC}{M M1:aq}{x:D}{o:aU D}(ha:a ρ M=.ok x M1)(h:F [x] M1=o):aB F (aa a ag) ρ M=o:=by
 unfold aB aa ag;rw[ha,ai,ai,ai,h]
theorem bT {F:FD}{a:GE}{ρ:bC}{M M1:aq}{x:D}{o:aU D}(ha:a ρ M=.ok x M1)(h:F [x] M1=o):aj 1 F (aa a ag) ρ M=o:=by
 unfold aj aa ag;rw[ha,ai,ai,ai,if_pos (show [x].length=1 from rfl),h]
theorem bw {F:FD}{a b:GE}{ρ:bC}{M M1 M2:aq}{x y:D}{o:aU D}(ha:a ρ M=.ok x M1)(hb:b ρ M1=.ok y M2)(h:F [x,y] M2=o):aj 2 F (aa a (aa b ag)) ρ M=o:=by
 unfold aj aa ag;rw[ha,ai,hb,ai,ai,ai,ai,if_pos (show [x,y].length=2 from rfl),h]
theorem fi {F:FD}{a b c:GE}{ρ:bC}{M M1 M2 M3:aq}{x y z:D}{o:aU D}(ha:a ρ M=.ok x M1)(hb:b ρ M1=.ok y M2)(hc:c ρ M2=.ok z M3)(h:F [x,y,z] M3=o):aj 3 F (aa a (aa b (aa c ag))) ρ M=o:=by
 unfold aj aa ag;rw[ha,ai,hb,ai,hc,ai,ai,ai,ai,ai,if_pos (show [x,y,z].length=3 from rfl),h]
theorem zI {p:D→Bool}:∀xs:List D,cD (xs.map fun d=>D.bl (p d))=some (xs.map p)
 | []=>rfl
 | x::xs=>by
  show(cD (xs.map fun d=>D.bl (p d))).map (p x::·)=_;rw[zI xs];rfl
theorem iM {gi:GI}{ge:GE}{ρ:bC}{M:aq}{xs:List D}{p:D→Bool}(hi:gi ρ M=.ok ⟨xs,none⟩ M)(hl:xs.length≤100000)(h:∀x∈xs,ge (some x::ρ) M=.ok (.bl (p x)) M) :
  aB hX (aa (bB gi bK ge aR) ag) ρ M=.ok (.bl (xs.all p)) M:=by
 have c:=qC (ds0:=xs) (ge:=ge) (ρ:=ρ) (f:=fun d=>D.bl (p d)) (M:=M) xs h;have l1:(xs.map fun d=>D.bl (p d)).length≤sizeLine:=by rw[List.length_map];exact bn (by omega)
 refine lX (x:=.lst (xs.map fun d=>D.bl (p d))) (M1:=M) ?_ ?_
 ·unfold bB;rw[hi,ai];dsimp only;rw[c,ai];unfold aR;rw[if_pos l1]
 ·show(match cb (.lst (xs.map fun d=>D.bl (p d))) M with|some xs=>(match cD xs with|some bs=>aU.ok (D.bl (bs.all id)) M|none=>.bad)|none=>.bad)=_;show(match cD (xs.map fun d=>D.bl (p d)) with|some bs=>aU.ok (D.bl (bs.all id)) M|none=>.bad)=_;rw[zI];dsimp only;rw[List.all_map];rfl
theorem fq {i:Nat}{ρ:bC}{M:aq}{xs:List D}(h:ρ[i]?=some (some (.tup xs))):eE (ae i) ρ M=.ok ⟨xs,none⟩ M:=by
 unfold eE ae;rw[h];rfl
theorem qz (a b:Int)(M:aq):aW false (.int a) (.int b) M=.ok (.bl (decide (a=b))) M:=by
 show aU.ok (D.bl ((a==b) != false)) M=_
 by_cases q:a=b <;> simp[q]
theorem oH (a b:Int)(M:aq):aW true (.int a) (.int b) M=.ok (.bl (!decide (a=b))) M:=by
 show aU.ok (D.bl ((a==b) != true)) M=_
 by_cases q:a=b <;> simp[q]
theorem u7 (M:aq)(E:List D):(M++[MO.lst E])[M.length]?=some (.lst E):=by simp
theorem Dl (M:aq)(E E':List D):(M++[MO.lst E]).set M.length (.lst E')=M++[MO.lst E']:=by simp
theorem Em {M:aq}{E:List D}{d:D}(h:E.length<1000000):qx M.length d (M++[MO.lst E])=.ok .non (M++[MO.lst (E++[d])]):=by
 have l:E.length<sizeLine:=Nat.lt_of_lt_of_le h (by rw[sizeLine_eq];decide);unfold qx;rw[u7];dsimp only;rw[if_pos l,Dl]
theorem EB {go ge:GE}{ρ:bC}{M:aq}{E:List D}{d:D}(h1:go ρ (M++[MO.lst E])=.ok (.mr M.length) (M++[MO.lst E]))(h2:ge ρ (M++[MO.lst E])=.ok d (M++[MO.lst E]))(h:E.length<1000000) :
  j8 go ge ρ (M++[MO.lst E])=.ok .non (M++[MO.lst (E++[d])]):=by
 unfold j8;rw[h1,ai];dsimp only;rw[u7];dsimp only;rw[h2,ai,Em h]
theorem dU {xs:List D}{k:Nat}{d:D}{M:aq}(h:xs[k]?=some d):aL (.lst xs) (.int k) M=.ok d M:=by
 have a:=pK (xs:=xs) (j:=k) h;unfold aL cb;dsimp only;rw[a]
theorem de {xs:List D}{k:Nat}{d:D}{M:aq}(h:xs[k]?=some d):aL (.tup xs) (.int k) M=.ok d M:=by
 have a:=pK (xs:=xs) (j:=k) h;unfold aL cb;dsimp only;rw[a]
theorem l8 {ρ:bC}{M:aq}:fB ag ρ M=.ok (.mr M.length) (M++[.lst []]):=by
 show(if([]:List D).length≤sizeLine then aU.ok (D.mr M.length) (M++[.lst []]) else .bad)=_;rw[if_pos (show([]:List D).length≤sizeLine from Nat.zero_le _)]
theorem bv {ga:GA}{ρ:bC}{M M1:aq}{ds:List D}(h:ga ρ M=.ok ds M1)(hl:ds.length≤100000:=by exact Nat.le_of_ble_eq_true rfl):aF ga ρ M=.ok (.tup ds) M1:=by
 have:ds.length≤sizeLine:=bn (by omega);unfold aF;rw[h,ai];unfold mI;rw[if_pos this]
theorem dZ {ga:GA}{ρ:bC}{M M1:aq}{ds:List D}(h:ga ρ M=.ok ds M1)(hl:ds.length≤100000:=by exact Nat.le_of_ble_eq_true rfl):dk ga ρ M=.ok (.lst ds) M1:=by
 have:ds.length≤sizeLine:=bn (by omega);unfold dk;rw[h,ai];unfold aR;rw[if_pos this]
theorem ak {g:GE}{r:GA}{ρ:bC}{M M1 M2:aq}{d:D}{ds:List D}(h:g ρ M=.ok d M1)(hr:r ρ M1=.ok ds M2):aa g r ρ M=.ok (d::ds) M2:=by
 unfold aa;rw[h,ai,hr,ai]
theorem tR {go ge:GE}{ρ:bC}{M M1:aq}{k:Nat}{E E1:List D}{d:D}(h1:go ρ M=.ok (.mr k) M)(h2:M[k]?=some (.lst E))(h3:ge ρ M=.ok d M1)(h4:M1[k]?=some (.lst E1))(h:E1.length<1000000) :
  j8 go ge ρ M=.ok .non (M1.set k (.lst (E1++[d]))):=by
 have l:E1.length<sizeLine:=Nat.lt_of_lt_of_le h (by rw[sizeLine_eq];decide);unfold j8;rw[h1,ai];dsimp only;rw[h2];dsimp only;rw[h3,ai];unfold qx;rw[h4];dsimp only;rw[if_pos l]
theorem ku {ga:GA}{ρ:bC}{M M1:aq}{n:Nat}(h:ga ρ M=.ok [.int (n:Int)] M1)(hn:n≤1000000):fe ga ρ M=.ok ⟨bi 0 n,none⟩ M1:=by
 unfold fe;rw[h,ai,zr hn]
theorem o4 {gi:GI}{sg:GG}{b:GS}{ρ:bC}{M M1:aq}{t:mn}{o:aU Fl}(h:gi ρ M=.ok t M1)(e:dR t sg b t.ds ρ M1=o):m9 gi sg b ρ M=o:=by
 unfold m9;rw[h,ai,e]
theorem pQ {i j:Int}(h0:0<j)(h1:j≤1000000)(M:aq):dt (.int i) (.int j) M=.ok (.int (i / j)) M:=by
 have h2:j.natAbs<2 ^ 20:=by omega
 have h3:j.natAbs≠0:=by omega
 have h4:=(Nat.log2_lt h3).mpr h2;unfold dt;dsimp only;rw[if_pos ⟨h0,by omega⟩]
theorem uq {d:D}(h:aO 40 d=true)(hs:nF d d=true)(hm:∀M,now d M=d)(M:aq):aW true d d M=.ok (.bl false) M:=by
 unfold aW;rw[hm,h,hs];rfl
end DL
namespace DL
open PySem L2
def eZ (n:Nat):Nat→D→Bool
 | 0,_=>false
 | f+1,d=>match d with
  | .mr k=>decide (k<n)
  | .tup xs=>xs.all (eZ n f)
  | .lst xs=>xs.all (eZ n f)
  | .ro xs=>xs.all (eZ n f)
  | _=>true
theorem iw {n:Nat}{M:aq}:∀(f:Nat) (d:D),eZ n f d=true→frz n M f d=some d
 | 0,d,h=>by cases h
 | f+1,d,h=>by
  cases d with
  | mr k=>
   have h:decide (k<n)=true:=h;show(if k<n then some (D.mr k) else _)=_;rw[if_pos (of_decide_eq_true h)]
  | tup xs=>
   have h:xs.all (eZ n f)=true:=h;show(br (frz n M f) xs).map D.tup=_;rw[cz fun x hx=>iw f x (List.all_eq_true.mp h x hx)];rfl
  | lst xs=>
   have h:xs.all (eZ n f)=true:=h;show(br (frz n M f) xs).map D.lst=_;rw[cz fun x hx=>iw f x (List.all_eq_true.mp h x hx)];rfl
  | ro xs=>
   have h:xs.all (eZ n f)=true:=h;show(br (frz n M f) xs).map D.ro=_;rw[cz fun x hx=>iw f x (List.all_eq_true.mp h x hx)];rfl
  | _=>rfl
theorem fH {n:Nat}:∀(f:Nat) (d:D),ay f d=true→eZ n f d=true
 | 0,d,h=>by cases h
 | f+1,d,h=>by
  cases d with
  | mr k=>cases h
  | tup xs=>exact List.all_eq_true.mpr fun x hx=>fH f x (List.all_eq_true.mp (show xs.all (ay f)=true from h) x hx)
  | lst xs=>exact List.all_eq_true.mpr fun x hx=>fH f x (List.all_eq_true.mp (show xs.all (ay f)=true from h) x hx)
  | ro xs=>exact List.all_eq_true.mpr fun x hx=>fH f x (List.all_eq_true.mp (show xs.all (ay f)=true from h) x hx)
  | _=>rfl
theorem fO {n m:Nat}(hn:n≤m):∀(f:Nat) (d:D),eZ n f d=true→eZ m f d=true
 | 0,d,h=>by cases h
 | f+1,d,h=>by
  cases d with
  | mr k=>exact decide_eq_true (Nat.lt_of_lt_of_le (of_decide_eq_true (show decide (k<n)=true from h)) hn)
  | tup xs=>exact List.all_eq_true.mpr fun x hx=>fO hn f x (List.all_eq_true.mp (show xs.all (eZ n f)=true from h) x hx)
  | lst xs=>exact List.all_eq_true.mpr fun x hx=>fO hn f x (List.all_eq_true.mp (show xs.all (eZ n f)=true from h) x hx)
  | ro xs=>exact List.all_eq_true.mpr fun x hx=>fO hn f x (List.all_eq_true.mp (show xs.all (eZ n f)=true from h) x hx)
  | _=>rfl
def kM (n:Nat):MO→Bool
 | .lst xs=>xs.all (eZ n 30)
 | .obj _ fs=>fs.all fun p=>eZ n 30 p.2
 | .dK fs=>fs.all fun p=>eZ n 30 p.2
 | .dT fs=>fs.all fun p=>eZ n 30 p.2
theorem vA {n m:Nat}(hn:n≤m){o:MO}(h:kM n o=true):kM m o=true:=by
 cases o with
 | lst xs=>exact List.all_eq_true.mpr fun x hx=>fO hn 30 x (List.all_eq_true.mp (show xs.all (eZ n 30)=true from h) x hx)
 | obj c fs=>exact List.all_eq_true.mpr fun x hx=>fO hn 30 x.2 (List.all_eq_true.mp (show(fs.all fun p=>eZ n 30 p.2)=true from h) x hx)
 | dK fs=>exact List.all_eq_true.mpr fun x hx=>fO hn 30 x.2 (List.all_eq_true.mp (show(fs.all fun p=>eZ n 30 p.2)=true from h) x hx)
 | dT fs=>exact List.all_eq_true.mpr fun x hx=>fO hn 30 x.2 (List.all_eq_true.mp (show(fs.all fun p=>eZ n 30 p.2)=true from h) x hx)
theorem jh {n:Nat}{o:MO}(h:B9 o=true):kM n o=true:=by
 cases o with
 | lst xs=>exact List.all_eq_true.mpr fun x hx=>fH 30 x (List.all_eq_true.mp (show xs.all (ay 30)=true from h) x hx)
 | obj c fs=>exact List.all_eq_true.mpr fun x hx=>fH 30 x.2 (List.all_eq_true.mp (show(fs.all fun p=>ay 30 p.2)=true from h) x hx)
 | dK fs=>exact List.all_eq_true.mpr fun x hx=>fH 30 x.2 (List.all_eq_true.mp (show(fs.all fun p=>ay 30 p.2)=true from h) x hx)
 | dT fs=>exact List.all_eq_true.mpr fun x hx=>fH 30 x.2 (List.all_eq_true.mp (show(fs.all fun p=>ay 30 p.2)=true from h) x hx)
theorem iP {n:Nat}{M:aq}:∀{l:List MO},l.all (kM n)=true→fX n M l=some l
 | [],_=>rfl
 | .lst xs::r,h=>by
  rw[List.all_cons,Bool.and_eq_true] at h;unfold fX;rw[iP h.2];have h1:xs.all (eZ n 30)=true:=h.1;rw[cz fun x hx=>iw 30 x (List.all_eq_true.mp h1 x hx)]
 | .obj c fs::r,h=>by
  rw[List.all_cons,Bool.and_eq_true] at h;unfold fX;rw[iP h.2];have h1:(fs.all fun p=>eZ n 30 p.2)=true:=h.1;rw[oG fun p hp=>iw 30 p.2 (List.all_eq_true.mp h1 p hp)]
 | .dK fs::r,h=>by
  rw[List.all_cons,Bool.and_eq_true] at h;unfold fX;rw[iP h.2];have h1:(fs.all fun p=>eZ n 30 p.2)=true:=h.1;rw[lJ fun p hp=>iw 30 p.2 (List.all_eq_true.mp h1 p hp)]
 | .dT fs::r,h=>by
  rw[List.all_cons,Bool.and_eq_true] at h;unfold fX;rw[iP h.2];have h1:(fs.all fun p=>eZ n 30 p.2)=true:=h.1;rw[lJ fun p hp=>iw 30 p.2 (List.all_eq_true.mp h1 p hp)]
def kl (M:aq):Prop:=M.all (kM M.length)=true
theorem kl.pure {M:aq}(h:M.all B9=true):kl M:=List.all_eq_true.mpr fun x hx=>jh (List.all_eq_true.mp h x hx)
theorem oU {d:D}{M E:aq}(hd:ay 30 d=true)(hM:kl M):lV M.length (.ok d (M++E))=.ok d M:=by
 unfold lV
 by_cases h:(M++E).length=M.length
 ·have:E=[]:=by
   rw[List.length_append] at h;exact List.length_eq_zero_iff.mp (by omega)
  subst this;simp
 ·simp only[if_neg h];rw[List.take_left,kd 30 d hd,iP hM]
theorem su {c:Str}{k:Nat}{fs:List (Str×D)}{M:aq}(h:M[k]?=some (.obj c fs)):iI c (.mr k) M=some (k,fs):=by
 unfold iI;dsimp only;rw[h];dsimp only;rw[if_pos rfl]
theorem fb {g:GE}{ρ:bC}{M:aq}{k:Nat}{c f:Str}{fs:List (Str×D)}{d:D}(h:g ρ M=.ok (.mr k) M)(hM:M[k]?=some (.obj c fs))(hf:fs.lookup f=some d):bS c f g ρ M=.ok d M:=by
 unfold bS;rw[h,ai,su hM];dsimp only;rw[hf]
theorem iA {go:GE}{ga:GA}{F:FD}{n:Nat}{ρ:bC}{M M1:aq}{k:Nat}{c m:Str}{fs:List (Str×D)}{ds:List D}{r:aU D}(h:go ρ M=.ok (.mr k) M)(hM:M[k]?=some (.obj c fs))(hn:fs.lookup m=none)
  (ha:ga ρ M=.ok ds M1) (hl:ds.length+1=n) (hF:F (.mr k::ds) M1=r):cG c m n F go ga ρ M=r:=by
 unfold cG;rw[h,ai,su hM];dsimp only;rw[if_pos hn,ha,ai,if_pos hl,hF]
theorem zP {c f:Str}{k:Nat}{fs:List (Str×D)}{y:D}{M:aq}(hM:M[k]?=some (.obj c fs))(hl:fs.length<1000):sC c f (.mr k) y M=.ok () (M.set k (.obj c (eo f y fs))):=by
 unfold sC;rw[su hM];dsimp only;rw[if_pos hl]
theorem ij {go gv:GE}{ρ:bC}{M M1:aq}{k:Nat}{c f:Str}{fs:List (Str×D)}{y:D}(hv:gv ρ M=.ok y M1)(ho:go ρ M1=.ok (.mr k) M1)(hM:M1[k]?=some (.obj c fs))(hl:fs.length<1000) :
  fh c f go gv ρ M=.ok (.nx ρ) (M1.set k (.obj c (eo f y fs))):=by
 unfold fh;rw[hv,ai,ho,ai,zP hM hl,ai]
end DL
namespace Hd
open PySem PySem.W PySem.Calls PyProof.Rows
def topRunT (tb:String→Option Builtin)(p:Program)(w:World)(n0:Nat)(ann:Option Value):Nat→SharedT→Thread→Option SharedT
 | 0,_,_=>none
 | n+1,s,t=>match through t with
  | true=>some s
  | false=>match stepOk n0 ann t with
   | false=>none
   | true=>match stepT (denote tb) p w s t with
    | some (s',t')=>topRunT tb p w n0 ann n s' t'
    | none=>none
theorem oq {tb:String→Option Builtin}{p:Program}{w:World}{n0:Nat}{ann:Option Value}:∀{n:Nat} {s s':SharedT} {t:Thread},topRunT tb p w n0 ann n s t=some s'→topRun tb p w n0 ann n s.abs t=some s'.abs
 | 0,_,_,_,h=>by cases h
 | n+1,s,s',t,h=>by
  unfold topRunT at h;unfold topRun;cases he:through t with
  | true=>rw[he] at h;cases h;rfl
  | false=>
   rw[he] at h;cases hk:stepOk n0 ann t with
   | false=>rw[hk] at h;cases h
   | true=>
    rw[hk] at h;cases hs:stepT (denote tb) p w s t with
    | none=>rw[hs] at h;cases h
    | some r=>obtain⟨s2,t2⟩:=r;rw[hs] at h;rw[stepT_spec hs];exact oq h
def grow:List Obj→BT→Nat→BT
 | [],t,_=>t
 | o::r,t,n=>grow r (t.ins n o) (n+1)
def Cd:List Obj→BT→Nat→Bool
 | [],_,_=>true
 | o::r,t,n=>((t.ins n o).get n).isSome&&Cd r (t.ins n o) (n+1)
theorem rR (life:Life):∀(l:List Obj) (t:BT) (n:Nat),Cd l t n=true→absHeap (grow l t n) (n+l.length) life=⟨(absHeap t n life).objs++l.toArray,life⟩
 | [],t,n,_=>by simp[grow,absHeap]
 | o::r,t,n,h=>by
  obtain⟨h1,h2⟩:=Bool.and_eq_true_iff.mp h;have e:=rR life r (t.ins n o) (n+1) h2;have e2:absHeap (t.ins n o) (n+1) life=(absHeap t n life).push o:=absHeap_ins h1;show absHeap (grow r (t.ins n o) (n+1)) (n+(r.length+1)) life=_;rw[show n+(r.length+1)=n+1+r.length by omega,e,e2];simp[Heap.push]
theorem tY {p q:Program}{loose:List Str}{Xt:Shared→Bool}{A:Type}{Yf:Shared→A}{Ya:World→A}{N:Nat}{g0:Bool}{H:Params→Heap}{gs:Array GenState}{d:Drawn}{k:Nat}{m:Nat}{ann:Option Value}{T:Params→BT}{lf:Life}
  (open_:∀w:World,(fencedOpening treeTable p w N).map (fun s=>(s.heap,s.gens,s.drawn,s.toks))=some (H w.params,gs,d,k))
  (size:∀w:World,((H w.params).isNs mainGlobals&&gs.size==0,(H w.params).objs.size,(H w.params).nsMap mainGlobals "__annotations__")=(true,m,ann))
  (tree:∀P,H P=absHeap (T P) m lf)
  (run:∀(w:World) (os:OsState),(topRunT treeTable p w m ann N ⟨T w.params,m,lf,gs,d,k,os⟩ (topStub p)).map (fun s=>
    ((staticsOk (importedModules p.main.body) (H w.params) s.abs.heap&&namesBound p s.abs.heap&&gensDone s.abs&&laidKept (H w.params) s.abs.heap),
    openSeen q loose (importedModules p.main.body) Xt g0 s.abs,Yf s.abs))=some (true,openGood q loose,Ya w)):LeftO p q loose Xt Yf Ya N g0:=fun w=>by
 obtain⟨⟨h,gs',d',k',os⟩,e,e'⟩:=Option.map_eq_some_iff.mp (open_ w);obtain⟨rfl,rfl,rfl,rfl⟩:h=H w.params∧gs'=gs∧d'=d∧k'=k:=by simpa using e'
 obtain⟨z1,z2,z3⟩:_∧_∧_:=by simpa only[Prod.mk.injEq] using size w
 obtain⟨s,r1,r2⟩:=Option.map_eq_some_iff.mp (run w os);obtain⟨l1,l2,l3⟩:_∧_∧_:=by simpa only[Prod.mk.injEq] using r2
 have r:=oq r1;have ea:SharedT.abs ⟨T w.params,m,lf,gs',d',k',os⟩=⟨H w.params,gs',d',k',os⟩:=by rw[tree];rfl
 rw[ea] at r;have t:topFrom treeTable p w N ⟨H w.params,gs',d',k',os⟩=some s.abs:=by
  unfold topFrom;dsimp only;rw[z1,z2,z3,r];show(match staticsOk (importedModules p.main.body) (H w.params) s.abs.heap&&namesBound p s.abs.heap&&gensDone s.abs&&laidKept (H w.params) s.abs.heap with|true=>_|false=>_)=_;rw[l1]
 unfold openEnds;rw[e];show(topFrom treeTable p w N _).map _=_;rw[t];exact congrArg some (Prod.ext l2 l3)
noncomputable def bootT (P:Params):BT:=grow (boot_heap P).objs.toList .nil 0
lay_quick Hd.topRunT W.topStub
theorem we (P:Params):boot_heap P=absHeap (bootT P) 11 {}:=by
 have h:=rR {} (boot_heap P).objs.toList .nil 0 (by kernel_rfl);exact h.symm
noncomputable def RT (p:Program) (w:World) (N:Nat) (os:OsState):Option SharedT:=topRunT treeTable p w 11 (some (Value.ref 6)) N ⟨bootT w.params,11,{},Array.mk [],boot_drawn,boot_toks,os⟩ (topStub p)
noncomputable def pA (p:Program) (P:Params) (s:Shared):Bool:=staticsOk (importedModules p.main.body) (boot_heap P) s.heap&&namesBound p s.heap&&gensDone s&&laidKept (boot_heap P) s.heap
def pB (q:Program)(mods:List Str)(Xt:Shared→Bool)(s:Shared):Bool:=(s.heap.keysOk (looseW q []) ((recsOf q).map (·.name)) ((litsOf q).map (·.1)) ((clssOf q (looseW q [])).map (·.name))&&s.heap.accountedOkI mods&&s.heap.isNs mainGlobals&&s.heap.isNs builtinsNs&&tablesOk q s.heap&&Xt s&&(if true then s.gens.size==0 else !leftWithCleanup s.gens))&&tabsOk q s
def pC (q:Program)(s:Shared):=(seen ((recsOf q).map (·.name)) (ownsOf q) [] {s with gens:=#[]},s.heap.bltView,wideSeen q s)
def pD (q:Program)(s:Shared):=(pinSeenD q (drecsOf q) s,plainSeenE q (looseW q []) s,plainSeenD q [] s,clsSeenW q [] s)
lay_quick Hd.pB
lay_quick Hd.pC
lay_quick Hd.pD
theorem pO {α A B:Type}{x:Option α}{f:α→A}{g:α→B}{a:A}{b:B}(h1:x.map f=some a)(h2:x.map g=some b):x.map (fun s=>(f s,g s))=some (a,b):=by
 cases x with
 | none=>cases h1
 | some s=>exact congrArg some (Prod.ext (Option.some.inj h1) (Option.some.inj h2))
theorem tx {p q:Program}{Xt:Shared→Bool}{A:Type}{Yf:Shared→A}{Ya:World→A}{N:Nat}
  (open_:∀w:World,(fencedOpening treeTable p w N).map (fun s=>(s.heap,s.gens,s.drawn,s.toks))=some (boot_heap w.params,Array.mk [],boot_drawn,boot_toks))
  (size:∀w:World,((boot_heap w.params).isNs mainGlobals&&(Array.mk ([]:List GenState)).size==0,(boot_heap w.params).objs.size,(boot_heap w.params).nsMap mainGlobals "__annotations__")=(true,11,some (Value.ref 6)))
  (r1:∀(w:World) (os:OsState),(RT p w N os).map (fun s=>pA p w.params s.abs&&pB q (importedModules p.main.body) Xt s.abs)=some true)
  (r2:∀(w:World) (os:OsState),(RT p w N os).map (fun s=>pC q s.abs)=some (expectedOf q,bltViewBooted,wideGood q))
  (r3:∀(w:World) (os:OsState),(RT p w N os).map (fun s=>pD q s.abs)=some (pinGoodD (drecsOf q),plainGoodE q (looseW q []),plainGoodD q [],clsGoodW q []))
  (r4:∀(w:World) (os:OsState),(RT p w N os).map (fun s=>Yf s.abs)=some (Ya w)):LeftO p q [] Xt Yf Ya N true:=
 tY open_ size we fun w os=>by
  show(RT p w N os).map _=_;have h:=pO (pO (r1 w os) (r2 w os)) (pO (r3 w os) (r4 w os));cases e:RT p w N os with
  | none=>rw[e] at h;cases h
  | some s=>
   rw[e] at h;obtain⟨h1,h2⟩:=Prod.mk.inj (Option.some.inj h);obtain⟨h1,h3⟩:=Prod.mk.inj h1;obtain⟨h4,h5⟩:=Prod.mk.inj h2;obtain⟨a,b⟩:=Bool.and_eq_true_iff.mp h1;obtain⟨b,c⟩:=Bool.and_eq_true_iff.mp b;obtain⟨c1,c2⟩:=Prod.mk.inj h3;obtain⟨c2,c3⟩:=Prod.mk.inj c2;obtain⟨d1,d2⟩:=Prod.mk.inj h4;obtain⟨d2,d3⟩:=Prod.mk.inj d2;obtain⟨d3,d4⟩:=Prod.mk.inj d3;exact congrArg some (Prod.ext a (Prod.ext (Prod.ext c1 (Prod.ext c2 (Prod.ext b (Prod.ext c (Prod.ext d1 (Prod.ext d2 (Prod.ext d3 (Prod.ext c3 d4)))))))) h5))
def lk (s:SharedT)(a:Nat):Option Obj:=match Nat.blt a s.n with
 | true=>(match s.tree.get a with
  | some o=>alive o
  | none=>none)
 | false=>none
theorem HC {s:SharedT}{a:Nat}{o:Obj}(h:lk s a=some o):s.abs.heap.get? a=some o:=by
 unfold lk at h;cases b:Nat.blt a s.n with
 | false=>rw[b] at h;cases h
 | true=>
  rw[b] at h;cases g:s.tree.get a with
  | none=>rw[g] at h;cases h
  | some x=>rw[g] at h;exact(abs_get (Nat.blt_eq.mp b) g).trans h
theorem zj {s:SharedT}{β:Type}{f:β→Obj}:∀{as:List Nat} {l:List β},as.map (lk s)=l.map (fun p=>some (f p))→as.map s.abs.heap.get?=l.map (fun p=>some (f p))
 | [],[],_=>rfl
 | [],_::_,h=>by cases h
 | _::_,[],h=>by cases h
 | a::as,p::l,h=>by
  obtain⟨x,y⟩:=List.cons.inj h;show s.abs.heap.get? a::as.map s.abs.heap.get?=_;rw[HC x,zj y];rfl
theorem left_k {p q:Program}{Xt:Shared→Bool}{N:Nat}{K:Params→Frag}{as:List Addr}{e:∀P,as=(K P).map (·.1)}
  (open_:∀w:World,(fencedOpening treeTable p w N).map (fun s=>(s.heap,s.gens,s.drawn,s.toks))=some (boot_heap w.params,Array.mk [],boot_drawn,boot_toks))
  (size:∀w:World,((boot_heap w.params).isNs mainGlobals&&(Array.mk ([]:List GenState)).size==0,(boot_heap w.params).objs.size,(boot_heap w.params).nsMap mainGlobals "__annotations__")=(true,11,some (Value.ref 6)))
  (r1:∀(w:World) (os:OsState),(RT p w N os).map (fun s=>pA p w.params s.abs&&pB q (importedModules p.main.body) Xt s.abs)=some true)
  (r2:∀(w:World) (os:OsState),(RT p w N os).map (fun s=>pC q s.abs)=some (expectedOf q,bltViewBooted,wideGood q))
  (r3:∀(w:World) (os:OsState),(RT p w N os).map (fun s=>pD q s.abs)=some (pinGoodD (drecsOf q),plainGoodE q (looseW q []),plainGoodD q [],clsGoodW q []))
  (r4:∀(w:World) (os:OsState),(RT p w N os).map (fun s=>as.map (lk s))=some ((K w.params).map (fun p=>some p.2))) :
  LeftO p q [] Xt (kHook K as e).obs (kHook K as e).val N true:=
 tx open_ size r1 r2 r3 fun w os=>by
  obtain⟨s,h1,h2⟩:=Option.map_eq_some_iff.mp (r4 w os);rw[h1];exact congrArg some (zj h2)
end Hd
namespace K34
open PySem PySem.Spec PyProof.Rows L2 DL List
noncomputable def top (i:Nat):Stmt:=PySem.Challenge.pw_glowrow_k34_whole_reels_taken_back.main.body.getD i (.Pass ⟨0,0,0,0⟩)
noncomputable abbrev BY:Stmt:=top 69
noncomputable abbrev TX:=Tx (("_law_draw",top 55,["tape","many"])::("_law_size",top 56,["tape","most"])::("_law_frame",top 57,["tape","most"])::("_law_inks",top 58,["tape","wide","thin"])::("_law_inked",top 59,["tape","most"])::("_law_far",top 60,["tape","size"])::("_law_mover",top 61,["tape","frame","shapes"])::("_law_stand",top 62,["tape","frame","movers_most"])::("_law_way",top 64,["tape","at"])::("_law_film",top 65,["tape","most"])::("is_whole",top 14,["thing"])::("is_within",top 15,["thing","low","high"])::("is_frame",top 17,["thing"])::("is_ink",top 19,["thing"])::("is_ink_row",top 20,["thing"])::("is_ink_block",top 21,["thing","most"])::("is_shape",top 22,["thing"])::("is_book",top 28,["thing"])::("is_shape_number",top 29,["book","thing"])::("is_place_pair",top 27,["thing"])::("is_rank",top 26,["thing"])::("is_turn",top 23,["thing"])::("is_mover",top 30,["book","thing"])::("are_movers",top 31,["book","thing"])::("is_hue",top 25,["thing"])::("are_pots",top 32,["thing"])::("is_stand",top 33,["thing"])::("places_of",top 43,["pair"])::("is_path",top 40,["thing"])::("is_pair_for",top 41,["mover","thing"])::("is_film",top 42,["thing"])::("path_behind",top 44,["path"])::("run_of",top 45,["path"])::("path_at",top 46,["path","many"])::("pair_at",top 48,["pair","many"])::("mover_on",top 49,["mover","pair"])::("film_at",top 47,["film","many"])::("mover_behind",top 37,["mover","word","parts"])::("is_mover_deed",top 35,["stand","word","parts"])::("is_deed",top 34,["stand","thing"])::("with_part",top 38,["things","at","part"])::("stand_behind",top 36,["stand","deed"])::("_law_gone_on",top 67,["tape","reel"])::("_law_told",top 66,["reel"])::("_law_word",top 63,["error"])::("_law_back_over",top 68,["reel"])::[])
 (("Past","__init__","Past.__init__",fo (top 52) 0,["self","now"])::("Reel","__init__","Reel.__init__",fo (top 53) 0,["self","film"])::("Reel","film","Reel.film",fo (top 53) 2,["self"])::("Past","change","Past.change",fo (top 52) 1,["self","thing"])::("Reel","frames","Reel.frames",fo (top 53) 1,["self"])::("Reel","go","Reel.go",fo (top 53) 3,["self","many"])::("Reel","deed","Reel.deed",fo (top 53) 4,["self","deed"])::("Past","back","Past.back",fo (top 52) 2,["self"])::("Reel","back","Reel.back",fo (top 53) 5,["self"])::[])
 []
 ("ValueError"::"all"::"bool"::"int"::"isinstance"::"len"::"list"::"max"::"min"::"range"::"tuple"::"zip"::[]) ["NoDeed","NoFilm","Over"]
 (("Clash",[("NoDeed",false),("NoFilm",false),("Over",false)])::("GlowError",[("NoDeed",true),("NoFilm",true),("Over",true)])::("NoDeed",[("NoDeed",true),("NoFilm",false),("Over",false)])::("NoFilm",[("NoDeed",false),("NoFilm",true),("Over",false)])::("NoFrame",[("NoDeed",false),("NoFilm",false),("Over",false)])::("NoRow",[("NoDeed",false),("NoFilm",false),("Over",false)])::("NoScore",[("NoDeed",false),("NoFilm",false),("Over",false)])::("NoStand",[("NoDeed",false),("NoFilm",false),("Over",false)])::("NoText",[("NoDeed",false),("NoFilm",false),("Over",false)])::("NoTick",[("NoDeed",false),("NoFilm",false),("Over",false)])::("Over",[("NoDeed",false),("NoFilm",false),("Over",true)])::[]) [("NoDeed",true),("NoFilm",true),("Over",true)]
 (("Past","earlier")::("Past","now")::("Reel","past")::[]) [] [("MOST_BACK",100)]
set_option hygiene false
local macro_rules | `(tactic| walk_at "o") => `(tactic| first | with_reducible exact Hk | with_reducible exact E2 | with_reducible exact Gd | with_reducible exact Hx | with_reducible exact D3 | with_reducible exact Hn | with_reducible exact FE | with_reducible exact IV | with_reducible exact Jy | with_reducible exact IY | with_reducible exact Jp | with_reducible exact IK | with_reducible exact Ae | with_reducible exact q_in | with_reducible exact q_notin | with_reducible exact q_mulT | with_reducible exact q_inA | ((with_reducible show Q2 _ _ (Fg _)); first | exact q_din hr | exact xa hr) | ((with_reducible show Q2 _ (compareOp .Eq) _); exact Jw hr) | exact Iz hr)
local macro_rules | `(tactic| walk_at "c") => `(tactic| first | ((with_reducible refine HM ?_); rfl) | ((with_reducible refine Fv)) | ((with_reducible refine Cw)) | ((with_reducible refine FW)) | ((with_reducible refine AM ?_); rfl) | ((with_reducible refine q_listM)) | ((with_reducible refine Ea)) | ((with_reducible refine Hj ?_); rfl) | ((with_reducible refine Gq ?_); rfl) | ((with_reducible refine Ai)))
local macro_rules | `(tactic| walk_at "b") => `(tactic| with_reducible first | exact Boot.«ValueError» | exact Boot.«all» | exact Boot.«bool» | exact Boot.«int» | exact Boot.«isinstance» | exact Boot.«len» | exact Boot.«list» | exact Boot.«max» | exact Boot.«min» | exact Boot.«range» | exact Boot.«tuple» | exact Boot.«zip»)
local macro_rules | `(tactic| walk_at "E") => `(tactic| first
  | ((with_reducible show QE _ _ (ae _));exact qv _)
  | ((with_reducible show QE _ _ (gC _));first|exact DA|exact D2|exact E7|exact Hl|exact Ap (JW T.i 0))
  | ((with_reducible show QE _ _ (g2 qu _ _));refine Aj hr ?_ ?_)
  | ((with_reducible show QE _ _ (g2 aL _ _));refine GB ?_ ?_)
  | ((with_reducible show QE _ _ (g2 _ _ _));first|refine FZ (by walk_at "o") ?_ ?_|refine CV (by walk_at "o") ?_ ?_|refine qe_cmpI (by walk_at "o") ?_ ?_)
  | ((with_reducible show QE _ _ (aj _ _ _));refine FC (by assumption) hr ?_)
  | ((with_reducible show QE _ _ (aF _));refine D7 ?_)
  | ((with_reducible show QE _ _ (eB _ _));refine Fy (by first|exact .inl rfl|exact .inr (.inl rfl)|exact .inr (.inr (.inl rfl))|exact .inr (.inr (.inr (.inl rfl)))|exact .inr (.inr (.inr (.inr rfl)))) (by walk_at "b") (by rfl) (T.z _ (by decide +kernel)) (by rfl) (T.z _ (by decide +kernel)) ?_)
  | ((with_reducible show QE _ _ (aB _ _));first|refine FO (by walk_at "c") (T.z _ (by decide +kernel)) (by walk_at "b") ?_|refine Hi (by walk_at "c") (by rfl) (T.z _ (by decide +kernel)) (by walk_at "b") ?_)
  | ((with_reducible show QE _ _ (dk _));refine DP ?_)
  | ((with_reducible show QE _ _ (fB _));refine CJ ?_)
  | ((with_reducible show QE _ _ (eW _));refine Cy ?_)
  | ((with_reducible show QE _ _ (rg _));refine EY ?_)
  | ((with_reducible show QE _ _ (oh _ _ _ _ _));refine zy (by walk_at "o") (by walk_at "o") ?_ ?_ ?_)
  | ((with_reducible show QE _ _ (lF _ _ _));refine y9 ?_ ?_ ?_)
  | ((with_reducible show QE _ _ (ox _));refine Be rfl ?_)
  | ((with_reducible show QE _ _ (bB _ _ _ _));first|refine qe_compR (by assumption) (by kernel_rfl) (by first|exact .inl rfl|exact .inr rfl) ?_ ?_ ?_|refine zd (by kernel_rfl) (by first|exact .inl rfl|exact .inr rfl) ?_ ?_ ?_)
  | ((with_reducible show QE _ _ (cA _ _ _ _ _ _));refine wd (by assumption) (by kernel_rfl) (by first|exact .inl rfl|exact .inr rfl) ?_ ?_ ?_ ?_ ?_)
  | ((with_reducible show QE _ _ (bS _ _ _));refine Bv (xG T.a _ _) ?_)
  | ((with_reducible show QE _ _ (cG _ _ _ _ _ ag));refine wJ (by assumption) hr ?_)
  | ((with_reducible show QE _ _ (cG _ _ _ _ _ _));refine Bj (by assumption) hr ?_ ?_)
  | ((with_reducible show QE _ _ (gD _ _ _ ag));refine qe_make0A (by assumption) hr)
  | ((with_reducible show QE _ _ (gD _ _ _ _));refine yC (by assumption) hr ?_)
  | ((with_reducible show QE _ _ (j8 _ _));refine ww ?_ ?_)
  | ((with_reducible show QE _ _ (gq indexG _ _));refine qe_indexG hr ?_ ?_)
  | ((with_reducible show QE _ _ (gq _ _ _));first|refine yi ?_ ?_|refine zc ?_ ?_)
  | ((with_reducible show QE _ _ (rH));exact Am)
  | ((with_reducible show QE _ _ (fR _ _));first|refine Aw (p4 T.r rfl) (T.z _ (by decide +kernel)) ?_|refine yH T.b (T.z _ (by decide +kernel)) (T.z _ (by decide +kernel)) ?_ (by kernel_rfl) (by walk_at "b")))
local macro_rules | `(tactic| walk_at "S") => `(tactic| first
  | ((with_reducible show QS _ _ (aA _));refine El ?_)
  | ((with_reducible show QS _ _ (dL _ _ _));refine F9 ?_ ?_ ?_)
  | ((with_reducible show QS _ _ (aG _ (bB _ _ _ _)));first|refine qs_setCompR (by assumption) (by kernel_rfl) (by first|exact .inl rfl|exact .inr rfl) nd ?_ ?_ ?_|refine rP (by kernel_rfl) (by first|exact .inl rfl|exact .inr rfl) nd ?_ ?_ ?_|refine qs_setC _ nd ?_)
  | ((with_reducible show QS _ _ (aG _ (cA _ _ _ _ _ _)));first|refine qs_setCompTR (by assumption) (by kernel_rfl) (by first|exact .inl rfl|exact .inr rfl) ?_ nd ?_ ?_ ?_ ?_|refine qs_setC _ nd ?_)
  | ((with_reducible show QS _ _ (aG _ _));refine Ew _ nd ?_)
  | ((with_reducible show QS _ _ (cg _ _));refine CS ?_ ?_)
  | ((with_reducible show QS _ _ (m9 _ _ _));refine Dt PassesOwn.leaving ?_ ?_ ?_)
  | ((with_reducible show QS _ _ (cV _));refine z9 ?_)
  | ((with_reducible show QS _ _ (iK _ _ _));refine D1 ?_ ?_ ?_)
  | ((with_reducible show QS _ _ (oj _ _ _));refine AJ hr ?_ ?_ ?_)
  | ((with_reducible show QS _ _ (aD));first|exact qs_pass|exact qs_doc)
  | ((with_reducible show QS _ _ (nz _ _ _));refine yx PassesOwn.leaving ?_ ?_)
  | ((with_reducible show QS _ _ (eX _ _));refine vF (T.e _ (by decide +kernel)) ?_)
  | ((with_reducible show QS _ _ (mL _ _ _ _));refine Bf (p4 T.r rfl) nd ?_ ?_)
  | ((with_reducible show QS _ _ (tN _ _ _));refine CQ nd ?_)
  | ((with_reducible show QS _ _ (fh _ _ _ _));first|refine BL (xG T.a _ _) ?_ ?_|refine qs_fldCA (xG T.a _ _) ?_ ?_))
local macro_rules | `(tactic| walk_at "Q") => `(tactic| first
  | ((with_reducible show QE _ _ _);first|walk_at "E"|refine ED ?_|refine CT ?_ ?_|refine He ?_ ?_|refine qe_fstr1 ?_)
  | ((with_reducible show QA _ _ _);first|exact E8|refine Jd ?_ ?_)
  | ((with_reducible show QT _ _ _);first
  | ((with_reducible show QT _ _ (aM (oh _ _ _ _ _)));refine wZ (by walk_at "o") (by walk_at "o") ?_ ?_ ?_)
  | ((with_reducible show QT _ _ (aM _));first|refine Dh (by walk_at "o") ?_ ?_|refine BS (by walk_at "o") ?_ ?_)
  | ((with_reducible show QT _ _ (bY _));refine ES ?_)
  | ((with_reducible show QT _ _ (cM _));refine DN ?_)
  | ((with_reducible show QT _ _ (eA _ _));refine GH ?_)
  | ((with_reducible show QT _ _ (fZ _ _));refine GH ?_))
  | ((with_reducible show QB _ _ _);first|exact DJ|refine D4 ?_|refine AN ?_ ?_)
  | ((with_reducible show QS _ _ _);walk_at "S")
  | ((with_reducible show QW _ _ _);first|refine EN ?_ ?_|refine GC ?_ ?_|refine AR ?_|refine C4 ?_)
  | ((with_reducible show QI _ _ _ _);first|((with_reducible show QI _ _ _ (fe _));refine Hb (by rfl) (T.z _ (by decide +kernel)) ?_)|((with_reducible show QI _ _ _ (gRng2 _));refine qi_r2 (by rfl) (T.z _ (by decide +kernel)) ?_)|((with_reducible show QI _ _ _ (gEnum _));refine qi_enum (by rfl) (T.z _ (by decide +kernel)) (by walk_at "b") ?_)|((with_reducible show QI _ _ _ (oX _));refine Dm (by rfl) (T.z _ (by decide +kernel)) (by walk_at "b") ?_)|refine Dj ?_)
  | ((with_reducible show QG _ _ _);first|exact qn _ nd|exact JR _ (by kernel_rfl)|refine Cu ?_|refine qg_tupG ?_)
  | ((with_reducible show Hm _ _ _);first|exact AE|refine GW ?_ ?_)
  | ((with_reducible show QGG _ _ _);first|exact qgg_nil|refine qgg_c ?_ ?_)
  | ((with_reducible show QP _ _ _);first|exact BN|refine Aq ?_)
  | ((with_reducible show B8 _ _ _ _ _ _);first|exact vU|refine q_onetest ?_)
  | ((with_reducible show QO _ _);first|exact qo_one _ _|exact CF _|refine qo_tupG ?_)
  | ((with_reducible show QOs _ _);first|exact qos_nil|refine qos_c ?_ ?_)
  | ((with_reducible show QF _ _ _);first|exact qf_nil|refine qf_c ?_ ?_)
  | ((with_reducible show QD _ _ _ _ _);first|exact qd_nil|refine qd_c ?_)
  | intro _)
section
variable {P:Program}{w:World}{K:W.Frag}{mg:Str→Option Value}{base:Heap}
noncomputable def f9:GS:=(ar (aG 2 (gC (.int 2305843009213693951))) (ar (dL (aM (g2 qI (g2 aL (ae 0) (gC (.int 2))) (ae 1))) (ar (aG 3 (gC (.int 0))) (ar (dL (aM (g2 rp (aB bp (aa (g2 aL (ae 0) (gC (.int 0))) ag)) (gC (.int 0)))) (aG 3 (g2 aL (g2 aL (ae 0) (gC (.int 0))) (g2 fI (g2 aL (ae 0) (gC (.int 1))) (aB bp (aa (g2 aL (ae 0) (gC (.int 0))) ag))))) aD) (ar (dL (fZ (aM (g2 Ak (g2 aL (ae 0) (gC (.int 1))) (aB bp (aa (g2 aL (ae 0) (gC (.int 0))) ag)))) (aM (g2 qI (ae 3) (g2 j9 (gC (.int 10)) (gC (.int 18)))))) (ar (aG 3 (g2 fI (g2 bb (ae 3) (g2 fv (gC (.int 1000003)) (g2 aL (ae 0) (gC (.int 1))))) (ae 2))) (ar (aG 3 (g2 fI (g2 bb (g2 bb (g2 fv (ae 3) (ae 3)) (g2 fv (gC (.int 1181783497276652981)) (ae 3))) (gC (.int 2049848353892358983))) (ae 2))) (aG 3 (g2 fI (g2 bb (g2 fv (ae 3) (ae 3)) (gC (.int 1442695040888963407))) (ae 2))))) aD) (ar (iK (ae 0) (gC (.int 1)) (g2 bb (g2 aL (ae 0) (gC (.int 1))) (gC (.int 1)))) (iK (ae 0) (gC (.int 2)) (ae 3)))))) aD) (ar (aG 4 (g2 fI (g2 aL (ae 0) (gC (.int 2))) (ae 1))) (ar (iK (ae 0) (gC (.int 2)) (g2 dt (g2 aL (ae 0) (gC (.int 2))) (ae 1))) (aA (ae 4))))))
noncomputable def ah:FD:=aX 3 f9
theorem bf (T:TX P w K mg base):Ok P w K mg base "_law_draw" 1 2 ah:=bR (bQ T.f 0 rfl) ["tape","many","prime","cell","found"] aI rfl fun f _ A _ s H E nd hr=>by delta f9;repeat' walk_at "Q"
noncomputable def jd:GS:=(aA (g2 bb (gC (.int 1)) (g2 aL (dk (aa (aj 2 ah (aa (ae 0) (aa (aB oW (aa (ae 1) (aa (gC (.int 6)) ag))) ag))) (aa (aj 2 ah (aa (ae 0) (aa (ae 1) ag))) (aa (g2 du (ae 1) (gC (.int 1))) ag)))) (g2 dt (g2 fv (aj 2 ah (aa (ae 0) (aa (gC (.int 8)) ag))) (gC (.int 3))) (gC (.int 10))))))
noncomputable def cU:FD:=aX 0 jd
theorem j7 (T:TX P w K mg base):Ok P w K mg base "_law_size" 2 2 cU:=bR (bQ T.f 1 rfl) ["tape","most"] aI rfl fun f _ A _ s H E nd hr=>by have:=bf T;delta jd;repeat' walk_at "Q"
noncomputable def hR:GS:=(ar (aG 2 (g2 aL (dk (aa (gC (.int 0)) (aa (aj 2 ah (aa (ae 0) (aa (gC (.int 21)) ag))) ag))) (aj 2 ah (aa (ae 0) (aa (gC (.int 2)) ag))))) (aA (aF (aa (aj 2 cU (aa (ae 0) (aa (ae 1) ag))) (aa (aj 2 cU (aa (ae 0) (aa (ae 1) ag))) (aa (ae 2) (aa (aj 2 ah (aa (ae 0) (aa (gC (.int 13)) ag))) ag)))))))
noncomputable def fD:FD:=aX 1 hR
theorem nJ (T:TX P w K mg base):Ok P w K mg base "_law_frame" 3 2 fD:=bR (bQ T.f 2 rfl) ["tape","most","gap"] aI rfl fun f _ A _ s H E nd hr=>by have:=bf T;have:=j7 T;delta hR;repeat' walk_at "Q"
noncomputable def dW:GE:=(g2 fv (aj 2 ah (aa (ae 1) (aa (gC (.int 16)) ag))) (aB rW (aa (g2 rp (aj 2 ah (aa (ae 1) (aa (ae 3) ag))) (gC (.int 0))) ag)))
noncomputable def iR:GS:=(aA (aB bV (aa (bB (fe (aa (ae 1) ag)) bK dW aR) ag)))
noncomputable def gG:FD:=aX 0 iR
theorem pq (T:TX P w K mg base):Ok P w K mg base "_law_inks" 2 3 gG:=bR (bQ T.f 3 rfl) ["tape","wide","thin"] aI rfl fun f _ A _ s H E nd hr=>by have:=bf T;delta iR dW;repeat' walk_at "Q"
noncomputable def eR:GE:=(aj 3 gG (aa (ae 1) (aa (ae 3) (aa (ae 4) ag))))
noncomputable def hV:GS:=(ar (aG 2 (aj 2 cU (aa (ae 0) (aa (ae 1) ag)))) (ar (aG 3 (g2 bb (gC (.int 1)) (aj 2 ah (aa (ae 0) (aa (gC (.int 4)) ag))))) (aA (aB bV (aa (bB (fe (aa (aj 2 cU (aa (ae 0) (aa (ae 1) ag))) ag)) bK eR aR) ag)))))
noncomputable def dS:FD:=aX 2 hV
theorem nK (T:TX P w K mg base):Ok P w K mg base "_law_inked" 3 2 dS:=bR (bQ T.f 4 rfl) ["tape","most","wide","thin"] aI rfl fun f _ A _ s H E nd hr=>by have:=bf T;have:=j7 T;have:=pq T;delta hV eR;repeat' walk_at "Q"
noncomputable def jP:GS:=(aA (g2 aL (dk (aa (g2 du (aj 2 ah (aa (ae 0) (aa (g2 bb (ae 1) (gC (.int 16))) ag))) (gC (.int 8))) (aa (g2 du (aj 2 ah (aa (ae 0) (aa (gC (.int 2001)) ag))) (gC (.int 1000))) ag))) (g2 dt (aj 2 ah (aa (ae 0) (aa (gC (.int 8)) ag))) (gC (.int 7)))))
noncomputable def bu:FD:=aX 0 jP
theorem lQ (T:TX P w K mg base):Ok P w K mg base "_law_far" 2 2 bu:=bR (bQ T.f 5 rfl) ["tape","size"] aI rfl fun f _ A _ s H E nd hr=>by have:=bf T;delta jP;repeat' walk_at "Q"
noncomputable def bX:GS:=(ar (aG 3 (gC .non)) (ar (dL (eA (aM (g2 rp (ae 2) (gC (.int 0)))) (aM (g2 rp (aj 2 ah (aa (ae 0) (aa (gC (.int 8)) ag))) (gC (.int 0))))) (aG 3 (aj 2 ah (aa (ae 0) (aa (ae 2) ag)))) aD) (aA (aF (aa (ae 3) (aa (aj 2 bu (aa (ae 0) (aa (g2 aL (ae 1) (gC (.int 0))) ag))) (aa (aj 2 bu (aa (ae 0) (aa (g2 aL (ae 1) (gC (.int 1))) ag))) (aa (aj 2 ah (aa (ae 0) (aa (gC (.int 4)) ag))) (aa (aj 2 ah (aa (ae 0) (aa (gC (.int 4)) ag))) ag)))))))))
noncomputable def h8:FD:=aX 1 bX
theorem nP (T:TX P w K mg base):Ok P w K mg base "_law_mover" 3 3 h8:=bR (bQ T.f 6 rfl) ["tape","frame","shapes","shape"] aI rfl fun f _ A _ s H E nd hr=>by have:=bf T;have:=lQ T;delta bX;repeat' walk_at "Q"
noncomputable def eM:GE:=(aj 2 dS (aa (ae 1) (aa (gC (.int 8)) ag)))
noncomputable def eN:GE:=(aj 3 h8 (aa (ae 1) (aa (ae 2) (aa (aB bp (aa (ae 7) ag)) ag))))
noncomputable def eO:GE:=(aj 2 ah (aa (ae 1) (aa (gC (.int 64)) ag)))
noncomputable def fj:GS:=(ar (aG 3 (aj 2 dS (aa (ae 0) (aa (gC (.int 16)) ag)))) (ar (aG 4 (aF (aa (aj 2 bu (aa (ae 0) (aa (gC (.int 9)) ag))) (aa (aj 2 bu (aa (ae 0) (aa (gC (.int 9)) ag))) ag)))) (ar (aG 5 (g2 aL (dk (aa (aj 2 ah (aa (ae 0) (aa (gC (.int 4)) ag))) (aa (aj 2 ah (aa (ae 0) (aa (gC (.int 9)) ag))) ag))) (g2 dt (aj 2 ah (aa (ae 0) (aa (gC (.int 4)) ag))) (gC (.int 3))))) (ar (aG 6 (aB bV (aa (bB (fe (aa (ae 5) ag)) bK eM aR) ag))) (ar (aG 7 (aB bV (aa (bB (fe (aa (aj 2 ah (aa (ae 0) (aa (g2 bb (ae 2) (gC (.int 1))) ag))) ag)) bK eN aR) ag))) (aA (aF (aa (ae 3) (aa (ae 4) (aa (ae 6) (aa (ae 7) (aa (aB bV (aa (bB (fe (aa (gC (.int 16)) ag)) bK eO aR) ag)) ag))))))))))))
noncomputable def g9:FD:=aX 5 fj
theorem nI (T:TX P w K mg base):Ok P w K mg base "_law_stand" 4 3 g9:=bR (bQ T.f 7 rfl) ["tape","frame","movers_most","floor","shift","shapes","book","movers"] aI rfl fun f _ A _ s H E nd hr=>by have:=bf T;have:=nK T;have:=lQ T;have:=nP T;delta fj eM eN eO;repeat' walk_at "Q"
noncomputable def g6:GS:=(ar (aG 2 (g2 aL (dk (aa (aj 2 ah (aa (ae 0) (aa (gC (.int 13)) ag))) (aa (gC (.int 12)) (aa (aj 2 ah (aa (ae 0) (aa (gC (.int 4)) ag))) ag)))) (aj 2 ah (aa (ae 0) (aa (gC (.int 3)) ag))))) (ar (aG 3 (g2 du (ae 1) (aj 2 ah (aa (ae 0) (aa (g2 bb (ae 2) (gC (.int 1))) ag))))) (ar (aG 4 (g2 aL (dk (aa (g2 du (aj 2 ah (aa (ae 0) (aa (gC (.int 25)) ag))) (gC (.int 12))) (aa (g2 du (aj 2 ah (aa (ae 0) (aa (gC (.int 5)) ag))) (gC (.int 2))) ag))) (aj 2 ah (aa (ae 0) (aa (gC (.int 2)) ag))))) (aA (aF (aa (ae 3) (aa (g2 bb (ae 3) (ae 2)) (aa (ae 1) (aa (ae 4) ag)))))))))
noncomputable def eD:FD:=aX 3 g6
theorem qM (T:TX P w K mg base):Ok P w K mg base "_law_way" 2 2 eD:=bR (bQ T.f 8 rfl) ["tape","at","span","low","step"] aI rfl fun f _ A _ s H E nd hr=>by have:=bf T;delta g6;repeat' walk_at "Q"
noncomputable def cC:GS:=(ar (aG 7 (aB qh (aa (eW (gC (.int 880))) (aa (aB oW (aa (gC (.int 880)) (aa (ae 7) ag))) ag)))) (ar (aG 8 (aB qh (aa (eW (gC (.int 880))) (aa (aB oW (aa (gC (.int 880)) (aa (ae 8) ag))) ag)))) (ar (cV (j8 (ae 5) (aF (aa (ae 6) (aa (ae 7) (aa (ae 8) (aa (ae 9) (aa (ae 10) ag)))))))) (cV (j8 (ae 4) (g2 aL (dk (aa (aF (aa (aj 2 eD (aa (ae 0) (aa (ae 7) ag))) (aa (aj 2 eD (aa (ae 0) (aa (ae 8) ag))) ag))) (aa (gC .non) ag))) (g2 dt (aj 2 ah (aa (ae 0) (aa (gC (.int 4)) ag))) (gC (.int 3)))))))))
noncomputable def eT:GS:=(ar (aG 2 (aj 2 fD (aa (ae 0) (aa (ae 1) ag)))) (ar (aG 3 (aj 3 g9 (aa (ae 0) (aa (ae 2) (aa (g2 aL (dk (aa (gC (.int 4)) (aa (gC (.int 12)) ag))) (g2 dt (aj 2 ah (aa (ae 0) (aa (gC (.int 4)) ag))) (gC (.int 3)))) ag))))) (ar (aG 4 (fB ag)) (ar (aG 5 (fB ag)) (ar (m9 (eE (g2 aL (ae 3) (gC (.int 3)))) (bN [6,7,8,9,10]) cC) (aA (aF (aa (ae 2) (aa (g2 bb (lF (ae 3) bh (cH (gC (.int 3)))) (aF (aa (aB bV (aa (ae 5) ag)) (aa (g2 aL (ae 3) (gC (.int 4))) ag)))) (aa (aB bV (aa (ae 4) ag)) ag))))))))))
noncomputable def dG:FD:=fun ds M=>lV M.length (aX 9 eT ds M)
theorem oO (T:TX P w K mg base):Ok P w K mg base "_law_film" 5 2 dG:=rV (F:=aX 9 eT) <| bR (bQ T.f 9 rfl) ["tape","most","frame","stand","paths","movers","shape","x","y","rank","turn"] aI rfl fun f _ A _ s H E nd hr=>by have:=bf T;have:=nJ T;have:=nI T;have:=qM T;delta eT cC;repeat' walk_at "Q"
noncomputable def dC:GS:=(ar (fh "Past" "now" (ae 0) (ae 1)) (fh "Past" "earlier" (ae 0) (dk ag)))
noncomputable def dB:FD:=aX 0 dC
theorem lc (T:TX P w K mg base):Om P w K mg base "Past" "__init__" 1 2 dB:=pJ (pk T.m 0 rfl) ["self","now"] aI rfl fun f _ A _ s H E nd hr=>by delta dC;repeat' walk_at "Q"
noncomputable def mP:GS:=(aA (cR (eB "int" (ae 0)) (rg (aM (eB "bool" (ae 0))))))
noncomputable def jR:FD:=aX 0 mP
theorem rN (T:TX P w K mg base):Ok P w K mg base "is_whole" 1 1 jR:=bR (bQ T.f 10 rfl) ["thing"] aI rfl fun f _ A _ s H E nd hr=>by delta mP;repeat' walk_at "Q"
noncomputable def gx:GS:=(aA (cR (aj 1 jR (aa (ae 0) ag)) (oh k8 k8 (ae 1) (ae 0) (ae 2))))
noncomputable def aH:FD:=aX 0 gx
theorem bF (T:TX P w K mg base):Ok P w K mg base "is_within" 2 3 aH:=bR (bQ T.f 11 rfl) ["thing","low","high"] aI rfl fun f _ A _ s H E nd hr=>by have:=rN T;delta gx;repeat' walk_at "Q"
noncomputable def h9:GS:=(ar (dL (fZ (bY (cM (eB "tuple" (ae 0)))) (aM (g2 (aW true) (aB bp (aa (ae 0) ag)) (gC (.int 4))))) (aA (gC (.bl false))) aD) (ar (cg (bN [1,2,3,4]) (ae 0)) (aA (cR (aj 3 aH (aa (ae 1) (aa (gC (.int 1)) (aa (gC (.int 40)) ag)))) (cR (aj 3 aH (aa (ae 2) (aa (gC (.int 1)) (aa (gC (.int 40)) ag)))) (cR (aj 3 aH (aa (ae 3) (aa (gC (.int 0)) (aa (gC (.int 20)) ag)))) (aj 3 aH (aa (ae 4) (aa (gC (.int 0)) (aa (gC (.int 12)) ag))))))))))
noncomputable def fW:FD:=aX 4 h9
theorem qE (T:TX P w K mg base):Ok P w K mg base "is_frame" 3 1 fW:=bR (bQ T.f 12 rfl) ["thing","wide","high","gap","most"] aI rfl fun f _ A _ s H E nd hr=>by have:=bF T;delta h9;repeat' walk_at "Q"
noncomputable def p7:GS:=(aA (aj 3 aH (aa (ae 0) (aa (gC (.int 0)) (aa (gC (.int 15)) ag)))))
noncomputable def i3:FD:=aX 0 p7
theorem oF (T:TX P w K mg base):Ok P w K mg base "is_ink" 3 1 i3:=bR (bQ T.f 13 rfl) ["thing"] aI rfl fun f _ A _ s H E nd hr=>by have:=bF T;delta p7;repeat' walk_at "Q"
noncomputable def eS:GE:=(aj 1 i3 (aa (ae 0) ag))
noncomputable def fE:GS:=(aA (cR (eB "tuple" (ae 0)) (aB hX (aa (bB (eE (ae 0)) bK eS aR) ag))))
noncomputable def hU:FD:=aX 0 fE
theorem nN (T:TX P w K mg base):Ok P w K mg base "is_ink_row" 4 1 hU:=bR (bQ T.f 14 rfl) ["thing"] aI rfl fun f _ A _ s H E nd hr=>by have:=oF T;delta fE eS;repeat' walk_at "Q"
noncomputable def dD:GE:=(aj 1 hU (aa (ae 0) ag))
noncomputable def cI:GE:=(g2 (aW false) (aB bp (aa (ae 0) ag)) (ae 3))
noncomputable def d9:GS:=(ar (dL (fZ (bY (cM (eB "tuple" (ae 0)))) (bY (aM (oh k8 k8 (gC (.int 1)) (aB bp (aa (ae 0) ag)) (ae 1))))) (aA (gC (.bl false))) aD) (ar (dL (bY (cM (aB hX (aa (bB (eE (ae 0)) bK dD aR) ag)))) (aA (gC (.bl false))) aD) (ar (aG 2 (aB bp (aa (g2 aL (ae 0) (gC (.int 0))) ag))) (aA (cR (oh k8 k8 (gC (.int 1)) (ae 2) (ae 1)) (aB hX (aa (bB (eE (ae 0)) bK cI aR) ag)))))))
noncomputable def dQ:FD:=aX 1 d9
theorem iJ (T:TX P w K mg base):Ok P w K mg base "is_ink_block" 5 2 dQ:=bR (bQ T.f 15 rfl) ["thing","most","length"] aI rfl fun f _ A _ s H E nd hr=>by have:=nN T;delta d9 dD cI;repeat' walk_at "Q"
noncomputable def iz:GS:=(aA (aj 2 dQ (aa (ae 0) (aa (gC (.int 8)) ag))))
noncomputable def jJ:FD:=aX 0 iz
theorem qS (T:TX P w K mg base):Ok P w K mg base "is_shape" 6 1 jJ:=bR (bQ T.f 16 rfl) ["thing"] aI rfl fun f _ A _ s H E nd hr=>by have:=iJ T;delta iz;repeat' walk_at "Q"
noncomputable def iq:GE:=(aj 1 jJ (aa (ae 0) ag))
noncomputable def js:GS:=(aA (cR (eB "tuple" (ae 0)) (cR (g2 k8 (aB bp (aa (ae 0) ag)) (gC (.int 8))) (aB hX (aa (bB (eE (ae 0)) bK iq aR) ag)))))
noncomputable def lC:FD:=aX 0 js
theorem sD (T:TX P w K mg base):Ok P w K mg base "is_book" 7 1 lC:=bR (bQ T.f 17 rfl) ["thing"] aI rfl fun f _ A _ s H E nd hr=>by have:=qS T;delta js iq;repeat' walk_at "Q"
noncomputable def cP:GS:=(aA (Cj (g2 (jL false) (ae 1) (gC .non)) (aj 3 aH (aa (ae 1) (aa (gC (.int 0)) (aa (g2 du (aB bp (aa (ae 0) ag)) (gC (.int 1))) ag))))))
noncomputable def cQ:FD:=aX 0 cP
theorem fJ (T:TX P w K mg base):Ok P w K mg base "is_shape_number" 3 2 cQ:=bR (bQ T.f 18 rfl) ["book","thing"] aI rfl fun f _ A _ s H E nd hr=>by have:=bF T;delta cP;repeat' walk_at "Q"
noncomputable def gT:GE:=(aj 3 aH (aa (ae 0) (aa (eW (gC (.int 1000))) (aa (gC (.int 1000)) ag))))
noncomputable def cJ:GS:=(aA (cR (eB "tuple" (ae 0)) (cR (g2 (aW false) (aB bp (aa (ae 0) ag)) (gC (.int 2))) (aB hX (aa (bB (eE (ae 0)) bK gT aR) ag)))))
noncomputable def aS:FD:=aX 0 cJ
theorem cZ (T:TX P w K mg base):Ok P w K mg base "is_place_pair" 3 1 aS:=bR (bQ T.f 19 rfl) ["thing"] aI rfl fun f _ A _ s H E nd hr=>by have:=bF T;delta cJ gT;repeat' walk_at "Q"
noncomputable def oI:GS:=(aA (aj 3 aH (aa (ae 0) (aa (gC (.int 0)) (aa (gC (.int 3)) ag)))))
noncomputable def jn:FD:=aX 0 oI
theorem nj (T:TX P w K mg base):Ok P w K mg base "is_rank" 3 1 jn:=bR (bQ T.f 20 rfl) ["thing"] aI rfl fun f _ A _ s H E nd hr=>by have:=bF T;delta oI;repeat' walk_at "Q"
noncomputable def ol:GS:=(aA (aj 3 aH (aa (ae 0) (aa (gC (.int 0)) (aa (gC (.int 3)) ag)))))
noncomputable def jo:FD:=aX 0 ol
theorem nD (T:TX P w K mg base):Ok P w K mg base "is_turn" 3 1 jo:=bR (bQ T.f 21 rfl) ["thing"] aI rfl fun f _ A _ s H E nd hr=>by have:=bF T;delta ol;repeat' walk_at "Q"
noncomputable def iD:GS:=(ar (dL (fZ (bY (cM (eB "tuple" (ae 1)))) (aM (g2 (aW true) (aB bp (aa (ae 1) ag)) (gC (.int 5))))) (aA (gC (.bl false))) aD) (ar (cg (bN [2,3,4,5,6]) (ae 1)) (aA (cR (aj 2 cQ (aa (ae 0) (aa (ae 2) ag))) (cR (aj 1 aS (aa (aF (aa (ae 3) (aa (ae 4) ag))) ag)) (cR (aj 1 jn (aa (ae 5) ag)) (aj 1 jo (aa (ae 6) ag))))))))
noncomputable def jX:FD:=aX 5 iD
theorem rJ (T:TX P w K mg base):Ok P w K mg base "is_mover" 4 2 jX:=bR (bQ T.f 22 rfl) ["book","thing","shape","x","y","rank","turn"] aI rfl fun f _ A _ s H E nd hr=>by have:=fJ T;have:=cZ T;have:=nj T;have:=nD T;delta iD;repeat' walk_at "Q"
noncomputable def eI:GE:=(aj 2 jX (aa (ae 1) (aa (ae 0) ag)))
noncomputable def fA:GS:=(aA (cR (eB "tuple" (ae 1)) (cR (g2 k8 (aB bp (aa (ae 1) ag)) (gC (.int 12))) (aB hX (aa (bB (eE (ae 1)) bK eI aR) ag)))))
noncomputable def im:FD:=aX 0 fA
theorem nR (T:TX P w K mg base):Ok P w K mg base "are_movers" 5 2 im:=bR (bQ T.f 23 rfl) ["book","thing"] aI rfl fun f _ A _ s H E nd hr=>by have:=rJ T;delta fA eI;repeat' walk_at "Q"
noncomputable def qP:GS:=(aA (aj 3 aH (aa (ae 0) (aa (gC (.int 0)) (aa (gC (.int 63)) ag)))))
noncomputable def ja:FD:=aX 0 qP
theorem oE (T:TX P w K mg base):Ok P w K mg base "is_hue" 3 1 ja:=bR (bQ T.f 24 rfl) ["thing"] aI rfl fun f _ A _ s H E nd hr=>by have:=bF T;delta qP;repeat' walk_at "Q"
noncomputable def gE:GE:=(aj 1 ja (aa (ae 0) ag))
noncomputable def iB:GS:=(aA (cR (eB "tuple" (ae 0)) (cR (g2 (aW false) (aB bp (aa (ae 0) ag)) (gC (.int 16))) (aB hX (aa (bB (eE (ae 0)) bK gE aR) ag)))))
noncomputable def jU:FD:=aX 0 iB
theorem qJ (T:TX P w K mg base):Ok P w K mg base "are_pots" 4 1 jU:=bR (bQ T.f 25 rfl) ["thing"] aI rfl fun f _ A _ s H E nd hr=>by have:=oE T;delta iB gE;repeat' walk_at "Q"
noncomputable def ir:GS:=(ar (dL (fZ (bY (cM (eB "tuple" (ae 0)))) (aM (g2 (aW true) (aB bp (aa (ae 0) ag)) (gC (.int 5))))) (aA (gC (.bl false))) aD) (ar (cg (bN [1,2,3,4,5]) (ae 0)) (ar (dL (bY (eA (cM (aj 2 dQ (aa (ae 1) (aa (gC (.int 16)) ag)))) (eA (cM (aj 1 aS (aa (ae 2) ag))) (cM (aj 1 jU (aa (ae 5) ag)))))) (aA (gC (.bl false))) aD) (aA (cR (aj 1 lC (aa (ae 3) ag)) (aj 2 im (aa (ae 3) (aa (ae 4) ag))))))))
noncomputable def fL:FD:=aX 5 ir
theorem qN (T:TX P w K mg base):Ok P w K mg base "is_stand" 8 1 fL:=bR (bQ T.f 26 rfl) ["thing","floor","shift","book","movers","pots"] aI rfl fun f _ A _ s H E nd hr=>by have:=iJ T;have:=sD T;have:=cZ T;have:=nR T;have:=qJ T;delta ir;repeat' walk_at "Q"
noncomputable def gJ:GS:=(ar (cg (bN [1,2]) (ae 0)) (aA (aF (aa (g2 aL (ae 1) (gC (.int 2))) (aa (g2 aL (ae 2) (gC (.int 2))) ag)))))
noncomputable def gj:FD:=aX 2 gJ
theorem kH (T:TX P w K mg base):Ok P w K mg base "places_of" 1 1 gj:=bR (bQ T.f 27 rfl) ["pair","across","down"] aI rfl fun f _ A _ s H E nd hr=>by delta gJ;repeat' walk_at "Q"
noncomputable def jl:GS:=(ar (dL (fZ (bY (cM (eB "tuple" (ae 0)))) (aM (g2 (aW true) (aB bp (aa (ae 0) ag)) (gC (.int 4))))) (aA (gC (.bl false))) aD) (ar (cg (bN [1,2,3,4]) (ae 0)) (aA (cR (aj 3 aH (aa (ae 1) (aa (eW (gC (.int 900))) (aa (gC (.int 900)) ag)))) (cR (aj 3 aH (aa (ae 2) (aa (ae 1) (aa (g2 bb (ae 1) (gC (.int 12))) ag)))) (cR (aj 3 aH (aa (ae 3) (aa (ae 1) (aa (ae 2) ag)))) (aj 3 aH (aa (ae 4) (aa (eW (gC (.int 12))) (aa (gC (.int 12)) ag))))))))))
noncomputable def jv:FD:=aX 4 jl
theorem tL (T:TX P w K mg base):Ok P w K mg base "is_path" 3 1 jv:=bR (bQ T.f 28 rfl) ["thing","low","high","at","step"] aI rfl fun f _ A _ s H E nd hr=>by have:=bF T;delta jl;repeat' walk_at "Q"
noncomputable def fN:GE:=(aj 1 jv (aa (ae 0) ag))
noncomputable def eG:GS:=(ar (dL (aM (g2 (jL false) (ae 1) (gC .non))) (aA (gC (.bl true))) aD) (ar (dL (fZ (bY (cM (eB "tuple" (ae 1)))) (fZ (aM (g2 (aW true) (aB bp (aa (ae 1) ag)) (gC (.int 2)))) (bY (cM (aB hX (aa (bB (eE (ae 1)) bK fN aR) ag)))))) (aA (gC (.bl false))) aD) (aA (g2 (aW false) (lF (ae 0) (cH (gC (.int 1))) (cH (gC (.int 3)))) (aj 1 gj (aa (ae 1) ag))))))
noncomputable def eJ:FD:=aX 0 eG
theorem mV (T:TX P w K mg base):Ok P w K mg base "is_pair_for" 4 2 eJ:=bR (bQ T.f 29 rfl) ["mover","thing"] aI rfl fun f _ A _ s H E nd hr=>by have:=kH T;have:=tL T;delta eG fN;repeat' walk_at "Q"
noncomputable def jG:GE:=(aj 2 eJ (aa (ae 0) (aa (ae 1) ag)))
noncomputable def jt:GS:=(ar (dL (fZ (bY (cM (eB "tuple" (ae 0)))) (aM (g2 (aW true) (aB bp (aa (ae 0) ag)) (gC (.int 3))))) (aA (gC (.bl false))) aD) (ar (cg (bN [1,2,3]) (ae 0)) (ar (dL (bY (eA (cM (aj 1 fW (aa (ae 1) ag))) (eA (cM (aj 1 fL (aa (ae 2) ag))) (cM (eB "tuple" (ae 3)))))) (aA (gC (.bl false))) aD) (ar (aG 4 (g2 aL (ae 2) (gC (.int 3)))) (ar (dL (aM (g2 (aW true) (aB bp (aa (ae 3) ag)) (aB bp (aa (ae 4) ag)))) (aA (gC (.bl false))) aD) (aA (aB hX (aa (cA (oX (aa (ae 4) (aa (ae 3) ag))) 2 (bN [0,1]) bK jG aR) ag))))))))
noncomputable def cK:FD:=aX 4 jt
theorem sM (T:TX P w K mg base):Ok P w K mg base "is_film" 9 1 cK:=bR (bQ T.f 30 rfl) ["thing","frame","stand","paths","movers"] aI rfl fun f _ A _ s H E nd hr=>by have:=qE T;have:=qN T;have:=mV T;have:=rn 147 15 ["mover","pair"] ["thing","frame","stand","paths","movers"];delta jt jG;repeat' walk_at "Q"
noncomputable def iE:GS:=(ar (dL (bY (cM (aj 1 cK (aa (ae 1) ag)))) (eX "NoFilm" (gC (.str "that is no film"))) aD) (fh "Reel" "past" (ae 0) (gD "Past" 2 dB (aa (aF (aa (gC (.int 0)) (aa (ae 1) ag))) ag))))
noncomputable def fc:FD:=aX 0 iE
theorem lA (T:TX P w K mg base):Om P w K mg base "Reel" "__init__" 10 2 fc:=pJ (pk T.m 1 rfl) ["self","film"] aI rfl fun f _ A _ s H E nd hr=>by have:=lc T;have:=sM T;delta iE;repeat' walk_at "Q"
noncomputable def gH:GS:=(ar (cg (bN [1,2]) (bS "Past" "now" (bS "Reel" "past" (ae 0)))) (aA (ae 2)))
noncomputable def bZ:FD:=aX 2 gH
theorem ft (T:TX P w K mg base):Om P w K mg base "Reel" "film" 1 1 bZ:=pJ (pk T.m 2 rfl) ["self","many","film"] aI rfl fun f _ A _ s H E nd hr=>by delta gH;repeat' walk_at "Q"
noncomputable def eK:GS:=(ar (fh "Past" "earlier" (ae 0) (lF (g2 bb (bS "Past" "earlier" (ae 0)) (dk (aa (bS "Past" "now" (ae 0)) ag))) (cH (eW (gC (.int 100)))) bh)) (fh "Past" "now" (ae 0) (ae 1)))
noncomputable def dA:FD:=aX 0 eK
theorem iV (T:TX P w K mg base):Om P w K mg base "Past" "change" 1 2 dA:=pJ (pk T.m 3 rfl) ["self","thing"] aI rfl fun f _ A _ s H E nd hr=>by delta eK;repeat' walk_at "Q"
noncomputable def eP:GS:=(ar (cg (bN [1,2,3,4]) (ae 0)) (ar (dL (aM (oh k8 k8 (ae 1) (g2 bb (ae 3) (ae 4)) (ae 2))) (aA (aF (aa (ae 1) (aa (ae 2) (aa (g2 bb (ae 3) (ae 4)) (aa (ae 4) ag)))))) aD) (ar (dL (aM (oh k8 k8 (ae 1) (g2 du (ae 3) (ae 4)) (ae 2))) (aA (aF (aa (ae 1) (aa (ae 2) (aa (g2 du (ae 3) (ae 4)) (aa (eW (ae 4)) ag)))))) aD) (aA (aF (aa (ae 1) (aa (ae 2) (aa (ae 3) (aa (eW (ae 4)) ag)))))))))
noncomputable def gL:FD:=aX 4 eP
theorem mM (T:TX P w K mg base):Ok P w K mg base "path_behind" 1 1 gL:=bR (bQ T.f 31 rfl) ["path","low","high","at","step"] aI rfl fun f _ A _ s H E nd hr=>by delta eP;repeat' walk_at "Q"
noncomputable def fF:GS:=(ar (oj (ae 1) (ae 0) (aB vJ (aa (ae 1) ag))) (aG 0 (aj 1 gL (aa (ae 0) ag))))
noncomputable def gQ:GT:=(aM (g2 (Fg true) (ae 0) (ae 1)))
noncomputable def iT:GS:=(ar (aG 1 rH) (ar (nz 100 gQ fF) (aA (aF (aa (aB oC (aa (ae 1) ag)) (aa (g2 qu (ae 1) (ae 0)) ag))))))
noncomputable def kD:FD:=fun ds M=>lV M.length (aX 1 iT ds M)
theorem wj (T:TX P w K mg base):Ok P w K mg base "run_of" 2 1 kD:=rV (F:=aX 1 iT) <| bR (bQ T.f 32 rfl) ["path","places"] aI rfl fun f _ A _ s H E nd hr=>by have:=mM T;delta iT fF gQ;repeat' walk_at "Q"
noncomputable def jp:GS:=(ar (cg (bN [2,3]) (aj 1 kD (aa (ae 0) ag))) (ar (dL (aM (g2 qI (ae 1) (aB bp (aa (ae 2) ag)))) (aA (g2 aL (ae 2) (ae 1))) aD) (aA (g2 aL (ae 2) (g2 bb (ae 3) (g2 fI (g2 du (ae 1) (ae 3)) (g2 du (aB bp (aa (ae 2) ag)) (ae 3))))))))
noncomputable def jm:FD:=aX 2 jp
theorem tU (T:TX P w K mg base):Ok P w K mg base "path_at" 3 2 jm:=bR (bQ T.f 33 rfl) ["path","many","run","ahead"] aI rfl fun f _ A _ s H E nd hr=>by have:=wj T;delta jp;repeat' walk_at "Q"
noncomputable def jk:GS:=(ar (dL (aM (g2 (jL false) (ae 0) (gC .non))) (aA (gC .non)) aD) (ar (cg (bN [2,3]) (ae 0)) (aA (aF (aa (aj 2 jm (aa (ae 2) (aa (ae 1) ag))) (aa (aj 2 jm (aa (ae 3) (aa (ae 1) ag))) ag))))))
noncomputable def lI:FD:=aX 2 jk
theorem tq (T:TX P w K mg base):Ok P w K mg base "pair_at" 4 2 lI:=bR (bQ T.f 34 rfl) ["pair","many","across","down"] aI rfl fun f _ A _ s H E nd hr=>by have:=tU T;delta jk;repeat' walk_at "Q"
noncomputable def gY:GS:=(ar (dL (aM (g2 (jL false) (ae 1) (gC .non))) (aA (ae 0)) aD) (aA (g2 bb (g2 bb (lF (ae 0) bh (cH (gC (.int 1)))) (aj 1 gj (aa (ae 1) ag))) (lF (ae 0) (cH (gC (.int 3))) bh))))
noncomputable def jH:FD:=aX 0 gY
theorem rl (T:TX P w K mg base):Ok P w K mg base "mover_on" 2 2 jH:=bR (bQ T.f 35 rfl) ["mover","pair"] aI rfl fun f _ A _ s H E nd hr=>by have:=kH T;delta gY;repeat' walk_at "Q"
noncomputable def jN:GE:=(aj 2 lI (aa (ae 0) (aa (ae 2) ag)))
noncomputable def iC:GE:=(aj 2 jH (aa (ae 0) (aa (ae 1) ag)))
noncomputable def jy:GS:=(ar (cg (bN [2,3,4]) (ae 0)) (ar (cg (bN [5,6,7,8,9]) (ae 3)) (ar (aG 10 (aB bV (aa (bB (eE (ae 4)) bK jN aR) ag))) (ar (aG 11 (aB bV (aa (cA (oX (aa (ae 8) (aa (ae 10) ag))) 2 (bN [0,1]) bK iC aR) ag))) (aA (aF (aa (ae 2) (aa (aF (aa (ae 5) (aa (ae 6) (aa (ae 7) (aa (ae 11) (aa (ae 9) ag)))))) (aa (ae 10) ag)))))))))
noncomputable def gS:FD:=aX 10 jy
theorem tu (T:TX P w K mg base):Ok P w K mg base "film_at" 5 2 gS:=bR (bQ T.f 36 rfl) ["film","many","frame","stand","paths","floor","shift","book","movers","pots","gone","placed"] aI rfl fun f _ A _ s H E nd hr=>by have:=tq T;have:=rl T;have:=rn 173 19 ["mover","pair"] ["film","many","frame","stand","paths","floor","shift","book","movers","pots","gone","placed"];delta jy jN iC;repeat' walk_at "Q"
noncomputable def eL:GS:=(ar (cg (bN [1,2]) (bS "Past" "now" (bS "Reel" "past" (ae 0)))) (aA (ae 1)))
noncomputable def bI:FD:=aX 2 eL
theorem fT (T:TX P w K mg base):Om P w K mg base "Reel" "frames" 1 1 bI:=pJ (pk T.m 4 rfl) ["self","many","film"] aI rfl fun f _ A _ s H E nd hr=>by delta eL;repeat' walk_at "Q"
noncomputable def jj:GS:=(dL (aM (g2 rp (ae 1) (gC (.int 0)))) (cV (cG "Past" "change" 2 dA (bS "Reel" "past" (ae 0)) (aa (aF (aa (g2 bb (cG "Reel" "frames" 1 bI (ae 0) ag) (ae 1)) (aa (aj 2 gS (aa (cG "Reel" "film" 1 bZ (ae 0) ag) (aa (ae 1) ag))) ag))) ag))) aD)
noncomputable def lG:FD:=aX 0 jj
theorem rY (T:TX P w K mg base):Om P w K mg base "Reel" "go" 6 2 lG:=pJ (pk T.m 5 rfl) ["self","many"] aI rfl fun f _ A _ s H E nd hr=>by have:=ft T;have:=iV T;have:=tu T;have:=fT T;delta jj;repeat' walk_at "Q"
noncomputable def jf:GS:=(ar (cg (bN [3,4,5,6,7]) (ae 0)) (ar (dL (aM (g2 (aW false) (ae 1) (gC (.str "move")))) (aA (aF (aa (ae 3) (aa (g2 aL (ae 2) (gC (.int 0))) (aa (g2 aL (ae 2) (gC (.int 1))) (aa (ae 6) (aa (ae 7) ag))))))) aD) (ar (dL (aM (g2 (aW false) (ae 1) (gC (.str "shape")))) (aA (aF (aa (g2 aL (ae 2) (gC (.int 0))) (aa (ae 4) (aa (ae 5) (aa (ae 6) (aa (ae 7) ag))))))) aD) (ar (dL (aM (g2 (aW false) (ae 1) (gC (.str "rank")))) (aA (aF (aa (ae 3) (aa (ae 4) (aa (ae 5) (aa (g2 aL (ae 2) (gC (.int 0))) (aa (ae 7) ag))))))) aD) (aA (aF (aa (ae 3) (aa (ae 4) (aa (ae 5) (aa (ae 6) (aa (g2 aL (ae 2) (gC (.int 0))) ag)))))))))))
noncomputable def je:FD:=aX 5 jf
theorem lU (T:TX P w K mg base):Ok P w K mg base "mover_behind" 1 3 je:=bR (bQ T.f 37 rfl) ["mover","word","parts","shape","x","y","rank","turn"] aI rfl fun f _ A _ s H E nd hr=>by delta jf;repeat' walk_at "Q"
noncomputable def iF:GS:=(ar (cg (bN [3,4,5,6,7]) (ae 0)) (ar (dL (bY (cM (aj 3 aH (aa (g2 aL (ae 2) (gC (.int 0))) (aa (gC (.int 0)) (aa (g2 du (aB bp (aa (ae 6) ag)) (gC (.int 1))) ag)))))) (aA (gC (.bl false))) aD) (ar (dL (aM (g2 (aW false) (ae 1) (gC (.str "move")))) (aA (aj 1 aS (aa (lF (ae 2) (cH (gC (.int 1))) bh) ag))) aD) (ar (dL (aM (g2 (aW true) (aB bp (aa (ae 2) ag)) (gC (.int 2)))) (aA (gC (.bl false))) aD) (ar (dL (aM (g2 (aW false) (ae 1) (gC (.str "shape")))) (aA (aj 2 cQ (aa (ae 5) (aa (g2 aL (ae 2) (gC (.int 1))) ag)))) aD) (ar (dL (aM (g2 (aW false) (ae 1) (gC (.str "rank")))) (aA (aj 1 jn (aa (g2 aL (ae 2) (gC (.int 1))) ag))) aD) (aA (cR (g2 (aW false) (ae 1) (gC (.str "turn"))) (aj 1 jo (aa (g2 aL (ae 2) (gC (.int 1))) ag))))))))))
noncomputable def eY:FD:=aX 5 iF
theorem lu (T:TX P w K mg base):Ok P w K mg base "is_mover_deed" 4 3 eY:=bR (bQ T.f 38 rfl) ["stand","word","parts","floor","shift","book","movers","pots"] aI rfl fun f _ A _ s H E nd hr=>by have:=bF T;have:=fJ T;have:=cZ T;have:=nj T;have:=nD T;delta iF;repeat' walk_at "Q"
noncomputable def n5:GS:=(ar (dL (fZ (bY (cM (eB "tuple" (ae 1)))) (aM (g2 qI (aB bp (aa (ae 1) ag)) (gC (.int 3))))) (aA (gC (.bl false))) aD) (ar (tN 2 3 (aa (g2 aL (ae 1) (gC (.int 0))) (aa (lF (ae 1) (cH (gC (.int 1))) bh) ag))) (ar (dL (aM (g2 (aW false) (ae 2) (gC (.str "shift")))) (aA (aj 1 aS (aa (ae 3) ag))) aD) (ar (dL (aM (g2 (aW false) (ae 2) (gC (.str "pot")))) (aA (cR (g2 (aW false) (aB bp (aa (ae 3) ag)) (gC (.int 2))) (cR (aj 1 i3 (aa (g2 aL (ae 3) (gC (.int 0))) ag)) (aj 1 ja (aa (g2 aL (ae 3) (gC (.int 1))) ag))))) aD) (aA (aj 3 eY (aa (ae 0) (aa (ae 2) (aa (ae 3) ag)))))))))
noncomputable def eC:FD:=aX 2 n5
theorem tV (T:TX P w K mg base):Ok P w K mg base "is_deed" 5 2 eC:=bR (bQ T.f 39 rfl) ["stand","thing","word","parts"] aI rfl fun f _ A _ s H E nd hr=>by have:=oF T;have:=cZ T;have:=oE T;have:=lu T;delta n5;repeat' walk_at "Q"
noncomputable def i4:GS:=(aA (g2 bb (g2 bb (lF (ae 0) bh (cH (ae 1))) (aF (aa (ae 2) ag))) (lF (ae 0) (cH (g2 bb (ae 1) (gC (.int 1)))) bh)))
noncomputable def dF:FD:=aX 0 i4
theorem o0 (T:TX P w K mg base):Ok P w K mg base "with_part" 1 3 dF:=bR (bQ T.f 40 rfl) ["things","at","part"] aI rfl fun f _ A _ s H E nd hr=>by delta i4;repeat' walk_at "Q"
noncomputable def cq:GS:=(ar (dL (bY (cM (aj 2 eC (aa (ae 0) (aa (ae 1) ag))))) (eX "NoDeed" (gC (.str "that is no deed of the stand"))) aD) (ar (cg (bN [2,3,4,5,6]) (ae 0)) (ar (aG 7 (g2 aL (ae 1) (gC (.int 0)))) (ar (dL (aM (g2 (aW false) (ae 7) (gC (.str "shift")))) (aA (aF (aa (ae 2) (aa (lF (ae 1) (cH (gC (.int 1))) bh) (aa (ae 4) (aa (ae 5) (aa (ae 6) ag))))))) aD) (ar (dL (aM (g2 (aW false) (ae 7) (gC (.str "pot")))) (aA (aF (aa (ae 2) (aa (ae 3) (aa (ae 4) (aa (ae 5) (aa (aj 3 dF (aa (ae 6) (aa (g2 aL (ae 1) (gC (.int 1))) (aa (g2 aL (ae 1) (gC (.int 2))) ag)))) ag))))))) aD) (ar (aG 8 (g2 aL (ae 1) (gC (.int 1)))) (ar (aG 9 (aj 3 je (aa (g2 aL (ae 5) (ae 8)) (aa (ae 7) (aa (lF (ae 1) (cH (gC (.int 2))) bh) ag))))) (aA (aF (aa (ae 2) (aa (ae 3) (aa (ae 4) (aa (aj 3 dF (aa (ae 5) (aa (ae 8) (aa (ae 9) ag)))) (aa (ae 6) ag))))))))))))))
noncomputable def cm:FD:=aX 8 cq
theorem l0 (T:TX P w K mg base):Ok P w K mg base "stand_behind" 6 2 cm:=bR (bQ T.f 41 rfl) ["stand","deed","floor","shift","book","movers","pots","word","number","mover"] aI rfl fun f _ A _ s H E nd hr=>by have:=lU T;have:=tV T;have:=o0 T;delta cq;repeat' walk_at "Q"
noncomputable def gk:GS:=(ar (cg (bN [2,3,4]) (cG "Reel" "film" 1 bZ (ae 0) ag)) (ar (aG 5 (aj 2 cm (aa (ae 3) (aa (ae 1) ag)))) (ar (dL (eA (aM (g2 (aW false) (g2 aL (ae 1) (gC (.int 0))) (gC (.str "move")))) (aM (g2 (jL true) (g2 aL (ae 4) (g2 aL (ae 1) (gC (.int 1)))) (gC .non)))) (eX "NoDeed" (gC (.str "that mover goes by its paths"))) aD) (cV (cG "Past" "change" 2 dA (bS "Reel" "past" (ae 0)) (aa (aF (aa (cG "Reel" "frames" 1 bI (ae 0) ag) (aa (aF (aa (ae 2) (aa (ae 5) (aa (ae 4) ag)))) ag))) ag))))))
noncomputable def gp:FD:=aX 4 gk
theorem pW (T:TX P w K mg base):Om P w K mg base "Reel" "deed" 7 2 gp:=pJ (pk T.m 6 rfl) ["self","deed","frame","stand","paths","behind"] aI rfl fun f _ A _ s H E nd hr=>by have:=ft T;have:=iV T;have:=fT T;have:=l0 T;delta gk;repeat' walk_at "Q"
noncomputable def iW:GS:=(ar (aG 2 (cG "Reel" "film" 1 bZ (ae 1) ag)) (ar (dL (aM (g2 (aW false) (aj 2 ah (aa (ae 0) (aa (gC (.int 2)) ag))) (gC (.int 0)))) (cV (cG "Reel" "go" 2 lG (ae 1) (aa (g2 bb (gC (.int 1)) (g2 aL (dk (aa (aj 2 ah (aa (ae 0) (aa (gC (.int 9)) ag))) (aa (aj 2 ah (aa (ae 0) (aa (g2 j9 (gC (.int 10)) (gC (.int 57))) ag))) ag))) (aj 2 ah (aa (ae 0) (aa (gC (.int 2)) ag))))) ag))) (ar (aG 3 (dk (aa (aF (aa (gC (.str "pot")) (aa (aj 2 ah (aa (ae 0) (aa (gC (.int 16)) ag))) (aa (aj 2 ah (aa (ae 0) (aa (gC (.int 64)) ag))) ag)))) (aa (aF (aa (gC (.str "shift")) (aa (aj 2 ah (aa (ae 0) (aa (gC (.int 99)) ag))) (aa (gC (.int 0)) ag)))) ag)))) (cV (cG "Reel" "deed" 2 gp (ae 1) (aa (g2 aL (ae 3) (aj 2 ah (aa (ae 0) (aa (gC (.int 2)) ag)))) ag))))) (aA (ae 2))))
noncomputable def ej:FD:=aX 2 iW
theorem lY (T:TX P w K mg base):Ok P w K mg base "_law_gone_on" 8 2 ej:=bR (bQ T.f 42 rfl) ["tape","reel","film","some"] aI rfl fun f _ A _ s H E nd hr=>by have:=bf T;have:=ft T;have:=rY T;have:=pW T;delta iW;repeat' walk_at "Q"
noncomputable def gf:GS:=(aA (aF (aa (cG "Reel" "film" 1 bZ (ae 0) ag) (aa (cG "Reel" "frames" 1 bI (ae 0) ag) ag))))
noncomputable def bG:FD:=aX 0 gf
theorem oT (T:TX P w K mg base):Ok P w K mg base "_law_told" 2 1 bG:=bR (bQ T.f 43 rfl) ["reel"] aI rfl fun f _ A _ s H E nd hr=>by have:=ft T;have:=fT T;delta gf;repeat' walk_at "Q"
noncomputable def dH:GS:=(ar (dL (bY (cM (bS "Past" "earlier" (ae 0)))) (eX "Over" (gC (.str "nothing is left to take back"))) aD) (ar (fh "Past" "now" (ae 0) (g2 aL (bS "Past" "earlier" (ae 0)) (eW (gC (.int 1))))) (fh "Past" "earlier" (ae 0) (lF (bS "Past" "earlier" (ae 0)) bh (cH (eW (gC (.int 1))))))))
noncomputable def eU:FD:=aX 0 dH
theorem pj (T:TX P w K mg base):Om P w K mg base "Past" "back" 1 1 eU:=pJ (pk T.m 7 rfl) ["self"] aI rfl fun f _ A _ s H E nd hr=>by delta dH;repeat' walk_at "Q"
noncomputable def dM:GS:=(cV (cG "Past" "back" 1 eU (bS "Reel" "past" (ae 0)) ag))
noncomputable def cW:FD:=aX 0 dM
theorem kJ (T:TX P w K mg base):Om P w K mg base "Reel" "back" 2 1 cW:=pJ (pk T.m 8 rfl) ["self"] aI rfl fun f _ A _ s H E nd hr=>by have:=pj T;delta dM;repeat' walk_at "Q"
noncomputable def dJ:GS:=(ar (aG 1 (fB (aa (fR (p0 [("NoDeed",false),("NoFilm",false),("Over",false)]) (ae 0)) (aa (fR (p0 [("NoDeed",false),("NoFilm",false),("Over",false)]) (ae 0)) (aa (fR (p0 [("NoDeed",false),("NoFilm",false),("Over",false)]) (ae 0)) ag))))) (ar (aG 1 (g2 o5 (ae 1) (dk (aa (fR (p0 [("NoDeed",true),("NoFilm",false),("Over",false)]) (ae 0)) (aa (fR (p0 [("NoDeed",false),("NoFilm",false),("Over",true)]) (ae 0)) (aa (fR (p0 [("NoDeed",false),("NoFilm",false),("Over",false)]) (ae 0)) ag)))))) (ar (aG 1 (g2 o5 (ae 1) (dk (aa (fR (p0 [("NoDeed",false),("NoFilm",false),("Over",false)]) (ae 0)) (aa (fR (p0 [("NoDeed",false),("NoFilm",false),("Over",false)]) (ae 0)) (aa (fR (p0 [("NoDeed",false),("NoFilm",true),("Over",false)]) (ae 0)) ag)))))) (ar (cV (j8 (ae 1) (fR (p0 [("NoDeed",false),("NoFilm",false),("Over",false)]) (ae 0)))) (ar (dL (fZ (bY (cM (fR (p0 [("NoDeed",true),("NoFilm",true),("Over",true)]) (ae 0)))) (aM (g2 (aW true) (gq i6 (ae 1) (gC (.bl true))) (gC (.int 1))))) (aA (aF (aa (gC (.str "another")) ag))) aD) (ar (aG 2 (dk (aa (gC (.str "frame")) (aa (gC (.str "stand")) (aa (gC (.str "tick")) (aa (gC (.str "deed")) (aa (gC (.str "over")) (aa (gC (.str "score")) (aa (gC (.str "clash")) (aa (gC (.str "text")) (aa (gC (.str "film")) (aa (gC (.str "row")) ag)))))))))))) (aA (aF (aa (g2 aL (ae 2) (gq iY (ae 1) (gC (.bl true)))) ag)))))))))
noncomputable def iS:FD:=fun ds M=>lV M.length (aX 2 dJ ds M)
theorem pU (T:TX P w K mg base):Ok P w K mg base "_law_word" 1 1 iS:=rV (F:=aX 2 dJ) <| bR (bQ T.f 44 rfl) ["error","kinds","words"] aI rfl fun f _ A _ s H E nd hr=>by delta dJ;repeat' walk_at "Q"
noncomputable def cY:GS:=(ar (aG 1 (gC .non)) (ar (mL 2 (List.contains ["NoDeed","NoFilm","Over"]) (cV (cG "Reel" "back" 1 cW (ae 0) ag)) (aG 1 (ae 2))) (aA (cR (g2 (jL true) (ae 1) (gC .non)) (g2 (aW false) (aj 1 iS (aa (ae 1) ag)) (aF (aa (gC (.str "over")) ag)))))))
noncomputable def cp:FD:=aX 2 cY
theorem kq (T:TX P w K mg base):Ok P w K mg base "_law_back_over" 3 1 cp:=bR (bQ T.f 45 rfl) ["reel","error","e"] aI rfl fun f _ A _ s H E nd hr=>by have:=kJ T;have:=pU T;delta cY;repeat' walk_at "Q"
noncomputable def iZ:GE:=(gD "Reel" 2 fc (aa (ae 0) ag))
noncomputable def pM:GS:=(ar (aG 6 (aj 2 ah (aa (ae 1) (aa (gC (.int 2)) ag)))) (ar (cV (j8 (g2 aL (ae 4) (ae 6)) (aj 1 bG (aa (g2 aL (ae 3) (ae 6)) ag)))) (cV (aj 2 ej (aa (ae 1) (aa (g2 aL (ae 3) (ae 6)) ag))))))
noncomputable def pZ:GS:=(ar (cV (cG "Reel" "back" 1 cW (g2 aL (ae 3) (ae 6)) ag)) (dL (fZ (aM (g2 (aW true) (aj 1 bG (aa (g2 aL (ae 3) (ae 6)) ag)) (ae 8))) (aM (g2 (aW true) (aj 1 bG (aa (g2 aL (ae 3) (g2 du (gC (.int 1)) (ae 6))) ag)) (ae 7)))) (aA (gC (.bl false))) aD))
noncomputable def oQ:GS:=(ar (aG 7 (aj 1 bG (aa (g2 aL (ae 3) (g2 du (gC (.int 1)) (ae 6))) ag))) (ar (m9 (eE (ox (lF (g2 aL (ae 4) (ae 6)) (cH (eW (gC (.int 100)))) bh))) (gK 8) pZ) (dL (fZ (bY (cM (aj 1 cp (aa (g2 aL (ae 3) (ae 6)) ag)))) (bY (cM (aj 1 cp (aa (g2 aL (ae 3) (ae 6)) ag))))) (aA (gC (.bl false))) aD)))
noncomputable def uo:GS:=(ar (aG 1 (fB (aa (aB lT (aa (ae 0) ag)) (aa (gC (.int 0)) (aa (gC (.int 0)) ag))))) (ar (aG 2 (fB (aa (aj 2 dG (aa (ae 1) (aa (gC (.int 8)) ag))) (aa (aj 2 dG (aa (ae 1) (aa (gC (.int 8)) ag))) ag)))) (ar (dL (aM (g2 (aW false) (aj 2 ah (aa (ae 1) (aa (gC (.int 2)) ag))) (gC (.int 0)))) (iK (ae 2) (gC (.int 1)) (g2 aL (ae 2) (gC (.int 0)))) aD) (ar (aG 3 (bB (eE (ae 2)) bK iZ aR)) (ar (aG 4 (dk (aa (fB ag) (aa (fB ag) ag)))) (ar (m9 (fe (aa (g2 aL (dk (aa (aj 2 ah (aa (ae 1) (aa (gC (.int 12)) ag))) (aa (aj 2 ah (aa (ae 1) (aa (gC (.int 300)) ag))) ag))) (aj 2 ah (aa (ae 1) (aa (gC (.int 2)) ag)))) ag)) (gK 5) pM) (ar (m9 (fe (aa (gC (.int 2)) ag)) (gK 6) oQ) (aA (gC (.bl true))))))))))
noncomputable def uJ:FD:=aX 8 uo
theorem Di (T:TX P w K mg base){f:Addr}{fd:FuncData}(F:Fn K mg "law" BY f fd ["script"]):dE P w K mg base (jx P w) 12 f fd ["script"] (mw K 1 uJ):=Dw F.F (N:=["script","tape","films","reels","rows","turn","at","other","told"]) aI rfl fun _ A _ s H E hr=>by
 have nd:(["script","tape","films","reels","rows","turn","at","other","told"]:List Str).Nodup:=by decide +kernel
 have:=bf T;have:=oO T;have:=lA T;have:=lY T;have:=oT T;have:=kJ T;have:=kq T;delta uo iZ pM pZ oQ;repeat' walk_at "Q"
end
end K34
section
open PySem PySem.W PyProof.Rows
noncomputable abbrev K34.VV:Program:=(view PySem.Challenge.pw_glowrow_k34_whole_reels_taken_back [0,2,3,4,5,6,7,8,9,10,11,12,14,15,17,19,20,21,22,23,25,26,27,28,29,30,31,32,33,34,35,36,37,38,40,41,42,43,44,45,46,47,48,49,51,52,53,55,56,57,58,59,60,61,62,63,64,65,66,67,68,69])
set_option maxHeartbeats 0 in
theorem K34.h1:∀(w:World) (os:OsState),(Hd.RT (OpenLaw.row PySem.Challenge.rw_glowrow_k34_whole_reels_taken_back).prog w 9226 os).map (fun s=>Hd.pA (OpenLaw.row PySem.Challenge.rw_glowrow_k34_whole_reels_taken_back).prog w.params s.abs&&Hd.pB K34.VV (importedModules (OpenLaw.row PySem.Challenge.rw_glowrow_k34_whole_reels_taken_back).prog.main.body) (fun s=>xlAt K34.VV [] s&&recOk (RowW.records (OpenRow.toRowW (OpenLaw.row PySem.Challenge.rw_glowrow_k34_whole_reels_taken_back))) s) s.abs)=some true:=by
 intro w os;unfold Hd.RT;rw[W.Fast.te15732481512506401174,W.Fast.te2530740449226627131,W.Fast.te13930993214811372802];kernel_rfl
set_option maxHeartbeats 0 in
theorem K34.h2:∀(w:World) (os:OsState),(Hd.RT (OpenLaw.row PySem.Challenge.rw_glowrow_k34_whole_reels_taken_back).prog w 9226 os).map (fun s=>Hd.pC K34.VV s.abs)=some (expectedOf K34.VV,bltViewBooted,wideGood K34.VV):=by
 intro w os;unfold Hd.RT;rw[W.Fast.te15732481512506401174,W.Fast.te2530740449226627131,W.Fast.te7338995916957470747];kernel_rfl
set_option maxHeartbeats 0 in
theorem K34.h3:∀(w:World) (os:OsState),(Hd.RT (OpenLaw.row PySem.Challenge.rw_glowrow_k34_whole_reels_taken_back).prog w 9226 os).map (fun s=>Hd.pD K34.VV s.abs)=some (pinGoodD (drecsOf K34.VV),plainGoodE K34.VV (looseW K34.VV []),plainGoodD K34.VV [],clsGoodW K34.VV []):=by
 intro w os;unfold Hd.RT;rw[W.Fast.te15732481512506401174,W.Fast.te2530740449226627131,W.Fast.te4913325751328045840];kernel_rfl
local macro_rules | `(tactic| o_head $H) => `(tactic| (
 refine holds_open (q:=K34.VV) (loose:=[]) (Xt:=(fun s=>xlAt K34.VV [] s&&recOk (RowW.records (OpenRow.toRowW (OpenLaw.row PySem.Challenge.rw_glowrow_k34_whole_reels_taken_back))) s)) (XP:=XL K34.VV []) (Yf:=Hook.obs $H) (Ya:=Hook.val $H) (YP:=Hook.says $H) (N:=9226) ?hl (Hook.of $H) (Hook.keeps $H) (fun s e=>xl_of s (Bool.and_eq_true_iff.mp e).1) XL.keeps (by rfl) (by rfl) (by rfl) (fun s e=>recFacts_of (Bool.and_eq_true_iff.mp e).2) (by rfl) (by first|assumption|decide +kernel) (by decide +kernel) ⟨rfl,rfl,rfl,rfl,rfl,by decide +kernel⟩ ?hw ?hc;
 (case hl=>
  refine Hd.left_k (boot_open (by kernel_rfl) rfl (fun s=>by kernel_rfl)) (fun w=>by kernel_rfl) K34.h1 K34.h2 K34.h3 ?_;intro w os;unfold Hd.RT;rw[W.Fast.te15732481512506401174,W.Fast.te2530740449226627131];kernel_rfl)))
set_option hygiene false
local macro_rules | `(tactic| walk_at "us") => `(tactic| first | rfl | (exfalso; simp at hl; done) | (cases us with | nil => (first | rfl | cases hl) | cons _ us => walk_at "us"))
local macro_rules | `(tactic| walk_at "kc") => `(tactic| refine' DL.Hh KX G ?y0 ?y1 ?y2 ?y3 ?y4 ?y5 ?y6; (case y0 => k_is); (case y1 => k_is); (case y2 => k_is); (case y3 => k_is); (case y4 => k_is); (case y5 => k_is); (case y6 => k_is))
local macro_rules | `(tactic| walk_at "ec") => `(tactic| refine' DL.FN KX G ?w0 ?w1 ?w2 ?w3 ?w4 ?w5 ?w6 ?w7 ?w8 ?w9 ?w10 ?w11; (case w0 => k_is); (case w1 => k_is); (case w2 => k_is); (case w3 => k_is); (case w4 => k_is); (case w5 => k_is); (case w6 => k_is); (case w7 => k_is); (case w8 => k_is); (case w9 => k_exc); (case w10 => k_is); (case w11 => k_is))
local macro_rules | `(tactic| walk_at "ff") => `(tactic| (refine' DL.Gk KX G ?x0 ?x1 ?x2 ?x3 ?x4; (case x0 => k_is); (case x1 => k_is); (case x2 => k_is); (case x3 => k_is); (case x4 => (intro _ _ _ _ _ _ us hl; walk_at "us"))))
local macro_rules | `(tactic| walk_at "mf") => `(tactic| (refine' DL.HE ?x0 ?x1 ?x2 ?x3 ?x4 ?x5 ?x6; (case x0 => walk_at "kc"); (case x1 => k_is); (case x2 => k_is); (case x3 => k_is); (case x4 => k_is); (case x5 => k_is); (case x6 => (intro _ _ _ _ _ _ us hl; walk_at "us"))))
local macro_rules | `(tactic| walk_at "im") => `(tactic| (refine' DL.Gx ?v0 ?v1; (case v0 => walk_at "ec"); (case v1 => k_is)))
set_option maxRecDepth 100000 in
set_option maxHeartbeats 0 in
theorem K34.pre (ht:∀ns:List Int,ns.length≤63→∃M',K34.uJ [.ro (ns.map DL.D.int)] []=.ok (.bl true) M'):PySem.Challenge.rw_glowrow_k34_whole_reels_taken_back.Holds:=by
 w_on;o_law;k_head;(case hw=>w_witness2)
 k_fill
 refine DL.CM (l:=PySem.Challenge.rw_glowrow_k34_whole_reels_taken_back) (n:=63) (k:=12) (x:="script") (F:=K34.uJ) rfl (by decide) rfl ⟨rfl,by decide,by decide⟩ (fun w h Y=>W.kIn_of Y) ?F ?t1 ?t2 ?t3 ?t4 ht
 case F=>
  intro w mg fa h KX G hmg;refine DL.Ee (st:=K34.BY) hmg ?L (fun base f fd L=>K34.Di ?TT L) (fun _ _ _ _ _ _ _=>rfl)
  (case TT=>
   refine DL.Tx.mk ?q0 ?q1 ?q2 ?q3 ?q4 ?q5 ?q6 ?q7 ?q8 ?q9
   (case q0=>((repeat (refine' DL.Ls.cons ?x ?_;(case x=>(walk_at "ff"))));exact DL.Ls.nil))
   (case q1=>((repeat (refine' DL.Ls.cons ?x ?_;(case x=>(walk_at "mf"))));exact DL.Ls.nil))
   (case q2=>((repeat (refine' DL.Ls.cons ?x ?_;(case x=>(walk_at "lf"))));exact DL.Ls.nil))
   (case q3=>((repeat (refine' DL.Ls.cons ?x ?_;(case x=>(refine' DL.Jq KX G ?x0;(case x0=>k_is)))));exact DL.Ls.nil))
   (case q4=>((repeat (refine' DL.Ls.cons ?x ?_;(case x=>(refine' DL.G5 ?x0;(case x0=>walk_at "ec")))));exact DL.Ls.nil))
   (case q5=>((repeat (refine' DL.Ls.cons ?x ?_;(case x=>(refine' DL.Fz ?u0 ?u1;(case u0=>walk_at "ec");(case u1=>((repeat (refine' DL.Ls.cons ?u2 ?_;(case u2=>walk_at "im")));exact DL.Ls.nil))))));exact DL.Ls.nil))
   (case q6=>((repeat (refine' DL.Ls.cons ?x ?_;(case x=>(walk_at "im"))));exact DL.Ls.nil))
   (case q7=>((repeat (refine' DL.Ls.cons ?x ?_;(case x=>(refine' DL.Hg ?x0 ?x1;(case x0=>walk_at "kc");(case x1=>k_is)))));exact DL.Ls.nil))
   (case q8=>((repeat (refine' DL.Ls.cons ?x ?_;(case x=>(refine' DL.GD (u:=PySem.Value.str _) KX G ?x0;(case x0=>k_is)))));exact DL.Ls.nil))
   (case q9=>((repeat (refine' DL.Ls.cons ?x ?_;(case x=>(refine' DL.GD (u:=PySem.Value.int _) KX G ?x0;(case x0=>k_is)))));exact DL.Ls.nil)))
  (case L=>walk_at "ff")
 case t1=>(intro w;k_is)
 case t2=>(intro w;k_is)
 case t3=>(intro w;k_is)
 case t4=>(intro w;k_is)
end
namespace K34
open PySem PySem.Spec PyProof.Rows L2 DL List
local macro_rules | `(tactic| simp_arith [$args,*] $[$loc]?) => `(tactic| first | (dsimp only [aU.bind, ar, aG, dL, aA, iK, cV, aD, cg, ae, gC, DL.g2, aj, aB, aa, ag, aM, Hy, cM, A8, fZ, eA, bY, cR, Cj, rg, aF, dk, fB, mI, aR, dI, eW, oh, eB, Fs, qV, ax, aX, nS, wx, bb, du, fv, dt, fI, j9, qI, k8, rp, Ak, aL, cb, bp, oW, qh, rW, lT, bV, hX, eE, rA, fe, gK, bN, kU, cH, bh, lF, jY, fQ, jL, Ft, bK, eX, fR, p0, gq, i6, iY, iH, qx, j8, o5, mL, wg, zO, rB, iI, bS, sC, fh, cG, gD, eo, ue, tN] $[$loc]?; simp [ar, aG, dL, aA, iK, cV, aD, cg, ae, gC, DL.g2, aj, aB, aa, ag, aM, Hy, cM, A8, fZ, eA, bY, cR, Cj, rg, aF, dk, fB, mI, aR, dI, eW, oh, eB, Fs, qV, ax, aX, nS, wx, bb, du, fv, dt, fI, j9, qI, k8, rp, Ak, aL, cb, bp, oW, qh, rW, lT, bV, hX, eE, rA, fe, gK, bN, kU, cH, bh, lF, jY, fQ, jL, Ft, bK, eX, fR, p0, gq, i6, iY, iH, qx, j8, o5, mL, wg, zO, rB, iI, bS, sC, fh, cG, gD, eo, ue, tN, $args,*] $[$loc]?) | simp [ar, aG, dL, aA, iK, cV, aD, cg, ae, gC, DL.g2, aj, aB, aa, ag, aM, Hy, cM, A8, fZ, eA, bY, cR, Cj, rg, aF, dk, fB, mI, aR, dI, eW, oh, eB, Fs, qV, ax, aX, nS, wx, bb, du, fv, dt, fI, j9, qI, k8, rp, Ak, aL, cb, bp, oW, qh, rW, lT, bV, hX, eE, rA, fe, gK, bN, kU, cH, bh, lF, jY, fQ, jL, Ft, bK, eX, fR, p0, gq, i6, iY, iH, qx, j8, o5, mL, wg, zO, rB, iI, bS, sC, fh, cG, gD, eo, ue, tN, $args,*] $[$loc]?)
noncomputable def tp (l:List Int)(i c:Int):MO:=.lst [.lst (l.map D.int),.int i,.int c]
noncomputable def aP (l:List Int)(rest:aq)(M:aq):Prop:=∃i c,0≤i∧M=tp l i c::rest
theorem xf {l:List Int}{k:Int}(h0:0≤k)(h1:k<l.length):∃v,oZ (l.map D.int) k=some (.int v):=by
 obtain⟨n,rfl⟩:=Int.eq_ofNat_of_zero_le h0;have hn:n<l.length:=by omega
 exact⟨l[n],pK (by simp[hn])⟩
noncomputable def IH:GS:=ar (aG 4 (g2 fI (g2 aL (ae 0) (gC (.int 2))) (ae 1))) (ar (iK (ae 0) (gC (.int 2)) (g2 dt (g2 aL (ae 0) (gC (.int 2))) (ae 1))) (aA (ae 4)))
noncomputable def Ik:GS:=ar (aG 3 (g2 fI (g2 bb (ae 3) (g2 fv (gC (.int 1000003)) (g2 aL (ae 0) (gC (.int 1))))) (ae 2))) (ar (aG 3 (g2 fI (g2 bb (g2 bb (g2 fv (ae 3) (ae 3)) (g2 fv (gC (.int 1181783497276652981)) (ae 3))) (gC (.int 2049848353892358983))) (ae 2))) (aG 3 (g2 fI (g2 bb (g2 fv (ae 3) (ae 3)) (gC (.int 1442695040888963407))) (ae 2))))
noncomputable def IC:GS:=dL (aM (g2 rp (aB bp (aa (g2 aL (ae 0) (gC (.int 0))) ag)) (gC (.int 0)))) (aG 3 (g2 aL (g2 aL (ae 0) (gC (.int 0))) (g2 fI (g2 aL (ae 0) (gC (.int 1))) (aB bp (aa (g2 aL (ae 0) (gC (.int 0))) ag))))) aD
noncomputable def JG:GT:=fZ (aM (g2 Ak (g2 aL (ae 0) (gC (.int 1))) (aB bp (aa (g2 aL (ae 0) (gC (.int 0))) ag)))) (aM (g2 qI (ae 3) (g2 j9 (gC (.int 10)) (gC (.int 18)))))
noncomputable def IG:GS:=ar (aG 3 (gC (.int 0))) (ar IC (ar (dL JG Ik aD) (ar (iK (ae 0) (gC (.int 1)) (g2 bb (g2 aL (ae 0) (gC (.int 1))) (gC (.int 1)))) (iK (ae 0) (gC (.int 2)) (ae 3)))))
theorem Hs (ρ:bC)(M:aq):f9 ρ M=ar (aG 2 (gC (.int 2305843009213693951))) (ar (dL (aM (g2 qI (g2 aL (ae 0) (gC (.int 2))) (ae 1))) IG aD) IH) ρ M:=rfl
theorem mh {i j:Int}(h:0<j)(M:aq):fI (.int i) (.int j) M=.ok (.int (i % j)) M:=by
 unfold fI;dsimp only;rw[if_pos h]
theorem l6 {i j:Int}(h:-18446744073709551616<i∧i<18446744073709551616)(M:aq):fv (.int i) (.int j) M=.ok (.int (i*j)) M:=by
 unfold fv;dsimp only;rw[if_pos (.inl ⟨Int.lt_of_le_of_lt (by decide) h.1,Int.lt_of_lt_of_le h.2 (by decide)⟩)]
theorem pR {go gi g:GE}{ρ:bC}{M M1:aq}{x:D}(h:g ρ M=.ok x M)(h2:(go ρ M).bind (fun o M2=>(gi ρ M2).bind fun i M3=>(wx o i x M3).bind fun _ M4=>.ok (Fl.nx ρ) M4)=.ok (Fl.nx ρ) M1):iK go gi g ρ M=.ok (.nx ρ) M1:=by
 unfold iK;rw[h,ai,h2]
theorem bg {l:List Int}{rest M:aq}{many:Int}(hm:0<many)(hlog:many.natAbs.log2<9000)(h:aP l rest M) :
  ∃f M',0≤f∧f<many∧aP l rest M'∧ah [.mr 0,.int many] M=.ok (.int f) M':=by
 obtain⟨i,c,hi,rfl⟩:=h;have i0:∀(i c:Int) (x1 x2 x3 x4:Option D),g2 aL (ae 0) (gC (.int 0)) [some (.mr 0),x1,x2,x3,x4] (tp l i c::rest)=.ok (.lst (l.map D.int)) (tp l i c::rest):=fun _ _ _ _ _ _=>rfl
 have i1:∀(i c:Int) (x1 x2 x3 x4:Option D),g2 aL (ae 0) (gC (.int 1)) [some (.mr 0),x1,x2,x3,x4] (tp l i c::rest)=.ok (.int i) (tp l i c::rest):=fun _ _ _ _ _ _=>rfl
 have i2:∀(i c:Int) (x1 x2 x3 x4:Option D),g2 aL (ae 0) (gC (.int 2)) [some (.mr 0),x1,x2,x3,x4] (tp l i c::rest)=.ok (.int c) (tp l i c::rest):=fun _ _ _ _ _ _=>rfl
 have ln:∀(i c:Int) (x1 x2 x3 x4:Option D),aB bp (aa (g2 aL (ae 0) (gC (.int 0))) ag) [some (.mr 0),x1,x2,x3,x4] (tp l i c::rest)=.ok (.int (l.length:Int)) (tp l i c::rest):=fun i c x1 x2 x3 x4=>by
  refine lX (i0 i c x1 x2 x3 x4) ?_;show aU.ok (D.int ((l.map D.int).length:Int)) _=_;rw[length_map]
 have tail:∀(c i:Int) (x2 x3 x4:Option D),0≤i→∃f M',0≤f∧f<many∧aP l rest M'∧ax (IH [some (.mr 0),some (.int many),x2,x3,x4] (tp l i c::rest))=.ok (.int f) M':=fun c i x2 x3 x4 hi=>by
  refine⟨c % many,tp l i (c / many)::rest,Int.emod_nonneg _ (by omega),Int.emod_lt_of_pos _ hm,⟨i,c / many,hi,rfl⟩,?_⟩;unfold IH;rw[am (aC (au (i2 i c (some (.int many)) x2 x3 x4) rfl (mh hm _)))];have fd:dt (.int c) (.int many) (tp l i c::rest)=.ok (.int (c / many)) (tp l i c::rest):=by
   unfold dt;dsimp only;rw[if_pos ⟨hm,hlog⟩]
  have k:iK (ae 0) (gC (.int 2)) (g2 dt (g2 aL (ae 0) (gC (.int 2))) (ae 1)) [some (.mr 0),some (.int many),x2,x3,some (.int (c % many))] (tp l i c::rest)=.ok (.nx [some (.mr 0),some (.int many),x2,x3,some (.int (c % many))]) (tp l i (c / many)::rest):=
   pR (au (i2 i c (some (.int many)) x2 x3 _) rfl fd) rfl
  exact(congrArg ax (am k)).trans rfl
 show∃f M',_∧_∧_∧ax (f9 [some (.mr 0),some (.int many),none,none,none] (tp l i c::rest))=_;rw[Hs];have e0:∀b:GS,ar (aG 2 (gC (.int 2305843009213693951))) b [some (.mr 0),some (.int many),none,none,none] (tp l i c::rest)=b [some (.mr 0),some (.int many),some (.int 2305843009213693951),none,none] (tp l i c::rest):=fun b=>am rfl
 rw[e0];have tst:aM (g2 qI (g2 aL (ae 0) (gC (.int 2))) (ae 1)) [some (.mr 0),some (.int many),some (.int 2305843009213693951),none,none] (tp l i c::rest)=.ok (decide (c<many)) (tp l i c::rest):=bq (au (i2 i c _ _ _ _) rfl rfl)
 by_cases h1:c<many
 ·rw[decide_eq_true h1] at tst;obtain⟨v,ev⟩:∃v:Int,IC [some (.mr 0),some (.int many),some (.int 2305843009213693951),some (.int 0),none] (tp l i c::rest)=.ok (.nx [some (.mr 0),some (.int many),some (.int 2305843009213693951),some (.int v),none]) (tp l i c::rest):=by
   unfold IC;have t0:aM (g2 rp (aB bp (aa (g2 aL (ae 0) (gC (.int 0))) ag)) (gC (.int 0))) [some (.mr 0),some (.int many),some (.int 2305843009213693951),some (.int 0),none] (tp l i c::rest)=.ok (decide ((l.length:Int)>0)) (tp l i c::rest):=bq (au (ln i c _ _ _ _) rfl rfl)
   by_cases hl:(l.length:Int)>0
   ·rw[decide_eq_true hl] at t0;obtain⟨v,hv⟩:=xf (l:=l) (Int.emod_nonneg _ (by omega)) (Int.emod_lt_of_pos _ hl);refine⟨v,(cu t0).trans (aC (au (f:=aL) (i0 i c _ _ _ _) (au (i1 i c _ _ _ _) (ln i c _ _ _ _) (mh hl _)) ?_))⟩;show(match oZ (l.map D.int) (i % (l.length:Int)) with|some d=>aU.ok d (tp l i c::rest)|none=>.bad)=_;rw[hv]
   ·rw[decide_eq_false hl] at t0;exact⟨0,(db t0).trans rfl⟩
  have bd:∀x:Int,-18446744073709551616<x % 2305843009213693951∧x % 2305843009213693951<18446744073709551616:=fun x=>by
   have h0:=Int.emod_nonneg x (show(2305843009213693951:Int)≠0 by decide);have h1:=Int.emod_lt_of_pos x (show(0:Int)<2305843009213693951 by decide);omega
  have md:∀x:Int,∀M,fI (.int x) (.int 2305843009213693951) M=.ok (.int (x % 2305843009213693951)) M:=fun x M=>mh (by decide) M
  obtain⟨u,eu⟩:∃u:Int,dL JG Ik aD [some (.mr 0),some (.int many),some (.int 2305843009213693951),some (.int v),none] (tp l i c::rest)=.ok (.nx [some (.mr 0),some (.int many),some (.int 2305843009213693951),some (.int u),none]) (tp l i c::rest):=by
   have po:∀ρ,g2 j9 (gC (.int 10)) (gC (.int 18)) ρ (tp l i c::rest)=.ok (.int (10 ^ 18)) (tp l i c::rest):=fun ρ=>by
    refine au rfl rfl ?_;unfold j9;dsimp only;rw[if_pos (by decide)];rfl
   have to:=dP (bq (au (f:=Ak) (i1 i c (some (.int many)) (some (.int 2305843009213693951)) (some (.int v)) none) (ln i c _ _ _ _) rfl)) fun _=>bq (au (f:=qI) (a:=ae 3) rfl (po _) rfl)
   generalize (decide (i≥(l.length:Int))||decide (v<10 ^ 18))=b at to;cases b with
   | false=>exact⟨v,(db to).trans rfl⟩
   | true=>
    suffices hs:∃u:Int,Ik [some (.mr 0),some (.int many),some (.int 2305843009213693951),some (.int v),none] (tp l i c::rest)=.ok (.nx [some (.mr 0),some (.int many),some (.int 2305843009213693951),some (.int u),none]) (tp l i c::rest) from hs.elim fun u e=>⟨u,(cu to).trans e⟩
    unfold Ik;rw[am (aC (au (au (f:=bb) (a:=ae 3) rfl (au (f:=fv) (a:=gC (.int 1000003)) rfl (i1 i c _ _ _ _) (l6 (by decide) _)) rfl) rfl (md _ _)))];generalize hz:(v+1000003*i) % 2305843009213693951=z;have bz:=hz▸bd (v+1000003*i);have k2:aG 3 (g2 fI (g2 bb (g2 bb (g2 fv (ae 3) (ae 3)) (g2 fv (gC (.int 1181783497276652981)) (ae 3))) (gC (.int 2049848353892358983))) (ae 2)) [some (.mr 0),some (.int many),some (.int 2305843009213693951),some (.int z),none] (tp l i c::rest)=.ok (.nx [some (.mr 0),some (.int many),some (.int 2305843009213693951),some (.int ((z*z+1181783497276652981*z+2049848353892358983) % 2305843009213693951)),none]) (tp l i c::rest):=
     aC (au (au (f:=bb) (au (f:=bb) (au (f:=fv) (a:=ae 3) rfl rfl (l6 bz _)) (au (f:=fv) (a:=gC (.int 1181783497276652981)) rfl rfl (l6 (by decide) _)) rfl) rfl rfl) rfl (md _ _))
    refine Exists.imp (fun u e=>(am k2).trans e) ?_;generalize hy:(z*z+1181783497276652981*z+2049848353892358983) % 2305843009213693951=y;have byy:=hy▸bd (z*z+1181783497276652981*z+2049848353892358983);exact⟨_,aC (au (au (f:=bb) (au (f:=fv) (a:=ae 3) rfl rfl (l6 byy _)) rfl rfl) rfl (md _ _))⟩
  have kb:IG [some (.mr 0),some (.int many),some (.int 2305843009213693951),none,none] (tp l i c::rest)=.ok (.nx [some (.mr 0),some (.int many),some (.int 2305843009213693951),some (.int u),none]) (tp l (i+1) u::rest):=by
   unfold IG;have e3:∀b:GS,ar (aG 3 (gC (.int 0))) b [some (.mr 0),some (.int many),some (.int 2305843009213693951),none,none] (tp l i c::rest)=b [some (.mr 0),some (.int many),some (.int 2305843009213693951),some (.int 0),none] (tp l i c::rest):=fun b=>am rfl
   rw[e3,am ev,am eu];have k1:iK (ae 0) (gC (.int 1)) (g2 bb (g2 aL (ae 0) (gC (.int 1))) (gC (.int 1))) [some (.mr 0),some (.int many),some (.int 2305843009213693951),some (.int u),none] (tp l i c::rest)=.ok (.nx [some (.mr 0),some (.int many),some (.int 2305843009213693951),some (.int u),none]) (tp l (i+1) c::rest):=
    pR (au (i1 i c _ _ _ _) rfl rfl) rfl
   rw[am k1];exact pR rfl rfl
  rw[am ((cu tst).trans kb)];exact tail u (i+1) _ _ _ (by omega)
 ·rw[decide_eq_false h1] at tst;rw[am ((db tst).trans rfl)];exact tail c i _ _ _ hi
theorem av {x:Int}(h0:0<x)(h1:x≤1000000):x.natAbs.log2<9000:=by
 have h2:x.natAbs<2 ^ 20:=by omega
 have h3:x.natAbs≠0:=by omega
 have:=(Nat.log2_lt h3).mpr h2;omega
theorem ma {l:List Int}{rest M:aq}{most:Int}(hm:1≤most)(hm2:most≤1000)(h:aP l rest M) :
  ∃f M',1≤f∧f≤most∧aP l rest M'∧cU [.mr 0,.int most] M=.ok (.int f) M':=by
 have lg:∀x:Int,0<x→x≤1000→x.natAbs.log2<9000:=fun x h0 h1=>by
  have h2:x.natAbs<2 ^ 10:=by omega
  have h3:x.natAbs≠0:=by omega
  have:=(Nat.log2_lt h3).mpr h2;omega
 have hmin:0<(if 6<most then 6 else most)∧(if 6<most then 6 else most)≤most∧(if 6<most then(6:Int) else most)≤1000:=by split <;> omega
 obtain⟨f1,M1,a1,b1,t1,e1⟩:=bg hmin.1 (lg _ hmin.1 hmin.2.2) h;obtain⟨f2,M2,a2,b2,t2,e2⟩:=bg (many:=most) (by omega) (lg _ (by omega) hm2) t1;obtain⟨f3,M3,a3,b3,t3,e3⟩:=bg (many:=8) (by decide) (lg _ (by decide) (by decide)) t2;have l3:(3:Nat)≤sizeLine:=bn (by decide);have hix:0≤f3*3 / 10∧f3*3 / 10<3:=by omega
 have c3:Nat.log2 10<9000:=by decide
 have c4:-18446744073709551616<f3∧f3<18446744073709551616:=by omega
 have pick:∃f,1≤f∧f≤most∧∃y,f=1+y∧oZ [D.int f1,D.int f2,D.int (most-1)] (f3*3 / 10)=some (.int y):=by
  have:f3*3 / 10=0∨f3*3 / 10=1∨f3*3 / 10=2:=by omega
  rcases this with q|q|q <;> rw[q]
  ·exact⟨1+f1,by omega,by omega,f1,rfl,rfl⟩
  ·exact⟨1+f2,by omega,by omega,f2,rfl,rfl⟩
  ·exact⟨1+(most-1),by omega,by omega,most-1,rfl,rfl⟩
 obtain⟨f,hf1,hf2,y,ey,ha⟩:=pick;refine⟨f,M3,hf1,hf2,t3,?_⟩;unfold cU jd;simp_arith [e1,e2,e3,l3,c3,c4,ha,ey]
theorem Ah {l:List Int}{rest M:aq}{wide thin:Int}(hw:0≤wide)(hw2:wide≤1000)(ht:1≤thin)(ht2:thin≤1000)(h:aP l rest M) :
  ∃(ks:List Int) (M':aq),(ks.length:Int)=wide∧(∀k∈ks,0≤k∧k≤15)∧aP l rest M'∧gG [.mr 0,.int wide,.int thin] M=.ok (.tup (ks.map D.int)) M':=by
 obtain⟨es,M',t',le,qe,ee⟩:=gP (ds0:=bi 0 wide.toNat) (ge:=dW) (ρ:=[some (.mr 0),some (.int wide),some (.int thin)])
  (P:=aP l rest) (Q:=fun e=>∃k,e=.int k∧0≤k∧k≤15) (bi 0 wide.toNat) (fun d hd M hM=>by
   obtain⟨f1,M1,a1,b1,t1,e1⟩:=bg (many:=16) (by decide) (av (by decide) (by decide)) hM;obtain⟨f2,M2,a2,b2,t2,e2⟩:=bg (many:=thin) (by omega) (av (by omega) (by omega)) t1;have c4:-18446744073709551616<f1∧f1<18446744073709551616:=by omega
   by_cases hz:0<f2
   ·exact⟨.int (f1*1),M2,t2,⟨_,rfl,by omega,by omega⟩,by simp_arith [dW,e1,e2,c4,hz]⟩
   ·exact⟨.int (f1*0),M2,t2,⟨_,rfl,by omega,by omega⟩,by simp_arith [dW,e1,e2,c4,hz]⟩) M h
 obtain⟨ks,ek,qk⟩:=z8 qe;refine⟨ks,M',?_,qk,t',?_⟩
 ·have:ks.length=es.length:=by rw[ek];simp
  rw[bJ] at le;omega
 ·have l3:es.length≤sizeLine:=by rw[le,bJ];exact bn (by omega)
  have l4:ks.length≤sizeLine:=by rw[ek] at l3;simpa using l3
  have b1:=fun M=>pP (j:=wide) (by omega) M
  unfold gG iR;simp_arith [bB,b1,ee,l4,ek]
theorem rq {l:List Int}{rest M:aq}{most:Int}(hm:1≤most)(hm2:most≤1000)(h:aP l rest M) :
  ∃(rs:List (List Int)) (w:Nat) (M':aq),1≤rs.length∧(rs.length:Int)≤most∧1≤w∧(w:Int)≤most∧(∀r∈rs,r.length=w∧∀k∈r,0≤k∧k≤15)∧aP l rest M'∧
   dS [.mr 0,.int most] M=.ok (.tup (rs.map fun r=>D.tup (r.map D.int))) M':=by
 obtain⟨wide,M1,w1,w2,t1,e1⟩:=ma hm hm2 h;obtain⟨f4,M2,a2,b2,t2,e2⟩:=bg (many:=4) (by decide) (av (by decide) (by decide)) t1;obtain⟨high,M3,h1,h2,t3,e3⟩:=ma hm hm2 t2;obtain⟨es,M',t',le,qe,ee⟩:=gP (ds0:=bi 0 high.toNat) (ge:=eR) (ρ:=[some (.mr 0),some (.int most),some (.int wide),some (.int (1+f4))])
  (P:=aP l rest) (Q:=fun e=>∃ks:List Int,e=.tup (ks.map D.int)∧(ks.length:Int)=wide∧∀k∈ks,0≤k∧k≤15) (bi 0 high.toNat) (fun d hd M hM=>by
   obtain⟨ks,M1,lk,qk,t1,e1⟩:=Ah (wide:=wide) (thin:=1+f4) (by omega) (by omega) (by omega) (by omega) hM;exact⟨_,M1,t1,⟨ks,rfl,lk,qk⟩,by simp_arith [eR,e1]⟩) M3 t3
 obtain⟨rs,er,qr⟩:=BR qe;refine⟨rs,wide.toNat,M',?_,?_,by omega,by omega,fun r hr=>⟨by have:=(qr r hr).1;omega,(qr r hr).2⟩,t',?_⟩
 ·have:rs.length=es.length:=by rw[er];simp
  rw[bJ] at le;omega
 ·have:rs.length=es.length:=by rw[er];simp
  rw[bJ] at le;omega
 ·have l3:es.length≤sizeLine:=by rw[le,bJ];exact bn (by omega)
  have l4:rs.length≤sizeLine:=by rw[er] at l3;simpa using l3
  have b1:=fun M=>pP (j:=high) (by omega) M
  unfold dS hV;simp_arith [bB,b1,e1,e2,e3,ee,l4,er]
theorem xH {l:List Int}{rest M:aq}{most:Int}(hm:1≤most)(hm2:most≤1000)(h:aP l rest M) :
  ∃(w hh g m:Int) (M':aq),(1≤w∧w≤most)∧(1≤hh∧hh≤most)∧(0≤g∧g≤20)∧(0≤m∧m≤12)∧aP l rest M'∧fD [.mr 0,.int most] M=.ok (.tup [.int w,.int hh,.int g,.int m]) M':=by
 obtain⟨f1,M1,a1,b1,t1,e1⟩:=bg (many:=21) (by decide) (av (by decide) (by decide)) h;obtain⟨f2,M2,a2,b2,t2,e2⟩:=bg (many:=2) (by decide) (av (by decide) (by decide)) t1;obtain⟨w,M3,a3,b3,t3,e3⟩:=ma hm hm2 t2;obtain⟨hh,M4,a4,b4,t4,e4⟩:=ma hm hm2 t3;obtain⟨m,M5,a5,b5,t5,e5⟩:=bg (many:=13) (by decide) (av (by decide) (by decide)) t4;have l3:(2:Nat)≤sizeLine:=bn (by decide);have l4:(4:Nat)≤sizeLine:=bn (by decide);have pick:∃g,0≤g∧g≤20∧oZ [D.int 0,D.int f1] f2=some (.int g):=by
  have:f2=0∨f2=1:=by omega
  rcases this with q|q <;> rw[q]
  ·exact⟨0,by omega,by omega,rfl⟩
  ·exact⟨f1,by omega,by omega,rfl⟩
 obtain⟨g,g1,g2,ha⟩:=pick;refine⟨w,hh,g,m,M5,⟨a3,b3⟩,⟨a4,b4⟩,⟨g1,g2⟩,⟨a5,by omega⟩,t5,?_⟩;unfold fD hR;simp_arith [e1,e2,e3,e4,e5,l3,l4,ha]
theorem pE {l:List Int}{rest M:aq}{size:Int}(hm:0≤size)(hm2:size≤900)(h:aP l rest M) :
  ∃(f:Int) (M':aq),(-1000≤f∧f≤1000)∧aP l rest M'∧bu [.mr 0,.int size] M=.ok (.int f) M':=by
 obtain⟨f1,M1,a1,b1,t1,e1⟩:=bg (many:=size+16) (by omega) (av (by omega) (by omega)) h;obtain⟨f2,M2,a2,b2,t2,e2⟩:=bg (many:=2001) (by decide) (av (by decide) (by decide)) t1;obtain⟨f3,M3,a3,b3,t3,e3⟩:=bg (many:=8) (by decide) (av (by decide) (by decide)) t2;have l3:(2:Nat)≤sizeLine:=bn (by decide);have c3:Nat.log2 7<9000:=by decide
 have pick:∃g,-1000≤g∧g≤1000∧oZ [D.int (f1-8),D.int (f2-1000)] (f3 / 7)=some (.int g):=by
  have:f3 / 7=0∨f3 / 7=1:=by omega
  rcases this with q|q <;> rw[q]
  ·exact⟨_,by omega,by omega,rfl⟩
  ·exact⟨_,by omega,by omega,rfl⟩
 obtain⟨g,g1,g2,ha⟩:=pick;refine⟨g,M3,⟨g1,g2⟩,t3,?_⟩;unfold bu jP;simp_arith [e1,e2,e3,l3,c3,ha]
structure Mv where
 shape:Option Nat
 x:Int
 y:Int
 rank:Int
 turn:Int
noncomputable def Mv.d (m:Mv):D:=.tup [match m.shape with|some k=>.int k|none=>.non,.int m.x,.int m.y,.int m.rank,.int m.turn]
structure sG (n:Nat)(m:Mv):Prop where
 s:∀k,m.shape=some k→k<n
 x:-1000≤m.x∧m.x≤1000
 y:-1000≤m.y∧m.y≤1000
 r:0≤m.rank∧m.rank≤3
 t:0≤m.turn∧m.turn≤3
theorem uM {a b:Int}{M:aq}(h:b<a):rp (.int a) (.int b) M=.ok (.bl true) M:=by
 show aU.ok (D.bl (decide (a>b))) M=_;rw[decide_eq_true h]
theorem Cr {a b:Int}{M:aq}(h:¬b<a):rp (.int a) (.int b) M=.ok (.bl false) M:=by
 show aU.ok (D.bl (decide (a>b))) M=_;rw[decide_eq_false h]
theorem uC {a b:GT}{ρ:bC}{M M1:aq}(ha:a ρ M=.ok false M1):eA a b ρ M=.ok false M1:=by
 unfold eA;rw[ha,ai];rfl
theorem p5 {a b:GT}{ρ:bC}{M M1:aq}{y:Bool}(ha:a ρ M=.ok true M)(hb:b ρ M=.ok y M1):eA a b ρ M=.ok y M1:=by
 unfold eA;rw[ha,ai];exact hb
theorem mj {gi:GI}{ge:GE}{ρ:bC}{ds es:List D}{M M1 M2:aq}(hi:gi ρ M=.ok ⟨ds,none⟩ M1)(he:ce ⟨ds,none⟩ bK ge ds ρ M1=.ok es M2)(hl:es.length≤1000000):bB gi bK ge aR ρ M=.ok (.lst es) M2:=by
 unfold bB;rw[hi,ai];dsimp only;rw[he,ai];unfold aR;rw[if_pos (bn hl)]
theorem tF {w hh x y r t:Int}{more:List D}{d2 d3:D}{M M2 M3 M4 M5:aq}(q1:bu [.mr 0,.int w] M=.ok (.int x) M2)(q2:bu [.mr 0,.int hh] M2=.ok (.int y) M3)(q3:ah [.mr 0,.int 4] M3=.ok (.int r) M4)(q4:ah [.mr 0,.int 4] M4=.ok (.int t) M5) :
  aA (aF (aa (ae 3) (aa (aj 2 bu (aa (ae 0) (aa (g2 aL (ae 1) (gC (.int 0))) ag))) (aa (aj 2 bu (aa (ae 0) (aa (g2 aL (ae 1) (gC (.int 1))) ag))) (aa (aj 2 ah (aa (ae 0) (aa (gC (.int 4)) ag))) (aa (aj 2 ah (aa (ae 0) (aa (gC (.int 4)) ag))) ag)))))) [some (.mr 0),some (.tup (.int w::.int hh::more)),some d2,some d3] M=.ok (.rt (.tup [d3,.int x,.int y,.int r,.int t])) M5:=
 aN (bv (ak rfl (ak (bw rfl (au rfl rfl (de rfl)) q1) (ak (bw rfl (au rfl rfl (de rfl)) q2) (ak (bw rfl rfl q3) (ak (bw rfl rfl q4) rfl))))))
theorem yp {l:List Int}{rest M:aq}{w hh:Int}{more:List D}{n:Nat}(hw:0≤w∧w≤900)(hh2:0≤hh∧hh≤900)(hn:n≤1000)(h:aP l rest M) :
  ∃(m:Mv) (M':aq),sG n m∧aP l rest M'∧h8 [.mr 0,.tup (.int w::.int hh::more),.int n] M=.ok m.d M':=by
 have go:∀(s:Option Nat) (M:aq),aP l rest M→(∀k,s=some k→k<n)→∃(m:Mv) (M':aq),sG n m∧m.shape=s∧aP l rest M'∧
   ∃M2 M3 M4,bu [.mr 0,.int w] M=.ok (.int m.x) M2∧bu [.mr 0,.int hh] M2=.ok (.int m.y) M3∧ah [.mr 0,.int 4] M3=.ok (.int m.rank) M4∧ah [.mr 0,.int 4] M4=.ok (.int m.turn) M':=by
  intro s M h hs;obtain⟨x,M2,a2,t2,e2⟩:=pE hw.1 hw.2 h;obtain⟨y,M3,a3,t3,e3⟩:=pE hh2.1 hh2.2 t2;obtain⟨r,M4,a4,b4,t4,e4⟩:=bg (many:=4) (by decide) (av (by decide) (by decide)) t3;obtain⟨t,M5,a5,b5,t5,e5⟩:=bg (many:=4) (by decide) (av (by decide) (by decide)) t4;have r3:r≤3:=by omega
  have q3:t≤3:=by omega
  exact⟨⟨s,x,y,r,t⟩,M5,⟨hs,a2,a3,⟨a4,r3⟩,⟨a5,q3⟩⟩,rfl,t5,M2,M3,M4,e2,e3,e4,e5⟩
 by_cases h0:0<n
 ·obtain⟨f1,M1,a1,b1,t1,e1⟩:=bg (many:=8) (by decide) (av (by decide) (by decide)) h;have h0':(0:Int)<n:=by omega
  by_cases hf:0<f1
  ·obtain⟨f2,M2,a2,b2,t2,e2⟩:=bg (many:=(n:Int)) (by omega) (av (by omega) (by omega)) t1;obtain⟨k,rfl⟩:=Int.eq_ofNat_of_zero_le a2;obtain⟨m,M',ok,sm,t',M3,M4,M5,q1,q2,q3,q4⟩:=go (some k) M2 t2 (fun j hj=>by cases hj;omega);refine⟨m,M',ok,t',?_⟩;show ax (bX [some (.mr 0),some (.tup (.int w::.int hh::more)),some (.int n),none] M)=_;unfold bX;rw[am (aC rfl)];rw[am ((cu (p5 (bq (au rfl rfl (uM (by omega)))) (bq (au (bw rfl rfl e1) rfl (uM hf))))).trans (aC (bw rfl rfl e2)))];refine(congrArg ax (tF q1 q2 q3 q4)).trans ?_;unfold Mv.d;rw[sm];rfl
  ·obtain⟨m,M',ok,sm,t',M3,M4,M5,q1,q2,q3,q4⟩:=go none M1 t1 (fun j hj=>by cases hj);refine⟨m,M',ok,t',?_⟩;show ax (bX [some (.mr 0),some (.tup (.int w::.int hh::more)),some (.int n),none] M)=_;unfold bX;rw[am (aC rfl)];rw[am ((db (p5 (bq (au rfl rfl (uM (by omega)))) (bq (au (bw rfl rfl e1) rfl (Cr hf))))).trans rfl)];refine(congrArg ax (tF q1 q2 q3 q4)).trans ?_;unfold Mv.d;rw[sm];rfl
 ·have h0':¬(0:Int)<n:=by omega
  obtain⟨m,M',ok,sm,t',M3,M4,M5,q1,q2,q3,q4⟩:=go none M h (fun j hj=>by cases hj);refine⟨m,M',ok,t',?_⟩;show ax (bX [some (.mr 0),some (.tup (.int w::.int hh::more)),some (.int n),none] M)=_;unfold bX;rw[am (aC rfl)];rw[am ((db (uC (bq (au rfl rfl (Cr h0'))))).trans rfl)];refine(congrArg ax (tF q1 q2 q3 q4)).trans ?_;unfold Mv.d;rw[sm];rfl
theorem oY {α:Type}{f:α→D}{P:α→Prop}:∀{es:List D},(∀e∈es,∃a,e=f a∧P a)→∃as:List α,es=as.map f∧∀a∈as,P a
 | [],_=>⟨[],rfl,fun _ z=>by cases z⟩
 | e::es,h=>by
  obtain⟨a,ea,pa⟩:=h e (mem_cons_self ..);obtain⟨as,eas,pas⟩:=oY fun e' he=>h e' (mem_cons_of_mem _ he)
  refine⟨a::as,by rw[ea,eas];rfl,fun b hb=>?_⟩;rcases mem_cons.mp hb with q|q
  ·rw[q];exact pa
  ·exact pas b q
noncomputable def aQ (rs:List (List Int)):D:=.tup (rs.map fun r=>D.tup (r.map D.int))
noncomputable def kI (most:Int)(rs:List (List Int)):Prop:=1≤rs.length∧(rs.length:Int)≤most∧∃w:Nat,1≤w∧(w:Int)≤most∧∀r∈rs,r.length=w∧∀k∈r,0≤k∧k≤15
structure si where
 floor:List (List Int)
 sx:Int
 sy:Int
 book:List (List (List Int))
 movers:List Mv
 pots:List Int
noncomputable def si.d (s:si):D:=.tup [aQ s.floor,.tup [.int s.sx,.int s.sy],.tup (s.book.map aQ),.tup (s.movers.map Mv.d),.tup (s.pots.map D.int)]
structure rj (most:Int)(s:si):Prop where
 floor:kI 16 s.floor
 sx:-1000≤s.sx∧s.sx≤1000
 sy:-1000≤s.sy∧s.sy≤1000
 bl:s.book.length≤8
 book:∀b∈s.book,kI 8 b
 ml:(s.movers.length:Int)≤most
 movers:∀m∈s.movers,sG s.book.length m
 pl:s.pots.length=16
 pots:∀k∈s.pots,0≤k∧k≤63
theorem jM {ρ:bC}{M:aq}:ag ρ M=.ok [] M:=rfl
theorem p4 {xs:List D}{i:Int}{d:D}{M:aq}(h:oZ xs i=some d):aL (.lst xs) (.int i) M=.ok d M:=by
 unfold aL cb;dsimp only;rw[h]
theorem yP {l:List Int}{rest M:aq}{w hh:Int}{more:List D}{mm:Int}(hw:0≤w∧w≤900)(hh2:0≤hh∧hh≤900)(hm:0≤mm∧mm≤900)(h:aP l rest M) :
  ∃(s:si) (M':aq),rj mm s∧aP l rest M'∧g9 [.mr 0,.tup (.int w::.int hh::more),.int mm] M=.ok s.d M':=by
 obtain⟨fl,fw,M1,f1,f2,f3,f4,f5,t1,e1⟩:=rq (most:=16) (by decide) (by decide) h;obtain⟨sx,M2,a2,t2,e2⟩:=pE (size:=9) (by decide) (by decide) t1;obtain⟨sy,M3,a3,t3,e3⟩:=pE (size:=9) (by decide) (by decide) t2;obtain⟨d4,M4,a4,b4,t4,e4⟩:=bg (many:=4) (by decide) (av (by decide) (by decide)) t3;obtain⟨d5,M5,a5,b5,t5,e5⟩:=bg (many:=9) (by decide) (av (by decide) (by decide)) t4;obtain⟨d6,M6,a6,b6,t6,e6⟩:=bg (many:=4) (by decide) (av (by decide) (by decide)) t5;have pick:∃g,0≤g∧g≤8∧oZ [D.int d4,D.int d5] (d6 / 3)=some (.int g):=by
  have:d6 / 3=0∨d6 / 3=1:=by omega
  rcases this with q|q <;> rw[q]
  ·exact⟨_,by omega,by omega,rfl⟩
  ·exact⟨_,by omega,by omega,rfl⟩
 obtain⟨g,g1,g2,ha⟩:=pick;obtain⟨eb,M7,t7,lb,qb,ee1⟩:=gP (ds0:=bi 0 g.toNat) (ge:=eM) (ρ:=[some (.mr 0),some (.tup (.int w::.int hh::more)),some (.int mm),some (aQ fl),some (.tup [.int sx,.int sy]),some (.int g),none,none])
  (P:=aP l rest) (Q:=fun e=>∃b,e=aQ b∧kI 8 b) (bi 0 g.toNat) (fun d hd M hM=>by
   obtain⟨rs,rw',M1,q1,q2,q3,q4,q5,t1,e1⟩:=rq (most:=8) (by decide) (by decide) hM;exact⟨_,M1,t1,⟨rs,rfl,q1,q2,rw',q3,q4,q5⟩,by simp_arith [eM,e1,aQ]⟩) M6 t6
 obtain⟨book,hb,okb⟩:=oY qb;have lbk:book.length=g.toNat:=by rw[←bJ 0 g.toNat,←lb,hb,length_map]
 obtain⟨d8,M8,a8,b8,t8,e8⟩:=bg (many:=mm+1) (by omega) (av (by omega) (by omega)) t7;obtain⟨em,M9,t9,lm,qm,ee2⟩:=gP (ds0:=bi 0 d8.toNat) (ge:=eN) (ρ:=[some (.mr 0),some (.tup (.int w::.int hh::more)),some (.int mm),some (aQ fl),some (.tup [.int sx,.int sy]),some (.int g),some (.tup (book.map aQ)),none])
  (P:=aP l rest) (Q:=fun e=>∃m,e=Mv.d m∧sG book.length m) (bi 0 d8.toNat) (fun d hd M hM=>by
   obtain⟨m,M1,ok,t1,e1⟩:=yp (more:=more) (n:=book.length) hw hh2 (by omega) hM;exact⟨_,M1,t1,⟨m,rfl,ok⟩,by simp_arith [eN,e1]⟩) M8 t8
 obtain⟨movers,hmv,okm⟩:=oY qm;have lmv:movers.length=d8.toNat:=by rw[←bJ 0 d8.toNat,←lm,hmv,length_map]
 obtain⟨ep,M10,t10,lp,qp,ee3⟩:=gP (ds0:=bi 0 16) (ge:=eO) (ρ:=[some (.mr 0),some (.tup (.int w::.int hh::more)),some (.int mm),some (aQ fl),some (.tup [.int sx,.int sy]),some (.int g),some (.tup (book.map aQ)),some (.tup (movers.map Mv.d))])
  (P:=aP l rest) (Q:=fun e=>∃k,e=D.int k∧0≤k∧k≤63) (bi 0 16) (fun d hd M hM=>by
   obtain⟨f1,M1,a1,b1,t1,e1⟩:=bg (many:=64) (by decide) (av (by decide) (by decide)) hM;exact⟨_,M1,t1,⟨f1,rfl,a1,by omega⟩,by simp_arith [eO,e1]⟩) M9 t9
 obtain⟨pots,hp,okp⟩:=oY qp;have lpt:pots.length=16:=by rw[←bJ 0 16,←lp,hp,length_map]
 refine⟨⟨fl,sx,sy,book,movers,pots⟩,M10,⟨⟨f1,f2,fw,f3,f4,f5⟩,a2,a3,?_,okb,?_,okm,lpt,okp⟩,t10,?_⟩
 ·show book.length≤8;omega
 ·show(movers.length:Int)≤mm;omega
 ·rw[hb] at ee1;rw[hmv] at ee2;rw[hp] at ee3;obtain⟨gn,rfl⟩:=Int.eq_ofNat_of_zero_le g1;obtain⟨dn,rfl⟩:=Int.eq_ofNat_of_zero_le a8;rw[Int.toNat_natCast] at ee1 ee2;show ax (fj [some (.mr 0),some (.tup (.int w::.int hh::more)),some (.int mm),none,none,none,none,none] M)=_;unfold fj;rw[am (aC (bw rfl rfl e1))];rw[am (aC (bv (ak (bw rfl rfl e2) (ak (bw rfl rfl e3) jM))))];rw[am (aC (au (dZ (ak (bw rfl rfl e4) (ak (bw rfl rfl e5) jM))) (au (bw rfl rfl e6) rfl (pQ (by decide) (by decide) M6)) (p4 ha)))];show ax (ar _ _ [some (.mr 0),some (.tup (.int w::.int hh::more)),some (.int mm),some (aQ fl),some (.tup [.int sx,.int sy]),some (.int gn),none,none] M6)=_;rw[am (aC (lX (F:=bV) (mj (ku (n:=gn) (ak (g:=ae 5) rfl jM) (by omega)) ee1 (by rw[length_map];omega)) rfl))];show ax (ar _ _ [some (.mr 0),some (.tup (.int w::.int hh::more)),some (.int mm),some (aQ fl),some (.tup [.int sx,.int sy]),some (.int gn),some (.tup (book.map aQ)),none] M7)=_;rw[am (aC (lX (F:=bV) (mj (ku (n:=dn) (ak (bw rfl rfl e8) jM) (by omega)) ee2 (by rw[length_map];omega)) rfl))];show ax (aA _ [some (.mr 0),some (.tup (.int w::.int hh::more)),some (.int mm),some (aQ fl),some (.tup [.int sx,.int sy]),some (.int gn),some (.tup (book.map aQ)),some (.tup (movers.map Mv.d))] M9)=_;refine(congrArg ax (aN (bv (ds:=[aQ fl,.tup [.int sx,.int sy],.tup (book.map aQ),.tup (movers.map Mv.d),.tup (pots.map D.int)]) (ak rfl (ak rfl (ak rfl (ak rfl (ak (lX (F:=bV) (mj (ku (n:=16) (ak (g:=gC (.int 16)) rfl jM) (by decide)) ee3 (by rw[length_map];omega)) rfl) rfl)))))))).trans ?_;rfl
theorem pT {ds0:List D}{s:GG}{body:GS}{W:Nat→bC→aq→Prop}:∀(ds:List D) (i:Nat),(∀j d,ds[j]?=some d→∀ρ M,W (i+j) ρ M→∃ρ1 ρ2 M2,s d ρ=some ρ1∧body ρ1 M=.ok (.nx ρ2) M2∧W (i+j+1) ρ2 M2)→∀ρ M,W i ρ M→
  ∃ρ' M',W (i+ds.length) ρ' M'∧dR ⟨ds0,none⟩ s body ds ρ M=.ok (.nx ρ') M'
 | [],i,h,ρ,M,hW=>⟨ρ,M,hW,rfl⟩
 | d::ds,i,h,ρ,M,hW=>by
  obtain⟨ρ1,ρ2,M2,e1,e2,h2⟩:=h 0 d rfl ρ M hW;obtain⟨ρ',M',h3,e3⟩:=pT (ds0:=ds0) (body:=body) (W:=W) ds (i+1) (fun j d' hd ρ M hW=>by
   have e:i+1+j=i+(j+1):=by omega
   rw[e] at hW ⊢;exact h (j+1) d' hd ρ M hW) ρ2 M2 h2
  refine⟨ρ',M',?_,by simp[dR,sL,e1,e2,e3]⟩;have e:i+(d::ds).length=i+1+ds.length:=by simp;omega
  rw[e];exact h3
theorem mD {lo:Int}{n j:Nat}{d:D}(h:(bi lo n)[j]?=some d):j<n∧d=.int (lo+j):=by
 unfold bi at h;rw[getElem?_map] at h;cases q:(List.range n)[j]? with
 | none=>rw[q] at h;cases h
 | some k=>
  rw[q] at h;obtain⟨hj,ek⟩:=List.getElem?_eq_some_iff.mp q;rw[length_range] at hj;rw[getElem_range] at ek;subst ek;cases h;exact⟨hj,rfl⟩
mutual
theorem kR:∀(d:D) (n:Nat),aO n d=true→nF d d=true
 | .non,n,h=>rfl
 | .bl a,n,h=>beq_self_eq_true a
 | .int a,n,h=>beq_self_eq_true a
 | .str a,n,h=>beq_self_eq_true a
 | .tup xs,n,h=>by
  cases n with
  | zero=>exact ff h
  | succ n=>exact jr xs n h
 | .lst xs,n,h=>by
  cases n with
  | zero=>exact ff h
  | succ n=>exact jr xs n h
 | .ro xs,n,h=>by
  cases n with
  | zero=>exact ff h
  | succ n=>exact jr xs n h
 | .mr a,n,h=>by cases n <;> exact ff h
 | .exc a,n,h=>by cases n <;> exact ff h
 | .any,n,h=>by cases n <;> exact ff h
theorem jr:∀(ds:List D) (n:Nat),bj n ds=true→jB ds ds=true
 | [],n,h=>rfl
 | d::ds,n,h=>
  have h:=Bool.and_eq_true_iff.mp (show(aO n d&&bj n ds)=true from h)
  Bool.and_eq_true_iff.mpr ⟨kR d n h.1,jr ds n h.2⟩
end
theorem fK {n:Nat}:∀{ds:List D},(∀d∈ds,aO n d=true)→bj n ds=true
 | [],_=>rfl
 | d::ds,h=>Bool.and_eq_true_iff.mpr ⟨h d mem_cons_self,fK fun e he=>h e (mem_cons_of_mem _ he)⟩
noncomputable def ba (lo hi:Int):D→Bool
 | .int i=>decide (lo≤i)&&decide (i≤hi)
 | _=>false
noncomputable def ko (d:D):Prop:=∃t,Fs d=some t
theorem cN {g:GE}{ρ:bC}{M:aq}{d:D}(h:g ρ M=.ok d M):ax (aA g ρ M)=.ok d M:=by rw[aN h];rfl
theorem j4 {a b c:GE}{ρ:bC}{M:aq}{x y z:Int}(ha:a ρ M=.ok (.int x) M)(hb:b ρ M=.ok (.int y) M)(hc:c ρ M=.ok (.int z) M):oh k8 k8 a b c ρ M=.ok (.bl (decide (x≤y)&&decide (y≤z))) M:=by
 unfold oh;rw[ha,ai,hb,ai];show(aU.ok (D.bl (decide (x≤y))) M).bind _=_;rw[ai]
 by_cases q:x≤y
 ·rw[decide_eq_true q];dsimp only;rw[hc,ai];rfl
 ·rw[decide_eq_false q];rfl
noncomputable def Js:D→Bool
 | .int _=>true
 | _=>false
theorem cn {d:D}{lo hi:Int}{M:aq}(h:ko d):aH [d,.int lo,.int hi] M=.ok (.bl (ba lo hi d)) M:=by
 obtain⟨t,ht⟩:=h;have w:jR [d] M=.ok (.bl (Js d)) M:=by
  cases d <;> first|rfl|cases ht
 clear ht;show ax (gx [some d,some (.int lo),some (.int hi)] M)=_;unfold gx;cases d with
 | int i=>exact cN (aZ (y:=decide (lo≤i)&&decide (i≤hi)) (bT rfl w) fun _=>j4 rfl rfl rfl)
 | _=>exact cN (aZ (y:=false) (bT rfl w) fun z=>by cases z)
theorem pz {xs:List D}{M:aq}(h:∀x∈xs,ko x)(hl:xs.length≤3000):aS [.tup xs] M=.ok (.bl (decide (xs.length=2)&&xs.all (ba (-1000) 1000))) M:=by
 have e:decide ((xs.length:Int)=2)=decide (xs.length=2):=decide_eq_decide.mpr (by omega);rw[←e];show ax (cJ [some (.tup xs)] M)=_;exact cN (aZ (x:=true) rfl fun _=>aZ (au (x:=.int xs.length) rfl rfl (qz _ _ _)) fun _=>iM (fq rfl) (by omega) fun x hx=>fi rfl rfl rfl (cn (h x hx)))
theorem zG {d:D}{M:aq}(h:ko d):i3 [d] M=.ok (.bl (ba 0 15 d)) M:=by
 exact cN (fi rfl rfl rfl (cn h))
theorem xb {d:D}{M:aq}(h:ko d):ja [d] M=.ok (.bl (ba 0 63 d)) M:=by
 exact cN (fi rfl rfl rfl (cn h))
theorem AC {d:D}{M:aq}(h:ko d):jn [d] M=.ok (.bl (ba 0 3 d)) M:=by
 exact cN (fi rfl rfl rfl (cn h))
theorem wy {d:D}{M:aq}(h:ko d):jo [d] M=.ok (.bl (ba 0 3 d)) M:=by
 exact cN (fi rfl rfl rfl (cn h))
noncomputable def Bi (n:Nat):D→Bool
 | .non=>true
 | d=>ba 0 ((n:Int)-1) d
theorem vB {d:D}{bk:List D}{M:aq}(h:ko d):cQ [.tup bk,d] M=.ok (.bl (Bi bk.length d)) M:=by
 have w:=cn (lo:=0) (hi:=(bk.length:Int)-1) (M:=M) h;obtain⟨t,ht⟩:=h;show ax (cP [some (.tup bk),some d] M)=_;have w2:=fi (a:=ae 1) (b:=gC (.int 0)) (c:=g2 du (aB bp (aa (ae 0) ag)) (gC (.int 1))) (ρ:=[some (.tup bk),some d]) rfl rfl rfl w;clear w;unfold cP;cases d with
 | non=>exact cN (B4 (x:=true) (y:=true) rfl fun z=>by cases z)
 | any=>cases ht
 | mr _=>cases ht
 | exc _=>cases ht
 | _=>exact cN (B4 (x:=false) rfl fun _=>w2)
noncomputable def qK:D→Bool
 | .tup xs=>xs.all (ba 0 15)
 | _=>false
noncomputable def iO:D→Nat
 | .tup xs=>xs.length
 | _=>0
noncomputable def d7 (most:Int):D→Bool
 | .tup rows=>(decide (1≤rows.length)&&decide ((rows.length:Int)≤most))&&(rows.all qK&&((decide (1≤iO (rows.getD 0 .non))&&decide ((iO (rows.getD 0 .non):Int)≤most))&&rows.all fun r=>decide (iO r=iO (rows.getD 0 .non))))
 | _=>false
noncomputable def cE:Nat→D→Prop
 | 0,d=>ko d
 | n+1,d=>ko d∧∀xs,d=.tup xs→xs.length≤3000∧∀x∈xs,cE n x
theorem cE.down:∀{n:Nat} {d:D},cE (n+1) d→cE n d
 | 0,_,h=>h.1
 | _+1,_,h=>⟨h.1,fun xs e=>⟨(h.2 xs e).1,fun x hx=>((h.2 xs e).2 x hx).down⟩⟩
noncomputable def iQ:D→Bool
 | .tup _=>true
 | _=>false
theorem pN {d:D}(h:iQ d=true):∃y,d=.tup y:=by cases d <;> first|exact⟨_,rfl⟩|(cases h)
theorem fz {d:D}{i:Nat}{ρ:bC}{M:aq}(h:ko d)(hv:ae i ρ M=.ok d M):eB "tuple" (ae i) ρ M=.ok (.bl (iQ d)) M:=by
 obtain⟨t,ht⟩:=h;unfold eB;rw[hv,ai];cases d <;> first|(simp[zO,Fs,qV,iQ];done)|cases ht
theorem vX {d:D}{M:aq}(h:cE 1 d):hU [d] M=.ok (.bl (qK d)) M:=by
 have g1:=fz (i:=0) (ρ:=[some d]) (M:=M) h.1 rfl;show ax (fE [some d] M)=_;unfold fE;cases d with
 | tup xs=>
  have hx:=h.2 xs rfl;have a:=iM (ge:=eS) (p:=ba 0 15) (fq (i:=0) (ρ:=[some (.tup xs)]) (M:=M) rfl) (by omega) fun x hm=>by
   unfold eS;exact bT rfl (zG (hx.2 x hm))
  rw[aN (aZ g1 fun _=>a)];rfl
 | _=>rw[aN (aZ (y:=false) g1 fun z=>by cases z)];rfl
theorem p9 {d:D}{most:Int}{M:aq}(h:cE 2 d):dQ [d,.int most] M=.ok (.bl (d7 most d)) M:=by
 have g1:=fz (i:=0) (ρ:=[some d,some (.int most),none]) (M:=M) h.1 rfl;show ax (d9 [some d,some (.int most),none] M)=_;unfold d9;cases ht:iQ d with
 | false=>
  rw[ht] at g1;rw[bH ((cu (dP (y:=false) (bA (cf g1)) fun z=>by cases z)).trans rfl)];clear g1;revert h ht;cases d <;> intro h ht <;> first|rfl|(cases ht)
 | true=>
  obtain⟨rows,rfl⟩:=pN ht;have hx:=h.2 rows rfl;have ln:aB bp (aa (ae 0) ag) [some (.tup rows),some (.int most),none] M=.ok (.int rows.length) M:=rfl;have ch:oh k8 k8 (gC (.int 1)) (aB bp (aa (ae 0) ag)) (ae 1) [some (.tup rows),some (.int most),none] M=.ok (.bl (decide (1≤rows.length)&&decide ((rows.length:Int)≤most))) M:=by
   refine(j4 rfl ln rfl).trans ?_;rw[show decide ((1:Int)≤(rows.length:Int))=decide (1≤rows.length) from decide_eq_decide.mpr (by omega)]
  have t1:=dP (bA (cf g1)) fun _=>bA (bq ch)
  by_cases k:1≤rows.length∧(rows.length:Int)≤most
  ·have hk:(decide (1≤rows.length)&&decide ((rows.length:Int)≤most))=true:=by simp[k.1,k.2]
   rw[hk] at t1;rw[am ((db t1).trans rfl)];have a:=iM (ge:=dD) (p:=qK) (fq (i:=0) (ρ:=[some (.tup rows),some (.int most),none]) (M:=M) rfl) (by omega) fun x hm=>by
    unfold dD;exact bT rfl (vX (hx.2 x hm))
   cases ha:rows.all qK with
   | false=>
    rw[ha] at a;have e:d7 most (.tup rows)=false:=by simp[d7,ha]
    rw[bH ((cu (bA (cf a))).trans rfl),e];rfl
   | true=>
    rw[ha] at a;rw[am ((db (bA (cf a))).trans rfl)];cases rows with
    | nil=>exact absurd k.1 (by simp)
    | cons r0 rs=>
     have hr:=all_eq_true.mp ha;obtain⟨x0,e0⟩:∃x0,r0=.tup x0:=by
      have:=hr r0 mem_cons_self;cases r0 <;> first|exact⟨_,rfl⟩|cases this
     subst e0;have s2:aB bp (aa (g2 aL (ae 0) (gC (.int 0))) ag) [some (.tup (.tup x0::rs)),some (.int most),none] M=.ok (.int x0.length) M:=
      lX (au rfl rfl (de (k:=0) rfl)) rfl
     rw[am (aC s2)];have b:=iM (ge:=cI) (p:=fun r=>decide (iO r=x0.length)) (fq (i:=0) (ρ:=[some (.tup (.tup x0::rs)),some (.int most),some (.int x0.length)]) (M:=M) rfl) (by omega) fun x hm=>by
      obtain⟨y,ey⟩:∃y,x=.tup y:=by
       have:=hr x hm;cases x <;> first|exact⟨_,rfl⟩|cases this
      subst ey;unfold cI;refine au (y:=.int x0.length) rfl rfl ((qz _ _ _).trans ?_);congr 2;exact decide_eq_decide.mpr (by show _↔y.length=_;omega)
     have ch2:oh k8 k8 (gC (.int 1)) (ae 2) (ae 1) [some (.tup (.tup x0::rs)),some (.int most),some (.int x0.length)] M=.ok (.bl (decide (1≤x0.length)&&decide ((x0.length:Int)≤most))) M:=by
      refine(j4 (y:=x0.length) rfl rfl rfl).trans ?_;rw[show decide ((1:Int)≤(x0.length:Int))=decide (1≤x0.length) from decide_eq_decide.mpr (by omega)]
     have f:=aN (aZ ch2 fun _=>b);have e:d7 most (.tup (.tup x0::rs))=((decide (1≤x0.length)&&decide ((x0.length:Int)≤most))&&(D.tup x0::rs).all fun r=>decide (iO r=x0.length)):=by
      show((decide (1≤(D.tup x0::rs).length)&&decide (((D.tup x0::rs).length:Int)≤most))&&((D.tup x0::rs).all qK&&_))=_;rw[hk,ha];rfl
     rw[e];show ax (aA (cR (oh k8 k8 (gC (.int 1)) (ae 2) (ae 1)) (aB hX (aa (bB (eE (ae 0)) bK cI aR) ag))) [some (.tup (.tup x0::rs)),some (.int most),some (.int x0.length)] M)=_;rw[f];rfl
  ·have hk:(decide (1≤rows.length)&&decide ((rows.length:Int)≤most))=false:=by
    by_cases k1:1≤rows.length
    ·have:¬(rows.length:Int)≤most:=fun z=>k ⟨k1,z⟩
     simp[this]
    ·simp[k1]
   rw[hk] at t1;have e:d7 most (.tup rows)=false:=by
    show((decide (1≤rows.length)&&decide ((rows.length:Int)≤most))&&_)=false;rw[hk];rfl
   rw[bH ((cu t1).trans rfl),e];rfl
theorem tw {d:D}{M:aq}(h:cE 2 d):jJ [d] M=.ok (.bl (d7 8 d)) M:=by
 show ax (iz [some d] M)=_;unfold iz;rw[aN (bw rfl rfl (p9 h))];rfl
noncomputable def nU:D→Bool
 | .tup xs=>decide (xs.length≤8)&&xs.all (d7 8)
 | _=>false
theorem vQ {d:D}{M:aq}(h:cE 3 d):lC [d] M=.ok (.bl (nU d)) M:=by
 have g1:=fz (i:=0) (ρ:=[some d]) (M:=M) h.1 rfl;show ax (js [some d] M)=_;unfold js;cases d with
 | tup xs=>
  have hx:=h.2 xs rfl;have l:g2 k8 (aB bp (aa (ae 0) ag)) (gC (.int 8)) [some (.tup xs)] M=.ok (.bl (decide (xs.length≤8))) M:=by
   show aU.ok (D.bl (decide ((xs.length:Int)≤8))) M=_;congr 2;exact decide_eq_decide.mpr (by omega)
  have a:=iM (ge:=iq) (p:=d7 8) (fq (i:=0) (ρ:=[some (.tup xs)]) (M:=M) rfl) (by omega) fun x hm=>by
   unfold iq;exact bT rfl (tw (hx.2 x hm))
  rw[aN (aZ g1 fun _=>aZ l fun _=>a)];rfl
 | _=>rw[aN (aZ (y:=false) g1 fun z=>by cases z)];rfl
noncomputable def qR:D→Bool
 | .tup xs=>decide (xs.length=2)&&xs.all (ba (-1000) 1000)
 | _=>false
theorem zU {d:D}{M:aq}(h:ko d)(ht:iQ d=false):aS [d] M=.ok (.bl false) M:=by
 have g1:=fz (i:=0) (ρ:=[some d]) (M:=M) h rfl;rw[ht] at g1;show ax (cJ [some d] M)=_;unfold cJ;rw[aN (aZ (y:=false) g1 fun z=>by cases z)];rfl
theorem vL {d:D}{M:aq}(h:cE 1 d):aS [d] M=.ok (.bl (qR d)) M:=by
 cases d with
 | tup xs=>exact pz (fun x hx=>((h.2 xs rfl).2 x hx)) (h.2 xs rfl).1
 | _=>exact zU h.1 rfl
noncomputable def jV (nb:Nat):D→Bool
 | .tup [s,x,y,r,t]=>Bi nb s&&((ba (-1000) 1000 x&&ba (-1000) 1000 y)&&(ba 0 3 r&&ba 0 3 t))
 | _=>false
theorem sT {d:D}{bk:List D}{M:aq}(h:cE 1 d):jX [.tup bk,d] M=.ok (.bl (jV bk.length d)) M:=by
 have g1:=fz (i:=1) (ρ:=[some (.tup bk),some d,none,none,none,none,none]) (M:=M) h.1 rfl;show ax (iD [some (.tup bk),some d,none,none,none,none,none] M)=_;unfold iD;cases ht:iQ d with
 | false=>
  rw[ht] at g1;rw[bH ((cu (dP (y:=false) (bA (cf g1)) fun z=>by cases z)).trans rfl)];clear g1;revert h ht;cases d <;> intro h ht <;> first|rfl|(cases ht)
 | true=>
  obtain⟨xs,rfl⟩:=pN ht;have hx:=h.2 xs rfl;have ne:g2 (aW true) (aB bp (aa (ae 1) ag)) (gC (.int 5)) [some (.tup bk),some (.tup xs),none,none,none,none,none] M=.ok (.bl (!decide ((xs.length:Int)=5))) M:=au (y:=.int 5) rfl rfl (oH _ _ _);have t1:=dP (bA (cf g1)) fun _=>bq ne
  match xs,hx,t1 with
  | [s,x,y,r,t],hx,t1=>
   rw[am ((db t1).trans rfl)];have q:∀z∈[s,x,y,r,t],ko z:=fun z hz=>hx.2 z hz
   have k1:=vB (bk:=bk) (M:=M) (q s (by simp));have k2:=pz (xs:=[x,y]) (M:=M) (fun z hz=>q z (by rcases mem_cons.mp hz with h|h <;> simp_all)) (by simp);have k3:=AC (M:=M) (q r (by simp));have k4:=wy (M:=M) (q t (by simp));have two:(2:Nat)≤sizeLine:=bn (by decide);have asg:cg (bN [2,3,4,5,6]) (ae 1) [some (.tup bk),some (.tup [s,x,y,r,t]),none,none,none,none,none] M=.ok (.nx [some (.tup bk),some (.tup [s,x,y,r,t]),some s,some x,some y,some r,some t]) M:=rfl;rw[am asg];have tp2:aF (aa (ae 3) (aa (ae 4) ag)) [some (.tup bk),some (.tup [s,x,y,r,t]),some s,some x,some y,some r,some t] M=.ok (.tup [x,y]) M:=by
    show(if [x,y].length≤sizeLine then aU.ok (D.tup [x,y]) M else .bad)=_;rw[if_pos (show [x,y].length≤sizeLine from two)]
   rw[aN (aZ (bw (y:=s) rfl rfl k1) fun _=>aZ (bT tp2 k2) fun _=>aZ (bT rfl k3) fun _=>bT rfl k4)];show aU.ok (D.bl _) M=_;unfold jV;simp
  | [],_,t1=>rw[bH ((cu t1).trans rfl)];rfl
  | [_],_,t1=>rw[bH ((cu t1).trans rfl)];rfl
  | [_,_],_,t1=>rw[bH ((cu t1).trans rfl)];rfl
  | [_,_,_],_,t1=>rw[bH ((cu t1).trans rfl)];rfl
  | [_,_,_,_],_,t1=>rw[bH ((cu t1).trans rfl)];rfl
  | _::_::_::_::_::_::r,_,t1=>
   have z:(!decide (((r.length+1+1+1+1+1+1:Nat):Int)=5))=true:=by simp;omega
   simp only[length_cons] at t1;rw[z] at t1;rw[bH ((cu t1).trans rfl)];rfl
noncomputable def kB (nb:Nat):D→Bool
 | .tup xs=>decide (xs.length≤12)&&xs.all (jV nb)
 | _=>false
theorem pH {d:D}{bk:List D}{M:aq}(h:cE 2 d):im [.tup bk,d] M=.ok (.bl (kB bk.length d)) M:=by
 have g1:=fz (i:=1) (ρ:=[some (.tup bk),some d]) (M:=M) h.1 rfl;show ax (fA [some (.tup bk),some d] M)=_;unfold fA;cases d with
 | tup xs=>
  have hx:=h.2 xs rfl;have l:g2 k8 (aB bp (aa (ae 1) ag)) (gC (.int 12)) [some (.tup bk),some (.tup xs)] M=.ok (.bl (decide (xs.length≤12))) M:=by
   show aU.ok (D.bl (decide ((xs.length:Int)≤12))) M=_;congr 2;exact decide_eq_decide.mpr (by omega)
  have a:=iM (ge:=eI) (p:=jV bk.length) (fq (i:=1) (ρ:=[some (.tup bk),some (.tup xs)]) (M:=M) rfl) (by omega) fun x hm=>by
   unfold eI;exact bw (y:=x) rfl rfl (sT (hx.2 x hm))
  rw[aN (aZ g1 fun _=>aZ l fun _=>a)];rfl
 | _=>rw[aN (aZ (y:=false) g1 fun z=>by cases z)];rfl
noncomputable def qq:D→Bool
 | .tup xs=>decide (xs.length=16)&&xs.all (ba 0 63)
 | _=>false
theorem sK {d:D}{M:aq}(h:cE 1 d):jU [d] M=.ok (.bl (qq d)) M:=by
 have g1:=fz (i:=0) (ρ:=[some d]) (M:=M) h.1 rfl;show ax (iB [some d] M)=_;unfold iB;cases d with
 | tup xs=>
  have hx:=h.2 xs rfl;have l:g2 (aW false) (aB bp (aa (ae 0) ag)) (gC (.int 16)) [some (.tup xs)] M=.ok (.bl (decide (xs.length=16))) M:=by
   refine(au (y:=.int 16) rfl rfl (qz _ _ _)).trans ?_;congr 2;exact decide_eq_decide.mpr (by omega)
  have a:=iM (ge:=gE) (p:=ba 0 63) (fq (i:=0) (ρ:=[some (.tup xs)]) (M:=M) rfl) (by omega) fun x hm=>by
   unfold gE;exact bT rfl (xb (hx.2 x hm))
  rw[aN (aZ g1 fun _=>aZ l fun _=>a)];rfl
 | _=>rw[aN (aZ (y:=false) g1 fun z=>by cases z)];rfl
noncomputable def jc:D→Bool
 | .tup [f,s,b,m,p]=>(d7 16 f&&(qR s&&qq p))&&(nU b&&kB (iO b) m)
 | _=>false
theorem vf {d:D}(h:nU d=true):∃b,d=.tup b:=by
 cases d <;> first|exact⟨_,rfl⟩|cases h
theorem sU {d:D}{M:aq}(h:cE 4 d):fL [d] M=.ok (.bl (jc d)) M:=by
 have g1:=fz (i:=0) (ρ:=[some d,none,none,none,none,none]) (M:=M) h.1 rfl;show ax (ir [some d,none,none,none,none,none] M)=_;unfold ir;cases ht:iQ d with
 | false=>
  rw[ht] at g1;rw[bH ((cu (dP (y:=false) (bA (cf g1)) fun z=>by cases z)).trans rfl)];clear g1;revert h ht;cases d <;> intro h ht <;> first|rfl|(cases ht)
 | true=>
  obtain⟨xs,rfl⟩:=pN ht;have hx:=h.2 xs rfl;have ne:g2 (aW true) (aB bp (aa (ae 0) ag)) (gC (.int 5)) [some (.tup xs),none,none,none,none,none] M=.ok (.bl (!decide ((xs.length:Int)=5))) M:=au (y:=.int 5) rfl rfl (oH _ _ _);have t1:=dP (bA (cf g1)) fun _=>bq ne
  match xs,hx,t1 with
  | [f,s,b,m,p],hx,t1=>
   rw[am ((db t1).trans rfl)];have q:∀z∈[f,s,b,m,p],cE 3 z:=fun z hz=>hx.2 z hz
   have k1:=p9 (most:=16) (M:=M) (q f (by simp)).down;have k2:=vL (M:=M) (q s (by simp)).down.down;have k3:=sK (M:=M) (q p (by simp)).down.down;have k4:=vQ (M:=M) (q b (by simp));have asg:cg (bN [1,2,3,4,5]) (ae 0) [some (.tup [f,s,b,m,p]),none,none,none,none,none] M=.ok (.nx [some (.tup [f,s,b,m,p]),some f,some s,some b,some m,some p]) M:=rfl;rw[am asg];have t2:=bA (mf (cf (bw (ρ:=[some (.tup [f,s,b,m,p]),some f,some s,some b,some m,some p]) (a:=ae 1) (b:=gC (.int 16)) rfl rfl k1)) fun _=>mf (cf (bT (a:=ae 2) rfl k2)) fun _=>cf (bT (a:=ae 5) rfl k3));cases hk:(d7 16 f&&(qR s&&qq p)) with
   | false=>
    rw[hk] at t2;rw[bH ((cu t2).trans rfl)];have e:jc (.tup [f,s,b,m,p])=false:=by
     simp[jc,hk]
    rw[e];rfl
   | true=>
    rw[hk] at t2;rw[am ((db t2).trans rfl)];cases hb:nU b with
    | false=>
     rw[hb] at k4;rw[aN (aZ (y:=false) (bT (a:=ae 3) rfl k4) fun z=>by cases z)];have e:jc (.tup [f,s,b,m,p])=false:=by
      simp[jc,hb]
     rw[e];rfl
    | true=>
     obtain⟨bs,rfl⟩:=vf hb;have k5:=pH (bk:=bs) (M:=M) (q m (by simp)).down;rw[hb] at k4;rw[aN (aZ (bT (a:=ae 3) rfl k4) fun _=>bw (a:=ae 3) (b:=ae 4) rfl rfl k5)];have e:jc (.tup [f,s,.tup bs,m,p])=kB bs.length m:=by
      simp[jc,hk,hb,iO]
     rw[e];rfl
  | [],_,t1=>rw[bH ((cu t1).trans rfl)];rfl
  | [_],_,t1=>rw[bH ((cu t1).trans rfl)];rfl
  | [_,_],_,t1=>rw[bH ((cu t1).trans rfl)];rfl
  | [_,_,_],_,t1=>rw[bH ((cu t1).trans rfl)];rfl
  | [_,_,_,_],_,t1=>rw[bH ((cu t1).trans rfl)];rfl
  | _::_::_::_::_::_::r,_,t1=>
   have z:(!decide (((r.length+1+1+1+1+1+1:Nat):Int)=5))=true:=by simp;omega
   simp only[length_cons] at t1;rw[z] at t1;rw[bH ((cu t1).trans rfl)];rfl
theorem bD {lo hi i:Int}(h:lo≤i∧i≤hi):ba lo hi (.int i)=true:=by simp[ba,h.1,h.2]
theorem mQ {lo hi:Int}{r:List Int}(h:∀k∈r,lo≤k∧k≤hi):(r.map D.int).all (ba lo hi)=true:=by
 rw[all_map];exact all_eq_true.mpr fun k hk=>bD (h k hk)
theorem nA {most:Int}{rs:List (List Int)}(h:kI most rs):d7 most (aQ rs)=true:=by
 obtain⟨h1,h2,w,h3,h4,h5⟩:=h;have hr:∀r∈rs.map fun r=>D.tup (r.map D.int),qK r=true∧iO r=w:=fun r hr=>by
  obtain⟨q,hq,rfl⟩:=mem_map.mp hr;exact⟨mQ (h5 q hq).2,by show(q.map D.int).length=w;rw[length_map];exact(h5 q hq).1⟩
 have l:(rs.map fun r=>D.tup (r.map D.int)).length=rs.length:=length_map ..;unfold aQ;generalize (rs.map fun r=>D.tup (r.map D.int))=ds at *;cases ds with
 | nil=>simp at l;omega
 | cons d0 dr=>
  have e0:=(hr d0 mem_cons_self).2;show((decide (1≤(d0::dr).length)&&decide (((d0::dr).length:Int)≤most))&&((d0::dr).all qK&&((decide (1≤iO d0)&&decide ((iO d0:Int)≤most))&&(d0::dr).all fun r=>decide (iO r=iO d0))))=true;have a1:(d0::dr).all qK=true:=all_eq_true.mpr fun r h=>(hr r h).1
  have a2:((d0::dr).all fun r=>decide (iO r=iO d0))=true:=all_eq_true.mpr fun r h=>decide_eq_true (by rw[(hr r h).2,e0])
  rw[a1,a2,e0,l];simp[h1,h2,h3,h4]
theorem cE.int {n:Nat}{i:Int}:cE n (.int i):=by
 cases n with
 | zero=>exact⟨_,rfl⟩
 | succ n=>exact⟨⟨_,rfl⟩,fun xs e=>by cases e⟩
theorem cE.tup {n:Nat}{xs:List D}(hl:xs.length≤3000)(h:∀x∈xs,cE n x):cE (n+1) (.tup xs):=
 ⟨⟨_,rfl⟩,fun ys e=>by cases e;exact⟨hl,h⟩⟩
theorem nV {n:Nat}{most:Int}{rs:List (List Int)}(hm:most≤3000)(h:kI most rs):cE (n+2) (aQ rs):=by
 obtain⟨h1,h2,w,h3,h4,h5⟩:=h;refine cE.tup (by rw[length_map];omega) fun x hx=>?_
 obtain⟨r,hr,rfl⟩:=mem_map.mp hx;refine cE.tup (by rw[length_map,(h5 r hr).1];omega) fun x hx=>?_
 obtain⟨k,_,rfl⟩:=mem_map.mp hx;exact cE.int
theorem sY {n:Nat}(m:Mv):cE (n+1) m.d:=by
 refine cE.tup (by simp) fun x hx=>?_
 have hx:x∈[(match m.shape with|some k=>D.int k|none=>.non),.int m.x,.int m.y,.int m.rank,.int m.turn]:=hx;simp only[mem_cons,not_mem_nil,or_false] at hx;rcases hx with rfl|rfl|rfl|rfl|rfl
 ·cases m.shape with
  | some k=>exact cE.int
  | none=>
   cases n with
   | zero=>exact⟨_,rfl⟩
   | succ n=>exact⟨⟨_,rfl⟩,fun xs e=>by cases e⟩
 all_goals exact cE.int
theorem x9 {s:si}{mm:Int}(ok:rj mm s)(hm:mm≤900):cE 4 s.d:=by
 refine cE.tup (by simp) fun x hx=>?_
 have hx:x∈[aQ s.floor,.tup [.int s.sx,.int s.sy],.tup (s.book.map aQ),.tup (s.movers.map Mv.d),.tup (s.pots.map D.int)]:=hx;simp only[mem_cons,not_mem_nil,or_false] at hx;rcases hx with rfl|rfl|rfl|rfl|rfl
 ·exact nV (by decide) ok.floor
 ·refine cE.tup (by simp) fun x hx=>?_
  simp only[mem_cons,not_mem_nil,or_false] at hx;rcases hx with rfl|rfl <;> exact cE.int
 ·refine cE.tup (by rw[length_map];have:=ok.bl;omega) fun x hx=>?_
  obtain⟨b,hb,rfl⟩:=mem_map.mp hx;exact nV (by decide) (ok.book b hb)
 ·refine cE.tup (by rw[length_map];have:=ok.ml;omega) fun x hx=>?_
  obtain⟨m,_,rfl⟩:=mem_map.mp hx;exact sY m
 ·refine cE.tup (by rw[length_map];have:=ok.pl;omega) fun x hx=>?_
  obtain⟨k,_,rfl⟩:=mem_map.mp hx;exact cE.int
theorem wW {n:Nat}{m:Mv}(h:sG n m):jV n m.d=true:=by
 have e:Bi n (match m.shape with|some k=>D.int k|none=>.non)=true:=by
  cases hs:m.shape with
  | none=>rfl
  | some k=>
   have:=h.s k hs;exact bD (lo:=0) (hi:=(n:Int)-1) (i:=(k:Int)) ⟨by omega,by omega⟩
 show(Bi n (match m.shape with|some k=>D.int k|none=>.non)&&_)=true;rw[e,bD h.x,bD h.y,bD h.r,bD h.t];rfl
theorem yL {s:si}{mm:Int}(ok:rj mm s)(hm:mm≤12):jc s.d=true:=by
 have f:=nA ok.floor;have p:qR (.tup [.int s.sx,.int s.sy])=true:=by
  show(true&&([D.int s.sx,.int s.sy].all (ba (-1000) 1000)))=true;simp[bD ok.sx,bD ok.sy]
 have po:qq (.tup (s.pots.map D.int))=true:=by
  show(decide ((s.pots.map D.int).length=16)&&(s.pots.map D.int).all (ba 0 63))=true;rw[mQ ok.pots,length_map,ok.pl];rfl
 have b:nU (.tup (s.book.map aQ))=true:=by
  show(decide ((s.book.map aQ).length≤8)&&(s.book.map aQ).all (d7 8))=true;have:(s.book.map aQ).all (d7 8)=true:=all_eq_true.mpr fun x hx=>by
   obtain⟨q,hq,rfl⟩:=mem_map.mp hx;exact nA (ok.book q hq)
  rw[this,length_map];simp[ok.bl]
 have m:kB (iO (.tup (s.book.map aQ))) (.tup (s.movers.map Mv.d))=true:=by
  show(decide ((s.movers.map Mv.d).length≤12)&&(s.movers.map Mv.d).all (jV (s.book.map aQ).length))=true;have:(s.movers.map Mv.d).all (jV (s.book.map aQ).length)=true:=all_eq_true.mpr fun x hx=>by
   obtain⟨q,hq,rfl⟩:=mem_map.mp hx;rw[length_map];exact wW (ok.movers q hq)
  have l:s.movers.length≤12:=by have:=ok.ml;omega
  rw[this,length_map];simp[l]
 show((d7 16 (aQ s.floor)&&(qR (.tup [.int s.sx,.int s.sy])&&qq (.tup (s.pots.map D.int))))&&(nU (.tup (s.book.map aQ))&&kB (iO (.tup (s.book.map aQ))) (.tup (s.movers.map Mv.d))))=true;rw[f,p,po,b,m];rfl
noncomputable def zC:D→Bool
 | .tup [w,h,g,m]=>ba 1 40 w&&(ba 1 40 h&&(ba 0 20 g&&ba 0 12 m))
 | _=>false
theorem sN {d:D}{M:aq}(h:cE 1 d):fW [d] M=.ok (.bl (zC d)) M:=by
 have g1:=fz (i:=0) (ρ:=[some d,none,none,none,none]) (M:=M) h.1 rfl;show ax (h9 [some d,none,none,none,none] M)=_;unfold h9;cases ht:iQ d with
 | false=>
  rw[ht] at g1;rw[bH ((cu (dP (y:=false) (bA (cf g1)) fun z=>by cases z)).trans rfl)];clear g1;revert h ht;cases d <;> intro h ht <;> first|rfl|(cases ht)
 | true=>
  obtain⟨xs,rfl⟩:=pN ht;have hx:=h.2 xs rfl;have ne:g2 (aW true) (aB bp (aa (ae 0) ag)) (gC (.int 4)) [some (.tup xs),none,none,none,none] M=.ok (.bl (!decide ((xs.length:Int)=4))) M:=au (y:=.int 4) rfl rfl (oH _ _ _);have t1:=dP (bA (cf g1)) fun _=>bq ne
  match xs,hx,t1 with
  | [w,h,g,m],hx,t1=>
   rw[am ((db t1).trans rfl)];have q:∀z∈[w,h,g,m],ko z:=fun z hz=>hx.2 z hz
   have k1:=cn (lo:=1) (hi:=40) (M:=M) (q w (by simp));have k2:=cn (lo:=1) (hi:=40) (M:=M) (q h (by simp));have k3:=cn (lo:=0) (hi:=20) (M:=M) (q g (by simp));have k4:=cn (lo:=0) (hi:=12) (M:=M) (q m (by simp));have asg:cg (bN [1,2,3,4]) (ae 0) [some (.tup [w,h,g,m]),none,none,none,none] M=.ok (.nx [some (.tup [w,h,g,m]),some w,some h,some g,some m]) M:=rfl;rw[am asg];rw[aN (aZ (fi (y:=.int 1) (z:=.int 40) rfl rfl rfl k1) fun _=>aZ (fi (y:=.int 1) (z:=.int 40) rfl rfl rfl k2) fun _=>aZ (fi (y:=.int 0) (z:=.int 20) rfl rfl rfl k3) fun _=>fi (y:=.int 0) (z:=.int 12) rfl rfl rfl k4)];rfl
  | [],_,t1=>rw[bH ((cu t1).trans rfl)];rfl
  | [_],_,t1=>rw[bH ((cu t1).trans rfl)];rfl
  | [_,_],_,t1=>rw[bH ((cu t1).trans rfl)];rfl
  | [_,_,_],_,t1=>rw[bH ((cu t1).trans rfl)];rfl
  | _::_::_::_::_::r,_,t1=>
   have z:(!decide (((r.length+1+1+1+1+1:Nat):Int)=4))=true:=by simp;omega
   simp only[length_cons] at t1;rw[z] at t1;rw[bH ((cu t1).trans rfl)];rfl
structure FR (w h g m:Int):Prop where
 w:1≤w∧w≤40
 h:1≤h∧h≤40
 g:0≤g∧g≤20
 m:0≤m∧m≤12
noncomputable def oP (w h g m:Int):D:=.tup [.int w,.int h,.int g,.int m]
theorem wK {w h g m:Int}(k:FR w h g m):zC (oP w h g m)=true:=by
 show(ba 1 40 (.int w)&&(ba 1 40 (.int h)&&(ba 0 20 (.int g)&&ba 0 12 (.int m))))=true;rw[bD k.w,bD k.h,bD k.g,bD k.m];rfl
theorem sX {n:Nat}{w h g m:Int}:cE (n+1) (oP w h g m):=by
 refine cE.tup (by simp) fun x hx=>?_
 simp only[mem_cons,not_mem_nil,or_false] at hx;rcases hx with rfl|rfl|rfl|rfl <;> exact cE.int
structure Pt where
 lo:Int
 hi:Int
 at_:Int
 st:Int
deriving DecidableEq
noncomputable def Pt.d (p:Pt):D:=.tup [.int p.lo,.int p.hi,.int p.at_,.int p.st]
structure kO (p:Pt):Prop where
 l:p.lo≤p.at_
 h:p.at_≤p.hi
 w:p.hi≤p.lo+12
noncomputable def gO (p:Pt):Pt:=if p.lo≤p.at_+p.st∧p.at_+p.st≤p.hi then⟨p.lo,p.hi,p.at_+p.st,p.st⟩ else if p.lo≤p.at_-p.st∧p.at_-p.st≤p.hi then⟨p.lo,p.hi,p.at_-p.st,-p.st⟩ else⟨p.lo,p.hi,p.at_,-p.st⟩
noncomputable def bM:Nat→Pt→Pt
 | 0,p=>p
 | n+1,p=>gO (bM n p)
theorem uE (m n:Nat)(p:Pt):bM (m+n) p=bM m (bM n p):=by
 induction m with
 | zero=>rw[Nat.zero_add];rfl
 | succ m ih=>rw[show m+1+n=(m+n)+1 by omega];show gO (bM (m+n) p)=gO (bM m (bM n p));rw[ih]
theorem BD {p:Pt}(h:kO p):kO (gO p)∧(gO p).lo=p.lo∧(gO p).hi=p.hi∧((gO p).st=p.st∨(gO p).st=-p.st):=by
 unfold gO
 by_cases a:p.lo≤p.at_+p.st∧p.at_+p.st≤p.hi
 ·rw[if_pos a];exact⟨⟨a.1,a.2,h.w⟩,rfl,rfl,.inl rfl⟩
 ·rw[if_neg a]
  by_cases b:p.lo≤p.at_-p.st∧p.at_-p.st≤p.hi
  ·rw[if_pos b];exact⟨⟨b.1,b.2,h.w⟩,rfl,rfl,.inr rfl⟩
  ·rw[if_neg b];exact⟨⟨h.l,h.h,h.w⟩,rfl,rfl,.inr rfl⟩
theorem lz {p:Pt}(h:kO p):∀n,kO (bM n p)∧(bM n p).lo=p.lo∧(bM n p).hi=p.hi∧((bM n p).st=p.st∨(bM n p).st=-p.st)
 | 0=>⟨h,rfl,rfl,.inl rfl⟩
 | n+1=>by
  obtain⟨a,b,c,d⟩:=lz h n;obtain⟨a2,b2,c2,d2⟩:=BD a;refine⟨a2,b2.trans b,c2.trans c,?_⟩;show(gO (bM n p)).st=p.st∨(gO (bM n p)).st=-p.st;rcases d with d|d <;> rcases d2 with e|e <;> rw[e,d]
  ·exact .inl rfl
  ·exact .inr rfl
  ·exact .inr rfl
  ·exact .inl (Int.neg_neg _)
noncomputable def Ax (p q:Pt):Nat:=(q.at_-p.lo).toNat*2+if q.st=p.st then 0 else 1
theorem EU {p:Pt}(h:kO p)(n:Nat):Ax p (bM n p)<26:=by
 obtain⟨a,b,c,_⟩:=lz h n;have:=a.l;have:=a.h;have:=a.w;unfold Ax;rw[b] at *;split <;> omega
theorem uX {p:Pt}(h:kO p){m n:Nat}(e:Ax p (bM m p)=Ax p (bM n p)):bM m p=bM n p:=by
 obtain⟨a,b,c,d⟩:=lz h m;obtain⟨a2,b2,c2,d2⟩:=lz h n;have l1:=a.l;have l2:=a2.l;rw[b] at l1;rw[b2] at l2;unfold Ax at e;have ea:(bM m p).at_=(bM n p).at_:=by split at e <;> split at e <;> omega
 have es:(bM m p).st=(bM n p).st:=by
  split at e <;> split at e
  ·rename_i x y;rw[x,y]
  ·omega
  ·omega
  ·rename_i x y;rcases d with d|d
   ·exact absurd d x
   ·rcases d2 with q|q
    ·exact absurd q y
    ·rw[d,q]
 cases hm:bM m p with
 | mk _ _ _ _=>
  cases hn:bM n p with
  | mk _ _ _ _=>
   rw[hm] at b c ea es;rw[hn] at b2 c2 ea es;have x1:=b.trans b2.symm;have x2:=c.trans c2.symm;dsimp only at x1 x2 ea es;rw[x1,x2,ea,es]
theorem tB {p:Pt}(h:kO p):∃n j,j<n∧n≤26∧bM n p=bM j p:=by
 refine Classical.byContradiction fun z=>?_
 have inj:∀i j,i<27→j<27→i≠j→Ax p (bM i p)≠Ax p (bM j p):=fun i j hi hj ne e=>by
  rcases Nat.lt_or_gt_of_ne ne with lt|lt
  ·exact z ⟨j,i,lt,by omega,(uX h e).symm⟩
  ·exact z ⟨i,j,lt,by omega,uX h e⟩
 have nd:((List.range 27).map fun i=>Ax p (bM i p)).Nodup:=by
  rw[nodup_iff_pairwise_ne,pairwise_map];exact nodup_range.imp_of_mem fun {a b} ha hb ne=>inj a b (mem_range.mp ha) (mem_range.mp hb) ne
 have sub:∀x∈(List.range 27).map (fun i=>Ax p (bM i p)),x∈List.range 26:=fun x hx=>by
  obtain⟨i,_,rfl⟩:=mem_map.mp hx;exact mem_range.mpr (EU h i)
 have le:=nd.length_le_of_subset sub;rw[length_map,length_range,length_range] at le;omega
structure Ci (p:Pt)(n j:Nat):Prop where
 lt:j<n
 le:n≤26
 e:bM n p=bM j p
 new:∀i k,i<k→k<n→bM k p≠bM i p
theorem DO {p:Pt}(h:kO p):∃n j,Ci p n j:=by
 obtain⟨m,j0,hj,hm,e0⟩:=tB h;have:∀b,(∃n j,j<n∧n≤b∧bM n p=bM j p)→b≤26→∃n j,Ci p n j:=by
  intro b
  induction b with
  | zero=>intro⟨n,j,a,c,_⟩ _;omega
  | succ b ih=>
   intro⟨n,j,a,c,e⟩ hb
   by_cases q:∃n j,j<n∧n≤b∧bM n p=bM j p
   ·exact ih q (by omega)
   ·refine⟨n,j,a,by omega,e,fun i k hik hk z=>q ⟨k,i,hik,by omega,z⟩⟩
 exact this 26 ⟨m,j0,hj,hm,e0⟩ (Nat.le_refl _)
theorem wI {p:Pt}{n j:Nat}(o:Ci p n j)(i:Nat):bM (j+(n-j)+i) p=bM (j+i) p:=by
 have e:=o.lt;rw[show j+(n-j)+i=i+n by omega,uE,o.e,←uE,Nat.add_comm]
theorem oB {p:Pt}{n j:Nat}(o:Ci p n j)(i:Nat):∀k,bM (j+(n-j)*k+i) p=bM (j+i) p
 | 0=>by rw[Nat.mul_zero,Nat.add_zero]
 | k+1=>by
  have:=wI o ((n-j)*k+i);rw[Nat.mul_succ,show j+((n-j)*k+(n-j))+i=j+(n-j)+((n-j)*k+i) by omega,this,←Nat.add_assoc];exact oB o i k
theorem DR {p:Pt}{n j m:Nat}(o:Ci p n j)(h:n≤m):bM (j+(m-j) % (n-j)) p=bM m p:=by
 have l:=o.lt;have e:=Nat.div_add_mod (m-j) (n-j);have:=oB o ((m-j) % (n-j)) ((m-j) / (n-j));rw[←this,Nat.add_assoc,e,show j+(m-j)=m by omega]
theorem Jj (a b c:Int):(decide (a≤b)&&decide (b≤c))=decide (a≤b∧b≤c):=(Bool.decide_and ..).symm
theorem wm (p:Pt)(M:aq):gL [p.d] M=.ok (gO p).d M:=by
 show ax (eP [some p.d,none,none,none,none] M)=_;have k1:cg (bN [1,2,3,4]) (ae 0) [some p.d,none,none,none,none] M=.ok (.nx [some p.d,some (.int p.lo),some (.int p.hi),some (.int p.at_),some (.int p.st)]) M:=rfl;unfold eP;rw[am k1];have t1:=bq (j4 (a:=ae 1) (b:=g2 bb (ae 3) (ae 4)) (c:=ae 2) (ρ:=[some p.d,some (.int p.lo),some (.int p.hi),some (.int p.at_),some (.int p.st)]) (M:=M) (x:=p.lo) (y:=p.at_+p.st) (z:=p.hi) rfl rfl rfl);have t2:=bq (j4 (a:=ae 1) (b:=g2 du (ae 3) (ae 4)) (c:=ae 2) (ρ:=[some p.d,some (.int p.lo),some (.int p.hi),some (.int p.at_),some (.int p.st)]) (M:=M) (x:=p.lo) (y:=p.at_-p.st) (z:=p.hi) rfl rfl rfl);rw[Jj] at t1 t2;unfold gO
 by_cases a:p.lo≤p.at_+p.st∧p.at_+p.st≤p.hi
 ·rw[decide_eq_true a] at t1;rw[if_pos a,bH ((cu t1).trans (aN (bv (ds:=[.int p.lo,.int p.hi,.int (p.at_+p.st),.int p.st]) rfl)))];rfl
 ·rw[decide_eq_false a] at t1;rw[if_neg a,am ((db t1).trans rfl)]
  by_cases b:p.lo≤p.at_-p.st∧p.at_-p.st≤p.hi
  ·rw[decide_eq_true b] at t2;rw[if_pos b,bH ((cu t2).trans (aN (bv (ds:=[.int p.lo,.int p.hi,.int (p.at_-p.st),.int (-p.st)]) rfl)))];rfl
  ·rw[decide_eq_false b] at t2;rw[if_neg b,am ((db t2).trans rfl)];exact cN (bv (ds:=[.int p.lo,.int p.hi,.int p.at_,.int (-p.st)]) rfl)
noncomputable def Pt.k (p:Pt):List cr:=[.inl p.lo,.inl p.hi,.inl p.at_,.inl p.st]
theorem G9 {p q:Pt}(h:p.k=q.k):p=q:=by
 cases p;cases q;unfold Pt.k at h;simp only[List.cons.injEq,Sum.inl.injEq,and_true] at h;obtain⟨a,b,c,d⟩:=h;rw[a,b,c,d]
theorem Jm (p:Pt):nu p.d=some p.k:=rfl
noncomputable def k7 (p:Pt)(i:Nat):List (List cr×D):=(List.range i).map fun k=>((bM k p).k,D.int k)
theorem rK (p:Pt)(i:Nat):k7 p (i+1)=k7 p i++[((bM i p).k,D.int i)]:=by
 unfold k7;rw[range_succ,map_append];rfl
theorem BA (p:Pt)(i:Nat):(k7 p i).length=i:=by unfold k7;rw[length_map,length_range]
theorem m5 {p q:Pt}{i:Nat}(h:∀k,k<i→bM k p≠q):eF (k7 p i) q.k=none:=by
 unfold eF;rw[find?_eq_none.mpr fun x hx=>?_];rfl;obtain⟨k,hk,rfl⟩:=mem_map.mp hx;simp only[decide_eq_true_eq];exact fun z=>h k (mem_range.mp hk) (G9 z)
theorem yf {kvs:List (List cr×D)}{k q:List cr}{d:D}:eF (kvs++[(k,d)]) q=(eF kvs q).or (if k=q then some d else none):=by
 unfold eF;rw[find?_append];cases kvs.find? fun kv=>decide (kv.1=q) with
 | some x=>rfl
 | none=>
  rw[find?_cons]
  by_cases h:k=q
  ·rw[if_pos h];simp[h]
  ·rw[if_neg h];simp[h]
theorem nh {p:Pt}{j:Nat}(h:∀k,k<j→bM k p≠bM j p):∀{i:Nat},j<i→eF (k7 p i) (bM j p).k=some (.int j)
 | 0,hj=>absurd hj (Nat.not_lt_zero _)
 | i+1,hj=>by
  rw[rK,yf]
  by_cases q:j<i
  ·rw[nh h q];rfl
  ·have e:i=j:=by omega
   subst e;rw[m5 h,if_pos rfl];rfl
theorem yJ (M:aq)(kvs:List (List cr×D)):(M++[MO.dT kvs])[M.length]?=some (.dT kvs):=by simp
theorem m7 {α:Type}{f:Nat→List (List cr×D)→List cr→aq→aU α}{M:aq}{kvs:List (List cr×D)}{q:Pt}:gX f (.mr M.length) q.d (M++[MO.dT kvs])=f M.length kvs q.k (M++[MO.dT kvs]):=by
 unfold gX;dsimp only;rw[yJ];dsimp only;rw[Jm]
theorem Bb {M:aq}{kvs:List (List cr×D)}:vJ [.mr M.length] (M++[MO.dT kvs])=.ok (.int kvs.length) (M++[MO.dT kvs]):=by
 unfold vJ lW;dsimp only;rw[yJ]
theorem xA {M:aq}{kvs:List (List cr×D)}:oC [.mr M.length] (M++[MO.dT kvs])=.ok (.lst (kvs.map fun p=>.tup (p.1.map tH))) (M++[MO.dT kvs]):=by
 unfold oC lW;dsimp only;rw[yJ]
theorem zE {p:Pt}{M:aq}{i:Nat}(hi:i≤1000)(h:∀k,k<i→bM k p≠bM i p):fF [some (bM i p).d,some (.mr M.length)] (M++[.dT (k7 p i)])=.ok (.nx [some (bM (i+1) p).d,some (.mr M.length)]) (M++[.dT (k7 p (i+1))]):=by
 unfold fF;have k1:oj (ae 1) (ae 0) (aB vJ (aa (ae 1) ag)) [some (bM i p).d,some (.mr M.length)] (M++[.dT (k7 p i)])=.ok (.nx [some (bM i p).d,some (.mr M.length)]) (M++[.dT (k7 p (i+1))]):=by
  unfold oj;rw[lX (F:=vJ) (a:=ae 1) (x:=.mr M.length) (M1:=M++[.dT (k7 p i)]) rfl Bb,ai];rw[show ae 1 [some (bM i p).d,some (.mr M.length)] (M++[.dT (k7 p i)])=.ok (.mr M.length) (M++[.dT (k7 p i)]) from rfl,ai];rw[show ae 0 [some (bM i p).d,some (.mr M.length)] (M++[.dT (k7 p i)])=.ok (bM i p).d (M++[.dT (k7 p i)]) from rfl,ai];unfold CA;rw[m7,m5 h,BA];dsimp only;rw[if_pos (Nat.lt_of_le_of_lt hi (by rw[sizeLine_eq];decide)),ai,rK];simp
 rw[am k1];exact aC (bT (a:=ae 0) (x:=(bM i p).d) rfl (wm (bM i p) _))
theorem qj {p:Pt}{M:aq}{i:Nat}{q:Pt}{b:Bool}(h:(eF (k7 p i) q.k).isSome=!b):gQ [some q.d,some (.mr M.length)] (M++[.dT (k7 p i)])=.ok b (M++[.dT (k7 p i)]):=by
 refine bq (au (f:=Fg true) (a:=ae 0) (b:=ae 1) (x:=q.d) (y:=.mr M.length) rfl rfl ?_);unfold Fg;rw[m7,h];cases b <;> rfl
theorem zk {p:Pt}{M:aq}{n j:Nat}(o:Ci p n j):∀(r i:Nat),i+r=n→dO gQ fF (100-i) [some (bM i p).d,some (.mr M.length)] (M++[.dT (k7 p i)])=.ok (.nx [some (bM n p).d,some (.mr M.length)]) (M++[.dT (k7 p n)])
 | 0,i,e=>by
  have le:=o.le;have e:i=n:=by omega
  subst e;rw[show 100-i=(99-i)+1 by omega];refine sP (qj ?_);rw[o.e,nh (fun k hk z=>o.new k j hk o.lt z.symm) o.lt];rfl
 | r+1,i,e=>by
  have le:=o.le;rw[show 100-i=(99-i)+1 by omega];have new:∀k,k<i→bM k p≠bM i p:=fun k hk z=>o.new k i hk (by omega) z.symm
  refine(yA (qj (b:=true) ?_) (zE (by omega) new)).trans ?_
  ·rw[m5 new];rfl
  ·rw[show 99-i=100-(i+1) by omega];exact zk o r (i+1) (by omega)
noncomputable def jz (p:Pt)(n:Nat):List D:=(List.range n).map fun k=>(bM k p).d
theorem vd (p:Pt)(n m:Nat):(jz p n).all (ay (m+2))=true:=all_eq_true.mpr fun x hx=>by
 obtain⟨k,_,rfl⟩:=mem_map.mp hx;rfl
theorem yr {p:Pt}{M:aq}{n j:Nat}(o:Ci p n j)(hM:kl M):kD [p.d] M=.ok (.tup [.lst (jz p n),.int j]) M:=by
 show lV M.length (ax (iT [some p.d,none] M))=_;unfold iT;have k1:aG 1 rH [some p.d,none] M=.ok (.nx [some p.d,some (.mr M.length)]) (M++[.dT (k7 p 0)]):=rfl;have k2:nz 100 gQ fF [some p.d,some (.mr M.length)] (M++[.dT (k7 p 0)])=.ok (.nx [some (bM n p).d,some (.mr M.length)]) (M++[.dT (k7 p n)]):=zk (M:=M) o n 0 (Nat.zero_add _);have el:(k7 p n).map (fun q=>D.tup (q.1.map tH))=jz p n:=by
  unfold k7 jz;rw[map_map];rfl
 have k3:aA (aF (aa (aB oC (aa (ae 1) ag)) (aa (g2 qu (ae 1) (ae 0)) ag))) [some (bM n p).d,some (.mr M.length)] (M++[.dT (k7 p n)])=.ok (.rt (.tup [.lst (jz p n),.int j])) (M++[.dT (k7 p n)]):=by
  refine aN (bv (ds:=[.lst (jz p n),.int j]) (ak (lX (F:=oC) (a:=ae 1) (x:=.mr M.length) rfl (by rw[xA,el])) (ak (au (f:=qu) (a:=ae 1) (b:=ae 0) (x:=.mr M.length) (y:=(bM n p).d) rfl rfl ?_) rfl)));unfold qu;rw[m7,o.e,nh (fun k hk z=>o.new k j hk o.lt z.symm) o.lt]
 rw[am k1,am k2,k3];refine oU ?_ hM;show((jz p n).all (ay 28)&&([D.int j].all (ay 29)))=true;rw[vd];rfl
theorem uh {p:Pt}{n m:Nat}(h:m<n):(jz p n)[m]?=some (bM m p).d:=by
 unfold jz;rw[getElem?_map,getElem?_range h];rfl
theorem zF (p:Pt)(n:Nat):(jz p n).length=n:=by unfold jz;rw[length_map,length_range]
theorem yK {p:Pt}{M N:aq}{n j m:Nat}{l i:Nat}{ρ:bC}(o:Ci p n j)(hm:ρ[1]?=some (some (.int m)))(hj:ρ[i]?=some (some (.int j)))(hl:∀k:Nat,k<n→g2 aL (ae l) (gC (.int k)) ρ N=.ok (bM k p).d N)
  (hv:∀k:Nat,k<n→∀x,x ρ N=.ok (.int k) N→g2 aL (ae l) x ρ N=.ok (bM k p).d N) (hn:aB bp (aa (ae l) ag) ρ N=.ok (.int n) N) :
  ar (dL (aM (g2 qI (ae 1) (aB bp (aa (ae l) ag)))) (aA (g2 aL (ae l) (ae 1))) aD) (aA (g2 aL (ae l) (g2 bb (ae i) (g2 fI (g2 du (ae 1) (ae i)) (g2 du (aB bp (aa (ae l) ag)) (ae i)))))) ρ N=.ok (.rt (bM m p).d) N:=by
 have v1:ae 1 ρ N=.ok (.int m) N:=by unfold ae;rw[hm]
 have vi:ae i ρ N=.ok (.int j) N:=by unfold ae;rw[hj]
 have t1:aM (g2 qI (ae 1) (aB bp (aa (ae l) ag))) ρ N=.ok (decide ((m:Int)<n)) N:=bq (au (f:=qI) v1 hn rfl)
 by_cases h:m<n
 ·rw[decide_eq_true (by omega)] at t1;exact bH ((cu t1).trans (aN (hv m h _ v1)))
 ·rw[decide_eq_false (by omega)] at t1;rw[am ((db t1).trans rfl)];have lt:=o.lt;have hk:j+(m-j) % (n-j)<n:=by
   have:=Nat.mod_lt (m-j) (show 0<n-j by omega);omega
  refine(aN (hv (j+(m-j) % (n-j)) hk _ (au (f:=bb) vi (au (f:=fI) (au (f:=du) v1 vi rfl) (au (f:=du) hn vi rfl) (mh (by omega) N)) ?_))).trans ?_
  ·show aU.ok (D.int ((j:Int)+((m:Int)-j) % ((n:Int)-j))) N=_;rw[show(m:Int)-j=((m-j:Nat):Int) by omega,show(n:Int)-j=((n-j:Nat):Int) by omega,←Int.natCast_emod,←Int.natCast_add]
  ·rw[DR o (by omega)]
theorem B3 {p:Pt}{M:aq}{m:Nat}(h:kO p)(hM:kl M):jm [p.d,.int m] M=.ok (bM m p).d M:=by
 obtain⟨n,j,o⟩:=DO h;show ax (jp [some p.d,some (.int m),none,none] M)=_;unfold jp;have k1:cg (bN [2,3]) (aj 1 kD (aa (ae 0) ag)) [some p.d,some (.int m),none,none] M=.ok (.nx [some p.d,some (.int m),some (.lst (jz p n)),some (.int j)]) M:=by
  unfold cg;rw[bT (a:=ae 0) (x:=p.d) rfl (yr o hM),ai];rfl
 rw[am k1,yK (l:=2) (i:=3) (M:=M) o rfl rfl (fun k hk=>au (f:=aL) (a:=ae 2) (b:=gC (.int k)) (x:=.lst (jz p n)) (y:=.int k) rfl rfl (dU (uh hk))) (fun k hk x hx=>au (f:=aL) (a:=ae 2) (x:=.lst (jz p n)) rfl hx (dU (uh hk))) (lX (F:=bp) (a:=ae 2) (x:=.lst (jz p n)) rfl (by show aU.ok (D.int ((jz p n).length:Int)) M=_;rw[zF]))];rfl
structure gN where
 sh:D
 x:Int
 y:Int
 rk:D
 tn:D
 pr:Option (Pt×Pt)
noncomputable def gN.m (i:gN):D:=.tup [i.sh,.int i.x,.int i.y,i.rk,i.tn]
noncomputable def et:Option (Pt×Pt)→D
 | none=>.non
 | some (a,b)=>.tup [a.d,b.d]
noncomputable def uS (n:Nat):Option (Pt×Pt)→Option (Pt×Pt)
 | none=>none
 | some (a,b)=>some (bM n a,bM n b)
noncomputable def gN.go (n:Nat)(i:gN):gN:=match i.pr with
 | none=>i
 | some (a,b)=>{i with x:=(bM n a).at_,y:=(bM n b).at_,pr:=some (bM n a,bM n b)}
theorem Cc (n:Nat)(i:gN):(i.go n).pr=uS n i.pr:=by
 unfold gN.go;cases h:i.pr with
 | none=>exact h
 | some q=>rfl
noncomputable def Du (q:Option (Pt×Pt)):Prop:=∀a b,q=some (a,b)→kO a∧kO b
noncomputable def iG (fr fl s bk ps:D)(is:List gN):D:=.tup [fr,.tup [fl,s,bk,.tup (is.map gN.m),ps],.tup (is.map fun i=>et i.pr)]
theorem uR {α:Type}{ds0:List D}{ge:GE}{ρ:bC}{M:aq}{g h:α→D}:∀l:List α,(∀a∈l,ge (some (g a)::ρ) M=.ok (h a) M)→ce ⟨ds0,none⟩ bK ge (l.map g) ρ M=.ok (l.map h) M
 | [],_=>rfl
 | a::l,k=>by
  have ih:=uR (ds0:=ds0) (ge:=ge) (ρ:=ρ) (M:=M) (g:=g) (h:=h) l fun x hx=>k x (mem_cons_of_mem _ hx)
  show ce ⟨ds0,none⟩ bK ge (g a::l.map g) ρ M=_;unfold ce;rw[show mn.ok ⟨ds0,none⟩ M=true from rfl,if_pos rfl,show bK (some (g a)::ρ) M=.ok true M from rfl];dsimp only;rw[k a mem_cons_self];dsimp only;rw[ih];rfl
theorem mU {α:Type}{ds0:List D}{n:Nat}{sg:GG}{ge:GE}{ρ:bC}{M:aq}{g h:α→D}:∀l:List α,(∀a∈l,∃ρ1,sg (g a) (List.replicate n none++ρ)=some ρ1∧ge ρ1 M=.ok (h a) M)→aT ⟨ds0,none⟩ n sg bK ge (l.map g) ρ M=.ok (l.map h) M
 | [],_=>rfl
 | a::l,k=>by
  obtain⟨ρ1,e1,e2⟩:=k a mem_cons_self;have ih:=mU (ds0:=ds0) (n:=n) (sg:=sg) (ge:=ge) (ρ:=ρ) (M:=M) (g:=g) (h:=h) l fun x hx=>k x (mem_cons_of_mem _ hx)
  show aT ⟨ds0,none⟩ n sg bK ge (g a::l.map g) ρ M=_;unfold aT;rw[show mn.ok ⟨ds0,none⟩ M=true from rfl,if_pos rfl,e1];dsimp only;rw[show bK ρ1 M=.ok true M from rfl];dsimp only;rw[e2];dsimp only;rw[ih];rfl
theorem vh {q:Option (Pt×Pt)}{n:Nat}{M:aq}(h:Du q)(hM:kl M):lI [et q,.int n] M=.ok (et (uS n q)) M:=by
 cases q with
 | none=>exact rfl
 | some ab=>
  obtain⟨a,b⟩:=ab;obtain⟨ha,hb⟩:=h a b rfl;show ax (jk [some (.tup [a.d,b.d]),some (.int n),none,none] M)=_;unfold jk;rw[am ((db (M1:=M) rfl).trans rfl),am (show cg (bN [2,3]) (ae 0) [some (.tup [a.d,b.d]),some (.int n),none,none] M=.ok (.nx [some (.tup [a.d,b.d]),some (.int n),some a.d,some b.d]) M from rfl)];exact cN (bv (ds:=[(bM n a).d,(bM n b).d]) (ak (bw (a:=ae 2) (b:=ae 1) rfl rfl (B3 ha hM)) (ak (bw (a:=ae 3) (b:=ae 1) rfl rfl (B3 hb hM)) rfl)))
theorem D9 {a b:List D}{M:aq}(h:a.length+b.length≤1000):bb (.tup a) (.tup b) M=.ok (.tup (a++b)) M:=by
 unfold bb;dsimp only;rw[if_pos (bn (by omega))]
theorem n6 (a b:Pt)(M:aq):gj [.tup [a.d,b.d]] M=.ok (.tup [.int a.at_,.int b.at_]) M:=by
 show ax (gJ [some (.tup [a.d,b.d]),none,none] M)=_;unfold gJ;rw[am (show cg (bN [1,2]) (ae 0) [some (.tup [a.d,b.d]),none,none] M=.ok (.nx [some (.tup [a.d,b.d]),some a.d,some b.d]) M from rfl)];exact cN (bv (ds:=[.int a.at_,.int b.at_]) (ak (au (f:=aL) (a:=ae 1) (b:=gC (.int 2)) (x:=a.d) (y:=.int 2) rfl rfl (de (k:=2) rfl)) (ak (au (f:=aL) (a:=ae 2) (b:=gC (.int 2)) (x:=b.d) (y:=.int 2) rfl rfl (de (k:=2) rfl)) rfl)))
theorem sV {i:gN}{n:Nat}{M:aq}:jH [i.m,et (uS n i.pr)] M=.ok (i.go n).m M:=by
 unfold gN.go;cases h:i.pr with
 | none=>exact rfl
 | some ab=>
  obtain⟨a,b⟩:=ab;show ax (gY [some i.m,some (.tup [(bM n a).d,(bM n b).d])] M)=_;unfold gY;rw[am ((db (M1:=M) rfl).trans rfl)];exact cN (au (f:=bb) (x:=.tup [i.sh,.int (bM n a).at_,.int (bM n b).at_]) (y:=.tup [i.rk,i.tn]) (au (f:=bb) (x:=.tup [i.sh]) (y:=.tup [.int (bM n a).at_,.int (bM n b).at_]) rfl (bT (a:=ae 1) rfl (n6 _ _ M)) (D9 (a:=[i.sh]) (b:=[.int (bM n a).at_,.int (bM n b).at_]) (show 1+2≤1000 by decide))) rfl (D9 (a:=[i.sh,.int (bM n a).at_,.int (bM n b).at_]) (b:=[i.rk,i.tn]) (show 3+2≤1000 by decide)))
theorem pG {α:Type}(f g:α→D):∀l:List α,mW (l.map f) (l.map g)=l.map fun a=>.tup [f a,g a]
 | []=>rfl
 | a::l=>by
  have:=pG f g l;unfold mW at this ⊢;rw[map_cons,map_cons,zipWith_cons_cons,this];rfl
theorem vq {fr fl s bk ps:D}{is:List gN}{n:Nat}{M:aq}(h:∀i∈is,Du i.pr)(hl:is.length≤1000)(hM:kl M):gS [iG fr fl s bk ps is,.int n] M=.ok (iG fr fl s bk ps (is.map (gN.go n))) M:=by
 show ax (jy [some (iG fr fl s bk ps is),some (.int n),none,none,none,none,none,none,none,none,none,none] M)=_;unfold jy;rw[am (show cg (bN [2,3,4]) (ae 0) [some (iG fr fl s bk ps is),some (.int n),none,none,none,none,none,none,none,none,none,none] M=.ok (.nx [some (iG fr fl s bk ps is),some (.int n),some fr,some (.tup [fl,s,bk,.tup (is.map gN.m),ps]),some (.tup (is.map fun i=>et i.pr)),none,none,none,none,none,none,none]) M from rfl)];rw[am (show cg (bN [5,6,7,8,9]) (ae 3) [some (iG fr fl s bk ps is),some (.int n),some fr,some (.tup [fl,s,bk,.tup (is.map gN.m),ps]),some (.tup (is.map fun i=>et i.pr)),none,none,none,none,none,none,none] M=.ok (.nx [some (iG fr fl s bk ps is),some (.int n),some fr,some (.tup [fl,s,bk,.tup (is.map gN.m),ps]),some (.tup (is.map fun i=>et i.pr)),some fl,some s,some bk,some (.tup (is.map gN.m)),some ps,none,none]) M from rfl)];have k10:=mj (fq (i:=4) (ρ:=[some (iG fr fl s bk ps is),some (.int n),some fr,some (.tup [fl,s,bk,.tup (is.map gN.m),ps]),some (.tup (is.map fun i=>et i.pr)),some fl,some s,some bk,some (.tup (is.map gN.m)),some ps,none,none]) (M:=M) rfl) (uR (ge:=jN) (g:=fun i=>et i.pr) (h:=fun i=>et (uS n i.pr)) is fun i hi=>bw (a:=ae 0) (b:=ae 2) rfl rfl (vh (h i hi) hM)) (by rw[length_map];omega);have kz:oX (aa (ae 8) (aa (ae 10) ag)) [some (iG fr fl s bk ps is),some (.int n),some fr,some (.tup [fl,s,bk,.tup (is.map gN.m),ps]),some (.tup (is.map fun i=>et i.pr)),some fl,some s,some bk,some (.tup (is.map gN.m)),some ps,some (.tup (is.map fun i=>et (uS n i.pr))),none] M=.ok ⟨is.map fun i=>.tup [i.m,et (uS n i.pr)],none⟩ M:=by
  unfold oX;rw[ak (d:=.tup (is.map gN.m)) (M1:=M) (ds:=[.tup (is.map fun i=>et (uS n i.pr))]) (M2:=M) rfl rfl,ai];show(if(is.map gN.m).length=(is.map fun i=>et (uS n i.pr)).length then aU.ok (mn.mk (mW (is.map gN.m) (is.map fun i=>et (uS n i.pr))) none) M else .bad)=_;rw[if_pos (by rw[length_map,length_map]),pG]
 have k11:cA (oX (aa (ae 8) (aa (ae 10) ag))) 2 (bN [0,1]) bK iC aR [some (iG fr fl s bk ps is),some (.int n),some fr,some (.tup [fl,s,bk,.tup (is.map gN.m),ps]),some (.tup (is.map fun i=>et i.pr)),some fl,some s,some bk,some (.tup (is.map gN.m)),some ps,some (.tup (is.map fun i=>et (uS n i.pr))),none] M=.ok (.lst (is.map fun i=>(i.go n).m)) M:=by
  unfold cA;rw[kz,ai];dsimp only;rw[mU (ge:=iC) (g:=fun i=>.tup [i.m,et (uS n i.pr)]) (h:=fun i=>(i.go n).m) is fun i hi=>⟨_,rfl,bw (a:=ae 0) (b:=ae 1) rfl rfl sV⟩,ai];exact if_pos (bn (by rw[length_map];omega))
 refine(congrArg ax ((am (aC (d:=.tup (is.map fun i=>et (uS n i.pr))) (lX (F:=bV) k10 rfl))).trans ((am (aC (d:=.tup (is.map fun i=>(i.go n).m)) (lX (F:=bV) k11 rfl))).trans (aN (bv (ds:=[fr,.tup [fl,s,bk,.tup (is.map fun i=>(i.go n).m),ps],.tup (is.map fun i=>et (uS n i.pr))]) (ak rfl (ak (bv (ds:=[fl,s,bk,.tup (is.map fun i=>(i.go n).m),ps]) rfl) (ak rfl rfl)))))))).trans ?_;show aU.ok (D.tup [fr,.tup [fl,s,bk,.tup (is.map fun i=>(i.go n).m),ps],.tup (is.map fun i=>et (uS n i.pr))]) M=_;unfold iG;rw[map_map,map_map];congr 4;exact congrArg (fun z=>[D.tup z]) (map_congr_left fun i _=>by show _=et (i.go n).pr;rw[Cc])
theorem HJ (x:Int):ko (.int x):=⟨_,rfl⟩
theorem Gp {lo hi x:Int}(h:lo≤x∧x≤hi):ba lo hi (.int x)=true:=by
 show(decide (lo≤x)&&decide (x≤hi))=true;rw[decide_eq_true h.1,decide_eq_true h.2];rfl
theorem vb {lo hi x:Int}{M:aq}(h:lo≤x∧x≤hi):aH [.int x,.int lo,.int hi] M=.ok (.bl true) M:=by
 rw[cn (HJ x),Gp h]
structure Ic (p:Pt):Prop where
 ok:kO p
 lo:-900≤p.lo∧p.lo≤900
 st:-12≤p.st∧p.st≤12
theorem n1 {p:Pt}{M:aq}(g:Ic p):jv [p.d] M=.ok (.bl true) M:=by
 have hl:=g.ok.l;have hh:=g.ok.h;have hw:=g.ok.w;show ax (jl [some p.d,none,none,none,none] M)=_;unfold jl;rw[am ((db (M1:=M) rfl).trans rfl),am (show cg (bN [1,2,3,4]) (ae 0) [some p.d,none,none,none,none] M=.ok (.nx [some p.d,some (.int p.lo),some (.int p.hi),some (.int p.at_),some (.int p.st)]) M from rfl)];exact cN (aZ (x:=true) (fi (a:=ae 1) (b:=eW (gC (.int 900))) (c:=gC (.int 900)) (y:=.int (-900)) (z:=.int 900) rfl rfl rfl (vb g.lo)) fun _=>aZ (x:=true) (fi (a:=ae 2) (b:=ae 1) (c:=g2 bb (ae 1) (gC (.int 12))) (y:=.int p.lo) (z:=.int (p.lo+12)) rfl rfl rfl (vb ⟨by omega,by omega⟩)) fun _=>aZ (x:=true) (fi (a:=ae 3) (b:=ae 1) (c:=ae 2) rfl rfl rfl (vb ⟨hl,hh⟩)) fun _=>fi (a:=ae 4) (b:=eW (gC (.int 12))) (c:=gC (.int 12)) (y:=.int (-12)) (z:=.int 12) rfl rfl rfl (vb g.st))
structure DY (x y:Int)(q:Option (Pt×Pt)):Prop where
 g:∀a b,q=some (a,b)→Ic a∧Ic b∧a.at_=x∧b.at_=y
theorem vZ {m:Mv}{q:Option (Pt×Pt)}{M:aq}(h:DY m.x m.y q):eJ [m.d,et q] M=.ok (.bl true) M:=by
 show ax (eG [some m.d,some (et q)] M)=_;unfold eG;cases q with
 | none=>exact congrArg ax (bH ((cu (M1:=M) rfl).trans rfl))
 | some ab=>
  obtain⟨a,b⟩:=ab;obtain⟨ga,gb,ea,eb⟩:=h.g a b rfl;have pt:∀x∈[a.d,b.d],jv [x] M=.ok (.bl true) M:=fun x hx=>by
   rcases mem_cons.mp hx with e|e
   ·rw[e];exact n1 ga
   ·rw[mem_singleton.mp e];exact n1 gb
  have al:=iM (ge:=fN) (p:=fun _=>true) (fq (i:=1) (ρ:=[some m.d,some (.tup [a.d,b.d])]) (M:=M) rfl) (show 2≤100000 by decide) fun x hm=>bT (a:=ae 0) (x:=x) rfl (pt x hm)
  have e2:([a.d,b.d].all fun _=>true)=true:=rfl;rw[e2] at al;have t1:=dP (a:=bY (cM (eB "tuple" (ae 1)))) (ρ:=[some m.d,some (.tup [a.d,b.d])]) (M:=M) (x:=false) rfl fun _=>dP (a:=aM (g2 (aW true) (aB bp (aa (ae 1) ag)) (gC (.int 2)))) (x:=false) (bq (au (f:=aW true) (x:=.int 2) (y:=.int 2) rfl rfl (oH 2 2 M))) fun _=>bA (cf al)
  refine congrArg ax ((am ((db (M1:=M) rfl).trans rfl)).trans ((am ((db t1).trans rfl)).trans (aN (au (f:=aW false) (x:=.tup [.int m.x,.int m.y]) (y:=.tup [.int m.x,.int m.y]) rfl (bT (a:=ae 1) (x:=.tup [a.d,b.d]) rfl (by rw[n6,ea,eb])) ?_))));exact(show aW false (.tup [.int m.x,.int m.y]) (.tup [.int m.x,.int m.y]) M=.ok (.bl (((m.x==m.x)&&((m.y==m.y)&&true)) != false)) M from rfl).trans (by rw[beq_self_eq_true,beq_self_eq_true];rfl)
theorem IQ {α:Type}(l:List α)(M:aq):hX [.lst (l.map fun _=>D.bl true)] M=.ok (.bl true) M:=by
 have b:∀l:List α,cD (l.map fun _=>D.bl true)=some (l.map fun _=>true):=fun l=>by
  induction l with
  | nil=>rfl
  | cons a l ih=>
   show(cD (l.map fun _=>D.bl true)).map (true::·)=_;rw[ih];rfl
 show(match cD (l.map fun _=>D.bl true) with|some bs=>aU.ok (D.bl (bs.all id)) M|none=>.bad)=_;rw[b];dsimp only;congr 2
 induction l with
 | nil=>rfl
 | cons a l ih=>exact ih
noncomputable abbrev Mq:=Mv×Option (Pt×Pt)
theorem qT {w h g m:Int}{st:si}{qs:List Mq}{M:aq}(fk:fW [oP w h g m] M=.ok (.bl true) M)(sk:fL [st.d] M=.ok (.bl true) M)(hm:st.movers=qs.map Prod.fst)(hl:qs.length≤1000)(hq:∀q∈qs,DY q.1.x q.1.y q.2) :
  cK [.tup [oP w h g m,st.d,.tup (qs.map fun q=>et q.2)]] M=.ok (.bl true) M:=by
 show ax (jt [some (.tup [oP w h g m,st.d,.tup (qs.map fun q=>et q.2)]),none,none,none,none] M)=_;unfold jt;have em:st.movers.map Mv.d=qs.map fun q=>q.1.d:=by rw[hm,map_map];rfl
 rw[am ((db (M1:=M) rfl).trans rfl),am (show cg (bN [1,2,3]) (ae 0) [some (.tup [oP w h g m,st.d,.tup (qs.map fun q=>et q.2)]),none,none,none,none] M=.ok (.nx [some (.tup [oP w h g m,st.d,.tup (qs.map fun q=>et q.2)]),some (oP w h g m),some st.d,some (.tup (qs.map fun q=>et q.2)),none]) M from rfl)];have t2:=bA (mf (cf (bT (F:=fW) (a:=ae 1) (ρ:=[some (.tup [oP w h g m,st.d,.tup (qs.map fun q=>et q.2)]),some (oP w h g m),some st.d,some (.tup (qs.map fun q=>et q.2)),none]) (M:=M) rfl fk)) fun _=>mf (cf (bT (F:=fL) (a:=ae 2) rfl sk)) fun _=>(show cM (eB "tuple" (ae 3)) [some (.tup [oP w h g m,st.d,.tup (qs.map fun q=>et q.2)]),some (oP w h g m),some st.d,some (.tup (qs.map fun q=>et q.2)),none] M=.ok true M from rfl));rw[am ((db t2).trans rfl),am (aC (d:=.tup (st.movers.map Mv.d)) (au (f:=aL) (a:=ae 2) (b:=gC (.int 3)) (x:=st.d) (y:=.int 3) rfl rfl (de (k:=3) rfl)))];show ax (ar _ _ [some (.tup [oP w h g m,st.d,.tup (qs.map fun q=>et q.2)]),some (oP w h g m),some st.d,some (.tup (qs.map fun q=>et q.2)),some (.tup (st.movers.map Mv.d))] M)=_;rw[em];generalize D.tup [oP w h g m,st.d,.tup (qs.map fun q=>et q.2)]=F0;generalize oP w h g m=f0;generalize st.d=s0;have t3:aM (g2 (aW true) (aB bp (aa (ae 3) ag)) (aB bp (aa (ae 4) ag))) [some F0,some f0,some s0,some (.tup (qs.map fun q=>et q.2)),some (.tup (qs.map fun q=>q.1.d))] M=.ok (!decide (((qs.map fun q=>et q.2).length:Int)=((qs.map fun q=>q.1.d).length:Nat))) M:=bq (au (f:=aW true) (x:=.int ((qs.map fun q=>et q.2).length:Nat)) (y:=.int ((qs.map fun q=>q.1.d).length:Nat)) rfl rfl (oH _ _ _));rw[length_map,length_map,decide_eq_true rfl] at t3;refine(congrArg ax ((am ((db t3).trans rfl)).trans (aN (lX (F:=hX) (x:=.lst (qs.map fun _=>D.bl true)) (M1:=M) ?_ (IQ qs M))))).trans rfl;unfold cA oX;rw[ak (d:=.tup (qs.map fun q=>q.1.d)) (M1:=M) (ds:=[.tup (qs.map fun q=>et q.2)]) (M2:=M) rfl rfl,ai];show((if(qs.map fun q=>q.1.d).length=(qs.map fun q=>et q.2).length then aU.ok (mn.mk (mW (qs.map fun q=>q.1.d) (qs.map fun q=>et q.2)) none) M else .bad).bind _)=_;rw[if_pos (by rw[length_map,length_map]),ai,pG];dsimp only;rw[mU (ge:=jG) (g:=fun q:Mq=>.tup [q.1.d,et q.2]) (h:=fun _=>D.bl true) qs fun q hq'=>⟨_,rfl,bw (F:=eJ) (a:=ae 0) (b:=ae 1) rfl rfl (vZ (hq q hq'))⟩,ai];exact if_pos (bn (by rw[length_map];omega))
structure Fm where
 fr:D
 fl:D
 s:D
 bk:D
 ps:List Int
 is:List gN
noncomputable def Fm.d (f:Fm):D:=iG f.fr f.fl f.s f.bk (.tup (f.ps.map D.int)) f.is
structure HY (i:gN):Prop where
 pr:Du i.pr
 shp:ay 17 i.sh=true
 rkp:ay 17 i.rk=true
 tnp:ay 17 i.tn=true
 shc:aO 35 i.sh=true
 rkc:aO 35 i.rk=true
 tnc:aO 35 i.tn=true
structure dz (f:Fm):Prop where
 frp:ay 20 f.fr=true
 frc:aO 38 f.fr=true
 flp:ay 19 f.fl=true
 flc:aO 37 f.fl=true
 sp:ay 19 f.s=true
 sc:aO 37 f.s=true
 bkp:ay 19 f.bk=true
 bkc:aO 37 f.bk=true
 it:∀i∈f.is,HY i
 il:f.is.length≤1000
 pl:f.ps.length=16
theorem BM (is:List gN)(n:Nat):(is.map fun i=>et i.pr).all (ay (n+3))=true:=all_eq_true.mpr fun x hx=>by
 obtain⟨i,hi,rfl⟩:=mem_map.mp hx;cases i.pr with
 | none=>rfl
 | some ab=>rfl
theorem dz.pure {f:Fm}(h:dz f):ay 21 f.d=true:=by
 have ms:(f.is.map gN.m).all (ay 18)=true:=all_eq_true.mpr fun x hx=>by
  obtain⟨i,hi,rfl⟩:=mem_map.mp hx;have k:=h.it i hi;show(ay 17 i.sh&&(true&&(true&&(ay 17 i.rk&&(ay 17 i.tn&&true)))))=true;rw[k.shp,k.rkp,k.tnp];rfl
 show(ay 20 f.fr&&((ay 19 f.fl&&(ay 19 f.s&&(ay 19 f.bk&&((f.is.map gN.m).all (ay 18)&&((f.ps.map D.int).all (ay 18)&&true)))))&&((f.is.map fun i=>et i.pr).all (ay 19)&&true)))=true;rw[h.frp,h.flp,h.sp,h.bkp,ms,ll 17,BM f.is 16];rfl
theorem dz.cmp {f:Fm}(h:dz f):aO 39 f.d=true:=by
 have c1:bj 36 (f.is.map gN.m)=true:=fK fun x hx=>by
  obtain⟨i,hi,rfl⟩:=mem_map.mp hx;have k:=h.it i hi;show(aO 35 i.sh&&(true&&(true&&(aO 35 i.rk&&(aO 35 i.tn&&true)))))=true;rw[k.shc,k.rkc,k.tnc];rfl
 have c2:bj 37 (f.is.map fun i=>et i.pr)=true:=fK fun x hx=>by
  obtain⟨j,hj,rfl⟩:=mem_map.mp hx;cases j.pr with
  | none=>rfl
  | some ab=>rfl
 show(aO 38 f.fr&&((aO 37 f.fl&&(aO 37 f.s&&(aO 37 f.bk&&(bj 36 (f.is.map gN.m)&&(bj 36 (f.ps.map D.int)&&true)))))&&(bj 37 (f.is.map fun i=>et i.pr)&&true)))=true;rw[h.frc,h.flc,h.sc,h.bkc,c1,c2,iU];rfl
noncomputable def Fm.go (n:Nat)(f:Fm):Fm:={f with is:=f.is.map (gN.go n)}
noncomputable def Fm.shift (x y:Int)(f:Fm):Fm:={f with s:=.tup [.int x,.int y]}
noncomputable def Fm.pot (k:Nat)(h:Int)(f:Fm):Fm:={f with ps:=f.ps.set k h}
theorem HY.go {i:gN}(h:HY i)(n:Nat):HY (i.go n):=by
 have e:=Cc n i;refine⟨fun a b q=>?_,?_,?_,?_,?_,?_,?_⟩
 ·rw[e] at q;cases hp:i.pr with
  | none=>rw[hp] at q;cases q
  | some ab=>
   obtain⟨c,d⟩:=ab;rw[hp] at q;have q:some (bM n c,bM n d)=some (a,b):=q;cases q;obtain⟨h1,h2⟩:=h.pr c d hp;exact⟨(lz h1 n).1,(lz h2 n).1⟩
 all_goals
  unfold gN.go;cases i.pr with
  | none=>first|exact h.shp|exact h.rkp|exact h.tnp|exact h.shc|exact h.rkc|exact h.tnc
  | some ab=>first|exact h.shp|exact h.rkp|exact h.tnp|exact h.shc|exact h.rkc|exact h.tnc
theorem dz.go {f:Fm}(h:dz f)(n:Nat):dz (f.go n):=
 ⟨h.frp,h.frc,h.flp,h.flc,h.sp,h.sc,h.bkp,h.bkc,fun i hi=>by obtain⟨j,hj,rfl⟩:=mem_map.mp hi;exact(h.it j hj).go n,by show(f.is.map (gN.go n)).length≤1000;rw[length_map];exact h.il,h.pl⟩
theorem dz.shift {f:Fm}(h:dz f)(x y:Int):dz (f.shift x y):=⟨h.frp,h.frc,h.flp,h.flc,rfl,rfl,h.bkp,h.bkc,h.it,h.il,h.pl⟩
theorem dz.pot {f:Fm}(h:dz f)(k:Nat)(x:Int):dz (f.pot k x):=⟨h.frp,h.frc,h.flp,h.flc,h.sp,h.sc,h.bkp,h.bkc,h.it,h.il,by show(f.ps.set k x).length=16;rw[length_set];exact h.pl⟩
theorem HK {f:Fm}{n:Nat}{M:aq}(h:dz f)(hM:kl M):gS [f.d,.int n] M=.ok (f.go n).d M:=vq (fun i hi=>(h.it i hi).pr) h.il hM
noncomputable def HW (q:Mq):gN:=⟨match q.1.shape with|some k=>.int k|none=>.non,q.1.x,q.1.y,.int q.1.rank,.int q.1.turn,q.2⟩
noncomputable def nQ (w h g m:Int)(st:si)(qs:List Mq):Fm:=⟨oP w h g m,aQ st.floor,.tup [.int st.sx,.int st.sy],.tup (st.book.map aQ),st.pots,qs.map HW⟩
theorem Hr {w h g m:Int}{st:si}{qs:List Mq}(hm:st.movers=qs.map Prod.fst):(nQ w h g m st qs).d=.tup [oP w h g m,st.d,.tup (qs.map fun q=>et q.2)]:=by
 show D.tup [oP w h g m,.tup [aQ st.floor,.tup [.int st.sx,.int st.sy],.tup (st.book.map aQ),.tup ((qs.map HW).map gN.m),.tup (st.pots.map D.int)],.tup ((qs.map HW).map fun i=>et i.pr)]=_;unfold si.d;rw[hm,map_map,map_map,map_map];rfl
theorem nY (rs:List (List Int))(n:Nat):ay (n+3) (aQ rs)=true:=all_eq_true.mpr fun x hx=>by
 obtain⟨r,_,rfl⟩:=mem_map.mp hx;exact ll n r
theorem qO (rs:List (List Int))(n:Nat):aO (n+2) (aQ rs)=true:=fK (n:=n+1) fun x hx=>by
 obtain⟨r,_,rfl⟩:=mem_map.mp hx;exact iU n r
theorem F3 {w h g m:Int}{st:si}{qs:List Mq}(ok:rj 12 st)(hm:st.movers=qs.map Prod.fst)(hq:∀q∈qs,DY q.1.x q.1.y q.2):dz (nQ w h g m st qs):=by
 have ml:=ok.ml;have l:qs.length=st.movers.length:=by rw[hm,length_map]
 refine⟨rfl,rfl,nY st.floor 16,qO st.floor 35,rfl,rfl,?_,?_,?_,by show(qs.map HW).length≤1000;rw[length_map];omega,ok.pl⟩
 ·exact all_eq_true.mpr fun x hx=>by
   obtain⟨r,_,rfl⟩:=mem_map.mp hx;exact nY r 15
 ·exact fK (n:=36) fun x hx=>by
   obtain⟨r,_,rfl⟩:=mem_map.mp hx;exact qO r 34
 ·intro i hi;obtain⟨q,hqm,rfl⟩:=mem_map.mp hi;obtain⟨mv,pr⟩:=q;refine⟨fun a b e=>?_,?_,rfl,rfl,?_,rfl,rfl⟩
  ·obtain⟨ga,gb,_,_⟩:=(hq _ hqm).g a b e;exact⟨ga.ok,gb.ok⟩
  ·show ay 17 (match mv.shape with|some k=>.int k|none=>.non)=true;cases mv.shape <;> rfl
  ·show aO 35 (match mv.shape with|some k=>.int k|none=>.non)=true;cases mv.shape <;> rfl
theorem io:∀{n m:Nat} {d:D},n≤m→ay n d=true→ay m d=true
 | 0,_,_,_,h=>by cases h
 | n+1,0,_,hl,_=>absurd hl (Nat.not_succ_le_zero _)
 | n+1,m+1,d,hl,h=>by
  have up:∀xs:List D,xs.all (ay n)=true→xs.all (ay m)=true:=fun xs hx=>all_eq_true.mpr fun x h=>io (Nat.le_of_succ_le_succ hl) (all_eq_true.mp hx x h)
  cases d with
  | tup xs=>exact up xs h
  | lst xs=>exact up xs h
  | ro xs=>exact up xs h
  | mr k=>cases h
  | _=>rfl
theorem yW {a b c f:Int}(h0:0≤f)(h1:f<3):∃v,(v=a∨v=b∨v=c)∧∀M,aL (.lst [.int a,.int b,.int c]) (.int f) M=.ok (.int v) M:=by
 have:f=0∨f=1∨f=2:=by omega
 rcases this with rfl|rfl|rfl
 ·exact⟨a,.inl rfl,fun M=>dU (k:=0) rfl⟩
 ·exact⟨b,.inr (.inl rfl),fun M=>dU (k:=1) rfl⟩
 ·exact⟨c,.inr (.inr rfl),fun M=>dU (k:=2) rfl⟩
theorem li {a b:D}{f:Int}(h0:0≤f)(h1:f<2):∃v,(v=a∨v=b)∧∀M,aL (.lst [a,b]) (.int f) M=.ok v M:=by
 have:f=0∨f=1:=by omega
 rcases this with rfl|rfl
 ·exact⟨a,.inl rfl,fun M=>dU (k:=0) rfl⟩
 ·exact⟨b,.inr rfl,fun M=>dU (k:=1) rfl⟩
theorem nG {l:List Int}{rest N:aq}{ρ:bC}{i:Nat}{many:Int}(t:aP l rest N)(hi:ρ[i]?=some (some (.mr 0)))(h0:0<many)(h1:many.natAbs.log2<9000):∃f N1,0≤f∧f<many∧aP l rest N1∧∀g:GE,g ρ N=.ok (.int many) N→aj 2 ah (aa (ae i) (aa g ag)) ρ N=.ok (.int f) N1:=by
 obtain⟨f,N1,a,b,t1,e⟩:=bg h0 h1 t;exact⟨f,N1,a,b,t1,fun g hg=>bw (a:=ae i) (by unfold ae;rw[hi]) hg e⟩
theorem yv {l:List Int}{rest M:aq}{x:Int}(t:aP l rest M):∃p M',kO p∧p.at_=x∧(-12≤p.st∧p.st≤12)∧aP l rest M'∧eD [.mr 0,.int x] M=.ok p.d M':=by
 obtain⟨f1,N1,a1,b1,t1,e1⟩:=nG (ρ:=[some (.mr 0),some (.int x),none,none,none]) (i:=0) (many:=13) t rfl (by decide) (av (by decide) (by decide));obtain⟨f2,N2,a2,b2,t2,e2⟩:=nG (ρ:=[some (.mr 0),some (.int x),none,none,none]) (i:=0) (many:=4) t1 rfl (by decide) (av (by decide) (by decide));obtain⟨f3,N3,a3,b3,t3,e3⟩:=nG (ρ:=[some (.mr 0),some (.int x),none,none,none]) (i:=0) (many:=3) t2 rfl (by decide) (av (by decide) (by decide));obtain⟨sp,hs,es⟩:=yW (a:=f1) (b:=12) (c:=f2) a3 b3;have s0:0≤sp∧sp≤12:=by rcases hs with h|h|h <;> omega
 obtain⟨f4,N4,a4,b4,t4,e4⟩:=nG (ρ:=[some (.mr 0),some (.int x),some (.int sp),none,none]) (i:=0) (many:=sp+1) t3 rfl (by omega) (av (by omega) (by omega));obtain⟨f5,N5,a5,b5,t5,e5⟩:=nG (ρ:=[some (.mr 0),some (.int x),some (.int sp),some (.int (x-f4)),none]) (i:=0) (many:=25) t4 rfl (by decide) (av (by decide) (by decide));obtain⟨f6,N6,a6,b6,t6,e6⟩:=nG (ρ:=[some (.mr 0),some (.int x),some (.int sp),some (.int (x-f4)),none]) (i:=0) (many:=5) t5 rfl (by decide) (av (by decide) (by decide));obtain⟨f7,N7,a7,b7,t7,e7⟩:=nG (ρ:=[some (.mr 0),some (.int x),some (.int sp),some (.int (x-f4)),none]) (i:=0) (many:=2) t6 rfl (by decide) (av (by decide) (by decide));obtain⟨v,hv,ev⟩:=li (a:=.int (f5-12)) (b:=.int (f6-2)) a7 b7;obtain⟨st,hst,hs12⟩:∃st:Int,v=.int st∧(-12≤st∧st≤12):=by
  rcases hv with h|h
  ·exact⟨_,h,by omega,by omega⟩
  ·exact⟨_,h,by omega,by omega⟩
 subst hst;refine⟨⟨x-f4,x-f4+sp,x,st⟩,N7,⟨by show x-f4≤x;omega,by show x≤x-f4+sp;omega,by show x-f4+sp≤x-f4+12;omega⟩,rfl,hs12,t7,?_⟩;show ax (g6 [some (.mr 0),some (.int x),none,none,none] M)=_;unfold g6;refine(congrArg ax ((am (aC (au (f:=aL) (dZ (ds:=[.int f1,.int 12,.int f2]) (ak (e1 _ rfl) (ak rfl (ak (e2 _ rfl) rfl)))) (e3 _ rfl) (es N3)))).trans ((am (aC (au (f:=du) (a:=ae 1) (x:=.int x) rfl (e4 _ rfl) rfl))).trans ((am (aC (au (f:=aL) (dZ (ds:=[.int (f5-12),.int (f6-2)]) (ak (au (f:=du) (e5 _ rfl) (b:=gC (.int 12)) (y:=.int 12) rfl rfl) (ak (au (f:=du) (e6 _ rfl) (b:=gC (.int 2)) (y:=.int 2) rfl rfl) rfl))) (e7 _ rfl) (ev N7)))).trans (aN (bv (ds:=[.int (x-f4),.int (x-f4+sp),.int x,.int st]) rfl)))))).trans rfl
section
variable {l:List Int}{rest N:aq}{P A C:List D}
theorem Gs (t:aP l (rest++[.lst P]++[.lst A]) N):N[rest.length+1]?=some (.lst P):=by
 obtain⟨i,c,_,rfl⟩:=t;simp
theorem FP (t:aP l (rest++[.lst P]++[.lst A]) N):N[rest.length+2]?=some (.lst A):=by
 obtain⟨i,c,_,rfl⟩:=t;simp
theorem F1 (t:aP l (rest++[.lst P]++[.lst A]) N):aP l (rest++[.lst C]++[.lst A]) (N.set (rest.length+1) (.lst C)):=by
 obtain⟨i,c,h,rfl⟩:=t;exact⟨i,c,h,by simp⟩
theorem FG (t:aP l (rest++[.lst P]++[.lst A]) N):aP l (rest++[.lst P]++[.lst C]) (N.set (rest.length+2) (.lst C)):=by
 obtain⟨i,c,h,rfl⟩:=t;exact⟨i,c,h,by simp⟩
end
noncomputable def mx (x:Int):Int:=if(if x<880 then x else 880)>-880 then(if x<880 then x else 880) else -880
theorem zD (x:Int):-880≤mx x∧mx x≤880:=by
 unfold mx;split <;> split at*<;> omega
noncomputable def BZ (m:Mv):Mv:=⟨m.shape,mx m.x,mx m.y,m.rank,m.turn⟩
theorem JL {a:Pt}{x:Int}(h:kO a)(e:a.at_=mx x)(hs:-12≤a.st∧a.st≤12):Ic a:=by
 have b:=zD x;have h1:=h.l;have h2:=h.h;have h3:=h.w;exact⟨h,⟨by omega,by omega⟩,hs⟩
theorem v4 {l:List Int}{rest N:aq}{P A:List D}{x2 x3:Option D}{sh:D}{x y rk tn:Int}(lp:P.length<1000)(la:A.length<1000)(t:aP l (rest++[.lst P]++[.lst A]) N) :
  ∃pr N' y7 y8,DY (mx x) (mx y) pr∧aP l (rest++[.lst (P++[et pr])]++[.lst (A++[.tup [sh,.int (mx x),.int (mx y),.int rk,.int tn]])]) N'∧cC [some (.mr 0),some (.int 8),x2,x3,some (.mr (rest.length+1)),some (.mr (rest.length+2)),some sh,some (.int x),some (.int y),some (.int rk),some (.int tn)] N=.ok (.nx [some (.mr 0),some (.int 8),x2,x3,some (.mr (rest.length+1)),some (.mr (rest.length+2)),some sh,y7,y8,some (.int rk),some (.int tn)]) N':=by
 have t1:=FG (C:=A++[.tup [sh,.int (mx x),.int (mx y),.int rk,.int tn]]) t;obtain⟨a,N2,oa,ea,sa,u2,w2⟩:=yv (x:=mx x) t1;obtain⟨b,N3,ob,eb,sb,u3,w3⟩:=yv (x:=mx y) u2;obtain⟨f,N4,a4,b4,u4,w4⟩:=nG (ρ:=[some (.mr 0),some (.int 8),x2,x3,some (.mr (rest.length+1)),some (.mr (rest.length+2)),some sh,some (.int (mx x)),some (.int (mx y)),some (.int rk),some (.int tn)]) (i:=0) (many:=4) u3 rfl (by decide) (av (by decide) (by decide));obtain⟨v,hv,ev⟩:=li (a:=.tup [a.d,b.d]) (b:=.non) (f:=f / 3) (by omega) (by omega);have ap1:=dX (tR (go:=ae 5) (ge:=aF (aa (ae 6) (aa (ae 7) (aa (ae 8) (aa (ae 9) (aa (ae 10) ag)))))) (ρ:=[some (.mr 0),some (.int 8),x2,x3,some (.mr (rest.length+1)),some (.mr (rest.length+2)),some sh,some (.int (mx x)),some (.int (mx y)),some (.int rk),some (.int tn)]) rfl (FP t) (bv (ds:=[sh,.int (mx x),.int (mx y),.int rk,.int tn]) rfl) (FP t) (by omega));have ap2:=dX (tR (go:=ae 4) (ge:=g2 aL (dk (aa (aF (aa (aj 2 eD (aa (ae 0) (aa (ae 7) ag))) (aa (aj 2 eD (aa (ae 0) (aa (ae 8) ag))) ag))) (aa (gC .non) ag))) (g2 dt (aj 2 ah (aa (ae 0) (aa (gC (.int 4)) ag))) (gC (.int 3)))) (ρ:=[some (.mr 0),some (.int 8),x2,x3,some (.mr (rest.length+1)),some (.mr (rest.length+2)),some sh,some (.int (mx x)),some (.int (mx y)),some (.int rk),some (.int tn)]) (d:=v) rfl (Gs t1) (au (f:=aL) (dZ (ds:=[.tup [a.d,b.d],.non]) (ak (bv (ds:=[a.d,b.d]) (ak (bw (a:=ae 0) (b:=ae 7) rfl rfl w2) (ak (bw (a:=ae 0) (b:=ae 8) rfl rfl w3) rfl))) (ak (d:=.non) rfl rfl))) (au (f:=dt) (w4 _ rfl) (b:=gC (.int 3)) (y:=.int 3) rfl (pQ (by decide) (by decide) N4)) (ev N4)) (Gs u4) (by omega));have u5:=F1 (C:=P++[v]) u4;have run:cC [some (.mr 0),some (.int 8),x2,x3,some (.mr (rest.length+1)),some (.mr (rest.length+2)),some sh,some (.int x),some (.int y),some (.int rk),some (.int tn)] N=_:=(am (aC (d:=.int (mx x)) rfl)).trans ((am (aC (d:=.int (mx y)) rfl)).trans ((am ap1).trans ap2));rcases hv with hv|hv
 ·subst hv;exact⟨some (a,b),_,_,_,⟨fun c d q=>by cases q;exact⟨JL oa ea sa,JL ob eb sb,ea,eb⟩⟩,u5,run⟩
 ·subst hv;exact⟨none,_,_,_,⟨(fun c d q=>by cases q)⟩,u5,run⟩
theorem uf (l:List Int)(i c:Int):kl [tp l i c]:=by
 refine kl.pure ?_;show((D.lst (l.map D.int)::[D.int i,D.int c]).all (ay 30)&&true)=true;have:=ll 28 l;simp[ay,this]
theorem sW {l:List Int}{x2 x3:Option D}(ms:List Mv)(hms:ms.length≤900){N:aq}(t:aP l ([]++[.lst []]++[.lst []]) N):∃(qs:List Mq) (N':aq) (y:Nat→Option D),qs.map Prod.fst=ms.map BZ∧(∀q∈qs,DY q.1.x q.1.y q.2)∧aP l ([]++[.lst (qs.map fun q=>et q.2)]++[.lst (qs.map fun q=>q.1.d)]) N'∧
  dR ⟨ms.map Mv.d,none⟩ (bN [6,7,8,9,10]) cC (ms.map Mv.d) [some (.mr 0),some (.int 8),x2,x3,some (.mr 1),some (.mr 2),none,none,none,none,none] N=.ok (.nx [some (.mr 0),some (.int 8),x2,x3,some (.mr 1),some (.mr 2),y 6,y 7,y 8,y 9,y 10]) N':=by
 obtain⟨ρ',N',⟨qs,y,rfl,hl,hi,t'⟩,ef⟩:=pT (ds0:=ms.map Mv.d) (s:=bN [6,7,8,9,10]) (body:=cC) (W:=fun j ρ N=>∃(qs:List Mq) (y:Nat→Option D),ρ=[some (.mr 0),some (.int 8),x2,x3,some (.mr 1),some (.mr 2),y 6,y 7,y 8,y 9,y 10]∧qs.map Prod.fst=(ms.take j).map BZ∧(∀q∈qs,DY q.1.x q.1.y q.2)∧aP l ([]++[.lst (qs.map fun q=>et q.2)]++[.lst (qs.map fun q=>q.1.d)]) N) (ms.map Mv.d) 0 (fun j d hd ρ N hW=>by
  obtain⟨qs,y,rfl,hl,hi,t⟩:=hW;have hj:=(List.getElem?_eq_some_iff.mp hd).1;rw[length_map] at hj;rw[getElem?_map] at hd;obtain⟨m,hm,rfl⟩:=Option.map_eq_some_iff.mp hd;have ql:qs.length≤ms.length:=by
   have:=congrArg List.length hl;rw[length_map,length_map,length_take] at this;omega
  obtain⟨pr,N',y7,y8,k,t',e⟩:=v4 (rest:=[]) (x2:=x2) (x3:=x3) (sh:=match m.shape with|some k=>.int k|none=>.non) (x:=m.x) (y:=m.y) (rk:=m.rank) (tn:=m.turn) (by rw[length_map];omega) (by rw[length_map];omega) t;refine⟨_,_,N',rfl,e,qs++[(BZ m,pr)],fun z=>[some (match m.shape with|some k=>D.int k|none=>.non),y7,y8,some (.int m.rank),some (.int m.turn)][z-6]?.getD none,rfl,?_,?_,?_⟩
  ·rw[map_append,hl,Nat.zero_add,take_add_one,hm,map_append];rfl
  ·intro i h;rcases mem_append.mp h with q|q
   ·exact hi i q
   ·rw[mem_singleton.mp q];exact k
  ·rw[map_append,map_append];exact t') [some (.mr 0),some (.int 8),x2,x3,some (.mr 1),some (.mr 2),none,none,none,none,none] N ⟨[],fun _=>none,rfl,rfl,(fun i h=>by cases h),t⟩
 rw[Nat.zero_add,length_map,take_length] at hl;exact⟨qs,N',y,hl,hi,t',ef⟩
theorem CL {n:Nat}{m:Mv}(h:sG n m):sG n (BZ m):=by
 have a:=zD m.x;have b:=zD m.y;exact⟨h.s,⟨by show -1000≤mx m.x;omega,by show mx m.x≤1000;omega⟩,⟨by show -1000≤mx m.y;omega,by show mx m.y≤1000;omega⟩,h.r,h.t⟩
structure om (w h g m:Int)(st:si)(qs:List Mq):Prop where
 fr:FR w h g m
 ok:rj 12 st
 hm:st.movers=qs.map Prod.fst
 pr:∀q∈qs,DY q.1.x q.1.y q.2
theorem om.fm {w h g m:Int}{st:si}{qs:List Mq}(k:om w h g m st qs):dz (nQ w h g m st qs):=F3 k.ok k.hm k.pr
theorem om.is {w h g m:Int}{st:si}{qs:List Mq}{M:aq}(k:om w h g m st qs):cK [(nQ w h g m st qs).d] M=.ok (.bl true) M:=by
 have ml:=k.ok.ml;have l:qs.length=st.movers.length:=by rw[k.hm,length_map]
 rw[Hr k.hm];refine qT ?_ ?_ k.hm (by omega) k.pr
 ·rw[sN sX,wK k.fr]
 ·rw[sU (x9 k.ok (by decide)),yL k.ok (by decide)]
theorem uY {l:List Int}{M:aq}(t:aP l [] M):∃w hh g m st qs M',om w hh g m st qs∧aP l [] M'∧dG [.mr 0,.int 8] M=.ok (nQ w hh g m st qs).d M':=by
 obtain⟨w,hh,g,m,M1,kw,kh,kg,km,t1,e1⟩:=xH (most:=8) (by decide) (by decide) t;obtain⟨f,M2,a2,b2,t2,e2⟩:=nG (ρ:=[some (.mr 0),some (.int 8),some (.tup [.int w,.int hh,.int g,.int m]),none,none,none,none,none,none,none,none]) (i:=0) (many:=4) t1 rfl (by decide) (av (by decide) (by decide));obtain⟨v,hv,ev⟩:=li (a:=.int 4) (b:=.int 12) (f:=f / 3) (by omega) (by omega);obtain⟨mm,hmm,h4⟩:∃mm:Int,v=.int mm∧0≤mm∧mm≤12:=by rcases hv with h|h <;> exact⟨_,h,by decide,by decide⟩
 subst hmm;obtain⟨st,M3,ok,t3,e3⟩:=yP (w:=w) (hh:=hh) (more:=[.int g,.int m]) (mm:=mm) ⟨by omega,by omega⟩ ⟨by omega,by omega⟩ ⟨h4.1,by omega⟩ t2;have ml:=ok.ml;have t5:aP l ([]++[.lst []]++[.lst []]) (M3++[.lst []]++[.lst []]):=by
  obtain⟨i,c,h,rfl⟩:=t3;exact⟨i,c,h,rfl⟩
 obtain⟨qs,N,y,il,ii,t6,ef⟩:=sW (x2:=some (.tup [.int w,.int hh,.int g,.int m])) (x3:=some st.d) st.movers (by omega) t5;obtain⟨i,c,hi,rfl⟩:=t6;have l3:M3.length=1:=by obtain⟨i,c,h,rfl⟩:=t3;rfl
 have lM:M.length=1:=by obtain⟨i,c,h,rfl⟩:=t;rfl
 have fg:om w hh g m {st with movers:=st.movers.map BZ} qs:=by
  refine⟨⟨by omega,by omega,by omega,by omega⟩,⟨ok.floor,ok.sx,ok.sy,ok.bl,ok.book,?_,?_,ok.pl,ok.pots⟩,il.symm,ii⟩
  ·show((st.movers.map BZ).length:Int)≤12;rw[length_map];omega
  ·intro x hx;obtain⟨y,hy,rfl⟩:=mem_map.mp hx;exact CL (ok.movers y hy)
 refine⟨w,hh,g,m,_,qs,[tp l i c],fg,⟨i,c,hi,rfl⟩,?_⟩;show lV M.length (ax (eT [some (.mr 0),some (.int 8),none,none,none,none,none,none,none,none,none] M))=_;unfold eT;have k4:aG 4 (fB ag) [some (.mr 0),some (.int 8),some (.tup [.int w,.int hh,.int g,.int m]),some st.d,none,none,none,none,none,none,none] M3=.ok (.nx [some (.mr 0),some (.int 8),some (.tup [.int w,.int hh,.int g,.int m]),some st.d,some (.mr 1),none,none,none,none,none,none]) (M3++[.lst []]):=by
  rw[←l3];exact aC l8
 have k5:aG 5 (fB ag) [some (.mr 0),some (.int 8),some (.tup [.int w,.int hh,.int g,.int m]),some st.d,some (.mr 1),none,none,none,none,none,none] (M3++[.lst []])=.ok (.nx [some (.mr 0),some (.int 8),some (.tup [.int w,.int hh,.int g,.int m]),some st.d,some (.mr 1),some (.mr 2),none,none,none,none,none]) (M3++[.lst []]++[.lst []]):=by
  rw[show(2:Nat)=(M3++[MO.lst []]).length by rw[length_append,l3];rfl];exact aC l8
 have kf:m9 (eE (g2 aL (ae 3) (gC (.int 3)))) (bN [6,7,8,9,10]) cC [some (.mr 0),some (.int 8),some (.tup [.int w,.int hh,.int g,.int m]),some st.d,some (.mr 1),some (.mr 2),none,none,none,none,none] (M3++[.lst []]++[.lst []])=_:=o4 (t:=⟨st.movers.map Mv.d,none⟩) (by
  unfold eE;rw[au (f:=aL) (a:=ae 3) (b:=gC (.int 3)) (x:=st.d) (y:=.int 3) (o:=.ok (.tup (st.movers.map Mv.d)) (M3++[.lst []]++[.lst []])) rfl rfl (de (k:=3) rfl),ai];rfl) ef
 have pf:ay 30 (nQ w hh g m {st with movers:=st.movers.map BZ} qs).d=true:=io (by decide) fg.fm.pure;have ed:=Hr (w:=w) (h:=hh) (g:=g) (m:=m) fg.hm;have e4:(st.movers.map BZ).map Mv.d=qs.map fun q=>q.1.d:=by rw[←il,map_map];rfl
 unfold si.d at ed;dsimp only at ed;rw[e4] at ed;rw[ed] at pf ⊢;generalize (qs.map fun q=>et q.2)=P at *;generalize (qs.map fun q=>q.1.d)=A at *;have s3:lF (ae 3) bh (cH (gC (.int 3))) [some (.mr 0),some (.int 8),some (.tup [.int w,.int hh,.int g,.int m]),some st.d,some (.mr 1),some (.mr 2),y 6,y 7,y 8,y 9,y 10] (tp l i c::([]++[.lst P]++[.lst A]))=.ok (.tup [aQ st.floor,.tup [.int st.sx,.int st.sy],.tup (st.book.map aQ)]) (tp l i c::([]++[.lst P]++[.lst A])):=rfl;have kr:aA (aF (aa (ae 2) (aa (g2 bb (lF (ae 3) bh (cH (gC (.int 3)))) (aF (aa (aB bV (aa (ae 5) ag)) (aa (g2 aL (ae 3) (gC (.int 4))) ag)))) (aa (aB bV (aa (ae 4) ag)) ag)))) [some (.mr 0),some (.int 8),some (.tup [.int w,.int hh,.int g,.int m]),some st.d,some (.mr 1),some (.mr 2),y 6,y 7,y 8,y 9,y 10] (tp l i c::([]++[.lst P]++[.lst A]))=.ok (.rt (.tup [.tup [.int w,.int hh,.int g,.int m],.tup [aQ st.floor,.tup [.int st.sx,.int st.sy],.tup (st.book.map aQ),.tup A,.tup (st.pots.map D.int)],.tup P])) (tp l i c::([]++[.lst P]++[.lst A])):=aN (bv (ds:=[.tup [.int w,.int hh,.int g,.int m],.tup [aQ st.floor,.tup [.int st.sx,.int st.sy],.tup (st.book.map aQ),.tup A,.tup (st.pots.map D.int)],.tup P]) (ak rfl (ak (au (f:=bb) (x:=.tup [aQ st.floor,.tup [.int st.sx,.int st.sy],.tup (st.book.map aQ)]) (y:=.tup [.tup A,.tup (st.pots.map D.int)]) s3 (bv (ds:=[.tup A,.tup (st.pots.map D.int)]) (ak rfl (ak (au (f:=aL) (a:=ae 3) (b:=gC (.int 4)) (x:=st.d) (y:=.int 4) rfl rfl (de (k:=4) rfl)) rfl))) (D9 (a:=[aQ st.floor,.tup [.int st.sx,.int st.sy],.tup (st.book.map aQ)]) (b:=[.tup A,.tup (st.pots.map D.int)]) (show 3+2≤1000 by decide))) (ak rfl rfl))));refine(congrArg (fun o=>lV M.length (ax o)) ((am (aC (bw (a:=ae 0) (b:=ae 1) rfl rfl e1))).trans ((am (aC (fi (a:=ae 0) (b:=ae 2) rfl rfl (au (f:=aL) (dZ (ds:=[.int 4,.int 12]) rfl) (au (f:=dt) (e2 _ rfl) (b:=gC (.int 3)) (y:=.int 3) rfl (pQ (by decide) (by decide) M2)) (ev M2)) e3))).trans ((am k4).trans ((am k5).trans ((am kf).trans kr)))))).trans ?_;rw[lM];exact oU (M:=[tp l i c]) (E:=[.lst P,.lst A]) pf (uf l i c)
theorem yO (xs:List D)(k:Nat):gV xs (some (k:Int)) none=xs.drop k:=by
 unfold gV;rw[HT.sIx_nat,HT.sIx_none]
 by_cases h:k≤xs.length
 ·rw[Nat.min_eq_left h];exact take_of_length_le (by simp)
 ·rw[Nat.min_eq_right (by omega),drop_eq_nil_of_le (Nat.le_refl _),drop_eq_nil_of_le (by omega),take_nil]
theorem wF (xs:List D)(k:Nat):gV xs none (some (k:Int))=xs.take k:=by
 unfold gV;rw[HT.sIx_nat,HT.sIx_none,drop_zero,Nat.sub_zero]
 by_cases h:k≤xs.length
 ·rw[Nat.min_eq_left h]
 ·rw[Nat.min_eq_right (by omega),take_of_length_le (Nat.le_refl _),take_of_length_le (by omega)]
theorem BO {x y:Int}{M:aq}(hx:-1000≤x∧x≤1000)(hy:-1000≤y∧y≤1000):aS [.tup [.int x,.int y]] M=.ok (.bl true) M:=by
 rw[pz (fun d hd=>by
  rcases mem_cons.mp hd with e|e
  ·rw[e];exact HJ x
  ·rw[mem_singleton.mp e];exact HJ y) (by simp)]
 rw[all_cons,all_cons,Gp hx,Gp hy];rfl
theorem JE {w v:Str}{b:Bool}{M:aq}(k:(PyData.strOk w&&PyData.strOk v&&(decide (w=v)==b))=true:=by decide +kernel):aW false (.str w) (.str v) M=.ok (.bl b) M:=by
 obtain⟨k1,k3⟩:=Bool.and_eq_true_iff.mp k;obtain⟨k1,k2⟩:=Bool.and_eq_true_iff.mp k1;have k3:=beq_iff_eq.mp k3;subst k3;have c:∀x:Str,PyData.strOk x=true→aO 40 (.str x)=true:=fun x h=>by simpa using h
 unfold aW;show(if(aO 40 (.str w)&&aO 40 (.str v))=true then aU.ok (D.bl (nF (.str w) (.str v) != false)) M else .bad)=_;rw[c w k1,c v k2,if_pos (by rfl)];have e:nF (.str w) (.str v)=decide (w=v):=by rw[Bool.eq_iff_iff];simp
 rw[e,Bool.bne_false]
theorem tW {n:Nat}{ρ:bC}{w v:Str}{b:Bool}{M:aq}(h:ρ[n]?=some (some (.str w)))(k:(PyData.strOk w&&PyData.strOk v&&(decide (w=v)==b))=true:=by decide +kernel):aM (g2 (aW false) (ae n) (gC (.str v))) ρ M=.ok b M:=by
 refine bq (au ?_ rfl (JE k));unfold ae;rw[h]
noncomputable def Io:GS:=(ar (dL (aM (g2 (aW false) (ae 2) (gC (.str "shift")))) (aA (aj 1 aS (aa (ae 3) ag))) aD) (ar (dL (aM (g2 (aW false) (ae 2) (gC (.str "pot")))) (aA (cR (g2 (aW false) (aB bp (aa (ae 3) ag)) (gC (.int 2))) (cR (aj 1 i3 (aa (g2 aL (ae 3) (gC (.int 0))) ag)) (aj 1 ja (aa (g2 aL (ae 3) (gC (.int 1))) ag))))) aD) (aA (aj 3 eY (aa (ae 0) (aa (ae 2) (aa (ae 3) ag)))))))
theorem Gh {s:D}{w:Str}{a b:D}{M:aq}:eC [s,.tup [.str w,a,b]] M=ax (Io [some s,some (.tup [.str w,a,b]),some (.str w),some (.tup [a,b])] M):=rfl
theorem v5 (xs:List D)(i:Nat)(x:D)(h:i<xs.length):xs.take i++[x]++xs.drop (i+1)=xs.set i x:=by
 rw[set_eq_take_append_cons_drop,if_pos h];simp
theorem rQ {xs:List D}{i:Nat}{x:D}{M:aq}(h:i<xs.length)(hl:xs.length≤2000):dF [.tup xs,.int i,x] M=.ok (.tup (xs.set i x)) M:=by
 have c1:=wF xs i;have c2:gV xs (some ((i:Int)+1)) none=xs.drop (i+1):=yO xs (i+1);have sp:=v5 xs i x h;have l1:(1:Nat)≤sizeLine:=bn (by decide);have l2:min i xs.length+1≤sizeLine:=bn (by omega);have l3:min i xs.length+1+(xs.length-(i+1))≤sizeLine:=bn (by omega);simp only[append_assoc] at sp;unfold dF i4;simp_arith [c1,c2,l1,l2,l3];simpa using sp
theorem zv {s:D}{x y:Int}{M:aq}(hx:-1000≤x∧x≤1000)(hy:-1000≤y∧y≤1000):eC [s,.tup [.str "shift",.int x,.int y]] M=.ok (.bl true) M:=by
 rw[Gh];unfold Io;rw[bH ((cu (tW rfl)).trans (aN (bT rfl (BO hx hy))))];rfl
theorem E9 {s:D}{k hu:Int}{M:aq}(h1:0≤k∧k≤15)(h2:0≤hu∧hu≤63):eC [s,.tup [.str "pot",.int k,.int hu]] M=.ok (.bl true) M:=by
 have k1:=zG (M:=M) (HJ k);have k2:=xb (M:=M) (HJ hu);rw[Gp h1] at k1;rw[Gp h2] at k2;rw[Gh];unfold Io;rw[am ((db (tW rfl)).trans rfl),bH ((cu (tW rfl)).trans (aN (aZ (x:=true) rfl fun _=>aZ (x:=true) (bT rfl k1) fun _=>bT rfl k2)))];rfl
theorem xc {fl s bk ms ps:D}{x y:Int}{M:aq}(hx:-1000≤x∧x≤1000)(hy:-1000≤y∧y≤1000):cm [.tup [fl,s,bk,ms,ps],.tup [.str "shift",.int x,.int y]] M=.ok (.tup [fl,.tup [.int x,.int y],bk,ms,ps]) M:=by
 show ax (cq [some (.tup [fl,s,bk,ms,ps]),some (.tup [.str "shift",.int x,.int y]),none,none,none,none,none,none,none,none] M)=_;unfold cq;rw[am ((db (bA (cf (bw (F:=eC) (a:=ae 0) (b:=ae 1) (M:=M) rfl rfl (zv hx hy))))).trans rfl)];rw[am (show cg (bN [2,3,4,5,6]) (ae 0) [some (.tup [fl,s,bk,ms,ps]),some (.tup [.str "shift",.int x,.int y]),none,none,none,none,none,none,none,none] M=.ok (.nx [some (.tup [fl,s,bk,ms,ps]),some (.tup [.str "shift",.int x,.int y]),some fl,some s,some bk,some ms,some ps,none,none,none]) M from rfl)];rw[am (aC (d:=.str "shift") (au (f:=aL) (a:=ae 1) (b:=gC (.int 0)) (x:=.tup [.str "shift",.int x,.int y]) (y:=.int 0) rfl rfl (de (k:=0) rfl)))];rw[bH ((cu (tW rfl)).trans (aN (bv (ds:=[fl,.tup [.int x,.int y],bk,ms,ps]) rfl)))];rfl
theorem CW {fl s bk ms:D}{ps:List Int}{k:Nat}{hu:Int}{M:aq}(h1:k≤15)(h2:0≤hu∧hu≤63)(hl:ps.length=16):cm [.tup [fl,s,bk,ms,.tup (ps.map D.int)],.tup [.str "pot",.int k,.int hu]] M=.ok (.tup [fl,s,bk,ms,.tup ((ps.set k hu).map D.int)]) M:=by
 have wp:=rQ (xs:=ps.map D.int) (i:=k) (x:=.int hu) (M:=M) (by rw[length_map,hl];omega) (by rw[length_map,hl];decide);rw[←map_set] at wp;generalize ps.map D.int=pd at *;show ax (cq [some (.tup [fl,s,bk,ms,.tup pd]),some (.tup [.str "pot",.int k,.int hu]),none,none,none,none,none,none,none,none] M)=_;unfold cq;rw[am ((db (bA (cf (bw (F:=eC) (a:=ae 0) (b:=ae 1) (M:=M) rfl rfl (E9 ⟨by omega,by omega⟩ h2))))).trans rfl)];rw[am (show cg (bN [2,3,4,5,6]) (ae 0) [some (.tup [fl,s,bk,ms,.tup pd]),some (.tup [.str "pot",.int k,.int hu]),none,none,none,none,none,none,none,none] M=.ok (.nx [some (.tup [fl,s,bk,ms,.tup pd]),some (.tup [.str "pot",.int k,.int hu]),some fl,some s,some bk,some ms,some (.tup pd),none,none,none]) M from rfl)];rw[am (aC (d:=.str "pot") (au (f:=aL) (a:=ae 1) (b:=gC (.int 0)) (x:=.tup [.str "pot",.int k,.int hu]) (y:=.int 0) rfl rfl (de (k:=0) rfl)))];rw[am ((db (tW rfl)).trans rfl)];rw[bH ((cu (tW rfl)).trans (aN (bv (ds:=[fl,s,bk,ms,.tup ((ps.set k hu).map D.int)]) (ak rfl (ak rfl (ak rfl (ak rfl (ak (fi (F:=dF) (a:=ae 6) (b:=g2 aL (ae 1) (gC (.int 1))) (c:=g2 aL (ae 1) (gC (.int 2))) (x:=.tup pd) (y:=.int k) (z:=.int hu) rfl (au (f:=aL) (a:=ae 1) (b:=gC (.int 1)) (x:=.tup [.str "pot",.int k,.int hu]) (y:=.int 1) rfl rfl (de (k:=1) rfl)) (au (f:=aL) (a:=ae 1) (b:=gC (.int 2)) (x:=.tup [.str "pot",.int k,.int hu]) (y:=.int 2) rfl rfl (de (k:=2) rfl)) wp) rfl))))))))];rfl
noncomputable def cy (p:Nat):MO:=.obj "Reel" [("past",.mr p)]
noncomputable def aY (now:D)(ear:List D):MO:=.obj "Past" [("now",now),("earlier",.lst ear)]
noncomputable def bt (t:Nat×Fm):D:=.tup [.int t.1,t.2.d]
noncomputable def bx (t:Nat×Fm):D:=.tup [t.2.d,.int t.1]
noncomputable def dq {α:Type}(xs:List α):List α:=xs.drop (xs.length-100)
theorem qX {α β:Type}(f:α→β)(xs:List α):dq (xs.map f)=(dq xs).map f:=by
 unfold dq;rw[length_map,map_drop]
theorem qY (xs:List D):gV xs (some (-100)) none=dq xs:=by
 unfold gV dq;rw[HT.sIx_none];have e:HT.sIx xs.length 0 (some (-100))=xs.length-100:=by
  show(if(-100:Int)<0 then((-100:Int)+(xs.length:Int)).toNat else min (-100:Int).toNat xs.length)=_;rw[if_pos (by decide)];omega
 rw[e];exact take_of_length_le (by rw[length_drop];omega)
theorem xW (xs:List D)(x:D):gV (xs++[x]) none (some (-1))=xs:=by
 unfold gV;rw[HT.sIx_none,drop_zero];have e:HT.sIx (xs++[x]).length (xs++[x]).length (some (-1))=xs.length:=by
  show(if(-1:Int)<0 then((-1:Int)+((xs++[x]).length:Int)).toNat else min (-1:Int).toNat (xs++[x]).length)=_;rw[if_pos (by decide),length_append,length_singleton];omega
 rw[e,Nat.sub_zero,take_left]
theorem E5 (xs:List D)(x:D):oZ (xs++[x]) (-1)=some x:=by
 unfold oZ zM;rw[if_neg (by decide),length_append,length_singleton,if_pos (by omega)];show(xs++[x])[((-1:Int)+((xs.length+1:Nat):Int)).toNat]?=some x;rw[show((-1:Int)+((xs.length+1:Nat):Int)).toNat=xs.length by omega,getElem?_append_right (Nat.le_refl _),Nat.sub_self];rfl
theorem zB {α:Type}(xs:List α):(dq xs).length≤100:=by unfold dq;rw[length_drop];omega
theorem ve {α:Type}(xs:List α)(x:α):dq (dq xs++[x])=dq (xs++[x]):=by
 unfold dq;rw[length_append,length_append,length_drop,length_singleton]
 by_cases h:xs.length≤99
 ·rw[show xs.length-100=0 by omega,drop_zero,Nat.sub_zero]
 ·rw[drop_append_of_le_length (by rw[length_drop];omega),drop_append_of_le_length (by omega),drop_drop];congr 2;omega
section
variable {M:aq}{r p:Nat}{t:Nat×Fm}{E:List D}
theorem xp (hr:M[r]?=some (cy p))(hp:M[p]?=some (aY (bt t) E)):bZ [.mr r] M=.ok t.2.d M:=by
 show ax (gH [some (.mr r),none,none] M)=_;unfold gH;have k:bS "Past" "now" (bS "Reel" "past" (ae 0)) [some (.mr r),none,none] M=.ok (bt t) M:=fb (fb (g:=ae 0) rfl hr rfl) hp rfl;have a:cg (bN [1,2]) (bS "Past" "now" (bS "Reel" "past" (ae 0))) [some (.mr r),none,none] M=.ok (.nx [some (.mr r),some (.int t.1),some t.2.d]) M:=by
  unfold cg;rw[k,ai];rfl
 rw[am a];exact cN rfl
theorem tK (hr:M[r]?=some (cy p))(hp:M[p]?=some (aY (bt t) E)):bI [.mr r] M=.ok (.int t.1) M:=by
 show ax (eL [some (.mr r),none,none] M)=_;unfold eL;have k:bS "Past" "now" (bS "Reel" "past" (ae 0)) [some (.mr r),none,none] M=.ok (bt t) M:=fb (fb (g:=ae 0) rfl hr rfl) hp rfl;have a:cg (bN [1,2]) (bS "Past" "now" (bS "Reel" "past" (ae 0))) [some (.mr r),none,none] M=.ok (.nx [some (.mr r),some (.int t.1),some t.2.d]) M:=by
  unfold cg;rw[k,ai];rfl
 rw[am a];exact cN rfl
theorem kP {go:GE}{ρ:bC}(hg:go ρ M=.ok (.mr r) M)(hr:M[r]?=some (cy p))(hp:M[p]?=some (aY (bt t) E)):cG "Reel" "film" 1 bZ go ag ρ M=.ok t.2.d M:=iA hg hr rfl (ds:=[]) rfl rfl (xp hr hp)
theorem jI {go:GE}{ρ:bC}(hg:go ρ M=.ok (.mr r) M)(hr:M[r]?=some (cy p))(hp:M[p]?=some (aY (bt t) E)):cG "Reel" "frames" 1 bI go ag ρ M=.ok (.int t.1) M:=iA hg hr rfl (ds:=[]) rfl rfl (tK hr hp)
theorem l9 (hr:M[r]?=some (cy p))(hp:M[p]?=some (aY (bt t) E)):bG [.mr r] M=.ok (bx t) M:=by
 show ax (gf [some (.mr r)] M)=_;unfold gf;exact cN (bv (ds:=[t.2.d,.int t.1]) (ak (kP (go:=ae 0) rfl hr hp) (ak (jI (go:=ae 0) rfl hr hp) rfl)))
theorem B0 {α:Type}{M:List α}{p:Nat}{x:α}(h:M[p]?=some x):p<M.length:=(List.getElem?_eq_some_iff.mp h).1
theorem vY {n x:D}(hp:M[p]?=some (aY n E))(hE:E.length≤100):dA [.mr p,x] M=.ok .non (M.set p (aY x (dq (E++[n])))):=by
 show ax (eK [some (.mr p),some x] M)=_;unfold eK;have f1:bS "Past" "earlier" (ae 0) [some (.mr p),some x] M=.ok (.lst E) M:=fb (g:=ae 0) rfl hp rfl;have f2:bS "Past" "now" (ae 0) [some (.mr p),some x] M=.ok n M:=fb (g:=ae 0) rfl hp rfl;have ad:g2 bb (bS "Past" "earlier" (ae 0)) (dk (aa (bS "Past" "now" (ae 0)) ag)) [some (.mr p),some x] M=.ok (.lst (E++[n])) M:=by
  refine au (f:=bb) (x:=.lst E) (y:=.lst [n]) f1 (dZ (ds:=[n]) (ak f2 rfl)) ?_;show(if E.length+[n].length≤sizeLine then aU.ok (D.lst (E++[n])) M else .bad)=_;rw[if_pos (bn (by rw[length_singleton];omega))]
 have sl:lF (g2 bb (bS "Past" "earlier" (ae 0)) (dk (aa (bS "Past" "now" (ae 0)) ag))) (cH (eW (gC (.int 100)))) bh [some (.mr p),some x] M=.ok (.lst (dq (E++[n]))) M:=by
  unfold lF;rw[ad,ai];show aU.ok (D.lst (gV (E++[n]) (some (-100)) none)) M=_;rw[qY]
 have k1:=ij (go:=ae 0) (f:="earlier") sl rfl hp (show 2<1000 by decide);have hp2:(M.set p (.obj "Past" (eo "earlier" (.lst (dq (E++[n]))) [("now",n),("earlier",.lst E)])))[p]?=some (.obj "Past" (eo "earlier" (.lst (dq (E++[n]))) [("now",n),("earlier",.lst E)])):=getElem?_set_self (B0 hp);have k2:=ij (go:=ae 0) (gv:=ae 1) (ρ:=[some (.mr p),some x]) (f:="now") rfl rfl hp2 (show 2<1000 by decide);rw[set_set] at k2;exact(congrArg ax ((am k1).trans k2)).trans rfl
theorem nC {ga:GA}{ρ:bC}{n x:D}(h0:ρ[0]?=some (some (.mr r)))(hr:M[r]?=some (cy p))(hp:M[p]?=some (aY n E))(hE:E.length≤100)(ha:ga ρ M=.ok [x] M):cG "Past" "change" 2 dA (bS "Reel" "past" (ae 0)) ga ρ M=.ok .non (M.set p (aY x (dq (E++[n])))):=
 iA (fb (g:=ae 0) (by unfold ae;rw[h0]) hr rfl) hp rfl ha rfl (vY hp hE)
theorem HG {m:Nat}(hr:M[r]?=some (cy p))(hp:M[p]?=some (aY (bt t) E))(hE:E.length≤100)(hf:dz t.2)(hM:kl M):lG [.mr r,.int ((m+1:Nat):Int)] M=.ok .non (M.set p (aY (bt (t.1+(m+1),t.2.go (m+1))) (dq (E++[bt t])))):=by
 show ax (jj [some (.mr r),some (.int ((m+1:Nat):Int))] M)=_;unfold jj;have tt:aM (g2 rp (ae 1) (gC (.int 0))) [some (.mr r),some (.int ((m+1:Nat):Int))] M=.ok true M:=bq (au (f:=rp) (a:=ae 1) (b:=gC (.int 0)) (x:=.int ((m+1:Nat):Int)) (y:=.int 0) rfl rfl (uM (by omega)));have k:=nC (r:=r) (p:=p) (n:=bt t) (x:=bt (t.1+(m+1),t.2.go (m+1))) (ρ:=[some (.mr r),some (.int ((m+1:Nat):Int))]) (ga:=aa (aF (aa (g2 bb (cG "Reel" "frames" 1 bI (ae 0) ag) (ae 1)) (aa (aj 2 gS (aa (cG "Reel" "film" 1 bZ (ae 0) ag) (aa (ae 1) ag))) ag))) ag) rfl hr hp hE
  (ak (bv (ds:=[.int ((t.1+(m+1):Nat):Int),(t.2.go (m+1)).d]) (ak (au (f:=bb) (b:=ae 1) (x:=.int t.1) (y:=.int ((m+1:Nat):Int)) (jI (go:=ae 0) rfl hr hp) rfl (show aU.ok (D.int ((t.1:Int)+((m+1:Nat):Int))) M=_ by rw[←Int.natCast_add])) (ak (bw (b:=ae 1) (kP (go:=ae 0) rfl hr hp) rfl (HK hf hM)) rfl))) rfl)
 rw[cu tt,dX k];rfl
theorem ub {w:Str}{a b:D}{f2:Fm}(hw:(PyData.strOk w&&PyData.strOk "move"&&(decide (w=("move":Str))==false))=true)(hr:M[r]?=some (cy p))(hp:M[p]?=some (aY (bt t) E))(hE:E.length≤100)
  (hb:cm [.tup [t.2.fl,t.2.s,t.2.bk,.tup (t.2.is.map gN.m),.tup (t.2.ps.map D.int)],.tup [.str w,a,b]] M=.ok (.tup [f2.fl,f2.s,f2.bk,.tup (f2.is.map gN.m),.tup (f2.ps.map D.int)]) M) (e1:f2.fr=t.2.fr) (e2:f2.is=t.2.is) :
  gp [.mr r,.tup [.str w,a,b]] M=.ok .non (M.set p (aY (bt (t.1,f2)) (dq (E++[bt t])))):=by
 generalize hS:D.tup [t.2.fl,t.2.s,t.2.bk,.tup (t.2.is.map gN.m),.tup (t.2.ps.map D.int)]=S at hb;generalize hB:D.tup [f2.fl,f2.s,f2.bk,.tup (f2.is.map gN.m),.tup (f2.ps.map D.int)]=B at hb;have ed:t.2.d=.tup [t.2.fr,S,.tup (t.2.is.map fun i=>et i.pr)]:=by rw[←hS];rfl
 have ed2:f2.d=.tup [t.2.fr,B,.tup (t.2.is.map fun i=>et i.pr)]:=by rw[←hB,←e1,←e2];rfl
 have kf:=kP (go:=ae 0) (ρ:=[some (.mr r),some (.tup [.str w,a,b]),none,none,none,none]) rfl hr hp;rw[ed] at kf;have ki:bt (t.1,f2)=.tup [.int t.1,f2.d]:=rfl;rw[ed2] at ki;rw[ki];generalize (D.tup (t.2.is.map fun i=>et i.pr))=pp at *;generalize t.2.fr=fr at *;show ax (gk [some (.mr r),some (.tup [.str w,a,b]),none,none,none,none] M)=_;unfold gk;have a1:cg (bN [2,3,4]) (cG "Reel" "film" 1 bZ (ae 0) ag) [some (.mr r),some (.tup [.str w,a,b]),none,none,none,none] M=.ok (.nx [some (.mr r),some (.tup [.str w,a,b]),some fr,some S,some pp,none]) M:=by
  unfold cg;rw[kf,ai];rfl
 have tt:aM (g2 (aW false) (g2 aL (ae 1) (gC (.int 0))) (gC (.str "move"))) [some (.mr r),some (.tup [.str w,a,b]),some fr,some S,some pp,some B] M=.ok false M:=bq (au (f:=aW false) (x:=.str w) (y:=.str "move") (au (f:=aL) (a:=ae 1) (b:=gC (.int 0)) (x:=.tup [.str w,a,b]) (y:=.int 0) rfl rfl (de (k:=0) rfl)) rfl (JE hw));have kc:=nC (r:=r) (p:=p) (n:=bt t) (x:=.tup [.int t.1,.tup [fr,B,pp]]) (ρ:=[some (.mr r),some (.tup [.str w,a,b]),some fr,some S,some pp,some B]) (ga:=aa (aF (aa (cG "Reel" "frames" 1 bI (ae 0) ag) (aa (aF (aa (ae 2) (aa (ae 5) (aa (ae 4) ag)))) ag))) ag) rfl hr hp hE
  (ak (bv (ds:=[.int t.1,.tup [fr,B,pp]]) (ak (jI (go:=ae 0) rfl hr hp) (ak (bv (ds:=[fr,B,pp]) rfl) rfl))) rfl)
 exact(congrArg ax ((am a1).trans ((am (aC (bw (F:=cm) (a:=ae 3) (b:=ae 1) rfl rfl hb))).trans ((am ((db (uC tt)).trans rfl)).trans (dX kc))))).trans rfl
theorem Ar {E':List D}{n x:D}(hr:M[r]?=some (cy p))(hp:M[p]?=some (aY n (E'++[x]))):cW [.mr r] M=.ok .non (M.set p (aY x E')):=by
 have b:eU [.mr p] M=.ok .non (M.set p (aY x E')):=by
  show ax (dH [some (.mr p)] M)=_;unfold dH;have f1:bS "Past" "earlier" (ae 0) [some (.mr p)] M=.ok (.lst (E'++[x])) M:=fb (g:=ae 0) rfl hp rfl;have t1:cM (bS "Past" "earlier" (ae 0)) [some (.mr p)] M=.ok true M:=by
   unfold cM;rw[f1,ai];show aU.ok (!(E'++[x]).isEmpty) M=_;cases E' <;> rfl
  have ix:g2 aL (bS "Past" "earlier" (ae 0)) (eW (gC (.int 1))) [some (.mr p)] M=.ok x M:=au (f:=aL) (b:=eW (gC (.int 1))) (y:=.int (-1)) f1 rfl (p4 (E5 E' x));have k1:=ij (go:=ae 0) (f:="now") ix rfl hp (show 2<1000 by decide);have hp2:(M.set p (.obj "Past" (eo "now" x [("now",n),("earlier",.lst (E'++[x]))])))[p]?=some (.obj "Past" (eo "now" x [("now",n),("earlier",.lst (E'++[x]))])):=getElem?_set_self (B0 hp);have f2:bS "Past" "earlier" (ae 0) [some (.mr p)] (M.set p (.obj "Past" (eo "now" x [("now",n),("earlier",.lst (E'++[x]))])))=.ok (.lst (E'++[x])) (M.set p (.obj "Past" (eo "now" x [("now",n),("earlier",.lst (E'++[x]))]))):=fb (g:=ae 0) rfl hp2 rfl;generalize hM2:M.set p (.obj "Past" (eo "now" x [("now",n),("earlier",.lst (E'++[x]))]))=M2 at *;have sl:lF (bS "Past" "earlier" (ae 0)) bh (cH (eW (gC (.int 1)))) [some (.mr p)] M2=.ok (.lst E') M2:=by
   unfold lF;rw[f2,ai];show aU.ok (D.lst (gV (E'++[x]) none (some (-1)))) M2=_;rw[xW]
  have k2:=ij (go:=ae 0) (f:="earlier") sl rfl hp2 (show 2<1000 by decide);rw[←hM2,set_set] at k2;rw[←hM2] at k1;exact(congrArg ax ((am ((db (bA t1)).trans rfl)).trans ((am k1).trans k2))).trans rfl
 show ax (dM [some (.mr r)] M)=_;unfold dM;exact(congrArg ax (dX (iA (go:=bS "Reel" "past" (ae 0)) (m:="back") (fb (g:=ae 0) rfl hr rfl) hp rfl (ds:=[]) rfl rfl b))).trans rfl
theorem Aa {n:D}(hr:M[r]?=some (cy p))(hp:M[p]?=some (aY n [])):cW [.mr r] M=.err "Over" M:=by
 have b:eU [.mr p] M=.err "Over" M:=by
  show ax (dH [some (.mr p)] M)=_;unfold dH;have f1:bS "Past" "earlier" (ae 0) [some (.mr p)] M=.ok (.lst []) M:=fb (g:=ae 0) rfl hp rfl;have t1:cM (bS "Past" "earlier" (ae 0)) [some (.mr p)] M=.ok false M:=by
   unfold cM;rw[f1,ai];rfl
  exact(congrArg ax (FU ((cu (bA t1)).trans rfl))).trans rfl
 show ax (dM [some (.mr r)] M)=_;unfold dM cV;have k:cG "Past" "back" 1 eU (bS "Reel" "past" (ae 0)) ag [some (.mr r)] M=.err "Over" M:=iA (go:=bS "Reel" "past" (ae 0)) (fb (g:=ae 0) rfl hr rfl) hp rfl (ds:=[]) rfl rfl b;rw[k];rfl
end
theorem xo {ga:GA}{ρ:bC}{M M1:aq}{ds:List D}(h:ga ρ M=.ok ds M1)(hl:ds.length≤100000:=by exact Nat.le_of_ble_eq_true rfl):fB ga ρ M=.ok (.mr M1.length) (M1++[.lst ds]):=by
 unfold fB;rw[h,ai];exact if_pos (bn (by omega))
theorem uB {M:aq}{xs ys:List D}(h:xs.length+ys.length≤1000):o5 (.mr M.length) (.lst ys) (M++[.lst xs])=.ok (.mr (M++[MO.lst xs]).length) ((M++[MO.lst xs])++[.lst (xs++ys)]):=by
 show(match (match (M++[MO.lst xs])[M.length]? with|some (.lst xs)=>some xs|_=>none),some ys with|some a,some b=>if a.length+b.length≤sizeLine then aU.ok (D.mr (M++[MO.lst xs]).length) ((M++[MO.lst xs])++[MO.lst (a++b)]) else .bad|_,_=>.bad)=_;rw[u7];exact if_pos (bn (by omega))
theorem uA {F:List D→D→aq→aU D}{M:aq}{xs:List D}{ρ:bC}{d:D}{o:aU D}(h1:ρ[1]?=some (some (.mr M.length)))(h:F xs d (M++[.lst xs])=o):gq F (ae 1) (gC d) ρ (M++[.lst xs])=o:=by
 have l:iH (.mr M.length) (M++[MO.lst xs])=some xs:=by
  show(match (M++[MO.lst xs])[M.length]? with|some (.lst xs)=>some xs|_=>none)=_;rw[u7]
 have v:ae 1 ρ (M++[.lst xs])=.ok (.mr M.length) (M++[.lst xs]):=by unfold ae;rw[h1]
 unfold gq;rw[v,ai,l];dsimp only;rw[show gC d ρ (M++[.lst xs])=.ok d (M++[.lst xs]) from rfl,ai,l];exact h
noncomputable def wB:List D:=[.bl false,.bl false,.bl false,.bl false,.bl true,.bl false,.bl false,.bl false,.bl false,.bl false]
noncomputable def JM:List D:=[.str "frame",.str "stand",.str "tick",.str "deed",.str "over",.str "score",.str "clash",.str "text",.str "film",.str "row"]
theorem wn {M:aq}(hM:kl M):iS [.exc "Over"] M=.ok (.tup [.str "over"]) M:=by
 have z:∀{a b c:Bool} {r:bC} {N:aq},fR (p0 [("NoDeed",a),("NoFilm",b),("Over",c)]) (ae 0) (some (.exc "Over")::r) N=.ok (.bl c) N:=fun {a b c r N}=>rfl
 have e:∃E,dJ [some (.exc "Over"),none,none] M=.ok (.rt (.tup [.str "over"])) (M++E):=by
  unfold dJ;refine⟨[.lst (wB.take 3),.lst (wB.take 6),.lst wB],?_⟩;refine(am (aC (xo (ds:=wB.take 3) (ak z (ak z (ak z rfl)))))).trans ?_;refine(am (aC (au (x:=.mr M.length) rfl (dZ (ds:=(wB.drop 3).take 3) (ak z (ak z (ak z rfl)))) (uB (xs:=wB.take 3) (show 3+3≤1000 by decide))))).trans ?_;refine(am (aC (au (x:=.mr (M++[MO.lst (wB.take 3)]).length) rfl (dZ (ds:=(wB.drop 6).take 3) (ak z (ak z (ak z rfl)))) (uB (xs:=wB.take 6) (show 6+3≤1000 by decide))))).trans ?_;refine(am (dX (EB (go:=ae 1) (E:=wB.take 9) rfl z (show 9<1000000 by decide)))).trans ?_;refine(am ((db (dP (x:=false) (bA (cf z)) fun _=>bq (au (uA (xs:=wB) (o:=.ok (.int 1) _) rfl rfl) rfl (oH 1 1 _)))).trans rfl)).trans ?_;refine(am (aC (dZ (ds:=JM) rfl))).trans ?_;refine(aN (bv (ds:=[.str "over"]) (ak (au (x:=.lst JM) rfl (uA (xs:=wB) (o:=.ok (.int 4) _) rfl rfl) (dU (k:=4) rfl)) rfl))).trans ?_;rw[append_assoc,append_assoc];rfl
 obtain⟨E,e⟩:=e;show lV M.length (ax (dJ [some (.exc "Over"),none,none] M))=_;rw[e];exact oU rfl hM
theorem xj {d:D}(h:aO 40 d=true)(hm:∀M,now d M=d)(M:aq):aW false d d M=.ok (.bl true) M:=by
 unfold aW;rw[hm,h,Bool.and_self,if_pos rfl,kR d 40 h];rfl
theorem AZ {M:aq}{r p:Nat}{n:D}(hM:kl M)(hr:M[r]?=some (cy p))(hp:M[p]?=some (aY n [])):cp [.mr r] M=.ok (.bl true) M:=by
 show ax (cY [some (.mr r),none,none] M)=_;unfold cY;have e:cG "Reel" "back" 1 cW (ae 0) ag [some (.mr r),some .non,none] M=.err "Over" M:=iA (go:=ae 0) rfl hr rfl (ds:=[]) rfl rfl (Aa hr hp);have inl:List.contains (["NoDeed","NoFilm","Over"]:List Str) "Over"=true:=by decide
 have k1:mL 2 (List.contains ["NoDeed","NoFilm","Over"]) (cV (cG "Reel" "back" 1 cW (ae 0) ag)) (aG 1 (ae 2)) [some (.mr r),some .non,none] M=.ok (.nx [none,some (.exc "Over"),none]) M:=by
  unfold mL cV;rw[e];show(if List.contains (["NoDeed","NoFilm","Over"]:List Str) "Over"=true then _ else _)=_;rw[inl,if_pos rfl];rfl
 rw[am (show aG 1 (gC .non) [some (.mr r),none,none] M=.ok (.nx [some (.mr r),some .non,none]) M from rfl),am k1];exact cN (aZ (x:=true) (y:=true) rfl fun _=>au (f:=aW false) (bT (a:=ae 1) (x:=.exc "Over") rfl (wn hM)) (bv (ds:=[.str "over"]) rfl) (xj (by decide +kernel) (fun _=>rfl) M))
noncomputable abbrev Tl:=Nat×Fm
structure Rw where
 now:Tl
 ear:List Tl
 row:List Tl
noncomputable def nT (fs:List D)(s:Nat→Rw):aq:=[.lst fs,cy 3,aY (bt (s 0).now) ((s 0).ear.map bt),cy 5,aY (bt (s 1).now) ((s 1).ear.map bt),.lst ((s 0).row.map bx),.lst ((s 1).row.map bx)]
noncomputable def bE (s:Nat→Rw)(k:Nat)(v:Rw):Nat→Rw:=fun j=>if j=k then v else s j
theorem cT (s:Nat→Rw)(k:Nat)(v:Rw):bE s k v k=v:=if_pos rfl
theorem ao {s:Nat→Rw}{k j:Nat}{v:Rw}(h:j≠k):bE s k v j=s j:=if_neg h
section
variable {l:List Int}{fs:List D}{s:Nat→Rw}{M:aq}{k:Nat}
theorem lD (t:aP l (nT fs s) M)(hk:k<2):M[2+2*k]?=some (cy (3+2*k)):=by
 obtain⟨i,c,_,rfl⟩:=t;obtain rfl|rfl:k=0∨k=1:=by omega
 ·rfl
 ·rfl
theorem nM (t:aP l (nT fs s) M)(hk:k<2):M[3+2*k]?=some (aY (bt (s k).now) ((s k).ear.map bt)):=by
 obtain⟨i,c,_,rfl⟩:=t;obtain rfl|rfl:k=0∨k=1:=by omega
 ·rfl
 ·rfl
theorem Fc (t:aP l (nT fs s) M)(hk:k<2):M[6+k]?=some (.lst ((s k).row.map bx)):=by
 obtain⟨i,c,_,rfl⟩:=t;obtain rfl|rfl:k=0∨k=1:=by omega
 ·rfl
 ·rfl
theorem xg (t:aP l (nT fs s) M)(hk:k<2)(x:Tl)(E:List Tl):aP l (nT fs (bE s k ⟨x,E,(s k).row⟩)) (M.set (3+2*k) (aY (bt x) (E.map bt))):=by
 obtain⟨i,c,h,rfl⟩:=t;obtain rfl|rfl:k=0∨k=1:=by omega
 ·exact⟨i,c,h,rfl⟩
 ·exact⟨i,c,h,rfl⟩
theorem HA (t:aP l (nT fs s) M)(hk:k<2)(R:List Tl):aP l (nT fs (bE s k ⟨(s k).now,(s k).ear,R⟩)) (M.set (6+k) (.lst (R.map bx))):=by
 obtain⟨i,c,h,rfl⟩:=t;obtain rfl|rfl:k=0∨k=1:=by omega
 ·exact⟨i,c,h,rfl⟩
 ·exact⟨i,c,h,rfl⟩
end
structure lx (w:Rw):Prop where
 now:dz w.now.2
 ear:∀t∈w.ear,dz t.2
 row:∀t∈w.row,dz t.2
theorem rM {t:Tl}(h:dz t.2):ay 29 (bt t)=true:=by
 show(true&&(ay 28 t.2.d&&true))=true;rw[io (by decide) h.pure];rfl
theorem wb {t:Tl}(h:dz t.2):ay 30 (bx t)=true:=by
 show(ay 29 t.2.d&&(true&&true))=true;rw[io (by decide) h.pure];rfl
theorem kj {t:Tl}(h:dz t.2):aO 40 (bx t)=true:=by
 show(aO 39 t.2.d&&(true&&true))=true;rw[h.cmp];rfl
theorem rO {t:Tl}{E:List Tl}(h:dz t.2)(hE:∀t∈E,dz t.2):kM 8 (aY (bt t) (E.map bt))=true:=by
 refine jh ?_;show(ay 30 (bt t)&&(((E.map bt).all (ay 29))&&true))=true;rw[io (by decide) (rM h),all_eq_true.mpr fun x hx=>by
  obtain⟨y,hy,rfl⟩:=mem_map.mp hx;exact rM (hE y hy)];rfl
theorem rT {R:List Tl}(h:∀t∈R,dz t.2):kM 8 (.lst (R.map bx))=true:=jh (all_eq_true.mpr fun x hx=>by
 obtain⟨y,hy,rfl⟩:=mem_map.mp hx;exact wb (h y hy))
theorem qt {l:List Int}{fs:List D}{s:Nat→Rw}{M:aq}(t:aP l (nT fs s) M)(hf:fs.all (ay 30)=true)(h0:lx (s 0))(h1:lx (s 1)):kl M:=by
 obtain⟨i,c,_,rfl⟩:=t;have q:=uf l i c;have q:((kM 1 (tp l i c))&&true)=true:=q;rw[Bool.and_true] at q;show(kM 8 (tp l i c)&&(kM 8 (.lst fs)&&(true&&(kM 8 (aY (bt (s 0).now) ((s 0).ear.map bt))&&(true&&(kM 8 (aY (bt (s 1).now) ((s 1).ear.map bt))&&(kM 8 (.lst ((s 0).row.map bx))&&(kM 8 (.lst ((s 1).row.map bx))&&true))))))))=true;rw[vA (by decide) q,jh (o:=.lst fs) hf,rO h0.now h0.ear,rO h1.now h1.ear,rT h0.row,rT h1.row];rfl
theorem wR (E:List Tl)(x:Tl):dq (E.map bt++[bt x])=(dq (E++[x])).map bt:=by
 rw[←qX,map_append];rfl
theorem Gj {ρ:bC}{M:aq}:g2 j9 (gC (.int 10)) (gC (.int 57)) ρ M=.ok (.int (10 ^ 57)) M:=by
 refine au (f:=j9) (a:=gC (.int 10)) (b:=gC (.int 57)) (x:=.int 10) (y:=.int 57) rfl rfl ?_;show(if 0≤(57:Int)∧(57:Int)≤1000000∧(10:Int).natAbs<2 ^ 64 then aU.ok (D.int (10 ^ (57:Int).toNat)) M else .bad)=_;rw[if_pos ⟨by decide,by decide,by decide⟩];rfl
theorem Bh {l:List Int}{rest N:aq}{ρ:bC}(t:aP l rest N)(h1:ρ[0]?=some (some (.mr 0))):∃(a:Nat) (N':aq),aP l rest N'∧g2 bb (gC (.int 1)) (g2 aL (dk (aa (aj 2 ah (aa (ae 0) (aa (gC (.int 9)) ag))) (aa (aj 2 ah (aa (ae 0) (aa (g2 j9 (gC (.int 10)) (gC (.int 57))) ag))) ag))) (aj 2 ah (aa (ae 0) (aa (gC (.int 2)) ag)))) ρ N=.ok (.int ((a+1:Nat):Int)) N':=by
 obtain⟨f1,N1,a1,b1,t1,e1⟩:=nG (many:=9) t h1 (by decide) (av (by decide) (by decide));obtain⟨f2,N2,a2,b2,t2,e2⟩:=nG (many:=10 ^ 57) t1 h1 (by decide) (by decide +kernel);obtain⟨f3,N3,a3,b3,t3,e3⟩:=nG (many:=2) t2 h1 (by decide) (av (by decide) (by decide));obtain⟨v,hv,ev⟩:=li (a:=.int f1) (b:=.int f2) a3 b3;obtain⟨a,ha⟩:∃a:Nat,v=.int a:=by
  rcases hv with h|h
  ·obtain⟨n,rfl⟩:=Int.eq_ofNat_of_zero_le a1;exact⟨n,h⟩
  ·obtain⟨n,rfl⟩:=Int.eq_ofNat_of_zero_le a2;exact⟨n,h⟩
 rw[ha] at ev;refine⟨a,N3,t3,au (f:=bb) (a:=gC (.int 1)) (x:=.int 1) (y:=.int a) rfl (au (f:=aL) (dZ (ds:=[.int f1,.int f2]) (ak (e1 _ rfl) (ak (e2 _ Gj) rfl))) (e3 _ rfl) (ev N3)) ?_⟩;show aU.ok (D.int (1+(a:Int))) N3=_;rw[show(1:Int)+(a:Int)=((a+1:Nat):Int) by omega]
theorem xQ {l:List Int}{rest N:aq}{ρ:bC}(t:aP l rest N)(h1:ρ[0]?=some (some (.mr 0))):∃(a b c d:Int) (N':aq),(0≤a∧a≤15)∧(0≤b∧b≤63)∧(0≤c∧c≤98)∧(0≤d∧d<2)∧aP l rest N'∧∃N1,dk (aa (aF (aa (gC (.str "pot")) (aa (aj 2 ah (aa (ae 0) (aa (gC (.int 16)) ag))) (aa (aj 2 ah (aa (ae 0) (aa (gC (.int 64)) ag))) ag)))) (aa (aF (aa (gC (.str "shift")) (aa (aj 2 ah (aa (ae 0) (aa (gC (.int 99)) ag))) (aa (gC (.int 0)) ag)))) ag)) ρ N=.ok (.lst [.tup [.str "pot",.int a,.int b],.tup [.str "shift",.int c,.int 0]]) N1∧aP l rest N1∧∀ρ2:bC,ρ2[0]?=some (some (.mr 0))→aj 2 ah (aa (ae 0) (aa (gC (.int 2)) ag)) ρ2 N1=.ok (.int d) N':=by
 obtain⟨f1,N1,a1,b1,t1,e1⟩:=nG (many:=16) t h1 (by decide) (av (by decide) (by decide));obtain⟨f2,N2,a2,b2,t2,e2⟩:=nG (many:=64) t1 h1 (by decide) (av (by decide) (by decide));obtain⟨f3,N3,a3,b3,t3,e3⟩:=nG (many:=99) t2 h1 (by decide) (av (by decide) (by decide));obtain⟨f4,N4,a4,b4,t4,e4⟩:=bg (many:=2) (by decide) (av (by decide) (by decide)) t3;refine⟨f1,f2,f3,f4,N4,⟨a1,by omega⟩,⟨a2,by omega⟩,⟨a3,by omega⟩,⟨a4,b4⟩,t4,N3,?_,t3,fun ρ2 h2=>bw (a:=ae 0) (by unfold ae;rw[h2]) rfl e4⟩;exact dZ (ds:=[.tup [.str "pot",.int f1,.int f2],.tup [.str "shift",.int f3,.int 0]]) (ak (bv (ds:=[.str "pot",.int f1,.int f2]) (ak rfl (ak (e1 _ rfl) (ak (e2 _ rfl) rfl)))) (ak (bv (ds:=[.str "shift",.int f3,.int 0]) (ak rfl (ak (e3 _ rfl) (ak rfl rfl)))) rfl))
theorem A4 {l:List Int}{fs:List D}{s:Nat→Rw}{M:aq}{k:Nat}(t:aP l (nT fs s) M)(hk:k<2)(hf:fs.all (ay 30)=true)(h0:lx (s 0))(h1:lx (s 1))(hE:(s k).ear.length≤100) :
  ∃(x:Tl) (M':aq) (d:D),dz x.2∧aP l (nT fs (bE s k ⟨x,dq ((s k).ear++[(s k).now]),(s k).row⟩)) M'∧ej [.mr 0,.mr (2+2*k)] M=.ok d M':=by
 have hw:lx (s k):=by
  obtain rfl|rfl:k=0∨k=1:=by omega
  ·exact h0
  ·exact h1
 have hE':((s k).ear.map bt).length≤100:=by rw[length_map];exact hE
 have kf:=kP (go:=ae 1) (ρ:=[some (.mr 0),some (.mr (2+2*k)),none,none]) rfl (lD t hk) (nM t hk);generalize (s k).now.2.d=fd at kf;obtain⟨f1,M1,a1,b1,t1,e1⟩:=nG (ρ:=[some (.mr 0),some (.mr (2+2*k)),some fd,none]) (i:=0) (many:=2) t rfl (by decide) (av (by decide) (by decide));have tt:=bq (au (f:=aW false) (e1 (gC (.int 2)) rfl) (b:=gC (.int 0)) (y:=.int 0) rfl (qz f1 0 M1));have el:=wR (s k).ear (s k).now
 by_cases h:f1=0
 ·rw[decide_eq_true h] at tt;obtain⟨m,M2,t2,e2⟩:=Bh (ρ:=[some (.mr 0),some (.mr (2+2*k)),some fd,none]) t1 rfl;have kg:=HG (m:=m) (lD t2 hk) (nM t2 hk) hE' hw.now (qt t2 hf h0 h1);rw[el] at kg;have km:=iA (go:=ae 1) (m:="go") (ρ:=[some (.mr 0),some (.mr (2+2*k)),some fd,none]) rfl (lD t1 hk) rfl (ak e2 (jM (ρ:=[some (.mr 0),some (.mr (2+2*k)),some fd,none]))) rfl kg;refine⟨((s k).now.1+(m+1),(s k).now.2.go (m+1)),_,fd,hw.now.go _,xg t2 hk _ _,?_⟩;exact(congrArg ax ((am (aC kf)).trans ((am ((cu tt).trans (dX km))).trans (aN (d:=fd) rfl)))).trans rfl
 ·rw[decide_eq_false h] at tt;obtain⟨a,b,c,d,N',ha,hb,hc,hd,t2,N1,e2,tn,e3⟩:=xQ (ρ:=[some (.mr 0),some (.mr (2+2*k)),some fd,none]) t1 rfl;obtain⟨v,hv,ev⟩:=li (a:=.tup [.str "pot",.int a,.int b]) (b:=.tup [.str "shift",.int c,.int 0]) hd.1 hd.2;obtain⟨x,hx,ex⟩:∃x:Tl,dz x.2∧gp [.mr (2+2*k),v] N'=.ok .non (N'.set (3+2*k) (aY (bt x) (dq ((s k).ear.map bt++[bt (s k).now])))):=by
   rcases hv with rfl|rfl
   ·obtain⟨n,rfl⟩:=Int.eq_ofNat_of_zero_le ha.1;exact⟨((s k).now.1,(s k).now.2.pot n b),hw.now.pot n b,ub (f2:=(s k).now.2.pot n b) (by decide +kernel) (lD t2 hk) (nM t2 hk) hE' (CW (by omega) hb hw.now.pl) rfl rfl⟩
   ·exact⟨((s k).now.1,(s k).now.2.shift c 0),hw.now.shift c 0,ub (f2:=(s k).now.2.shift c 0) (by decide +kernel) (lD t2 hk) (nM t2 hk) hE' (xc ⟨by omega,by omega⟩ ⟨by decide,by decide⟩) rfl rfl⟩
  rw[el] at ex;have km:=iA (go:=ae 1) (m:="deed") (ρ:=[some (.mr 0),some (.mr (2+2*k)),some fd,some (.lst [.tup [.str "pot",.int a,.int b],.tup [.str "shift",.int c,.int 0]])]) rfl (lD tn hk) rfl (ak (au (f:=aL) (a:=ae 3) (x:=.lst [.tup [.str "pot",.int a,.int b],.tup [.str "shift",.int c,.int 0]]) rfl (e3 _ rfl) (ev N')) (jM (ρ:=[some (.mr 0),some (.mr (2+2*k)),some fd,some (.lst [.tup [.str "pot",.int a,.int b],.tup [.str "shift",.int c,.int 0]])]))) rfl ex;refine⟨x,_,fd,hx,xg t2 hk _ _,?_⟩;exact(congrArg ax ((am (aC kf)).trans ((am ((db tt).trans ((am (aC e2)).trans (dX km)))).trans (aN (d:=fd) rfl)))).trans rfl
noncomputable abbrev en (sc:D)(a b c d:Option D):bC:=[some sc,some (.mr 0),some (.mr 1),some (.lst [.mr 2,.mr 4]),some (.lst [.mr 6,.mr 7]),a,b,c,d]
structure Ig (s:Nat→Rw)(j:Nat):Prop where
 ok:∀k,k<2→lx (s k)
 e:∀k,k<2→(s k).ear=dq (s k).row
 l:∀k,k<2→(s k).row.length≤j
theorem Hw {k:Nat}(hk:k<2){sc:D}{a c d:Option D}{N:aq}:g2 aL (ae 3) (ae 6) (en sc a (some (.int k)) c d) N=.ok (.mr (2+2*k)) N:=by
 obtain rfl|rfl:k=0∨k=1:=by omega
 ·exact au (f:=aL) (a:=ae 3) (b:=ae 6) (x:=.lst [.mr 2,.mr 4]) (y:=.int 0) rfl rfl (dU (k:=0) rfl)
 ·exact au (f:=aL) (a:=ae 3) (b:=ae 6) (x:=.lst [.mr 2,.mr 4]) (y:=.int 1) rfl rfl (dU (k:=1) rfl)
theorem G8 {k:Nat}(hk:k<2){sc:D}{a c d:Option D}{N:aq}:g2 aL (ae 3) (g2 du (gC (.int 1)) (ae 6)) (en sc a (some (.int k)) c d) N=.ok (.mr (2+2*(1-k))) N:=by
 obtain rfl|rfl:k=0∨k=1:=by omega
 ·exact au (f:=aL) (a:=ae 3) (b:=g2 du (gC (.int 1)) (ae 6)) (x:=.lst [.mr 2,.mr 4]) (y:=.int 1) rfl rfl (dU (k:=1) rfl)
 ·exact au (f:=aL) (a:=ae 3) (b:=g2 du (gC (.int 1)) (ae 6)) (x:=.lst [.mr 2,.mr 4]) (y:=.int 0) rfl rfl (dU (k:=0) rfl)
theorem JH {k:Nat}(hk:k<2){sc:D}{a c d:Option D}{N:aq}:g2 aL (ae 4) (ae 6) (en sc a (some (.int k)) c d) N=.ok (.mr (6+k)) N:=by
 obtain rfl|rfl:k=0∨k=1:=by omega
 ·exact au (f:=aL) (a:=ae 4) (b:=ae 6) (x:=.lst [.mr 6,.mr 7]) (y:=.int 0) rfl rfl (dU (k:=0) rfl)
 ·exact au (f:=aL) (a:=ae 4) (b:=ae 6) (x:=.lst [.mr 6,.mr 7]) (y:=.int 1) rfl rfl (dU (k:=1) rfl)
theorem BG {l:List Int}{fs:List D}{s:Nat→Rw}{N:aq}{j:Nat}{sc:D}{a b c d:Option D}(t:aP l (nT fs s) N)(hf:fs.all (ay 30)=true)(iv:Ig s j)(hj:j<1000) :
  ∃s' N' b',aP l (nT fs s') N'∧Ig s' (j+1)∧pM (en sc a b c d) N=.ok (.nx (en sc a b' c d)) N':=by
 obtain⟨f,N1,a1,b1,t1,e1⟩:=nG (ρ:=en sc a b c d) (i:=1) (many:=2) t rfl (by decide) (av (by decide) (by decide));obtain⟨k,rfl⟩:=Int.eq_ofNat_of_zero_le a1;have hk:k<2:=by omega
 have hw:=iv.ok k hk;have hl:=iv.l k hk;have ap:=dX (tR (JH hk) (Fc t1 hk) (bT (F:=bG) (Hw hk (sc:=sc) (a:=a) (c:=c) (d:=d)) (l9 (lD t1 hk) (nM t1 hk))) (Fc t1 hk) (by rw[length_map];omega));have t2:=HA t1 hk ((s k).row++[(s k).now]);rw[map_append] at t2;have t2:aP l (nT fs (bE s k ⟨(s k).now,(s k).ear,(s k).row++[(s k).now]⟩)) (N1.set (6+k) (.lst ((s k).row.map bx++[bx (s k).now]))):=t2;generalize N1.set (6+k) (.lst ((s k).row.map bx++[bx (s k).now]))=N2 at *;have row':∀x∈(s k).row++[(s k).now],dz x.2:=fun x hx=>by
  rcases mem_append.mp hx with q|q
  ·exact hw.row x q
  ·rw[mem_singleton.mp q];exact hw.now
 have ok1:∀m,m<2→lx (bE s k ⟨(s k).now,(s k).ear,(s k).row++[(s k).now]⟩ m):=fun m hm=>by
  by_cases q:m=k
  ·rw[q,cT];exact⟨hw.now,hw.ear,row'⟩
  ·rw[ao q];exact iv.ok m hm
 have el:(bE s k ⟨(s k).now,(s k).ear,(s k).row++[(s k).now]⟩ k).ear.length≤100:=by
  rw[cT];show(s k).ear.length≤100;rw[iv.e k hk];exact zB _
 obtain⟨x,M',dd,hx,t3,e3⟩:=A4 t2 hk hf (ok1 0 (by decide)) (ok1 1 (by decide)) el;refine⟨_,M',some (.int k),t3,⟨fun m hm=>?_,fun m hm=>?_,fun m hm=>?_⟩,?_⟩
 ·by_cases q:m=k
  ·subst q;rw[cT,cT];refine⟨hx,fun y hy=>?_,row'⟩;rcases mem_append.mp (mem_of_mem_drop hy) with z|z
   ·exact hw.ear y z
   ·rw[mem_singleton.mp z];exact hw.now
  ·rw[ao q,ao q];exact iv.ok m hm
 ·by_cases q:m=k
  ·subst q;rw[cT,cT];show dq ((s m).ear++[(s m).now])=dq ((s m).row++[(s m).now]);rw[iv.e m hm,ve]
  ·rw[ao q,ao q];exact iv.e m hm
 ·by_cases q:m=k
  ·subst q;rw[cT,cT];show((s m).row++[(s m).now]).length≤j+1;rw[length_append,length_singleton];omega
  ·rw[ao q,ao q];have:=iv.l m hm;omega
 ·exact(am (aC (e1 (gC (.int 2)) rfl))).trans ((am ap).trans (dX (bw (F:=ej) (a:=ae 1) (x:=.mr 0) rfl (Hw hk) e3)))
theorem ya {ds0:List D}{sg:GG}{b:GS}{d:D}{ds:List D}{ρ ρ1 ρ2:bC}{M M1:aq}(h1:sg d ρ=some ρ1)(h2:b ρ1 M=.ok (.nx ρ2) M1):dR ⟨ds0,none⟩ sg b (d::ds) ρ M=dR ⟨ds0,none⟩ sg b ds ρ2 M1:=by
 show(match sg d ρ with|none=>aU.bad|some ρ1=>(b ρ1 M).bind fun f M1=>match f with | .nx ρ2=>dR ⟨ds0,none⟩ sg b ds ρ2 M1 | .ct ρ2=>dR ⟨ds0,none⟩ sg b ds ρ2 M1 | .bk ρ2=>.ok (.nx ρ2) M1 | .rt d=>.ok (.rt d) M1)=_;rw[h1];dsimp only;rw[h2,ai]
theorem Ce {l:List Int}{fs ds0:List D}{k:Nat}{sc:D}{a:Option D}(hk:k<2):∀(R:List Tl) (s:Nat→Rw) (N:aq) (y:Option D),aP l (nT fs s) N→(s k).ear=R.reverse→(∀m,m<2→lx (s m))→
  ∃s' N' y',aP l (nT fs s') N'∧(s' k).ear=[]∧s' (1-k)=s (1-k)∧(∀m,m<2→lx (s' m))∧dR ⟨ds0,none⟩ (gK 8) pZ (R.map bx) (en sc a (some (.int k)) (some (bx (s (1-k)).now)) y) N=.ok (.nx (en sc a (some (.int k)) (some (bx (s (1-k)).now)) y')) N'
 | [],s,N,y,t,he,ok=>⟨s,N,y,t,he,rfl,ok,rfl⟩
 | x::R,s,N,y,t,he,ok=>by
  have ho:1-k<2:=by omega
  have nk:1-k≠k:=by omega
  have hw:=ok k hk;rw[reverse_cons] at he;have hx:dz x.2:=hw.ear x (by rw[he];simp);have hp:=nM t hk;rw[he,map_append] at hp;have kb:=Ar (lD t hk) hp;have t2:=xg t hk x R.reverse;have ok2:∀m,m<2→lx (bE s k ⟨x,R.reverse,(s k).row⟩ m):=fun m hm=>by
   by_cases q:m=k
   ·rw[q,cT];exact⟨hx,fun z hz=>hw.ear z (by rw[he];exact mem_append_left _ hz),hw.row⟩
   ·rw[ao q];exact ok m hm
  generalize N.set (3+2*k) (aY (bt x) (R.reverse.map bt))=N2 at *;have e2:bE s k ⟨x,R.reverse,(s k).row⟩ (1-k)=s (1-k):=ao nk;have k1:=l9 (lD t2 hk) (nM t2 hk);rw[cT] at k1;have k2:=l9 (lD t2 ho) (nM t2 ho);rw[e2] at k2;have ho':=ok (1-k) ho;have q1:=bq (au (f:=aW true) (b:=ae 8) (bT (F:=bG) (Hw hk (sc:=sc) (a:=a) (c:=some (bx (s (1-k)).now)) (d:=some (bx x))) k1) (y:=bx x) rfl (uq (kj hx) (kR _ _ (kj hx)) (fun _=>rfl) N2));have q2:=bq (au (f:=aW true) (b:=ae 7) (bT (F:=bG) (G8 hk (sc:=sc) (a:=a) (c:=some (bx (s (1-k)).now)) (d:=some (bx x))) k2) (y:=bx (s (1-k)).now) rfl (uq (kj ho'.now) (kR _ _ (kj ho'.now)) (fun _=>rfl) N2));have bd:pZ (en sc a (some (.int k)) (some (bx (s (1-k)).now)) (some (bx x))) N=.ok (.nx (en sc a (some (.int k)) (some (bx (s (1-k)).now)) (some (bx x)))) N2:=
   (am (dX (iA (go:=g2 aL (ae 3) (ae 6)) (m:="back") (Hw hk) (lD t hk) rfl (ds:=[]) rfl rfl kb))).trans ((db (dP q1 fun _=>q2)).trans rfl)
  obtain⟨s',N',y',t',he',hs',ok',ef⟩:=Ce (ds0:=ds0) (sc:=sc) (a:=a) hk R (bE s k ⟨x,R.reverse,(s k).row⟩) N2 (some (bx x)) t2 (by rw[cT]) ok2;rw[e2] at hs' ef;exact⟨s',N',y',t',he',hs',ok',(ya rfl bd).trans ef⟩
theorem x8 {l:List Int}{fs:List D}{s:Nat→Rw}{N:aq}{k:Nat}{sc:D}{a c d:Option D}(t:aP l (nT fs s) N)(hf:fs.all (ay 30)=true)(hk:k<2)(ok:∀m,m<2→lx (s m))(he:(s k).ear=dq (s k).row) :
  ∃s' N' c' d',aP l (nT fs s') N'∧s' (1-k)=s (1-k)∧(∀m,m<2→lx (s' m))∧oQ (en sc a (some (.int k)) c d) N=.ok (.nx (en sc a (some (.int k)) c' d')) N':=by
 have ho:1-k<2:=by omega
 have k2:=aC (i:=7) (bT (F:=bG) (G8 hk (sc:=sc) (a:=a) (c:=c) (d:=d)) (l9 (lD t ho) (nM t ho)));obtain⟨s',N',y',t',he',hs',ok',ef⟩:=Ce (ds0:=(dq (s k).row).reverse.map bx) (sc:=sc) (a:=a) hk (dq (s k).row).reverse s N d t (by rw[reverse_reverse];exact he) ok;have its:eE (ox (lF (g2 aL (ae 4) (ae 6)) (cH (eW (gC (.int 100)))) bh)) (en sc a (some (.int k)) (some (bx (s (1-k)).now)) d) N=.ok ⟨(dq (s k).row).reverse.map bx,none⟩ N:=by
  unfold eE ox lF;rw[JH hk,ai,show cH (eW (gC (.int 100))) (en sc a (some (.int k)) (some (bx (s (1-k)).now)) d) N=.ok (some (-100)) N from rfl,ai,show bh (en sc a (some (.int k)) (some (bx (s (1-k)).now)) d) N=.ok none N from rfl,ai];have sl:jY (.mr (6+k)) (some (-100)) none N=.ok (.lst ((dq (s k).row).map bx)) N:=by
   unfold jY;dsimp only;rw[Fc t hk];dsimp only;rw[qY,qX]
  rw[sl,ai];show(aU.ok (D.lst ((dq (s k).row).map bx).reverse) N).bind rA=_;rw[ai,map_reverse];rfl
 have hp:=nM t' hk;rw[he'] at hp;have hM:=qt t' hf (ok' 0 (by decide)) (ok' 1 (by decide));have q:=AZ hM (lD t' hk) hp;have q1:=bA (cf (bT (F:=cp) (Hw hk (sc:=sc) (a:=a) (c:=some (bx (s (1-k)).now)) (d:=y')) q));exact⟨s',N',_,_,t',hs',ok',(am k2).trans ((am (o4 its ef)).trans ((db (dP q1 fun _=>q1)).trans rfl))⟩
theorem qa {M:aq}{a b:MO}:(M++[a]).set M.length b=M++[b]:=by
 rw[set_append_right _ _ (Nat.le_refl _),Nat.sub_self];rfl
theorem uO {M:aq}{a:MO}:(M++[a])[M.length]?=some a:=by simp
theorem BE {N:aq}{x:D}:dB [.mr N.length,x] (N++[.obj "Past" []])=.ok .non (N++[aY x []]):=by
 show ax (dC [some (.mr N.length),some x] _)=_;unfold dC;have k1:=ij (go:=ae 0) (gv:=ae 1) (ρ:=[some (.mr N.length),some x]) (f:="now") (M:=N++[.obj "Past" []]) rfl rfl uO (by decide);rw[qa] at k1;have k2:=ij (go:=ae 0) (gv:=dk ag) (ρ:=[some (.mr N.length),some x]) (f:="earlier") (fs:=eo "now" x []) (M:=N++[.obj "Past" (eo "now" x [])]) (dZ (ds:=[]) rfl) rfl uO (show 1<1000 by decide);rw[qa] at k2;exact(congrArg ax ((am k1).trans k2)).trans rfl
theorem yg {ρ:bC}{N:aq}{ga:GA}{x:D}(h:ga ρ N=.ok [x] N):gD "Past" 2 dB ga ρ N=.ok (.mr N.length) (N++[aY x []]):=by
 unfold gD;rw[h,ai,if_pos (show [x].length+1=2 from rfl),BE,ai]
theorem Bu {M:aq}{f:Fm}(h:∀N,cK [f.d] N=.ok (.bl true) N):fc [.mr M.length,f.d] (M++[.obj "Reel" []])=.ok .non (M++[cy (M.length+1),aY (bt (0,f)) []]):=by
 have ef:=h (M++[.obj "Reel" []]);have k1:=(db (a:=eX "NoFilm" (gC (.str "that is no film"))) (b:=aD) (bA (cf (bT (F:=cK) (a:=ae 1) (ρ:=[some (.mr M.length),some f.d]) rfl ef)))).trans rfl;have HX:((M++[MO.obj "Reel" []])++[aY (.tup [.int 0,f.d]) []])[M.length]?=some (.obj "Reel" []):=by simp
 have k2:=ij (go:=ae 0) (ρ:=[some (.mr M.length),some f.d]) (f:="past") (yg (ρ:=[some (.mr M.length),some f.d]) (N:=M++[.obj "Reel" []]) (ga:=aa (aF (aa (gC (.int 0)) (aa (ae 1) ag))) ag) (x:=.tup [.int 0,f.d]) (ak (bv (ds:=[.int 0,f.d]) rfl) rfl)) rfl HX (by decide);rw[append_assoc M,set_append_right _ _ (Nat.le_refl _),Nat.sub_self,length_append,length_singleton] at k2;exact(congrArg ax ((am k1).trans k2)).trans rfl
theorem rm {ρ:bC}{M:aq}{f:Fm}(h:∀N,cK [f.d] N=.ok (.bl true) N):iZ (some f.d::ρ) M=.ok (.mr M.length) (M++[cy (M.length+1),aY (bt (0,f)) []]):=by
 unfold iZ gD;rw[ak (d:=f.d) (M1:=M) (ds:=[]) (M2:=M) rfl rfl,ai,if_pos (show [f.d].length+1=2 from rfl),Bu h,ai]
theorem uu {t:mn}{ge:GE}{d e:D}{r:List D}{ρ:bC}{M M2:aq}(ht:t.ok M=true)(h:ge (some d::ρ) M=.ok e M2):ce t bK ge (d::r) ρ M=(ce t bK ge r ρ M2).bind fun es M3=>.ok (e::es) M3:=by
 show(if t.ok M then match bK (some d::ρ) M with | .ok true M1=>(match ge (some d::ρ) M1 with | .ok e M2=>(ce t bK ge r ρ M2).bind fun es M3=>.ok (e::es) M3|_=>.bad) | .ok false M1=>ce t bK ge r ρ M1|_=>.bad else .bad)=_;rw[ht,if_pos rfl];show(match ge (some d::ρ) M with | .ok e M2=>(ce t bK ge r ρ M2).bind fun es M3=>.ok (e::es) M3|_=>.bad)=_;rw[h]
noncomputable def HX (f g:Fm)(k:Nat):Rw:=⟨(0,if k=0 then f else g),[],[]⟩
theorem zm {l:List Int}{N:aq}{f g:Fm}{ρ:bC}(t:aP l [.lst [f.d,g.d]] N)(hf:∀N,cK [f.d] N=.ok (.bl true) N)(hg:∀N,cK [g.d] N=.ok (.bl true) N)(h2:ρ[2]?=some (some (.mr 1))) :
  ∃N',bB (eE (ae 2)) bK iZ aR ρ N=.ok (.lst [.mr 2,.mr 4]) N'∧aP l (nT [f.d,g.d] (HX f g)) (N'++[.lst []]++[.lst []])∧N'.length=6:=by
 obtain⟨i,c,h,rfl⟩:=t;have its:eE (ae 2) ρ (tp l i c::[.lst [f.d,g.d]])=.ok ⟨[f.d,g.d],some 1⟩ (tp l i c::[.lst [f.d,g.d]]):=by
  unfold eE ae;rw[h2];rfl
 have ok:∀E:aq,mn.ok ⟨[f.d,g.d],some 1⟩ (tp l i c::.lst [f.d,g.d]::E)=true:=fun E=>fU [f.d,g.d]
 refine⟨tp l i c::.lst [f.d,g.d]::[cy 3,aY (bt (0,f)) [],cy 5,aY (bt (0,g)) []],?_,⟨i,c,h,rfl⟩,rfl⟩;unfold bB;rw[its,ai];have m1:=rm (ρ:=ρ) (M:=tp l i c::[.lst [f.d,g.d]]) hf;have m2:=rm (ρ:=ρ) (M:=tp l i c::.lst [f.d,g.d]::[cy 3,aY (bt (0,f)) []]) hg;dsimp only;rw[uu (ok []) m1];show((ce ⟨[f.d,g.d],some 1⟩ bK iZ [g.d] ρ (tp l i c::.lst [f.d,g.d]::[cy 3,aY (bt (0,f)) []])).bind _).bind aR=_;rw[uu (ok _) m2];show(((ce ⟨[f.d,g.d],some 1⟩ bK iZ [] ρ (tp l i c::.lst [f.d,g.d]::[cy 3,aY (bt (0,f)) [],cy 5,aY (bt (0,g)) []])).bind _).bind _).bind aR=_;have z:ce ⟨[f.d,g.d],some 1⟩ bK iZ [] ρ (tp l i c::.lst [f.d,g.d]::[cy 3,aY (bt (0,f)) [],cy 5,aY (bt (0,g)) []])=.ok [] (tp l i c::.lst [f.d,g.d]::[cy 3,aY (bt (0,f)) [],cy 5,aY (bt (0,g)) []]):=by
  show(if mn.ok ⟨[f.d,g.d],some 1⟩ _ then aU.ok [] _ else .bad)=_;rw[ok,if_pos rfl]
 rw[z,ai,ai,ai];exact if_pos (bn (show 2≤1000000 by decide))
structure GL (f:Fm):Prop where
 ok:dz f
 is:∀N,cK [f.d] N=.ok (.bl true) N
theorem yD {l:List Int}{N:aq}{ρ:bC}(t:aP l [] N)(h1:ρ[1]?=some (some (.mr 0))):∃f g N',GL f∧GL g∧aP l [.lst [f.d,g.d]] N'∧fB (aa (aj 2 dG (aa (ae 1) (aa (gC (.int 8)) ag))) (aa (aj 2 dG (aa (ae 1) (aa (gC (.int 8)) ag))) ag)) ρ N=.ok (.mr 1) N':=by
 have v:∀N,ae 1 ρ N=.ok (.mr 0) N:=fun N=>by unfold ae;rw[h1]
 obtain⟨w,hh,g,m,st,qs,N1,k1,t1,e1⟩:=uY t;obtain⟨w2,hh2,g2,m2,st2,qs2,N2,k2,t2,e2⟩:=uY t1;have kk1:GL (nQ w hh g m st qs):=⟨k1.fm,fun N=>k1.is⟩;have kk2:GL (nQ w2 hh2 g2 m2 st2 qs2):=⟨k2.fm,fun N=>k2.is⟩;generalize nQ w hh g m st qs=f at *;generalize nQ w2 hh2 g2 m2 st2 qs2=f2 at *;obtain⟨i,c,h,rfl⟩:=t2;exact⟨f,f2,_,kk1,kk2,⟨i,c,h,rfl⟩,xo (M1:=[tp l i c]) (ds:=[f.d,f2.d]) (ak (bw (a:=ae 1) (b:=gC (.int 8)) (v N) rfl e1) (ak (bw (a:=ae 1) (b:=gC (.int 8)) (v N1) rfl e2) rfl))⟩
theorem law_true (ns:List Int)(hl:ns.length≤63):∃M',uJ [.ro (ns.map D.int)] []=.ok (.bl true) M':=by
 generalize hsc:D.ro (ns.map D.int)=sc;have l3:(3:Nat)≤sizeLine:=bn (by decide);have t0:aP ns [] [tp ns 0 0]:=⟨0,0,by decide,rfl⟩;have s1:aG 1 (fB (aa (aB lT (aa (ae 0) ag)) (aa (gC (.int 0)) (aa (gC (.int 0)) ag)))) [some sc,none,none,none,none,none,none,none,none] []=.ok (.nx [some sc,some (.mr 0),none,none,none,none,none,none,none]) [tp ns 0 0]:=by
  subst hsc;refine aC (d:=.mr 0) (M1:=[tp ns 0 0]) ?_;show(if [D.lst (ns.map D.int),.int 0,.int 0].length≤sizeLine then aU.ok (D.mr 0) [MO.lst [D.lst (ns.map D.int),.int 0,.int 0]] else .bad)=_;rw[if_pos (show [D.lst (ns.map D.int),.int 0,.int 0].length≤sizeLine from l3)];rfl
 obtain⟨f,g,N1,kf,kg,t1,e1⟩:=yD (ρ:=[some sc,some (.mr 0),none,none,none,none,none,none,none]) t0 rfl;obtain⟨q,N2,a2,b2,t2,e2⟩:=nG (ρ:=[some sc,some (.mr 0),some (.mr 1),none,none,none,none,none,none]) (i:=1) (many:=2) t1 rfl (by decide) (av (by decide) (by decide));have tt:=bq (au (f:=aW false) (e2 (gC (.int 2)) rfl) (b:=gC (.int 0)) (y:=.int 0) rfl (qz q 0 N2));obtain⟨g',N3,kg',t3,e3⟩:∃g' N3,GL g'∧aP ns [.lst [f.d,g'.d]] N3∧dL (aM (g2 (aW false) (aj 2 ah (aa (ae 1) (aa (gC (.int 2)) ag))) (gC (.int 0)))) (iK (ae 2) (gC (.int 1)) (g2 aL (ae 2) (gC (.int 0)))) aD [some sc,some (.mr 0),some (.mr 1),none,none,none,none,none,none] N1=.ok (.nx [some sc,some (.mr 0),some (.mr 1),none,none,none,none,none,none]) N3:=by
  by_cases h:q=0
  ·rw[decide_eq_true h] at tt;obtain⟨i,c,hi,rfl⟩:=t2;exact⟨f,tp ns i c::[.lst [f.d,f.d]],kf,⟨i,c,hi,rfl⟩,(cu tt).trans rfl⟩
  ·rw[decide_eq_false h] at tt;exact⟨g,N2,kg,t2,(db tt).trans rfl⟩
 obtain⟨N4,e4,t4,l4⟩:=zm (ρ:=[some sc,some (.mr 0),some (.mr 1),none,none,none,none,none,none]) t3 kf.is kg'.is rfl;have e5:aG 4 (dk (aa (fB ag) (aa (fB ag) ag))) [some sc,some (.mr 0),some (.mr 1),some (.lst [.mr 2,.mr 4]),none,none,none,none,none] N4=.ok (.nx (en sc none none none none)) (N4++[.lst []]++[.lst []]):=by
  have m1:fB ag [some sc,some (.mr 0),some (.mr 1),some (.lst [.mr 2,.mr 4]),none,none,none,none,none] N4=.ok (.mr 6) (N4++[.lst []]):=by rw[←l4];exact l8
  have m2:fB ag [some sc,some (.mr 0),some (.mr 1),some (.lst [.mr 2,.mr 4]),none,none,none,none,none] (N4++[.lst []])=.ok (.mr 7) (N4++[.lst []]++[.lst []]):=by rw[show(7:Nat)=(N4++[MO.lst []]).length by rw[length_append,l4];rfl];exact l8
  exact aC (dZ (ds:=[.mr 6,.mr 7]) (ak m1 (ak m2 rfl)))
 generalize N4++[MO.lst []]++[MO.lst []]=N5 at *;have pf:[f.d,g'.d].all (ay 30)=true:=by
  show(ay 30 f.d&&(ay 30 g'.d&&true))=true;rw[io (by decide) kf.ok.pure,io (by decide) kg'.ok.pure];rfl
 have i0:Ig (HX f g') 0:=⟨fun k hk=>⟨by
   show dz (if k=0 then f else g');split
   ·exact kf.ok
   ·exact kg'.ok,(fun x hx=>by cases hx),(fun x hx=>by cases hx)⟩,fun k _=>rfl,fun k _=>Nat.le_refl _⟩
 obtain⟨f1,N6,a6,b6,t6,e6⟩:=nG (ρ:=en sc none none none none) (i:=1) (many:=12) t4 rfl (by decide) (av (by decide) (by decide));obtain⟨f2,N7,a7,b7,t7,e7⟩:=nG (ρ:=en sc none none none none) (i:=1) (many:=300) t6 rfl (by decide) (av (by decide) (by decide));obtain⟨f3,N8,a8,b8,t8,e8⟩:=nG (ρ:=en sc none none none none) (i:=1) (many:=2) t7 rfl (by decide) (av (by decide) (by decide));obtain⟨v,hv,ev⟩:=li (a:=.int f1) (b:=.int f2) a8 b8;obtain⟨n,hn,hn2⟩:∃n:Nat,v=.int n∧n<300:=by
  rcases hv with h|h
  ·obtain⟨n,rfl⟩:=Int.eq_ofNat_of_zero_le a6;exact⟨n,h,by omega⟩
  ·obtain⟨n,rfl⟩:=Int.eq_ofNat_of_zero_le a7;exact⟨n,h,by omega⟩
 subst hn;obtain⟨ρ',N9,⟨s9,y,rfl,t9,i9⟩,ef⟩:=pT (ds0:=bi 0 n) (s:=gK 5) (body:=pM) (W:=fun j ρ N=>∃(s:Nat→Rw) (y:Nat→Option D),ρ=en sc (y 5) (y 6) none none∧aP ns (nT [f.d,g'.d] s) N∧Ig s j) (bi 0 n) 0 (fun j d hd ρ N hW=>by
  obtain⟨s,y,rfl,t,iv⟩:=hW;have hj:=mD hd;obtain⟨s',N',b',t',iv',e⟩:=BG (sc:=sc) (a:=some d) (b:=y 6) (c:=none) (d:=none) t pf iv (by omega);exact⟨_,_,N',rfl,e,s',fun z=>[some d,b'][z-5]?.getD none,rfl,t',iv'⟩) (en sc none none none none) N8 ⟨_,fun _=>none,rfl,t8,i0⟩
 obtain⟨ρ'',N10,_,eg⟩:=pT (ds0:=bi 0 2) (s:=gK 6) (body:=oQ) (W:=fun j ρ N=>∃(s:Nat→Rw) (z:Nat→Option D),ρ=en sc (y 5) (z 6) (z 7) (z 8)∧aP ns (nT [f.d,g'.d] s) N∧(∀m,m<2→lx (s m))∧∀k,j≤k→k<2→(s k).ear=dq (s k).row) (bi 0 2) 0 (fun j d hd ρ N hW=>by
  obtain⟨s,z,rfl,t,ok,he⟩:=hW;obtain⟨hj,rfl⟩:=mD hd;obtain⟨s',N',c',d',t',hs',ok',e⟩:=x8 (k:=j) (sc:=sc) (a:=y 5) (c:=z 7) (d:=z 8) t pf hj ok (he j (by omega) hj);refine⟨_,_,N',rfl,by rw[Int.zero_add];exact e,s',fun x=>[some (.int j),c',d'][x-6]?.getD none,rfl,t',ok',fun k h1 h2=>?_⟩;have:k=1-j:=by omega
  rw[this,hs',←this];exact he k (by omega) h2) (en sc (y 5) (y 6) none none) N9 ⟨s9,fun x=>[y 6,none,none][x-6]?.getD none,rfl,t9,i9.ok,fun k _ hk=>i9.e k hk⟩
 refine⟨N10,?_⟩;show ax (uo [some sc,none,none,none,none,none,none,none,none] [])=_;unfold uo;exact(congrArg ax ((am s1).trans ((am (aC e1)).trans ((am e3).trans ((am (aC e4)).trans ((am e5).trans ((am (o4 (ku (n:=n) (ak (au (f:=aL) (dZ (ds:=[.int f1,.int f2]) (ak (e6 (gC (.int 12)) rfl) (ak (e7 (gC (.int 300)) rfl) rfl))) (e8 (gC (.int 2)) rfl) (ev N8)) rfl) (by omega)) ef)).trans ((am (o4 (ku (n:=2) rfl (by decide)) eg)).trans (aN (d:=.bl true) rfl))))))))).trans rfl
end K34
theorem PySem.Challenge.cw_glowrow_k34_whole_reels_taken_back_holds : PySem.Challenge.rw_glowrow_k34_whole_reels_taken_back.Holds :=
 K34.pre K34.law_true
