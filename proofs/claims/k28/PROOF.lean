import PyProof.Rows.All
import Wide.All
import KE.KNestM
import OpenK.KOwn
import OpenK.KRaise
import KE.KIsAll
import KE.KTypeName
import Wide.FinOn
import Lean
import PyProof.EqAt
import PyProof.EqKinds
import PyProof.TupleCall
import PyProof.Draws
import PyProof.EnumMake
import KE.KLam
import KE.KMinKey
import PyProof.StrCalls2
import PyProof.Rows.StrIndexOr
import PyProof.CollectIter
import PyProof.ListStr
import KE.KDictLaws
import PyProof.P3Eq
import KE.KSortTup
import PySem.Challenge.RW_glowrow_k28_scores_for_deeds
set_option Elab.async false
set_option linter.all false
set_option maxRecDepth 100000
set_option maxHeartbeats 4000000
namespace L2
open PySem PySem.Spec PyProof.Rows List
abbrev eQ:=Sum Int Str
def uu:eQ→Value→Bool
 | .inl k,v=>Value.isInt k v
 | .inr x,v=>Value.isStrOf x v
def PR (w:World):eQ→Int
 | .inl k=>hashInt k
 | .inr x=>hashStr w x
theorem dj:∀{k:eQ} {v:Value},uu k v=true→(∃i t,k=Sum.inl i∧v=Value.int i t)∨(∃x t,k=Sum.inr x∧v=Value.str x t)
 | .inl i,v,h=>by
  obtain⟨t,e⟩:=Value.isInt_shape (k:=i) (v:=v) h;exact .inl ⟨i,t,rfl,e⟩
 | .inr x,v,h=>by
  obtain⟨t,e⟩:=Value.isStrOf_shape (x:=x) (v:=v) h;exact .inr ⟨x,t,rfl,e⟩
theorem Bc (i:Int)(t:Tok):uu (.inl i) (.int i t)=true:=by simp[uu,Value.isInt]
theorem Bu (x:Str)(t:Tok):uu (.inr x) (.str x t)=true:=by simp[uu,Value.isStrOf]
theorem Il (a b:Int):decide ((Sum.inl a:eQ)=Sum.inl b)=(a==b):=by
 by_cases e:a=b
 ·subst e;simp
 ·have h:¬(Sum.inl a:eQ)=Sum.inl b:=fun q=>e (Sum.inl.inj q)
  rw[decide_eq_false h];exact(beq_eq_false_iff_ne.mpr e).symm
theorem J1 (a b:Str):decide ((Sum.inr a:eQ)=Sum.inr b)=decide (a=b):=by
 by_cases e:a=b
 ·subst e;simp
 ·have h:¬(Sum.inr a:eQ)=Sum.inr b:=fun q=>e (Sum.inr.inj q)
  rw[decide_eq_false h,decide_eq_false e]
theorem Ku (a:Int)(b:Str):decide ((Sum.inl a:eQ)=Sum.inr b)=false:=decide_eq_false (fun q=>nomatch q)
theorem IE (a:Str)(b:Int):decide ((Sum.inr a:eQ)=Sum.inl b)=false:=decide_eq_false (fun q=>nomatch q)
def c0 (prog:Program)(w:World):PySem.KeyKind prog w eQ where
 is:=uu
 hash:=PR w
 inj:=fun v a b ha hb=>by
  rcases dj ha with⟨i,t,rfl,rfl⟩|⟨x,t,rfl,rfl⟩
  ·rcases dj hb with⟨j,u,rfl,e⟩|⟨y,u,rfl,e⟩
   ·injection e with e1 _;rw[e1]
   ·exact nomatch e
  ·rcases dj hb with⟨j,u,rfl,e⟩|⟨y,u,rfl,e⟩
   ·exact nomatch e
   ·injection e with e1 _;rw[e1]
 byValue:=fun k v h=>by
  rcases dj h with⟨i,t,rfl,rfl⟩|⟨x,t,rfl,rfl⟩ <;> rfl
 pyHash:=fun hv h=>by
  rcases dj hv with⟨i,t,rfl,rfl⟩|⟨x,t,rfl,rfl⟩
  ·exact wpAny_pyHash_int h
  ·exact wpAny_pyHash_str h
 eqBool:=fun hu hv h=>by
  rcases dj hu with⟨i,t,rfl,rfl⟩|⟨x,t,rfl,rfl⟩
  ·rcases dj hv with⟨j,u,rfl,rfl⟩|⟨y,u,rfl,rfl⟩
   ·rw[Il] at h;exact wpAny_eqBool_int h
   ·rw[Ku] at h;exact SeqAt.EqAt.int_str i t y u _ _ _ _ h
  ·rcases dj hv with⟨j,u,rfl,rfl⟩|⟨y,u,rfl,rfl⟩
   ·rw[IE] at h;exact SeqAt.EqAt.str_int x t j u _ _ _ _ h
   ·rw[J1] at h;exact wpAny_eqBool_str h
 «strs»:=fun k x t v h=>by
  rcases dj h with⟨i,u,rfl,e⟩|⟨y,u,rfl,e⟩
  ·exact nomatch e
  ·injection e with e1 _
   subst e1;cases v <;> rfl
theorem yv (prog:Program)(w:World)(i:Int)(t:Tok):(c0 prog w).is (.inl i) (.int i t)=true:=Bc i t
theorem xB (prog:Program)(w:World)(x:Str)(t:Tok):(c0 prog w).is (.inr x) (.str x t)=true:=Bu x t
inductive V where
 | non|bl (b:Bool)|int (i:Int)|str (x:Str)|byt (b:Array UInt8)|flt (b:UInt64)|ref (a:Addr)|ty (n:String)
 deriving DecidableEq
def bC:V→Value→Prop
 | .non,u=>u=Value.none
 | .bl b,u=>u=Value.bool b
 | .int i,u=>∃t,u=Value.int i t
 | .str x,u=>∃t,u=Value.str x t
 | .byt b,u=>∃t,u=Value.bytes b t
 | .flt b,u=>∃t,u=Value.float b t
 | .ref a,u=>u=Value.ref a
 | .ty n,u=>u=Value.type n
abbrev bu:List V→List Value→Prop:=Paired bC
variable{xs:List V}{us:List Value}
theorem bu.length (r:bu xs us):xs.length=us.length:=Paired.length r
theorem bu.get:∀{xs:List V} {us:List Value} {i:Nat} {x:V},bu xs us→xs[i]?=some x→∃u,us[i]?=some u∧bC x u
 | _,_,_,_,.nil,e=>by simp at e
 | _,_,0,_,.cons r _,e=>by simp at e;subst e;exact⟨_,rfl,r⟩
 | _,_,i+1,x,.cons _ t,e=>by
  obtain⟨u,h1,h2⟩:=bu.get (i:=i) (x:=x) t (by simpa using e);exact⟨u,by simpa using h1,h2⟩
variable{u:Value}
theorem bu.set {x:V}(r:bC x u):∀{xs:List V} {us:List Value} (i:Nat),bu xs us→bu (xs.set i x) (us.set i u)
 | _,_,_,.nil=>.nil
 | _,_,0,.cons _ t=>.cons r t
 | _,_,i+1,.cons q t=>.cons q (bu.set r i t)
theorem bu.append:∀{xs ys:List V} {us ws:List Value},bu xs us→bu ys ws→bu (xs++ys) (us++ws)
 | _,_,_,_,.nil,s=>s
 | _,_,_,_,.cons r t,s=>.cons r (bu.append t s)
theorem bu.take:∀{xs:List V} {us:List Value} (n:Nat),bu xs us→bu (xs.take n) (us.take n)
 | _,_,0,_=>.nil
 | _,_,_+1,.nil=>.nil
 | _,_,n+1,.cons r t=>.cons r (bu.take n t)
theorem bu.drop:∀{xs:List V} {us:List Value} (n:Nat),bu xs us→bu (xs.drop n) (us.drop n)
 | _,_,0,r=>r
 | _,_,_+1,.nil=>.nil
 | _,_,n+1,.cons _ t=>bu.drop n t
def ma:Option V→Option Value→Prop
 | some v,some u=>bC v u
 | none,none=>True
 | _,_=>False
def KV {κ:Type}:List (κ×V)→List (κ×Value)→Prop:=Paired fun(p:κ×V) (q:κ×Value)=>p.1=q.1∧bC p.2 q.2
def kV:eQ→V
 | .inl i=>.int i
 | .inr x=>.str x
inductive HO where
 | lst (xs:List V)
 | tup (xs:List V)
 | dK (kvs:List (eQ×V))|dT (kvs:List (List eQ×V))
 | set (S:Int→Bool) (n:Nat)
 | ins (C dx:Addr) (fs:List (Str×V))
 | own (x:Addr)
 | xd (fs:List (Str×V))
 | met (f x:Addr)
 | rng (lo hi:Int)
 | frz (o:Obj) (u:HO)
 | tbl (ps:Array Value)
 | ext (φ:Heap→Prop)
abbrev Hp:=Addr→Option HO
def cR (H:Hp)(a:Addr)(o:HO):Hp:=fun b=>if b=a then some o else H b
variable{H:Hp}{a:Addr}{o:HO}
theorem bX :cR H a o a=some o:=by unfold cR;rw[if_pos rfl]
variable{b:Addr}
theorem aQ (h:b≠a):cR H a o b=H b:=by unfold cR;rw[if_neg h]
theorem xN {u:HO}(h:H a=some o)(h':H b=some u)(d:o≠u):a≠b:=by
 intro e;subst e;rw[h] at h';exact d (Option.some.inj h')
theorem cj (h:H a=some o)(h':H b=none):a≠b:=by
 intro e;subst e;rw[h] at h';cases h'
section
variable (P:Program)(w:World)
def dq (H:Hp)(h:Heap)(a:Addr):HO→Prop
 | .lst xs=>xs.length≤sizeLine∧∃(its:List Value) (n:Nat),bu xs its∧h.get? a=some {cls:=.type "list",data:=.seq its.toArray n}
 | .tup xs=>xs.length≤sizeLine∧∃its:List Value,bu xs its∧IsTup h a its.toArray
 | .dK kvs=>kvs.length≤sizeLine∧(a==sysModules)=false∧∃vs,KV kvs vs∧h.DictOf (c0 P w) a vs
 | .dT kvs=>kvs.length≤sizeLine∧(a==sysModules)=false∧∃xs:List (List eQ×Addr×Value),
   Paired (fun(p:List eQ×V) (q:List eQ×Addr×Value)=>p.1=q.1∧H q.2.1=some (.tup (p.1.map kV))∧bC p.2 q.2.2) kvs xs∧
   ∃o es ep,h.get? a=some o∧o.ExactDict∧o.data=.dict es ep∧es.toList=xs.map (entryOfKey (tupleKind (c0 P w)))∧(xs.map (·.1)).Nodup
 | .set S n=>h.SetOf (intKind P w) a S n
 | .ins C dx fs=>H dx=some (.own a)∧fs.length≤1000∧dx≠a∧h.get? a=some (W.instObj C dx)∧
   ∃mA,h.Ns1 dx mA∧(∀f,ma (fs.lookup f) (mA f))∧PySem.Within mA (fs.map (·.1))
 | .own _=>∃o,h.get? a=some o
 | .xd fs=>∃mA,h.Ns1 a mA∧∀f,ma (fs.lookup f) (mA f)
 | .rng lo hi=>∃t u v,h.get? a=some {cls:=.type "range",data:=.fields #[.int lo t,.int hi u,.int 1 v]}
 | .frz o u=>h.get? a=some o∧dq H h a u
 | .tbl ps=>h.get? a=some {cls:=.none,data:=.fields ps}
 | .met f x=>h.get? a=some (W.methodObj (.ref f) (.ref x))
 | .ext φ=>φ h∧(∃o,h.get? a=some o)∧∀h1 h2:Heap,φ h1→(∀o,h1.get? a=some o→h2.get? a=some o)→φ h2
def mU (H:Hp)(h:Heap):Prop:=∀a o,H a=some o→dq P w H h a o
end
section
variable {P:Program}{w:World}{H H':Hp}{h h':Heap}{a:Addr}{o:HO}
theorem dq.lt (x:dq P w H h a o):a<h.objs.size:=by
 cases o with
 | lst xs=>obtain⟨_,_,_,_,e⟩:=x;exact Heap.lt_size e
 | tup xs=>obtain⟨_,_,_,p⟩:=x;exact p.lt
 | dK kvs=>obtain⟨_,_,_,_,o,_,_,e,_⟩:=x;exact Heap.lt_size e
 | dT kvs=>obtain⟨_,_,_,_,o,_,_,e,_⟩:=x;exact Heap.lt_size e
 | set S n=>obtain⟨o,_,_,_,e,_⟩:=x;exact Heap.lt_size e
 | ins C dx fs=>obtain⟨_,_,_,e,_⟩:=x;exact Heap.lt_size e
 | own y=>obtain⟨_,e⟩:=x;exact Heap.lt_size e
 | xd fs=>obtain⟨_,⟨_,_,_,e,_⟩,_⟩:=x;exact Heap.lt_size e
 | rng lo hi=>obtain⟨_,_,_,e⟩:=x;exact Heap.lt_size e
 | frz ob u=>obtain⟨e,_⟩:=x;exact Heap.lt_size e
 | tbl ps=>exact Heap.lt_size (show h.get? a=some _ from x)
 | met f y=>exact Heap.lt_size (show h.get? a=some _ from x)
 | ext φ=>obtain⟨_,⟨_,e⟩,_⟩:=x;exact Heap.lt_size e
theorem Paired.mapP {α β:Type}{F G:α→β→Prop}:∀{l₁:List α} {l₂:List β},Paired F l₁ l₂→(∀a b,F a b→G a b)→Paired G l₁ l₂
 | _,_,.nil,_=>.nil
 | _,_,.cons r t,f=>.cons (f _ _ r) (Paired.mapP t f)
theorem dq.stay (x:dq P w H h a o)(k:∀b u,(b=a∨H b=some (.own a))→h.get? b=some u→h'.get? b=some u)
  (ho:∀b,H b=some (.own a)→H' b=some (.own a)) (ht:∀b xs,H b=some (.tup xs)→H' b=some (.tup xs)):dq P w H' h' a o:=by
 induction o with
 | lst xs=>obtain⟨z,its,n,r,e⟩:=x;exact⟨z,its,n,r,k _ _ (.inl rfl) e⟩
 | tup xs=>obtain⟨z,its,r,ob,e,c⟩:=x;exact⟨z,its,r,ob,k _ _ (.inl rfl) e,c⟩
 | dK kvs=>obtain⟨z,y,vs,r,ob,es,ep,e,c⟩:=x;exact⟨z,y,vs,r,ob,es,ep,k _ _ (.inl rfl) e,c⟩
 | dT kvs=>
  obtain⟨z,y,xs,r,ob,es,ep,e,c⟩:=x;exact⟨z,y,xs,Paired.mapP r fun p q z=>⟨z.1,ht _ _ z.2.1,z.2.2⟩,ob,es,ep,k _ _ (.inl rfl) e,c⟩
 | set S n=>obtain⟨ob,es,ep,t,e,c⟩:=x;exact⟨ob,es,ep,t,k _ _ (.inl rfl) e,c⟩
 | ins C dx fs=>
  obtain⟨d,z,ne,e,mA,⟨od,es,ep,e2,c⟩,r⟩:=x;exact⟨ho _ d,z,ne,k _ _ (.inl rfl) e,mA,⟨od,es,ep,k _ _ (.inr d) e2,c⟩,r⟩
 | own y=>obtain⟨ob,e⟩:=x;exact⟨ob,k _ _ (.inl rfl) e⟩
 | xd fs=>obtain⟨mA,⟨od,es,ep,e,c⟩,r⟩:=x;exact⟨mA,⟨od,es,ep,k _ _ (.inl rfl) e,c⟩,r⟩
 | rng lo hi=>obtain⟨t,u,v,e⟩:=x;exact⟨t,u,v,k _ _ (.inl rfl) e⟩
 | frz ob u ih=>obtain⟨e,q⟩:=x;exact⟨k _ _ (.inl rfl) e,ih q⟩
 | tbl ps=>
  have e:h.get? a=some {cls:=.none,data:=.fields ps}:=x;show h'.get? a=some {cls:=.none,data:=.fields ps};exact k a _ (.inl rfl) e
 | met f y=>
  have e:h.get? a=some (W.methodObj (.ref f) (.ref y)):=x;show h'.get? a=some (W.methodObj (.ref f) (.ref y));exact k a _ (.inl rfl) e
 | ext φ=>obtain⟨p,⟨o,e⟩,st⟩:=x;exact⟨st _ _ p fun o q=>k _ _ (.inl rfl) q,⟨o,k _ _ (.inl rfl) e⟩,st⟩
theorem mU.lt (x:mU P w H h)(e:H a=some o):a<h.objs.size:=(x a o e).lt
theorem mU.fresh (x:mU P w H h)(e:h.objs.size≤a):H a=none:=by
 cases q:H a with
 | none=>rfl
 | some u=>exact absurd (Nat.lt_of_lt_of_le (x.lt q) e) (Nat.lt_irrefl _)
theorem mU.kept (x:mU P w H h)(k:∀b u,h.get? b=some u→h'.get? b=some u):mU P w H h':=fun a o e=>
 (x a o e).stay (fun b u _ q=>k b u q) (fun _ q=>q) fun _ _ q=>q
theorem mU.laid (x:mU P w H h)(k:∀b u,h.get? b=some u→h'.get? b=some u)(hp:h.objs.size≤a)(new:dq P w (cR H a o) h' a o):mU P w (cR H a o) h':=fun b u e=>by
 have hn:=x.fresh hp
 by_cases hb:b=a
 ·subst hb;rw[bX] at e;cases e;exact new
 ·rw[aQ hb] at e;exact(x b u e).stay (fun c v _ q=>k c v q) (fun c q=>by rw[aQ (cj q hn)];exact q) fun c xs q=>by rw[aQ (cj q hn)];exact q
end
def Rd (H:Hp)(a:Addr)(u:HO):Prop:=H a=some u∨∃o,H a=some (.frz o u)
variable{P:Program}{w:World}{h:Heap}
theorem Rd.ok {u:HO}(r:Rd H a u)(x:mU P w H h):dq P w H h a u:=by
 rcases r with r|⟨o,r⟩
 ·exact x a u r
 ·obtain⟨_,q⟩:=x a _ r;exact q
def Ml:Option HO→Prop
 | some (.lst _)=>True
 | some (.dK _)=>True
 | some (.dT _)=>True
 | some (.set _ _)=>True
 | some (.ins _ _ _)=>True
 | some (.ext _)=>True
 | _=>False
section
variable {P:Program}{w:World}{H:Hp}{h h':Heap}{x e:Addr}{o':HO}
theorem mU.write (ok:mU P w H h)(mu:Ml (H x))(he:e=x∨H e=some (.own x))(k:∀b u,b≠e→h.get? b=some u→h'.get? b=some u)(heo:∃u,h'.get? e=some u)
  (new:dq P w (cR H x o') h' x o'):mU P w (cR H x o') h':=fun b u q=>by
 have nown:∀c y,H c=some (.own y)→c≠x:=fun c y r z=>by subst z;rw[r] at mu;exact mu
 have ntup:∀c xs,H c=some (.tup xs)→c≠x:=fun c xs r z=>by subst z;rw[r] at mu;exact mu
 by_cases hb:b=x
 ·subst hb;rw[bX] at q;cases q;exact new
 ·rw[aQ hb] at q
  by_cases hbe:b=e
  ·have q':H b=some (.own x):=by
    rcases he with z|z
    ·exact absurd (hbe.trans z) hb
    ·rw[hbe];exact z
   rw[q] at q';cases q';obtain⟨v,hv⟩:=heo;exact⟨v,by rw[hbe];exact hv⟩
  ·refine(ok b u q).stay (fun c v hc r=>k c v ?_ r) (fun c r=>by rw[aQ (nown c b r)];exact r) fun c xs r=>by rw[aQ (ntup c xs r)];exact r
   rcases hc with rfl|hc
   ·exact hbe
   ·rintro rfl;rcases he with z|z
    ·exact nown c b hc z
    ·rw[hc] at z;cases z;exact hb rfl
end
structure Un (fs ex:List Addr)(H H':Hp)(h h':Heap):Prop where
 keep:∀b o,h.get? b=some o→H b=none→b∉fs→b∉ex→h'.get? b=some o
 slot:∀b o,h.get? b=some o→H b=none→b∈fs→b∉ex→∃sl,h'.get? b=some {o with slots:=sl}
 free:∀b o,h.get? b=some o→H b=none→b∉ex→H' b=none
 there:∀b o,h.get? b=some o→b∉ex→∃o',h'.get? b=some o'
 tups:∀b xs,H b=some (.tup xs)→H' b=some (.tup xs)
 frzs:∀b o u,H b=some (.frz o u)→H' b=some (.frz o u)
 tbls:∀b ps,H b=some (.tbl ps)→∃more,H' b=some (.tbl (ps++more))
section
variable {fs fs' ex ex':List Addr}{H H1 H2:Hp}{h h1 h2 h':Heap}{a x e:Addr}{o:HO}
theorem Un.any (u:Un fs ex H H1 h h1){ob:Obj}(q:h.get? b=some ob)(n:H b=none)(hx:b∉ex):∃sl,h1.get? b=some {ob with slots:=sl}:=by
 by_cases hb:b∈fs
 ·exact u.slot b ob q n hb hx
 ·exact⟨ob.slots,u.keep b ob q n hb hx⟩
theorem Un.kept (k:∀b u,h.get? b=some u→h'.get? b=some u):Un fs ex H H h h':=
 ⟨fun b ob q _ _ _=>k b ob q,fun b ob q _ _ _=>⟨ob.slots,k b ob q⟩,fun _ _ _ n _=>n,fun b ob q _=>⟨ob,k b ob q⟩,fun _ _ q=>q,fun _ _ _ q=>q,fun _ ps q=>⟨#[],by rw[q];simp⟩⟩
theorem Un.refl:Un fs ex H H h h:=Un.kept fun _ _ q=>q
theorem Un.laid (k:∀b u,h.get? b=some u→h'.get? b=some u)(hp:h.objs.size≤a)(hn:H a=none):Un fs ex H (cR H a o) h h' where
 keep:=fun b u q _ _ _=>k b u q
 slot:=fun b u q _ _ _=>⟨u.slots,k b u q⟩
 free:=fun b u q n _=>by rw[aQ (Nat.ne_of_lt (Nat.lt_of_lt_of_le (Heap.lt_size q) hp))];exact n
 there:=fun b u q _=>⟨u,k b u q⟩
 tups:=fun b xs q=>by rw[aQ (cj q hn)];exact q
 frzs:=fun b u xs q=>by rw[aQ (cj q hn)];exact q
 tbls:=fun b ps q=>⟨#[],by rw[aQ (cj q hn),q];simp⟩
theorem Un.write (mu:Ml (H x))(he:e=x∨H e=some (.own x))(k:∀b u,b≠e→h.get? b=some u→h'.get? b=some u)(heo:∃u,h'.get? e=some u):Un fs ex H (cR H x o) h h':=by
 have hx:∀b,H b=none→b≠x:=fun b n z=>by subst z;rw[n] at mu;exact mu
 have hb:∀b,H b=none→b≠e:=fun b n z=>by
  subst z;rcases he with r|r
  ·exact hx b n r
  ·rw[n] at r;cases r
 have hm:∀b u,H b=some u→¬Ml (some u)→b≠x:=fun b u q nm z=>by subst z;rw[q] at mu;exact nm mu
 refine⟨fun b u q n _ _=>k b u (hb b n) q,fun b u q n _ _=>⟨u.slots,k b u (hb b n) q⟩,fun b u q n _=>by rw[aQ (hx b n)];exact n,fun b u q _=>?_,
  fun b xs q=>by rw[aQ (hm b _ q fun z=>z)];exact q,fun b u xs q=>by rw[aQ (hm b _ q fun z=>z)];exact q,fun b ps q=>⟨#[],by rw[aQ (hm b _ q fun z=>z),q];simp⟩⟩
 by_cases hbe:b=e
 ·subst hbe;exact heo
 ·exact⟨u,k b u hbe q⟩
end
def trk (h:Heap)(H:Hp):List Addr:=(List.range h.objs.size).filter fun a=>(H a).isSome
def wu (h:Heap)(H:Hp):Heap:=W.hideAll h (trk h H)
theorem Bo (h:Heap)(H:Hp):(wu h H).objs.size=h.objs.size:=W.hideAll_size _ _
theorem Cq {o:Obj}(e:h.get? b=some o)(n:H b=none):(wu h H).get? b=some o:=
 W.hideAll_get _ e fun hm=>by
  have q:(H b).isSome=true:=(mem_filter.mp hm).2;rw[n] at q;simp at q
theorem GU {o:Obj}(e:(wu h H).get? b=some o):h.get? b=some o∧H b=none:=by
 have e':h.get? b=some o:=W.of_hideAll (trk h H) e;refine⟨e',?_⟩;cases q:H b with
 | none=>rfl
 | some x=>
  have hm:b∈trk h H:=mem_filter.mpr ⟨mem_range.mpr (Heap.lt_size e'),by simp[q]⟩;have z:(wu h H).get? b=none:=W.hideAll_none (trk h H) hm;rw[z] at e;cases e
def Gr (g h:Heap)(L:Addr):List (Addr×Obj):=(List.range h.objs.size).filterMap fun a=>if a=L∨(g.get? a).isSome=true then none else(h.get? a).map fun o=>(a,o)
def rest (g h:Heap)(L d:Addr):List (Addr×Obj):=(Gr g h L).filter fun p=>decide (p.1≠d)
structure Mod (K:W.Frag)(mg:Str→Option Value)(base:Heap):Prop where
 kin:K.In base
 glob:base.Ns mainGlobals mg
 blt:∃mb,base.Ns builtinsNs mb∧∀x:Str,x≠"__name__"→mb x=bootBuiltins x
 nolimit:base.NoLimit
structure Cx where
 prog:Program
 w:World
 K:W.Frag
 mg:Str→Option Value
 base:Heap
 A:Around
 N:List Str
 s₀:Shared
 H₀:Hp
 env:Env
 outer:List Env
 stack:List Env
 ex:List Addr
 fn:Str→Bool
 calm:Bool
 pn:List (Addr×Obj)
 xe:Value→Shared→Prop
def tU (l:List Env):List Addr:=l.filterMap (·.frame)
abbrev Cx.fs (X:Cx):List Addr:=tU X.outer
def Lm (sc:Scope)(x:Str):Prop:=sc.names.lookup x=some .local∨sc.names.lookup x=some .cell∨sc.names.lookup x=some .free
def yL (sc:Scope)(x:Str):Prop:=sc.names.lookup x=some .local∨sc.names.lookup x=some .cell
def OP (env:Env)(h:Heap)(m:Str→Option Value)(x:Str)(u:Value):Prop:=
 (env.kindOf x=some .local∧m x=some u)∨((env.kindOf x=some .cell∨env.kindOf x=some .free)∧∃c,env.cells.lookup x=some c∧h.IsCell c (some u))
structure Cx.Ok (X:Cx):Prop where
 mod:Mod X.K X.mg X.base
 kind:X.env.scope.kind=.function
 glob:X.env.globals=mainGlobals
 blt:X.env.builtins=builtinsNs
 above:X.s₀.heap.objs.size≤X.env.locals
 inj:∀x y c,X.env.cells.lookup x=some c→X.env.cells.lookup y=some c→x=y
 has:∀x,(X.env.kindOf x=some .cell∨X.env.kindOf x=some .free)→∃c,X.env.cells.lookup x=some c
 cab:∀x c,X.fn x=true→X.env.cells.lookup x=some c→X.s₀.heap.objs.size≤c
 hd:X.calm=true→X.A.handled=none
 frames:X.A.frames=some X.stack
 stk:X.stack=X.outer∨(X.stack=X.env::X.outer∧X.env.frame=some X.env.locals)
 exf:∀b∈X.ex,b≠X.env.locals∧∀x c,X.env.cells.lookup x=some c→c≠b
 bs:∀b o,X.base.get? b=some o→X.s₀.heap.get? b=some o∧X.H₀ b=none
 bsz:X.base.objs.size≤X.s₀.heap.objs.size
 noex:∀b o,X.base.get? b=some o→b∉X.ex
 exfs:∀b∈X.ex,b∉X.fs
 funs:X.s₀.heap.FunFrames X.base X.outer
 frf:∀b∈X.fs,X.H₀ b=none
structure Inv (X:Cx)(ah:List (Addr×Obj))(σ:List (Option V))(H:Hp)(s:Shared):Prop where
 ok:X.Ok
 os:s.os=X.s₀.os
 bare:AllBare s.gens
 base:Un X.fs X.ex X.H₀ H X.s₀.heap s.heap
 loc:∃m,s.heap.Ns X.env.locals m∧∀(i:Nat) (x:Str) (v:V),X.N[i]?=some x→σ[i]?=some (some v)→Lm X.env.scope x→∃u,bC v u∧OP X.env s.heap m x u
 cell:∀x c,X.env.cells.lookup x=some c→∃v,s.heap.IsCell c v
 free:H X.env.locals=none
 freeC:∀x c,X.env.cells.lookup x=some c→H c=none
 pin:∀p∈X.pn++ah,s.heap.get? p.1=some p.2∧H p.1=none∧p.1≠X.env.locals∧p.1∉X.fs∧∀v,p.2.data≠.cell v
 hok:mU X.prog X.w H s.heap
 len:σ.length=X.N.length
variable{x:Str}{ch:List Addr}{i:Nat}{v:V}
section
variable {X:Cx}{ah:List (Addr×Obj)}{σ:List (Option V)}{H H':Hp}{s:Shared}{h':Heap}
theorem Cx.Ok.nofr (ok:X.Ok){o:Obj}(e:X.base.get? b=some o):b∉X.fs:=fun hb=>by
 have:=(ok.funs.mem hb).1;rw[e] at this;cases this
theorem Inv.bs (I:Inv X ah σ H s):∀b o,X.base.get? b=some o→s.heap.get? b=some o∧H b=none:=fun b o e=>
 ⟨I.base.keep b o (I.ok.bs b o e).1 (I.ok.bs b o e).2 (I.ok.nofr e) (I.ok.noex b o e),I.base.free b o (I.ok.bs b o e).1 (I.ok.bs b o e).2 (I.ok.noex b o e)⟩
theorem Inv.bk (I:Inv X ah σ H s):∀b o,X.base.get? b=some o→s.heap.get? b=some o:=fun b o e=>(I.bs b o e).1
theorem Inv.mod (I:Inv X ah σ H s):Mod X.K X.mg X.base:=I.ok.mod
theorem Inv.kIn (I:Inv X ah σ H s):X.K.In s.heap:=I.ok.mod.kin.keeps I.bk
theorem Inv.lt (I:Inv X ah σ H s):X.env.locals<s.heap.objs.size:=let ⟨_,hn,_⟩:=I.loc;hn.lt
theorem Inv.sz (I:Inv X ah σ H s):X.s₀.heap.objs.size≤s.heap.objs.size:=Nat.le_trans I.ok.above (Nat.le_of_lt I.lt)
theorem Inv.nofs (I:Inv X ah σ H s)(h:s.heap.objs.size≤a):a∉X.fs:=fun hb=>by
 obtain⟨_,o,ho,_⟩:=I.ok.funs.mem hb;exact absurd (Nat.lt_of_lt_of_le (Heap.lt_size ho) (Nat.le_trans I.sz h)) (Nat.lt_irrefl _)
theorem Inv.cne (I:Inv X ah σ H s):∀x c,X.env.cells.lookup x=some c→c≠X.env.locals:=fun x c e z=>by
 obtain⟨v,o,ho,hd⟩:=I.cell x c e;obtain⟨m,⟨o',es,ep,ho',hd',_⟩,_⟩:=I.loc;rw[z,ho'] at ho;cases ho;rw[hd'] at hd;cases hd
theorem Inv.funs (I:Inv X ah σ H s):s.heap.FunFrames X.base X.outer:=by
 have all:∀(l:List Env),(∀b∈tU l,b∈X.fs)→X.s₀.heap.FunFrames X.base l→s.heap.FunFrames X.base l:=by
  intro l
  induction l with
  | nil=>intro _ _;trivial
  | cons env r ih=>
   intro hs hl;obtain⟨hk,⟨L,o,hf,hn,ho,hd⟩,hr⟩:=hl;have hL:L∈X.fs:=hs L (by unfold tU;rw[filterMap_cons,hf];exact mem_cons_self);obtain⟨sl,e⟩:=I.base.slot L o ho (I.ok.frf L hL) hL fun z=>I.ok.exfs L z hL
   exact⟨hk,⟨L,_,hf,hn,e,hd⟩,ih (fun b hb=>hs b (by unfold tU;rw[filterMap_cons,hf];exact mem_cons_of_mem _ hb)) hr⟩
 exact all X.outer (fun _ hb=>hb) I.ok.funs
theorem Inv.stack (I:Inv X ah σ H s):s.heap.FunFrames X.base X.stack:=by
 rcases I.ok.stk with e|⟨e,hf⟩
 ·rw[e];exact I.funs
 ·rw[e];obtain⟨m,hn,_⟩:=I.loc;refine .cons (by rw[I.ok.kind];decide) hf hn ?_ I.funs;exact Heap.get?_none_of_le (Nat.le_trans I.ok.bsz I.ok.above)
theorem Inv.stkSub (I:Inv X ah σ H s):∀b∈tU X.stack,b∈X.env.locals::X.fs:=fun b hb=>by
 rcases I.ok.stk with e|⟨e,hf⟩
 ·rw[e] at hb;exact mem_cons_of_mem _ hb
 ·rw[e] at hb;unfold tU at hb;rw[filterMap_cons,hf] at hb;exact hb
theorem Inv.stkFree (I:Inv X ah σ H s):∀b∈tU X.stack,H b=none:=fun b hb=>by
 rcases mem_cons.mp (I.stkSub b hb) with e|hb
 ·rw[e];exact I.free
 ·obtain⟨_,o,ho,_⟩:=I.ok.funs.mem hb;exact I.base.free b o ho (I.ok.frf b hb) fun z=>I.ok.exfs b z hb
theorem Inv.step {g':Array GenState}{t':Nat}{d':Drawn}(I:Inv X ah σ H s)
  (hch:∀b∈ch,(b∈X.ex∨X.s₀.heap.objs.size≤b)∧b≠X.env.locals∧(∀x c,X.env.cells.lookup x=some c→c≠b)∧∀p∈X.pn++ah,p.1≠b)
  (keep:∀b o,b≠X.env.locals→b∉X.fs→b∉ch→s.heap.get? b=some o→H b=none→h'.get? b=some o)
  (slot:∀b o,b≠X.env.locals→b∈X.fs→b∉ch→s.heap.get? b=some o→H b=none→∃sl,h'.get? b=some {o with slots:=sl}) (free:∀b o,b∉ch→s.heap.get? b=some o→H b=none→H' b=none)
  (there:∀b o,b∉ch→s.heap.get? b=some o→∃o',h'.get? b=some o')
  (tups:∀b xs,H b=some (.tup xs)→H' b=some (.tup xs)) (frzs:∀b o u,H b=some (.frz o u)→H' b=some (.frz o u)) (tbls:∀b ps,H b=some (.tbl ps)→∃more,H' b=some (.tbl (ps++more)))
  (ns:∀m,s.heap.Ns X.env.locals m→h'.Ns X.env.locals m) (hok:mU X.prog X.w H' h') (hg:AllBare g') :
  Inv X ah σ H' {s with heap:=h',gens:=g',drawn:=d',toks:=t'}:=by
 have neL:∀b o,X.s₀.heap.get? b=some o→b≠X.env.locals:=fun b o e=>Nat.ne_of_lt (Nat.lt_of_lt_of_le (Heap.lt_size e) I.ok.above)
 have neC:∀b o,X.s₀.heap.get? b=some o→b∉X.ex→b∉ch:=fun b o e hx hb=>by
  rcases(hch b hb).1 with z|z
  ·exact hx z
  ·exact absurd (Nat.lt_of_lt_of_le (Heap.lt_size e) z) (Nat.lt_irrefl _)
 have cellK:∀x c,X.env.cells.lookup x=some c→∀v,s.heap.IsCell c v→h'.IsCell c v:=fun x c e v ⟨o,ho,hd⟩=>by
  have nch:c∉ch:=fun z=>(hch c z).2.2.1 x c e rfl
  by_cases hc:c∈X.fs
  ·obtain⟨sl,q⟩:=slot c o (I.cne x c e) hc nch ho (I.freeC x c e);exact⟨_,q,hd⟩
  ·exact⟨o,keep c o (I.cne x c e) hc nch ho (I.freeC x c e),hd⟩
 refine⟨I.ok,I.os,hg,⟨fun b o e n hb hx=>?_,fun b o e n hb hx=>?_,fun b o e n hx=>?_,fun b o e hx=>?_,fun b xs e=>tups b xs (I.base.tups b xs e),fun b o xs e=>frzs b o xs (I.base.frzs b o xs e),fun b ps e=>?_⟩,?_,fun x c e=>?_,?_,fun x c e=>?_,fun p hp=>?_,hok,I.len⟩
 ·exact keep b o (neL b o e) hb (neC b o e hx) (I.base.keep b o e n hb hx) (I.base.free b o e n hx)
 ·obtain⟨sl,e1⟩:=I.base.slot b o e n hb hx;obtain⟨sl',e2⟩:=slot b _ (neL b o e) hb (neC b o e hx) e1 (I.base.free b o e n hx);exact⟨sl',e2⟩
 ·obtain⟨o',e1⟩:=I.base.there b o e hx;exact free b o' (neC b o e hx) e1 (I.base.free b o e n hx)
 ·obtain⟨o',e1⟩:=I.base.there b o e hx;exact there b o' (neC b o e hx) e1
 ·obtain⟨m1,e1⟩:=I.base.tbls b ps e;obtain⟨m2,e2⟩:=tbls b _ e1;exact⟨m1++m2,by rw[e2,Array.append_assoc]⟩
 ·obtain⟨m,hn,hl⟩:=I.loc;refine⟨m,ns m hn,fun i x v e1 e2 e3=>?_⟩;obtain⟨u,r,l⟩:=hl i x v e1 e2 e3;refine⟨u,r,?_⟩;rcases l with l|⟨k,c,e,z⟩
  ·exact .inl l
  ·exact .inr ⟨k,c,e,cellK x c e _ z⟩
 ·obtain⟨v,z⟩:=I.cell x c e;exact⟨v,cellK x c e v z⟩
 ·obtain⟨m,⟨o,_,_,ho,_⟩,_⟩:=I.loc;exact free _ o (fun z=>(hch _ z).2.1 rfl) ho I.free
 ·obtain⟨v,o,ho,hd⟩:=I.cell x c e;exact free c o (fun z=>(hch c z).2.2.1 x c e rfl) ho (I.freeC x c e)
 ·obtain⟨e,n,ne,nf,d⟩:=I.pin p hp;have nch:p.1∉ch:=fun z=>(hch p.1 z).2.2.2 p hp rfl
  exact⟨keep p.1 p.2 ne nf nch e n,free p.1 p.2 nch e n,ne,nf,d⟩
theorem Inv.un {t':Nat}(I:Inv X ah σ H s)(u:Un X.fs [] H H' s.heap h')(hok:mU X.prog X.w H' h'):Inv X ah σ H' {s with heap:=h',toks:=t'}:=by
 obtain⟨m,⟨o,es,ep,ho,r⟩,_⟩:=id I.loc;obtain⟨sl,hL⟩:=u.any ho I.free (by simp);exact I.step (g':=s.gens) (d':=s.drawn) (ch:=[]) (fun _ z=>nomatch z) (fun b o _ hb _ e n=>u.keep b o e n hb (by simp)) (fun b o _ hb _ e n=>u.slot b o e n hb (by simp)) (fun b o _ e n=>u.free b o e n (by simp)) (fun b o _ e=>u.there b o e (by simp)) u.tups u.frzs u.tbls (fun m' hm=>by
  obtain⟨o',es',ep',ho',r'⟩:=hm;rw[ho] at ho';cases ho';exact⟨_,es',ep',hL,r'⟩) hok I.bare
theorem Inv.call {g':Array GenState}{t':Nat}{d':Drawn}(I:Inv X ah σ H s)(u:Un (tU X.stack) ch H H' s.heap h')(hok:mU X.prog X.w H' h')(hg:AllBare g')
  (hch:∀b∈ch,(b∈X.ex∨X.s₀.heap.objs.size≤b)∧b≠X.env.locals∧(∀x c,X.env.cells.lookup x=some c→c≠b)∧∀p∈X.pn++ah,p.1≠b) :
  Inv X ah σ H' {s with heap:=h',gens:=g',drawn:=d',toks:=t'}:=by
 obtain⟨m,⟨o,es,ep,ho,r⟩,_⟩:=id I.loc;obtain⟨sl,hL⟩:=u.any ho I.free fun z=>(hch _ z).2.1 rfl
 exact I.step (ch:=ch) hch (fun b o hL hb hc e n=>u.keep b o e n (fun z=>(mem_cons.mp (I.stkSub b z)).elim hL hb) hc) (fun b o _ _ hc e n=>u.any e n hc) (fun b o hc e n=>u.free b o e n hc) (fun b o hc e=>u.there b o e hc) u.tups u.frzs u.tbls (fun m' hm=>by
  obtain⟨o',es',ep',ho',r'⟩:=hm;rw[ho] at ho';cases ho';exact⟨_,es',ep',hL,r'⟩) hok hg
theorem Inv.turned {t':Nat}{it:Addr}(I:Inv X ah σ H s)(k:∀b o,b≠it→s.heap.get? b=some o→h'.get? b=some o)(hn:H it=none)(hL:it≠X.env.locals)
  (h1:it∈X.ex∨X.s₀.heap.objs.size≤it) (h2:∀x c,X.env.cells.lookup x=some c→c≠it) (h3:∀p∈X.pn++ah,p.1≠it):Inv X ah σ H {s with heap:=h',toks:=t'}:=by
 have nit:∀b u,H b=some u→b≠it:=fun b u e z=>by rw[z,hn] at e;cases e
 refine I.step (g':=s.gens) (d':=s.drawn) (ch:=[it]) (fun b hb=>?_) (fun b o _ _ hc e _=>k b o (fun z=>hc (by simp[z])) e) (fun b o _ _ hc e _=>⟨o.slots,k b o (fun z=>hc (by simp[z])) e⟩) (fun _ _ _ _ n=>n)
  (fun b o hc e=>⟨o,k b o (fun z=>hc (by simp[z])) e⟩) (fun _ _ e=>e) (fun _ _ _ e=>e) (fun b ps e=>⟨#[],by rw[e];simp⟩) (fun m hm=>?_) (fun b u e=>?_) I.bare
 ·have e:b=it:=by simpa using hb
  subst e;exact⟨h1,hL,h2,h3⟩
 ·obtain⟨o,es,ep,ho,r⟩:=hm;exact⟨o,es,ep,k _ o (Ne.symm hL) ho,r⟩
 ·refine(I.hok b u e).stay (fun c v hc q=>k c v ?_ q) (fun _ q=>q) fun _ _ q=>q
  rcases hc with z|z
  ·rw[z];exact nit b u e
  ·exact nit c _ z
theorem Inv.tok (I:Inv X ah σ H s)(t:Nat):Inv X ah σ H {s with toks:=t}:=I.un (h':=s.heap) (t':=t) Un.refl I.hok
theorem Inv.kept {t':Nat}(I:Inv X ah σ H s)(k:∀b u,s.heap.get? b=some u→h'.get? b=some u):Inv X ah σ H {s with heap:=h',toks:=t'}:=I.un (Un.kept k) (I.hok.kept k)
theorem Inv.laid {t':Nat}(I:Inv X ah σ H s)(k:∀b u,s.heap.get? b=some u→h'.get? b=some u)(hp:s.heap.objs.size≤a)(new:dq X.prog X.w (cR H a o) h' a o) :
  Inv X ah σ (cR H a o) {s with heap:=h',toks:=t'}:=I.un (Un.laid k hp (I.hok.fresh hp)) (I.hok.laid k hp new)
theorem Inv.write {x e:Addr}{t':Nat}(I:Inv X ah σ H s)(mu:Ml (H x))(he:e=x∨H e=some (.own x))(k:∀b u,b≠e→s.heap.get? b=some u→h'.get? b=some u)(heo:∃u,h'.get? e=some u)
  (new:dq X.prog X.w (cR H x o) h' x o):Inv X ah σ (cR H x o) {s with heap:=h',toks:=t'}:=I.un (Un.write mu he k heo) (I.hok.write mu he k heo new)
theorem Inv.pins_of {pins':List (Addr×Obj)}(I:Inv X ah σ H s)(h:∀p∈pins',s.heap.get? p.1=some p.2∧H p.1=none∧p.1≠X.env.locals∧p.1∉X.fs∧∀v,p.2.data≠.cell v):Inv X pins' σ H s:=
 ⟨I.ok,I.os,I.bare,I.base,I.loc,I.cell,I.free,I.freeC,fun p hp=>(mem_append.mp hp).elim (fun z=>I.pin p (mem_append_left _ z)) (h p),I.hok,I.len⟩
theorem wW {N:List Str}(hN:N.Nodup){j:Nat}(a:N[i]?=some x)(b:N[j]?=some x):i=j:=by
 obtain⟨h1,e1⟩:=List.getElem?_eq_some_iff.mp a;obtain⟨h2,e2⟩:=List.getElem?_eq_some_iff.mp b;exact(getElem_inj hN).mp (e1.trans e2.symm)
theorem uL {M:Model}{A:Around}{E:Value→Shared→Prop}{Q:Unit→Shared→Prop}(I:Inv X ah σ H s)(hN:X.N.Nodup)(hi:X.N[i]?=some x)(hx:yL X.env.scope x)(r:bC v u)
  (h:∀s',Inv X ah (σ.set i (some v)) H s'→(∃a,Heap.SameBut a s.heap s'.heap∧(a=X.env.locals∨X.env.cells.lookup x=some a))→Q () s') (hf:X.fn x=true∨X.env.scope.names.lookup x=some .local:=by first|exact .inl rfl|exact .inr rfl|assumption):wpAny M A (storeName X.env x u) Q E s:=by
 obtain⟨m,hn,hl⟩:=id I.loc;have hcls:(X.env.scope.kind==.class||(X.env.scope.kind==.module&&X.env.locals != X.env.globals))=false:=by rw[I.ok.kind];rfl
 have hiσ:i<σ.length:=by rw[I.len];exact(List.getElem?_eq_some_iff.mp hi).1
 have cne:=I.cne;have tracked:∀{a:Addr} {h':Heap},(∃o,s.heap.get? a=some o∧H a=none)→Heap.SameBut a s.heap h'→mU X.prog X.w H h':=fun {a h'} ha hs b ob e=>by
  obtain⟨_,_,hfree⟩:=ha;refine(I.hok b ob e).stay (fun c w' hc q=>(hs.2 c ?_).trans q) (fun _ q=>q) fun _ _ q=>q
  rintro rfl;rcases hc with rfl|hc
  ·rw[hfree] at e;cases e
  ·rw[hfree] at hc;cases hc
 rcases hx with hk|hk
 ·refine wpAny_storeName_local hk hn (fun h' hn' hs=>?_) hcls;obtain⟨oL,_,_,hoL,_⟩:=id hn;refine h _ ⟨I.ok,I.os,I.bare,⟨fun b o e n hb hx=>?_,fun b o e n hb hx=>?_,I.base.free,fun b o e hx=>?_,I.base.tups,I.base.frzs,I.base.tbls⟩,⟨_,hn',fun j y v' e1 e2 e3=>?_⟩,fun y c e=>?_,I.free,I.freeC,fun p hp=>?_,tracked ⟨oL,hoL,I.free⟩ hs,by simpa using I.len⟩ ⟨_,hs,.inl rfl⟩
  ·exact(hs.2 b (Nat.ne_of_lt (Nat.lt_of_lt_of_le (Heap.lt_size e) I.ok.above))).trans (I.base.keep b o e n hb hx)
  ·obtain⟨sl,e1⟩:=I.base.slot b o e n hb hx;exact⟨sl,(hs.2 b (Nat.ne_of_lt (Nat.lt_of_lt_of_le (Heap.lt_size e) I.ok.above))).trans e1⟩
  ·obtain⟨o',e1⟩:=I.base.there b o e hx;exact⟨o',(hs.2 b (Nat.ne_of_lt (Nat.lt_of_lt_of_le (Heap.lt_size e) I.ok.above))).trans e1⟩
  ·by_cases hj:j=i
   ·subst hj;rw[hi] at e1;cases e1;rw[getElem?_set_self hiσ] at e2;cases e2;exact⟨u,r,.inl ⟨hk,by simp⟩⟩
   ·rw[getElem?_set_ne (Ne.symm hj)] at e2;obtain⟨u',r',q⟩:=hl j y v' e1 e2 e3;refine⟨u',r',?_⟩;rcases q with⟨k,e⟩|⟨k,c,e,z⟩
    ·refine .inl ⟨k,?_⟩;have:y≠x:=fun e=>hj (wW hN e1 (e▸hi))
     simp[this,e]
    ·exact .inr ⟨k,c,e,z.sameBut hs (cne y c e)⟩
  ·obtain⟨w',z⟩:=I.cell y c e;exact⟨w',z.sameBut hs (cne y c e)⟩
  ·obtain⟨e,n,ne,nf,d⟩:=I.pin p hp;exact⟨(hs.2 p.1 ne).trans e,n,ne,nf,d⟩
 ·have hfn:X.fn x=true:=by
   rcases hf with z|z
   ·exact z
   ·rw[z] at hk;cases hk
  obtain⟨c,hc⟩:=I.ok.has x (.inl hk);obtain⟨w',z⟩:=I.cell x c hc;refine wpAny_storeName_cell I.ok.kind hk hc z (fun h' hc' hs=>?_);obtain⟨oc,hoc,hocd⟩:=id z;refine h {s with heap:=h'} ⟨I.ok,I.os,I.bare,⟨fun b o e n hb hx=>?_,fun b o e n hb hx=>?_,I.base.free,fun b o e hx=>?_,I.base.tups,I.base.frzs,I.base.tbls⟩,⟨m,hn.sameBut hs (Ne.symm (cne x c hc)),fun j y v' e1 e2 e3=>?_⟩,fun y c' e=>?_,I.free,I.freeC,fun p hp=>?_,tracked ⟨oc,hoc,I.freeC x c hc⟩ hs,by simpa using I.len⟩ ⟨c,hs,.inr hc⟩
  ·exact(hs.2 b (Nat.ne_of_lt (Nat.lt_of_lt_of_le (Heap.lt_size e) (I.ok.cab x c hfn hc)))).trans (I.base.keep b o e n hb hx)
  ·obtain⟨sl,e1⟩:=I.base.slot b o e n hb hx;exact⟨sl,(hs.2 b (Nat.ne_of_lt (Nat.lt_of_lt_of_le (Heap.lt_size e) (I.ok.cab x c hfn hc)))).trans e1⟩
  ·obtain⟨o',e1⟩:=I.base.there b o e hx;exact⟨o',(hs.2 b (Nat.ne_of_lt (Nat.lt_of_lt_of_le (Heap.lt_size e) (I.ok.cab x c hfn hc)))).trans e1⟩
  ·by_cases hj:j=i
   ·subst hj;rw[hi] at e1;cases e1;rw[getElem?_set_self hiσ] at e2;cases e2;exact⟨u,r,.inr ⟨.inl hk,c,hc,hc'⟩⟩
   ·rw[getElem?_set_ne (Ne.symm hj)] at e2;obtain⟨u',r',q⟩:=hl j y v' e1 e2 e3;refine⟨u',r',?_⟩;rcases q with q|⟨k,c',e,z'⟩
    ·exact .inl q
    ·refine .inr ⟨k,c',e,z'.sameBut hs ?_⟩;rintro rfl;exact hj (wW hN e1 (I.ok.inj _ _ _ e hc▸hi))
  ·by_cases hcc:c'=c
   ·subst hcc;exact⟨_,hc'⟩
   ·obtain⟨w2,z2⟩:=I.cell y c' e;exact⟨w2,z2.sameBut hs hcc⟩
  ·obtain⟨e,n,ne,nf,d⟩:=I.pin p hp;refine⟨(hs.2 p.1 ?_).trans e,n,ne,nf,d⟩;intro q;rw[q,hoc] at e;have q':oc=p.2:=Option.some.inj e;exact d w' (by rw[←q'];exact hocd)
theorem mM {M:Model}{A:Around}{E:Value→Shared→Prop}{Q:Unit→Shared→Prop}(I:Inv X ah σ H s)(hN:X.N.Nodup)(hi:X.N[i]?=some x)(hx:yL X.env.scope x)(r:bC v u)
  (h:∀s',Inv X ah (σ.set i (some v)) H s'→Q () s') (hf:X.fn x=true∨X.env.scope.names.lookup x=some .local:=by first|exact .inl rfl|exact .inr rfl|assumption):wpAny M A (storeName X.env x u) Q E s:=
 uL I hN hi hx r (fun s' I' _=>h s' I') hf
theorem Inv.call' {s':Shared}(I:Inv X ah σ H s)(ho:s'.os=s.os)(u:Un (tU X.stack) ch H H' s.heap s'.heap)(hok:mU X.prog X.w H' s'.heap)(hg:AllBare s'.gens)
  (hch:∀b∈ch,(b∈X.ex∨X.s₀.heap.objs.size≤b)∧b≠X.env.locals∧(∀x c,X.env.cells.lookup x=some c→c≠b)∧∀p∈X.pn++ah,p.1≠b):Inv X ah σ H' s':=by
 obtain⟨h',g',d',t',o'⟩:=s';have e:o'=s.os:=ho;subst e;exact I.call (g':=g') (t':=t') (d':=d') u hok hg hch
end
abbrev XK:=Value→Option Addr→Hp→Prop
abbrev St:=List (Option V)
abbrev VK:=V→Hp→Prop
abbrev TE:=St→Hp→VK→Prop
abbrev TT:=St→Hp→(Bool→Hp→Prop)→Prop
abbrev TA:=St→Hp→(List V→Hp→Prop)→Prop
structure BJ where
 nx:St→Hp→Prop
 rt:VK
 bk:St→Hp→Prop:=fun _ _=>False
 ct:St→Hp→Prop:=fun _ _=>False
abbrev TS:=BJ→St→Hp→Prop
def EP (X:Cx)(ah:List (Addr×Obj))(σ:St)(Q:VK)(u:Value)(s':Shared):Prop:=∃v H',Inv X ah σ H' s'∧bC v u∧Q v H'
def TP (X:Cx)(ah:List (Addr×Obj))(σ:St)(Q:Bool→Hp→Prop)(b:Bool)(s':Shared):Prop:=∃H',Inv X ah σ H' s'∧Q b H'
def AP (X:Cx)(ah:List (Addr×Obj))(σ:St)(Q:List V→Hp→Prop)(us:List Value)(s':Shared):Prop:=∃vs H',Inv X ah σ H' s'∧bu vs us∧Q vs H'
def SP (X:Cx)(ah:List (Addr×Obj))(D:BJ)(f:Flow)(s':Shared):Prop:=
 match f with
 | .next=>∃σ' H',Inv X ah σ' H' s'∧D.nx σ' H'
 | .brk=>∃σ' H',Inv X ah σ' H' s'∧D.bk σ' H'
 | .cont=>∃σ' H',Inv X ah σ' H' s'∧D.ct σ' H'
 | .ret u=>∃v σ' H',Inv X ah σ' H' s'∧bC v u∧D.rt v H'
def PE (X:Cx)(e:Expr)(t:TE):Prop:=
 ∀(ah:List (Addr×Obj)) (s:Shared) (σ:St) (H:Hp) (Q:VK),Inv X ah σ H s→t σ H Q→wpAny (model X.prog X.w) X.A (eval e X.env) (EP X ah σ Q) X.xe s
def PT (X:Cx)(e:Expr)(t:TT):Prop:=
 ∀(ah:List (Addr×Obj)) (s:Shared) (σ:St) (H:Hp) (Q:Bool→Hp→Prop),Inv X ah σ H s→t σ H Q→wpAny (model X.prog X.w) X.A (isTrue e X.env (eval e X.env)) (TP X ah σ Q) X.xe s
def PW (X:Cx)(e:Expr)(t:TT):Prop:=
 ∀(whole:Sem Value) (ah:List (Addr×Obj)) (s:Shared) (σ:St) (H:Hp) (Q:Bool→Hp→Prop),Inv X ah σ H s→t σ H Q→wpAny (model X.prog X.w) X.A (isTrue e X.env whole) (TP X ah σ Q) X.xe s
variable{e:Expr}
theorem PW.pt {X:Cx}{t:TT}(h:PW X e t):PT X e t:=h _
def PA (X:Cx)(es:List Expr)(t:TA):Prop:=
 ∀(pos:Pos) (ah:List (Addr×Obj)) (s:Shared) (σ:St) (H:Hp) (Q:List V→Hp→Prop),Inv X ah σ H s→t σ H Q→wpAny (model X.prog X.w) X.A (spliced (backTo pos (starEach es X.env))) (AP X ah σ Q) X.xe s
def PS (X:Cx)(st:Stmt)(t:TS):Prop:=
 ∀(ah:List (Addr×Obj)) (s:Shared) (σ:St) (H:Hp) (D:BJ),Inv X ah σ H s→t D σ H→wpAny (model X.prog X.w) X.A (exec st X.env) (SP X ah D) X.xe s
def PSs (X:Cx)(st:List Stmt)(t:TS):Prop:=
 ∀(ah:List (Addr×Obj)) (s:Shared) (σ:St) (H:Hp) (D:BJ),Inv X ah σ H s→t D σ H→wpAny (model X.prog X.w) X.A (execs st X.env) (SP X ah D) X.xe s
variable{A:Around}{E:Value→Shared→Prop}{s:Shared}
theorem cZ {α:Type}{t:Sem α}{Q Q':α→Shared→Prop}{M:Model}(h:wpAny M A t Q E s)(hQ:∀a s,Q a s→Q' a s):wpAny M A t Q' E s:=wpAny_mono h hQ fun _ _ x=>x
variable{Q:Value→Shared→Prop}{ah:List (Addr×Obj)}{σ:St}{c:Expr}
section
variable {X:Cx}
def N1 (i:Nat):TE:=fun σ H Q=>∃v,σ[i]?=some (some v)∧Q v H
def tC (v:V):TE:=fun _ H Q=>Q v H
theorem Jx {pos:Pos}(hN:X.N[i]?=some x)(hv:Lm X.env.scope x)(hd:(x==("__debug__":Str))=false:=by decide)(hcd:(x==("__classdict__":Str))=false:=by decide):PE X (.Name x pos) (N1 i):=by
 intro ah s σ H Q I h;obtain⟨v,e,h⟩:=h;obtain⟨m,hn,hl⟩:=I.loc;obtain⟨u,r,l⟩:=hl i x v hN e hv;have fin:EP X ah σ Q u s:=⟨v,H,I,r,h⟩;rcases l with⟨hk,hm⟩|⟨hk,c,hc,hcell⟩
 ·exact wpAny_Name (wpAny_loadName_local I.ok.kind hk hn hm fin) hd
 ·rcases hk with hk|hk
  ·exact wpAny_Name (wpAny_loadName_cell I.ok.kind hk hc hcell fin) hd
  ·exact wpAny_Name (wpAny_loadName_free I.ok.kind hk hc hcell fin hcd) hd
theorem Et {i j pos}:PE X (.Constant (.int i) j pos) (tC (.int i)):=fun _ _ _ H _ I h=>wpAny_Constant_int ⟨.int i,H,I.tok _,⟨_,rfl⟩,h⟩
theorem Mi {b j pos}:PE X (.Constant (.bool b) j pos) (tC (.bl b)):=fun _ _ _ H _ I h=>Constant_bool ⟨.bl b,H,I,rfl,h⟩
theorem Iw {j pos}:PE X (.Constant .none j pos) (tC .non):=fun _ _ _ H _ I h=>Constant_none ⟨.non,H,I,rfl,h⟩
theorem Ie {x j pos}:PE X (.Constant (.str x) j pos) (tC (.str x)):=fun _ _ _ H _ I h=>Calls.Constant_str ⟨.str x,H,I.tok _,⟨_,rfl⟩,h⟩
def Gl (X:Cx)(x:Str):Prop:=X.env.kindOf x=some .globalImplicit
theorem rh {E:Value→Shared→Prop}{pos:Pos}(I:Inv X ah σ H s)(hg:Gl X x)(hm:X.mg x=some u)(h:Q u s)
  (hd:(x==("__debug__":Str))=false:=by decide):wpAny (model X.prog X.w) X.A (eval (.Name x pos) X.env) Q E s:=
 Calls.Name_function_global I.ok.kind hg (Calls.loadGlobal_global (by rw[I.ok.glob];exact I.mod.glob.keeps I.bk) hm h) hd
theorem pP {E:Value→Shared→Prop}{pos:Pos}(I:Inv X ah σ H s)(hg:Gl X x)(hm:X.mg x=none)(hv:bootBuiltins x=some u)(h:Q u s)
  (hn:x≠"__name__":=by decide) (hd:(x==("__debug__":Str))=false:=by decide):wpAny (model X.prog X.w) X.A (eval (.Name x pos) X.env) Q E s:=by
 obtain⟨mb,h1,h2⟩:=I.mod.blt;exact Calls.Name_function_global I.ok.kind hg (Calls.loadGlobal_builtin (by rw[I.ok.glob];exact I.mod.glob.keeps I.bk) hm (by rw[I.ok.blt];exact h1.keeps I.bk) ((h2 x hn).trans hv) h) hd
theorem FC {pos:Pos}(hg:Gl X x)(hm:X.mg x=some u)(r:bC v u)(hd:(x==("__debug__":Str))=false:=by decide):PE X (.Name x pos) (tC v):=
 fun _ _ _ H _ I h=>rh I hg hm ⟨v,H,I,r,h⟩ hd
theorem Fi {pos:Pos}(hg:Gl X x)(hm:X.mg x=none)(hv:bootBuiltins x=some u)(r:bC v u)(hn:x≠"__name__":=by decide)(hd:(x==("__debug__":Str))=false:=by decide):PE X (.Name x pos) (tC v):=
 fun _ _ _ H _ I h=>pP I hg hm hv ⟨v,H,I,r,h⟩ hn hd
variable {a b:Expr}{ta tb:TE}{pos:Pos}
variable {tA tB':TT}{rest:List Expr}
def Pb (t u:TT):TT:=fun σ H Q=>t σ H fun c H1=>if c=true then u σ H1 Q else Q false H1
def QQ (t u:TT):TT:=fun σ H Q=>t σ H fun c H1=>if c=true then Q true H1 else u σ H1 Q
def Pq (t:TT):TT:=fun σ H Q=>t σ H fun c H1=>Q (!c) H1
theorem Fw (ha:PT X a tA):PW X (.BoolOp .And [a] pos) tA:=by
 intro wh ah s σ H Q I h;refine isTrue_and (cZ (ha ah s σ H Q I h) fun c s1 e=>?_);cases c with
 | true=>exact isTrue_and_nil e
 | false=>exact e
theorem Iq (ha:PT X a tA):PW X (.BoolOp .Or [a] pos) tA:=by
 intro wh ah s σ H Q I h;refine isTrue_or (cZ (ha ah s σ H Q I h) fun c s1 e=>?_);cases c with
 | false=>exact isTrue_or_nil e
 | true=>exact e
theorem JE (ha:PT X a tA)(hb:PW X (.BoolOp .And (b::rest) pos) tB'):PW X (.BoolOp .And (a::b::rest) pos) (Pb tA tB'):=by
 intro wh ah s σ H Q I h;refine isTrue_and (cZ (ha ah s σ H _ I h) fun c s1 ⟨H1,I1,q1⟩=>?_);cases c with
 | true=>exact hb wh ah s1 σ H1 Q I1 q1
 | false=>exact⟨H1,I1,q1⟩
theorem Mt (ha:PT X a tA)(hb:PW X (.BoolOp .Or (b::rest) pos) tB'):PW X (.BoolOp .Or (a::b::rest) pos) (QQ tA tB'):=by
 intro wh ah s σ H Q I h;refine isTrue_or (cZ (ha ah s σ H _ I h) fun c s1 ⟨H1,I1,q1⟩=>?_);cases c with
 | true=>exact⟨H1,I1,q1⟩
 | false=>exact hb wh ah s1 σ H1 Q I1 q1
theorem JC (ha:PT X a tA):PT X (.UnaryOp .Not a pos) (Pq tA):=by
 intro ah s σ H Q I h;exact isTrue_not (ha ah s σ H (fun c H1=>Q (!c) H1) I h)
def Mn (ta tb:TE):TE:=fun σ H Q=>ta σ H fun x H1=>∃c,x=.bl c∧if c=true then tb σ H1 Q else Q (.bl false) H1
def O3 (ta tb:TE):TE:=fun σ H Q=>ta σ H fun x H1=>∃c,x=.bl c∧if c=true then Q (.bl true) H1 else tb σ H1 Q
def Mh (ta:TE):TE:=fun σ H Q=>ta σ H fun x H1=>∃c,x=.bl c∧Q (.bl (!c)) H1
theorem IA {op}{t:TE}(h:PE X a t):PE X (.BoolOp op [a] pos) t:=fun ah s σ H Q I hw=>BoolOp_one (h ah s σ H Q I hw)
theorem Jt (ha:PE X a ta)(hb:PE X (.BoolOp .And (b::rest) pos) tb):PE X (.BoolOp .And (a::b::rest) pos) (Mn ta tb):=by
 intro ah s σ H Q I h;refine BoolOp_and (cZ (ha ah s σ H _ I h) fun v s1 ⟨x,H1,I1,r1,q1⟩=>?_);obtain⟨c,rfl,q1⟩:=q1;cases r1;refine wpAny_truthy_bool ?_;cases c with
 | true=>exact hb ah s1 σ H1 Q I1 q1
 | false=>exact⟨.bl false,H1,I1,rfl,q1⟩
theorem LD (ha:PE X a ta)(hb:PE X (.BoolOp .Or (b::rest) pos) tb):PE X (.BoolOp .Or (a::b::rest) pos) (O3 ta tb):=by
 intro ah s σ H Q I h;refine BoolOp_or (cZ (ha ah s σ H _ I h) fun v s1 ⟨x,H1,I1,r1,q1⟩=>?_);obtain⟨c,rfl,q1⟩:=q1;cases r1;refine wpAny_truthy_bool ?_;cases c with
 | false=>exact hb ah s1 σ H1 Q I1 q1
 | true=>exact⟨.bl true,H1,I1,rfl,q1⟩
theorem JD (ha:PE X a ta):PE X (.UnaryOp .Not a pos) (Mh ta):=by
 intro ah s σ H Q I h;refine UnaryOp_ (cZ (ha ah s σ H _ I h) fun v s1 ⟨x,H1,I1,r1,q1⟩=>?_);obtain⟨c,rfl,q1⟩:=q1;cases r1;exact not_of (wpAny_truthy_bool ⟨.bl (!c),H1,I1,rfl,q1⟩)
def QM (t:TT)(ta tb:TE):TE:=fun σ H Q=>t σ H fun c H1=>if c=true then ta σ H1 Q else tb σ H1 Q
theorem CD (hc:PT X c tA)(ha:PE X a ta)(hb:PE X b tb):PE X (.IfExp c a b pos) (QM tA ta tb):=by
 intro ah s σ H Q I h;refine wpAny_IfExp (cZ (hc ah s σ H _ I h) fun d s1 ⟨H1,I1,q1⟩=>?_);cases d with
 | true=>exact ha ah s1 σ H1 Q I1 q1
 | false=>exact hb ah s1 σ H1 Q I1 q1
end
def pc (K:W.Frag)(H:Hp)(a:Addr)(xs:List V):Prop:=
 Rd H a (.lst xs)∨
  ∃(o:Obj) (its:Array Value) (n:Nat),K.lookup a=some o∧o.cls=.type "list"∧o.dict=none∧o.data=.seq its n∧its.size≤sizeLine∧bu xs its.toList
def qW (K:W.Frag)(H:Hp)(a:Addr)(xs:List V):Prop:=
 Rd H a (.tup xs)∨
  ∃(o:Obj) (its:Array Value) (n:Nat),K.lookup a=some o∧o.cls=.type "tuple"∧o.data=.seq its n∧its.size≤sizeLine∧bu xs its.toList
def Pf:Value→Option V
 | .none=>some .non
 | .bool b=>some (.bl b)
 | .int i _=>some (.int i)
 | .str x _=>some (.str x)
 | .bytes b _=>some (.byt b)
 | .float b _=>some (.flt b)
 | .ref a=>some (.ref a)
 | .type n=>some (.ty n)
 | _=>none
theorem bC.abs {x:V}(r:bC x u):Pf u=some x:=by
 cases x with
 | non=>cases r;rfl
 | bl _=>cases r;rfl
 | int _=>obtain⟨t,rfl⟩:=r;rfl
 | str _=>obtain⟨t,rfl⟩:=r;rfl
 | byt _=>obtain⟨t,rfl⟩:=r;rfl
 | flt _=>obtain⟨t,rfl⟩:=r;rfl
 | ref _=>cases r;rfl
 | ty _=>cases r;rfl
theorem bC.inj {x y:V}(r:bC x u)(q:bC y u):x=y:=Option.some.inj (r.abs.symm.trans q.abs)
theorem bu.inj:∀{xs ys:List V} {us:List Value},bu xs us→bu ys us→xs=ys
 | _,_,_,.nil,.nil=>rfl
 | _,_,_,.cons r t,.cons r' t'=>by rw[r.inj r',bu.inj t t']
section
variable {X:Cx}{ah:List (Addr×Obj)}{σ:St}{H:Hp}{s:Shared}{a:Addr}{xs ys:List V}
theorem Inv.list (I:Inv X ah σ H s)(h:pc X.K H a xs):∃its:List Value,bu xs its∧PlainL s.heap a its.toArray∧xs.length≤sizeLine:=by
 rcases h with h|⟨o,its,n,hk,hc,hd,hs,hz,r⟩
 ·obtain⟨z,its,n,r,e⟩:=h.ok I.hok;exact⟨its,r,⟨_,n,e,rfl,rfl,rfl⟩,z⟩
 ·refine⟨its.toList,r,⟨o,n,I.kIn a o hk,hc,hd,by simpa using hs⟩,?_⟩;have e:=r.length;simp only[Array.length_toList] at e;omega
theorem Inv.tuple (I:Inv X ah σ H s)(h:qW X.K H a xs):∃its:List Value,bu xs its∧IsTup s.heap a its.toArray∧xs.length≤sizeLine:=by
 rcases h with h|⟨o,its,n,hk,hc,hs,hz,r⟩
 ·obtain⟨z,its,r,p⟩:=h.ok I.hok;exact⟨its,r,p,z⟩
 ·refine⟨its.toList,r,⟨o,I.kIn a o hk,hc,n,by simpa using hs⟩,?_⟩;have e:=r.length;simp only[Array.length_toList] at e;omega
theorem Inv.list_inj (I:Inv X ah σ H s)(h:pc X.K H a xs)(h':pc X.K H a ys):xs=ys:=by
 obtain⟨its,r,⟨o,n,e,_,_,d⟩,_⟩:=I.list h;obtain⟨its',r',⟨o',n',e',_,_,d'⟩,_⟩:=I.list h';rw[e] at e';cases e';rw[d] at d';injection d' with d1 _
 have:its=its':=by simpa using congrArg Array.toList d1
 subst this;exact r.inj r'
theorem Inv.tuple_inj (I:Inv X ah σ H s)(h:qW X.K H a xs)(h':qW X.K H a ys):xs=ys:=by
 obtain⟨its,r,⟨o,e,_,n,d⟩,_⟩:=I.tuple h;obtain⟨its',r',⟨o',e',_,n',d'⟩,_⟩:=I.tuple h';rw[e] at e';cases e';rw[d] at d';injection d' with d1 _
 have:its=its':=by simpa using congrArg Array.toList d1
 subst this;exact r.inj r'
end
section
variable {X:Cx}{st:Stmt}{rest:List Stmt}{t u:TS}{e:Expr}{te:TE}{pos:Pos}
def Nt:TS:=fun D σ H=>D.nx σ H
def PC (t u:TS):TS:=fun D σ H=>t {D with nx:=u D} σ H
theorem Gq:PSs X [] Nt:=fun _ _ σ H _ I h=>wpAny_execs_nil ⟨σ,H,I,h⟩
theorem DP (h1:PS X st t)(h2:PSs X rest u):PSs X (st::rest) (PC t u):=by
 intro ah s σ H D I h;refine wpAny_execs_cons (cZ (h1 ah s σ H {D with nx:=u D} I h) fun f s1 q=>?_);cases f with
 | next=>
  obtain⟨σ',H',I',q⟩:=q;exact h2 ah s1 σ' H' D I' q
 | ret v=>exact q
 | brk=>exact q
 | cont=>exact q
theorem Ft (h1:PS X st t):PSs X [st] t:=by
 intro ah s σ H D I h;refine wpAny_execs_cons (cZ (h1 ah s σ H D I h) fun f s1 q=>?_);cases f with
 | next=>exact wpAny_execs_nil q
 | ret v=>exact q
 | brk=>exact q
 | cont=>exact q
theorem Inv.quiet (I:Inv X ah σ H s):interactive X.env=false:=by simp[interactive,I.ok.kind]
def MY (te:TE):TS:=fun D σ H=>te σ H fun _ H1=>D.nx σ H1
theorem E6 (he:PE X e te)(hs:swapsWith e none pos.line X.env=pure false:=by rfl):PS X (.Expr e pos) (MY te):=by
 intro ah s σ H D I h;exact wpAny_Expr_any (cZ (he ah s σ H _ I h) fun v s1 ⟨x,H1,I1,r1,q1⟩=>⟨σ,H1,I1,q1⟩) I.quiet hs
def OH (te:TE):TS:=fun D σ H=>te σ H D.rt
theorem Kh (he:PE X e te):PS X (.Return (some e) pos) (OH te):=by
 intro ah s σ H D I h;exact wpAny_Return_some (cZ (he ah s σ H _ I h) fun v s1 ⟨x,H1,I1,r1,q1⟩=>⟨x,σ,H1,I1,r1,q1⟩)
def Pk (c:TT)(t u:TS):TS:=fun D σ H=>c σ H fun b H1=>if b=true then t D σ H1 else u D σ H1
theorem Nu {a b:List Stmt}{tc:TT}(hc:PT X c tc)(ha:PSs X a t)(hb:PSs X b u):PS X (.If c a b pos) (Pk tc t u):=by
 intro ah s σ H D I h;refine wpAny_If (cZ (hc ah s σ H _ I h) fun d s1 ⟨H1,I1,q1⟩=>?_);cases d with
 | true=>exact ha ah s1 σ H1 D I1 q1
 | false=>exact hb ah s1 σ H1 D I1 q1
end
abbrev TG:=V→St→Hp→(St→Hp→Prop)→Prop
abbrev Fz:=List V→St→Hp→(St→Hp→Prop)→Prop
def PG (X:Cx)(target:Expr)(t:TG):Prop:=
 ∀(ah:List (Addr×Obj)) (s:Shared) (σ:St) (H:Hp) (v:V) (u:Value) (Q:St→Hp→Prop),Inv X ah σ H s→bC v u→t v σ H Q→
  wpAny (model X.prog X.w) X.A (assign target X.env u) (fun _ s'=>∃σ' H',Inv X ah σ' H' s'∧Q σ' H') X.xe s
def Ay (X:Cx)(ts:List Expr)(t:Fz):Prop:=
 ∀(ah:List (Addr×Obj)) (s:Shared) (σ:St) (H:Hp) (vs:List V) (us:List Value) (Q:St→Hp→Prop),Inv X ah σ H s→bu vs us→t vs σ H Q→
  wpAny (model X.prog X.w) X.A (assignInOrder ((assignEach ts X.env).map (·.2)) us) (fun _ s'=>∃σ' H',Inv X ah σ' H' s'∧Q σ' H') X.xe s
abbrev KW:=V→V→V→Hp→(Hp→Prop)→Prop
def Lu (X:Cx)(t:KW):Prop:=
 ∀(ah:List (Addr×Obj)) (s:Shared) (σ:St) (H:Hp) (o i v:V) (ov iv u:Value) (Q:Hp→Prop),Inv X ah σ H s→bC o ov→bC i iv→bC v u→t o i v H Q→
  wpAny (model X.prog X.w) X.A (setItem ov iv u) (fun _ s'=>∃H',Inv X ah σ H' s'∧Q H') X.xe s
abbrev Of:=V→V→Hp→VK→Prop
def Oi (X:Cx)(op:Operator)(t:Of):Prop:=
 ∀(ah:List (Addr×Obj)) (s:Shared) (σ:St) (H:Hp) (x y:V) (v u:Value) (Q:VK),Inv X ah σ H s→bC x v→bC y u→t x y H Q→
  wpAny (model X.prog X.w) X.A (inplaceOp op v u) (EP X ah σ Q) X.xe s
variable{es:List Expr}{tg:Expr}{te:TE}{op:Operator}
section
variable {X:Cx}{pos:Pos}
def HQ (i:Nat):TG:=fun v σ H Q=>Q (σ.set i (some v)) H
theorem Gd (hN:X.N.Nodup)(hi:X.N[i]?=some x)(hx:yL X.env.scope x)(hf:X.fn x=true∨X.env.scope.names.lookup x=some .local:=by first|exact .inl rfl|exact .inr rfl|assumption):PG X (.Name x pos) (HQ i):=by
 intro ah s σ H v u Q I r h;exact wpAny_assign_Name (mM I hN hi hx r (fun s' I'=>⟨_,H,I',h⟩) hf)
def P9:Fz:=fun vs σ H Q=>vs=[]∧Q σ H
def Ng (t:TG)(u:Fz):Fz:=fun vs σ H Q=>∃v r,vs=v::r∧t v σ H fun σ' H'=>u r σ' H' Q
theorem Ac:Ay X [] P9:=by
 intro ah s σ H vs us Q I r h;obtain⟨e,h⟩:=h;subst e;cases r;exact assignInOrder_nil ⟨σ,H,I,h⟩
theorem yq {t:TG}{u:Fz}(h1:PG X e t)(h2:Ay X es u)
  (hs:(assignEach (e::es) X.env).map (·.2)=assign e X.env::(assignEach es X.env).map (·.2):=by rfl):Ay X (e::es) (Ng t u):=by
 intro ah s σ H vs us Q I r h;obtain⟨v,vr,e1,h⟩:=h;subst e1;cases r with
 | cons r rr=>
  rw[hs];refine assignInOrder_cons (cZ (h1 ah s σ H _ _ _ I r h) fun _ s1 ⟨σ1,H1,I1,q1⟩=>?_);exact h2 ah s1 σ1 H1 _ _ Q I1 rr q1
def PJ (K:W.Frag)(n:Nat)(t:Fz):TG:=fun v σ H Q=>∃a xs,v=.ref a∧qW K H a xs∧xs.length=n∧t xs σ H Q
theorem DM {k:Nat}{t:Fz}{n:Nat}(hc:X.calm=true)(h:Ay X es t)
  (hn:(assignEach es X.env).length=n:=by rfl) (hst:(assignEach es X.env).findIdx? (·.1)=none:=by rfl):PG X (.Tuple es k pos) (PJ X.K n t):=by
 intro ah s σ H v u Q I r hw;obtain⟨a,xs,e1,hq,hl,hw⟩:=hw;subst e1;cases r;obtain⟨its,rv,ht,hz⟩:=I.tuple hq;refine assign_Tuple_tuple (I.ok.hd hc) ht (by simp[hn,←hl,rv.length]) hst fun h' hx=>?_
 have I1:Inv X ah σ H {s with heap:=h'}:=I.kept (t':=s.toks) fun b o e=>hx b o (Nat.ne_of_lt (Heap.lt_size e)) e
 exact h ah _ σ H xs _ Q I1 (by simpa using rv) hw
def Qa (to ti:TE)(t:KW):TG:=fun v σ H Q=>to σ H fun o H1=>ti σ H1 fun i H2=>t o i v H2 fun H3=>Q σ H3
theorem KU {o i:Expr}{to ti:TE}{t:KW}(ho:PE X o to)(hi:PE X i ti)(hs:Lu X t)
  (ha:∀v,assign (.Subscript o i pos) X.env v=(do
   let ov ←holding [v] (eval o X.env)
   let iv ←holding [v,ov] (eval i X.env)
   standAt pos
   holding [v,ov,iv] (setItem ov iv v)
   release [v,ov,iv] []):=by intro _;rfl):PG X (.Subscript o i pos) (Qa to ti t):=by
 intro ah s σ H v u Q I r h;rw[ha];refine wpAny_bind (wpAny_holding (cZ (ho ah s σ H _ I h) fun ov s1 ⟨x,H1,I1,r1,q1⟩=>?_));refine wpAny_bind (wpAny_holding (cZ (hi ah s1 σ H1 _ I1 q1) fun iv s2 ⟨y,H2,I2,r2,q2⟩=>?_));refine wpAny_bind (wpAny_standAt (wpAny_bind (wpAny_holding (cZ (hs ah s2 σ H2 x y v ov iv u _ I2 r1 r2 r q2) fun _ s3 ⟨H3,I3,q3⟩=>?_))));exact wpAny_release ⟨σ,H3,I3,q3⟩
def N2 (te:TE)(g:TG):TS:=fun D σ H=>te σ H fun x H1=>g x σ H1 D.nx
theorem Eo {g:TG}(he:PE X e te)(hg:PG X tg g)(hs:swapsWithSole [tg] e pos.line X.env=pure false:=by rfl)(hw:swappedStores [tg] e X.env=pure none:=by rfl)
  (h1:(assignEach [tg] X.env).map (·.2)=[assign tg X.env]:=by rfl):PS X (.Assign [tg] e pos) (N2 te g):=by
 intro ah s σ H D I h;refine wpAny_Assign_stores (cZ (he ah s σ H _ I h) fun v s1 ⟨x,H1,I1,r1,q1⟩=>?_) hs hw;rw[h1];exact cZ (hg ah s1 σ H1 x v _ I1 r1 q1) fun _ s2 q=>q
theorem Jn {pos':Pos}(hN:X.N.Nodup)(hi:X.N[i]?=some x)(hx:yL X.env.scope x)(he:PE X e te)(hs:swapsWith e (some (.Name x pos')) pos.line X.env=pure false:=by rfl)(hf:X.fn x=true∨X.env.scope.names.lookup x=some .local:=by first|exact .inl rfl|exact .inr rfl|assumption) :
  PS X (.Assign [.Name x pos'] e pos) (N2 te (HQ i)):=by
 intro ah s σ H D I h;refine wpAny_Assign_Name (cZ (he ah s σ H _ I h) fun v s1 ⟨y,H1,I1,r1,q1⟩=>?_) hs;exact mM I1 hN hi hx r1 (fun s2 I2=>⟨_,H1,I2,q1⟩) hf
def Pc (i j:Nat)(ta:TA):TS:=fun D σ H=>ta σ H fun vs H1=>∃v w,vs=[v,w]∧D.nx ((σ.set i (some v)).set j (some w)) H1
theorem Ik {j:Nat}{y:Str}{a b:Expr}{ta:TA}{px py pt:Pos}{kt k2 pt2}(hc:X.calm=true)(hN:X.N.Nodup)(hi:X.N[i]?=some x)(hj:X.N[j]?=some y)(hij:i≠j)
  (hx:X.env.scope.names.lookup x=some .local) (hy:X.env.scope.names.lookup y=some .local) (ha:PA X [a,b] ta)
  (hw:swappedStores [.Tuple [.Name x px,.Name y py] kt pt] (.Tuple [a,b] k2 pt2) X.env=pure (some [x,y]))
  (hs:swapsWithSole [.Tuple [.Name x px,.Name y py] kt pt] (.Tuple [a,b] k2 pt2) pos.line X.env=pure false:=by rfl) :
  PS X (.Assign [.Tuple [.Name x px,.Name y py] kt pt] (.Tuple [a,b] k2 pt2) pos) (Pc i j ta):=by
 intro ah s σ H D I h;rw[exec_Assign_arm];refine wpAny_bind (wpAny_standAt ?_);rw[hs];refine wpAny_bind (wpAny_pure ?_);rw[if_neg (by decide)];refine wpAny_bind (Tuple_ (cZ (ha _ ah s σ H _ I h) fun us s1 ⟨vs,H1,I1,r1,q1⟩=>?_));obtain⟨v,w,e1,q1⟩:=q1;subst e1;obtain⟨u1,u2,rfl,rv,rw'⟩:∃u1 u2,us=[u1,u2]∧bC v u1∧bC w u2:=by
  cases r1 with
  | cons p q=>
   cases q with
   | cons p' q'=>
    cases q';exact⟨_,_,rfl,p,p'⟩
 refine wpAny_newObj_type ?_ (by show 2≤sizeLine;decide);have I2:Inv X ah σ H1 {s1 with heap:=s1.heap.push {cls:=.type "tuple",data:=.seq [u1,u2].toArray}}:=I1.kept (t':=s1.toks) fun b o e=>Heap.get?_push_of_some _ e
 rw[hw];refine wpAny_bind (wpAny_pure ?_);show wpAny (model X.prog X.w) X.A (do rule "assign.swapped-stores";let items ←unpackItems (.ref s1.heap.objs.size) 2 none;assignInOrder [fun v=>bindName X.env y v,fun v=>bindName X.env x v] items.reverse;pure Flow.next) _ _ _;refine wpAny_bind (wpAny_rule (wpAny_bind (unpackItems_tuple (items:=#[u1,u2]) (I.ok.hd hc) (IsTup.new s1.heap _) fun h' hx'=>?_)));have I3:=I2.kept (h':=h') (t':=s1.toks) fun b o e=>hx' b o (Nat.ne_of_lt (Heap.lt_size e)) e
 show wpAny _ _ (assignInOrder [fun v=>bindName X.env y v,fun v=>bindName X.env x v] [u2,u1] >>= fun _=>pure Flow.next) _ _ _;refine wpAny_bind (assignInOrder_cons (wpAny_bindName (mM I3 hN hj (.inl hy) rw' (fun s2 I4=>?_) (.inr hy))));refine assignInOrder_cons (wpAny_bindName (mM I4 hN hi (.inl hx) rv (fun s3 I5=>assignInOrder_nil (wpAny_pure ?_)) (.inr hx)));rw[set_comm _ _ (Ne.symm hij)] at I5;exact⟨_,H1,I5,q1⟩
def OS (i:Nat)(te:TE)(ti:Of):TS:=fun D σ H=>∃x,σ[i]?=some (some x)∧te σ H fun y H1=>ti x y H1 fun z H2=>D.nx (σ.set i (some z)) H2
theorem C0 {ti:Of}{pos':Pos}(hN:X.N.Nodup)(hi:X.N[i]?=some x)(hx:yL X.env.scope x)(he:PE X e te)(ho:Oi X op ti)(hf:X.fn x=true∨X.env.scope.names.lookup x=some .local:=by first|exact .inl rfl|exact .inr rfl|assumption) :
  PS X (.AugAssign (.Name x pos') op e pos) (OS i te ti):=by
 intro ah s σ H D I h;obtain⟨v,e1,h⟩:=h;obtain⟨m,hn,hl⟩:=I.loc;have vis:Lm X.env.scope x:=by rcases hx with k|k;exact .inl k;exact .inr (.inl k)
 obtain⟨u,r,l⟩:=hl i x v hi e1 vis;refine wpAny_AugAssign_Name ?_;have go:wpAny (model X.prog X.w) X.A (eval e X.env) (fun w s₂=>wpAny (model X.prog X.w) X.A (inplaceOp op u w) (fun r s₃=>wpAny (model X.prog X.w) X.A (storeName X.env x r) (fun _=>SP X ah D .next) X.xe s₃) X.xe s₂) X.xe s:=by
  refine cZ (he ah s σ H _ I h) fun w s1 ⟨y,H1,I1,r1,q1⟩=>?_
  refine cZ (ho ah s1 σ H1 v y u w _ I1 r r1 q1) fun z s2 ⟨zv,H2,I2,r2,q2⟩=>?_
  exact mM I2 hN hi hx r2 (fun s3 I3=>⟨_,H2,I3,q2⟩) hf
 rcases l with⟨hk,hm⟩|⟨hk,c,hc,hcell⟩
 ·exact wpAny_loadName_local I.ok.kind hk hn hm go
 ·rcases hk with hk|hk
  ·exact wpAny_loadName_cell I.ok.kind hk hc hcell go
  ·rcases hx with k|k
   ·have:X.env.scope.names.lookup x=some .free:=hk;rw[k] at this;cases this
   ·have:X.env.scope.names.lookup x=some .free:=hk;rw[k] at this;cases this
def Pl (f:Int→Int→Int):Of:=fun x y H Q=>∃i j,x=.int i∧y=.int j∧Q (.int (f i j)) H
theorem JH:Oi X .Add (Pl fun i j=>i+j):=by
 intro ah s σ H x y v u Q I r1 r2 h;obtain⟨i,j,e1,e2,q⟩:=h;subst e1;subst e2;obtain⟨t,rfl⟩:=r1;obtain⟨t',rfl⟩:=r2;exact iadd_int ⟨.int _,H,I.tok _,⟨_,rfl⟩,q⟩
theorem Ij:Oi X .Sub (Pl fun i j=>i-j):=by
 intro ah s σ H x y v u Q I r1 r2 h;obtain⟨i,j,e1,e2,q⟩:=h;subst e1;subst e2;obtain⟨t,rfl⟩:=r1;obtain⟨t',rfl⟩:=r2;exact isub_int ⟨.int _,H,I.tok _,⟨_,rfl⟩,q⟩
end
variable{body:List Stmt}
section
variable {X:Cx}{pos:Pos}
def JT (c:TT)(tb:TS):TS:=fun D σ H=>∃W:Nat→St→Hp→Prop,(∃m,W m σ H)∧∀m σ H,W m σ H→
 c σ H fun b H1=>if b=true then∃N:St→Hp→Prop,(∀σ' H',N σ' H'→∃m',m'<m∧W m' σ' H')∧tb {D with nx:=N,ct:=N,bk:=D.nx} σ H1 else D.nx σ H1
theorem Dy {tc:TT}{tb:TS}(hp:PassesOwn (model X.prog X.w) X.A X.env X.xe)(hc:PT X c tc)(hb:PSs X body tb):PS X (.While c body [] pos) (JT tc tb):=by
 intro ah s σ H D I h;obtain⟨W,⟨m0,w0⟩,turn⟩:=h;refine wpAny_While (codeAny_whileLoop (fun n s'=>∃σ' H',Inv X ah σ' H' s'∧W n σ' H') ?_ m0 ⟨σ,H,I,w0⟩);rintro n s1 ⟨σ1,H1,I1,w1⟩;refine wpAny_passesOwn hp (cZ (hc ah s1 σ1 H1 _ I1 (turn n σ1 H1 w1)) fun b s2 ⟨H2,I2,q2⟩=>?_);cases b with
 | true=>
  obtain⟨N,hN,q2⟩:=q2;rw[if_pos rfl];refine wpAny_passesOwn hp (cZ (hb ah s2 σ1 H2 _ I2 q2) fun f s3 q3=>?_);cases f with
  | next=>
   obtain⟨σ3,H3,I3,n3⟩:=q3;obtain⟨m',hm,w3⟩:=hN σ3 H3 n3;exact⟨m',hm,σ3,H3,I3,w3⟩
  | cont=>
   obtain⟨σ3,H3,I3,n3⟩:=q3;obtain⟨m',hm,w3⟩:=hN σ3 H3 n3;exact⟨m',hm,σ3,H3,I3,w3⟩
  | brk=>exact q3
  | ret v=>exact q3
 | false=>
  rw[if_neg Bool.false_ne_true];exact wpAny_execs_nil ⟨σ1,H2,I2,q2⟩
end
structure It where
 go:Nat→Hp→Prop
 yld:Nat→Hp→V→Hp→Prop
 stop:Nat→Hp→Prop
def kQ (X:Cx)(ah:List (Addr×Obj))(H:Hp)(b:Addr):Prop:=
 H b=none∧b≠X.env.locals∧b∉X.fs∧(b∈X.ex∨X.s₀.heap.objs.size≤b)∧(∀x c,X.env.cells.lookup x=some c→c≠b)∧∀p∈X.pn++ah,p.1≠b
theorem Inv.fpOk {X:Cx}{H':Hp}(I:Inv X ah σ H s)(hb:s.heap.objs.size≤b)(hn:H' b=none):kQ X ah H' b:=by
 refine⟨hn,Nat.ne_of_gt (Nat.lt_of_lt_of_le I.lt hb),I.nofs hb,.inr (Nat.le_trans I.sz hb),fun x c e z=>?_,fun p hp z=>?_⟩
 ·obtain⟨v,q⟩:=I.cell x c e;exact absurd (Nat.lt_of_lt_of_le q.lt (by rw[z];exact hb)) (Nat.lt_irrefl _)
 ·exact absurd (Nat.lt_of_lt_of_le (Heap.lt_size (I.pin p hp).1) (by rw[z];exact hb)) (Nat.lt_irrefl _)
structure BN (P:Program)(w:World)(K:W.Frag)(tg:Expr)(J:It)(fp:List Addr)(it:Addr)(tn:Nat→Heap→Prop):Prop where
 mem:it∈fp
 obj:∀i h,tn i h→∀b∈fp,∃o,h.get? b=some o∧∀v,o.data≠.cell v
 keep:∀i h h',tn i h→(∀b∈fp,∀o,h.get? b=some o→h'.get? b=some o)→tn i h'
 item:∀(X:Cx),X.prog=P→X.w=w→X.K=K→X.calm=true→∀(i:Nat) (ah:List (Addr×Obj)) (s:Shared) (σ:St) (H:Hp) (E:Value→Shared→Prop),Inv X ah σ H s→(∀b∈fp,kQ X ah H b)→tn i s.heap→J.go i H→
  wpAny (model P w) X.A (pyNext (.ref it)) (fun r s1=>∃u,r=some u∧
   wpAny (model P w) X.A (letOwnedTupleGo tg (.ref it) u) (fun _ s2=>∃x H',Inv X ah σ H' s2∧bC x u∧J.yld i H x H'∧tn (i+1) s2.heap∧∀b∈fp,H' b=none) E s1) E s
 done:∀(X:Cx),X.prog=P→X.w=w→X.K=K→X.calm=true→∀(i:Nat) (ah:List (Addr×Obj)) (s:Shared) (σ:St) (H:Hp) (E:Value→Shared→Prop),Inv X ah σ H s→(∀b∈fp,kQ X ah H b)→tn i s.heap→J.stop i H→
  wpAny (model P w) X.A (pyNext (.ref it)) (fun r s1=>r=none∧Inv X ah σ H s1) E s
 self:∀(A:Around) (i:Nat) (s:Shared) (Q:Value→Shared→Prop) (E:Value→Shared→Prop),tn i s.heap→Q (.ref it) s→wpAny (model P w) A (pyIter (.ref it)) Q E s
abbrev TI:=St→Hp→(It→Hp→Prop)→Prop
def OX (X:Cx)(ah:List (Addr×Obj))(σ:St)(tg:Expr)(R:It→Hp→Prop)(itv:Value)(s2:Shared):Prop:=
 ∃(it:Addr) (fp:List Addr) (tn:Nat→Heap→Prop) (J:It) (H':Hp),itv=.ref it∧Inv X ah σ H' s2∧BN X.prog X.w X.K tg J fp it tn∧tn 0 s2.heap∧(∀b∈fp,kQ X ah H' b)∧R J H'
def PI (X:Cx)(tg iter:Expr)(wi:TI):Prop:=
 ∀(ah:List (Addr×Obj)) (s:Shared) (σ:St) (H:Hp) (R:It→Hp→Prop),Inv X ah σ H s→wi σ H R→
  wpAny (model X.prog X.w) X.A (eval iter X.env) (fun v s1=>wpAny (model X.prog X.w) X.A (pyIter v) (OX X ah σ tg R) X.xe s1) X.xe s
theorem Eu {M:Model}{it:Addr}{o:Obj}{n:String}{vs:Array Value}{Q:Unit→Shared→Prop}(ho:s.heap.get? it=some o)(hc:o.cls=.type n)(hd:o.data=.fields vs)
  (hn:["enumerate","zip","dict_itemiterator","dict_reverseitemiterator","odict_iterator","itertools.zip_longest","itertools.pairwise"].contains n=false) (hQ:Q () s):wpAny M A (letOwnedTupleGo tg (.ref it) u) Q E s:=by
 unfold letOwnedTupleGo;cases tg <;> first
  | exact wpAny_pure hQ
  | (cases u <;> first
    | exact wpAny_pure hQ
    | (refine wpAny_bind (wpAny_load ho ?_)
       rw[hc,hd];show wpAny M A (if(["enumerate","zip","dict_itemiterator","dict_reverseitemiterator","odict_iterator","itertools.zip_longest","itertools.pairwise"].contains n&&vs[0]?==some (rawInt _))=true then _ else _) Q E s;rw[if_neg (by intro h;rw[hn,Bool.false_and] at h;cases h)];exact wpAny_pure hQ))
def Ox (K:W.Frag)(a:Addr):It:=
 ⟨fun i H=>∃xs x,pc K H a xs∧xs[i]?=some x,fun i H x H'=>H'=H∧∀xs,pc K H a xs→xs[i]?=some x,fun i H=>∃xs,pc K H a xs∧xs.length≤i⟩
def Pg (K:W.Frag)(a:Addr):It:=
 ⟨fun i H=>∃xs x,qW K H a xs∧xs[i]?=some x,fun i H x H'=>H'=H∧∀xs,qW K H a xs→xs[i]?=some x,fun i H=>∃xs,qW K H a xs∧xs.length≤i⟩
def Ob (lo:Int)(n:Nat):It:=⟨fun i _=>i<n,fun i H x H'=>H'=H∧x=.int (lo+i),fun i _=>n≤i⟩
variable{K:W.Frag}
theorem A1 (a it:Addr):BN P w K tg (Ox K a) [it] it (fun i h=>h.IsListIter it a i) where
 mem:=by simp
 obj:=fun i h st b hb=>by
  have e:b=it:=by simpa using hb
  subst e;obtain⟨o,e,c,d⟩:=st;exact⟨o,e,fun v z=>by rw[d] at z;cases z⟩
 keep:=fun i h h' st k=>st.at fun o e=>k it (by simp) o e
 item:=by
  intro X hP hw hK hc i ah s σ H E I hf st hg;subst hP hw hK;obtain⟨xs,x,hq,hx⟩:=hg;obtain⟨its,rv,p,hz⟩:=I.list hq;obtain⟨u,hu,ru⟩:=rv.get hx;obtain⟨f0,f1,f2,f3,f4,f5⟩:=hf it (by simp);refine wpAny_pyNext_list_item st p.isList (x:=u) (by simpa using hu) fun h' st' sb=>?_
  have I1:Inv X ah σ H {s with heap:=h'}:=I.turned (t':=s.toks) (fun b o hb e=>(sb.2 b hb).trans e) f0 f1 f3 f4 f5;obtain⟨o,e,c,d⟩:=id st';exact⟨u,rfl,Eu (s:={s with heap:=h'}) e c d (by decide) ⟨x,H,I1,ru,⟨rfl,fun ys hy=>by rw[I.list_inj hy hq];exact hx⟩,st',fun b hb=>(hf b hb).1⟩⟩
 done:=by
  intro X hP hw hK hc i ah s σ H E I hf st hg;subst hP hw hK;obtain⟨xs,hq,hx⟩:=hg;obtain⟨its,rv,p,hz⟩:=I.list hq;obtain⟨f0,f1,f2,f3,f4,f5⟩:=hf it (by simp);have hl:=rv.length;exact wpAny_pyNext_list_end (I.ok.hd hc) st p.isList (by simp;omega) fun h' eb=>⟨rfl,I.turned (t':=s.toks) (fun b o hb e=>eb b o hb e) f0 f1 f3 f4 f5⟩
 self:=fun _ _ _ _ _ st h=>wpAny_pyIter_listiter st h
theorem zJ (a it:Addr):BN P w K tg (Pg K a) [it] it (fun i h=>h.IsTupleIter it a i) where
 mem:=by simp
 obj:=fun i h st b hb=>by
  have e:b=it:=by simpa using hb
  subst e;obtain⟨o,e,c,d⟩:=st;exact⟨o,e,fun v z=>by rw[d] at z;cases z⟩
 keep:=fun i h h' st k=>st.at fun o e=>k it (by simp) o e
 item:=by
  intro X hP hw hK hc i ah s σ H E I hf st hg;subst hP hw hK;obtain⟨xs,x,hq,hx⟩:=hg;obtain⟨its,rv,p,hz⟩:=I.tuple hq;obtain⟨u,hu,ru⟩:=rv.get hx;obtain⟨f0,f1,f2,f3,f4,f5⟩:=hf it (by simp);refine wpAny_pyNext_tuple_item st (show s.heap.IsTuple a its.toArray from p) (x:=u) (by simpa using hu) fun h' st' sb=>?_
  have I1:Inv X ah σ H {s with heap:=h'}:=I.turned (t':=s.toks) (fun b o hb e=>(sb.2 b hb).trans e) f0 f1 f3 f4 f5;obtain⟨o,e,c,d⟩:=id st';exact⟨u,rfl,Eu (s:={s with heap:=h'}) e c d (by decide) ⟨x,H,I1,ru,⟨rfl,fun ys hy=>by rw[I.tuple_inj hy hq];exact hx⟩,st',fun b hb=>(hf b hb).1⟩⟩
 done:=by
  intro X hP hw hK hc i ah s σ H E I hf st hg;subst hP hw hK;obtain⟨xs,hq,hx⟩:=hg;obtain⟨its,rv,p,hz⟩:=I.tuple hq;obtain⟨f0,f1,f2,f3,f4,f5⟩:=hf it (by simp);have hl:=rv.length;exact wpAny_pyNext_tuple_end (I.ok.hd hc) st (show s.heap.IsTuple a its.toArray from p) (by simp;omega) fun h' eb=>⟨rfl,I.turned (t':=s.toks) (fun b o hb e=>eb b o hb e) f0 f1 f3 f4 f5⟩
 self:=fun _ _ _ _ _ st h=>wpAny_pyIter_tupleiter st h
theorem yG (it:Addr)(lo:Int)(n:Nat):BN P w K tg (Ob lo n) [it] it (fun i h=>IsRangeIter h it (lo+(i:Nat)*1) ((n:Int)-(i:Nat)) 1) where
 mem:=by simp
 obj:=fun i h st b hb=>by
  have e:b=it:=by simpa using hb
  subst e;exact⟨_,st,fun v z=>by
   have z':Data.fields _=Data.cell v:=z;cases z'⟩
 keep:=fun i h h' st k=>k it (by simp) _ st
 item:=by
  intro X hP hw hK hc i ah s σ H E I hf st hg;subst hP hw hK;obtain⟨f0,f1,f2,f3,f4,f5⟩:=hf it (by simp);have W:=Walks.range (prog:=X.prog) (w:=X.w) (I.ok.hd hc) it lo 1 n;refine W.item i s _ _ hg st fun v h' tk hv st' kk=>?_
  obtain⟨t,rfl⟩:=hv;have I1:Inv X ah σ H {s with heap:=h',toks:=tk}:=I.turned (fun b o hb e=>kk b o (by simpa using hb) e) f0 f1 f3 f4 f5;refine⟨_,rfl,Eu (s:={s with heap:=h',toks:=tk}) (n:="range_iterator") st' rfl rfl (by decide) ⟨.int (lo+i),H,I1,⟨t,?_⟩,⟨rfl,rfl⟩,st',fun b hb=>(hf b hb).1⟩⟩;rw[Int.mul_one]
 done:=by
  intro X hP hw hK hc i ah s σ H E I hf st hg;subst hP hw hK;obtain⟨f0,f1,f2,f3,f4,f5⟩:=hf it (by simp);exact wpAny_pyNext_range_end (I.ok.hd hc) st (by have:n≤i:=hg;omega) fun h' eb=>⟨rfl,I.turned (t':=s.toks) (fun b o hb e=>eb b o hb e) f0 f1 f3 f4 f5⟩
 self:=fun _ _ _ _ _ st h=>wpAny_pyIter_rangeiter st h
variable{fp:List Addr}
section
variable {X:Cx}{tg:Expr}
theorem D7 {R:It→Hp→Prop}{lo hi:Int}{t u v:Tok}{tk:Nat}(I:Inv X ah σ H s)(h1:-(2 ^ 62)≤lo)(h2:lo<2 ^ 62)(h3:-(2 ^ 62)≤hi)(h4:hi<2 ^ 62)
  (q:R (Ob lo (hi-lo).toNat) H):wpAny (model X.prog X.w) X.A (pyIter (.ref s.heap.objs.size)) (OX X ah σ tg R) E {s with heap:=s.heap.push {cls:=.type "range",data:=.fields #[.int lo t,.int hi u,.int 1 v]},toks:=tk}:=by
 refine wpAny_pyIter_range (IsRange.new ..) (small_one h1 h2 h3 h4) ?_;have I1:Inv X ah σ H {s with heap:=s.heap.push {cls:=.type "range",data:=.fields #[.int lo t,.int hi u,.int 1 v]},toks:=tk}:=I.kept fun b o e=>Heap.get?_push_of_some _ e
 refine⟨(s.heap.push {cls:=.type "range",data:=.fields #[.int lo t,.int hi u,.int 1 v]}).objs.size,[(s.heap.push {cls:=.type "range",data:=.fields #[.int lo t,.int hi u,.int 1 v]}).objs.size],_,_,H,rfl,
  I1.kept (t':=tk) fun b o e=>Heap.get?_push_of_some _ e,yG _ lo (hi-lo).toNat,?_,fun b hb=>?_,q⟩
 ·have e1:lo+((0:Nat):Int)*1=lo:=by simp
  have e2:(((hi-lo).toNat:Nat):Int)-((0:Nat):Int)=Builtin.Range.rangeSize lo hi 1:=by rw[rangeSize_one];split <;> omega
  show IsRangeIter _ _ (lo+((0:Nat):Int)*1) ((((hi-lo).toNat:Nat):Int)-((0:Nat):Int)) 1;rw[e1,e2];exact Heap.get?_push_size _ rfl
 ·have e:b=(s.heap.push {cls:=.type "range",data:=.fields #[.int lo t,.int hi u,.int 1 v]}).objs.size:=by simpa using hb
  subst e;exact I1.fpOk (Nat.le_refl _) (I1.hok.fresh (Nat.le_refl _))
def LP (ta:TA):TI:=fun σ H R=>ta σ H fun vs H1=>∃j:Int,vs=[.int j]∧-(2 ^ 62)≤j∧j<2 ^ 62∧R (Ob 0 j.toNat) H1
theorem BZ {a:Expr}{ta:TA}{p pos:Pos}(hg:Gl X "range")(hm:X.mg "range"=none)(ha:PA X [a] ta)(hs:starEach [a] X.env=[(false,eval a X.env)]:=by rfl):PI X tg (.Call (.Name "range" p) [a] [] pos) (LP ta):=by
 intro ah s σ H R I h;refine Call_ (pP I hg hm boot_range (PyProof.Rows.callWith_type1 (cZ (ha pos ah s σ H _ I h) fun us s1 ⟨vs,H1,I1,r1,q1⟩=>?_) hs rfl));obtain⟨j,e,q1,q2,q⟩:=q1;subst e;cases r1 with
 | cons r rr=>
  cases rr;obtain⟨t,rfl⟩:=r;exact call_range_1 (D7 I1 (by omega) (by omega) q1 q2 (by simpa using q))
def O0 (wi:TI)(g:TG)(tb:TS):TS:=fun D σ H=>wi σ H fun J H1=>∃W:Nat→Nat→St→Hp→Prop,(∃m,W 0 m σ H1)∧∀i m σ H,W i m σ H→
 (J.stop i H∧D.nx σ H)∨(J.go i H∧∃N:St→Hp→Prop,(∀σ' H',N σ' H'→∃m',m'<m∧W (i+1) m' σ' H')∧∀x H',J.yld i H x H'→g x σ H' fun σ2 H2=>tb {D with nx:=N,ct:=N,bk:=D.nx} σ2 H2)
def sI (fp:List Addr)(h:Heap):List (Addr×Obj):=fp.filterMap fun b=>(h.get? b).map fun o=>(b,o)
theorem lh {o:Obj}(hb:b∈fp)(e:h.get? b=some o):(b,o)∈sI fp h:=mem_filterMap.mpr ⟨b,hb,by rw[e];rfl⟩
theorem Bv {p:Addr×Obj}(hp:p∈sI fp h):p.1∈fp∧h.get? p.1=some p.2:=by
 obtain⟨b,hb,e⟩:=mem_filterMap.mp hp;cases q:h.get? b with
 | none=>rw[q] at e;cases e
 | some o=>
  rw[q] at e;have e':(b,o)=p:=Option.some.inj e;subst e';exact⟨hb,q⟩
theorem Inv.pinned (I:Inv X ah σ H s)(hf:∀b∈fp,kQ X ah H b)(ho:∀b∈fp,∃o,s.heap.get? b=some o∧∀v,o.data≠.cell v):Inv X (ah++sI fp s.heap) σ H s:=
 I.pins_of fun p hp=>(mem_append.mp hp).elim (fun z=>I.pin p (mem_append_right _ z)) fun z=>by
  obtain⟨hb,e⟩:=Bv z;obtain⟨f0,f1,f2,_⟩:=hf p.1 hb;obtain⟨o,e',d⟩:=ho p.1 hb;rw[e] at e';cases e';exact⟨e,f0,f1,f2,d⟩
theorem Inv.unpinned {pl:List (Addr×Obj)}(I:Inv X (ah++pl) σ H s):Inv X ah σ H s:=I.pins_of fun p hp=>I.pin p (mem_append_right _ (mem_append_left _ hp))
theorem Lb {iter:Expr}{wi:TI}{g:TG}{tb:TS}{pos:Pos}(hp:PassesOwn (model X.prog X.w) X.A X.env X.xe)(hc:X.calm=true)(hi:PI X tg iter wi)(hg:PG X tg g)(hb:PSs X body tb)
  (hs:∀x,foldedSetIterable iter X.env x=pure x:=by intro _;rfl):PS X (.For tg iter body [] pos) (O0 wi g tb):=by
 intro ah s σ H D I h;refine wpAny_For (cZ (hi ah s σ H _ I h) fun v s1 h1=>cZ h1 fun itv s2 h2=>?_) hs;obtain⟨it,fp,tn,J,H2,e,I2,T,st2,f2,W,⟨m0,w0⟩,turn⟩:=h2;subst e;have stat:∀{H':Hp},(∀b∈fp,H' b=none)→∀b∈fp,kQ X ah H' b:=fun hn b hb=>⟨hn b hb,(f2 b hb).2⟩
 refine codeAny_forLoop_any (fun n s'=>∃i σ' H',Inv X ah σ' H' s'∧tn i s'.heap∧(∀b∈fp,H' b=none)∧W i n σ' H') ?_ m0 ⟨0,σ,H2,I2,st2,fun b hb=>(f2 b hb).1,w0⟩;rintro n s3 ⟨i,σ3,H3,I3,st3,fr3,w3⟩;rcases turn i n σ3 H3 w3 with⟨stop,qn⟩|⟨go,N,hN,step⟩
 ·refine wpAny_passesOwn hp (cZ (T.done X rfl rfl rfl hc i ah s3 σ3 H3 X.xe I3 (stat fr3) st3 stop) fun r s4 ⟨hr,I4⟩=>?_);subst hr;exact wpAny_execs_nil ⟨σ3,H3,I4,qn⟩
 ·refine wpAny_passesOwn hp (cZ (T.item X rfl rfl rfl hc i ah s3 σ3 H3 X.xe I3 (stat fr3) st3 go) fun r s4 ⟨u,hr,h4⟩=>?_);subst hr;refine wpAny_passesOwn hp (cZ h4 fun _ s5 ⟨x,H5,I5,r5,y5,st5,fr5⟩=>?_);have I5':=I5.pinned (stat fr5) (T.obj _ _ st5);refine wpAny_passesOwn hp (cZ (hg _ s5 σ3 H5 x u _ I5' r5 (step x H5 y5)) fun _ s6 ⟨σ6,H6,I6,q6⟩=>?_);refine wpAny_passesOwn hp (cZ (hb _ s6 σ6 H6 _ I6 q6) fun f s7 q7=>?_);have again:∀{σ7:St} {H7:Hp},Inv X (ah++sI fp s5.heap) σ7 H7 s7→N σ7 H7→∃m,m<n∧∃i σ' H',Inv X ah σ' H' s7∧tn i s7.heap∧(∀b∈fp,H' b=none)∧W i m σ' H':=fun {σ7 H7} I7 n7=>by
   obtain⟨m',hm,w7⟩:=hN σ7 H7 n7;refine⟨m',hm,i+1,σ7,H7,I7.unpinned,T.keep _ _ _ st5 fun b hb o e=>(I7.pin (b,o) (mem_append_right _ (mem_append_right _ (lh hb e)))).1,fun b hb=>?_,w7⟩;obtain⟨o,e,d⟩:=T.obj _ _ st5 b hb;exact(I7.pin (b,o) (mem_append_right _ (mem_append_right _ (lh hb e)))).2.1
  cases f with
  | next=>obtain⟨σ7,H7,I7,n7⟩:=q7;exact again I7 n7
  | cont=>obtain⟨σ7,H7,I7,n7⟩:=q7;exact again I7 n7
  | brk=>obtain⟨σ7,H7,I7,q7⟩:=q7;exact⟨σ7,H7,I7.unpinned,q7⟩
  | ret v=>obtain⟨x7,σ7,H7,I7,r7,q7⟩:=q7;exact⟨x7,σ7,H7,I7.unpinned,r7,q7⟩
end
abbrev R2:=V→V→Hp→VK→Prop
def jB (X:Cx)(f:Value→Value→Sem Value)(r:R2):Prop:=
 ∀(ah:List (Addr×Obj)) (s:Shared) (σ:St) (H:Hp) (x y:V) (v u:Value) (Q:VK),Inv X ah σ H s→bC x v→bC y u→r x y H Q→
  wpAny (model X.prog X.w) X.A (f v u) (EP X ah σ Q) X.xe s
def Pd (X:Cx)(f:Value→Sem Value)(r:V→Hp→VK→Prop):Prop:=
 ∀(ah:List (Addr×Obj)) (s:Shared) (σ:St) (H:Hp) (x:V) (v:Value) (Q:VK),Inv X ah σ H s→bC x v→r x H Q→
  wpAny (model X.prog X.w) X.A (f v) (EP X ah σ Q) X.xe s
def eO (X:Cx)(f:Value)(r:List V→Hp→VK→Prop):Prop:=
 ∀(ah:List (Addr×Obj)) (s:Shared) (σ:St) (H:Hp) (xs:List V) (us:List Value) (Q:VK),Inv X ah σ H s→bu xs us→r xs H Q→
  wpAny (model X.prog X.w) X.A (call f us) (EP X ah σ Q) X.xe s
def Ph (X:Cx)(r:V→Hp→(Bool→Hp→Prop)→Prop):Prop:=
 ∀(ah:List (Addr×Obj)) (s:Shared) (σ:St) (H:Hp) (x:V) (v:Value) (Q:Bool→Hp→Prop),Inv X ah σ H s→bC x v→r x H Q→
  wpAny (model X.prog X.w) X.A (truthy v) (TP X ah σ Q) X.xe s
def Lr (r:R2)(ta tb:TE):TE:=fun σ H Q=>ta σ H fun x H1=>tb σ H1 fun y H2=>r x y H2 Q
def QK (r:V→Hp→VK→Prop)(ta:TE):TE:=fun σ H Q=>ta σ H fun x H1=>r x H1 Q
def rI (C:Int→Int→Prop)(g:Int→Int→V):R2:=fun x y H Q=>∃i j,x=.int i∧y=.int j∧C i j∧Q (g i j) H
def HJ (g:Int→Int→V):R2:=fun x y H Q=>∃i j,x=.int i∧y=.int j∧Q (g i j) H
def rU (g:Int→V):V→Hp→VK→Prop:=fun x H Q=>∃i,x=.int i∧Q (g i) H
variable{f:Value→Value→Sem Value}{r:R2}{g:Int→Int→Int}
section
variable {X:Cx}{a b c:Expr}{ta tb tc:TE}{pos:Pos}
theorem La (ha:PE X a ta)(hb:PE X b tb){R:V→V→Hp→Prop}(I:Inv X ah σ H s)
  (h:ta σ H fun x H1=>tb σ H1 fun y H2=>R x y H2)  
  (hf:∀v u s2 x y H2,Inv X ah σ H2 s2→bC x v→bC y u→R x y H2→wpAny (model X.prog X.w) X.A (f v u) Q X.xe s2) :
  wpAny (model X.prog X.w) X.A (eval a X.env) (fun v s₁=>wpAny (model X.prog X.w) X.A (eval b X.env) (fun u s₂=>wpAny (model X.prog X.w) X.A (f v u) Q X.xe s₂) X.xe s₁) X.xe s:=by
 refine cZ (ha ah s σ H _ I h) fun v s1 ⟨x,H1,I1,r1,q1⟩=>?_
 refine cZ (hb ah s1 σ H1 _ I1 q1) fun u s2 ⟨y,H2,I2,r2,q2⟩=>?_
 exact hf v u s2 x y H2 I2 r1 r2 q2
theorem Nl (ho:jB X (binaryOp op) r)(ha:PE X a ta)(hb:PE X b tb):PE X (.BinOp a op b pos) (Lr r ta tb):=by
 intro ah s σ H Q I h;exact wpAny_BinOp (La ha hb I h fun v u s2 x y H2 I2 rx ry q=>ho ah s2 σ H2 x y v u Q I2 rx ry q)
theorem HP {op:UnaryOp}{r:V→Hp→VK→Prop}(ho:Pd X (unaryOp op) r)(ha:PE X a ta):PE X (.UnaryOp op a pos) (QK r ta):=by
 intro ah s σ H Q I h;exact UnaryOp_ (cZ (ha ah s σ H _ I h) fun v s1 ⟨x,H1,I1,r1,q1⟩=>ho ah s1 σ H1 x v Q I1 r1 q1)
theorem P4 {f:Value→Value→Sem Value}{C:Int→Int→Prop}
  (rule:∀(i j:Int) (t u:Tok) (s:Shared) (Q:Value→Shared→Prop) (E:Value→Shared→Prop),C i j→Q (.int (g i j) s.toks) {s with toks:=s.toks+1}→wpAny (model X.prog X.w) X.A (f (.int i t) (.int j u)) Q E s) :
  jB X f (rI C fun i j=>.int (g i j)):=by
 intro ah s σ H x y v u Q I rx ry h;obtain⟨i,j,rfl,rfl,hc,q⟩:=h;obtain⟨t,rfl⟩:=rx;obtain⟨t',rfl⟩:=ry;exact rule i j t t' s _ _ hc ⟨.int (g i j),H,I.tok _,⟨_,rfl⟩,q⟩
theorem MN {f:Value→Value→Sem Value}
  (rule:∀(i j:Int) (t u:Tok) (s:Shared) (Q:Value→Shared→Prop) (E:Value→Shared→Prop),Q (.int (g i j) s.toks) {s with toks:=s.toks+1}→wpAny (model X.prog X.w) X.A (f (.int i t) (.int j u)) Q E s) :
  jB X f (HJ fun i j=>.int (g i j)):=by
 intro ah s σ H x y v u Q I rx ry h;obtain⟨i,j,rfl,rfl,q⟩:=h;obtain⟨t,rfl⟩:=rx;obtain⟨t',rfl⟩:=ry;exact rule i j t t' s _ _ ⟨.int (g i j),H,I.tok _,⟨_,rfl⟩,q⟩
theorem Hk {g:Int→Int→Bool}
  (rule:∀(i j:Int) (t u:Tok) (s:Shared) (Q:Value→Shared→Prop) (E:Value→Shared→Prop),Q (.bool (g i j)) s→wpAny (model X.prog X.w) X.A (f (.int i t) (.int j u)) Q E s) :
  jB X f (HJ fun i j=>.bl (g i j)):=by
 intro ah s σ H x y v u Q I rx ry h;obtain⟨i,j,rfl,rfl,q⟩:=h;obtain⟨t,rfl⟩:=rx;obtain⟨t',rfl⟩:=ry;exact rule i j t t' s _ _ ⟨.bl (g i j),H,I,rfl,q⟩
def PQ (i j:Int):Prop:=0≤j∧j≤1000000∧i.natAbs<2 ^ 64
def Kt (i j:Int):Prop:=(-(2 ^ 64)<i∧i<2 ^ 64)∨(-(2 ^ 64)<j∧j<2 ^ 64)
theorem Kt.ok {i j:Int}(h:Kt i j):IntMulOk i j:=by
 rcases h with⟨h1,h2⟩|⟨h1,h2⟩
 ·exact .of_left (intBits_le_64 h1 h2)
 ·exact .of_right (intBits_le_64 h1 h2)
theorem IY:jB X (binaryOp .Add) (HJ fun i j=>.int (i+j)):=MN fun _ _ _ _ _ _ _ q=>add_int q
theorem HZ:jB X (binaryOp .Sub) (HJ fun i j=>.int (i-j)):=MN fun _ _ _ _ _ _ _ q=>sub_int q
theorem Kk:jB X (binaryOp .Mult) (rI Kt fun i j=>.int (i*j)):=P4 fun _ _ _ _ _ _ _ hc q=>mul_int q hc.ok
theorem J7:jB X (binaryOp .Mod) (rI (fun _ j=>0<j) fun i j=>.int (i % j)):=P4 fun i j _ _ _ _ _ hc q=>by
 have h1:(0:Int)<j:=hc;exact mod_int' (by omega) (by rw[Int.fmod_eq_emod_of_nonneg i (by omega)];exact q)
theorem Jy:jB X (binaryOp .Pow) (rI PQ fun i j=>.int (i ^ j.toNat)):=P4 fun _ _ _ _ _ _ _ hc q=>pow_int_small hc.1 hc.2.1 hc.2.2 q
theorem QH {f:Value→Sem Value}{g:Int→Int}
  (rule:∀(i:Int) (t:Tok) (s:Shared) (Q:Value→Shared→Prop) (E:Value→Shared→Prop),Q (.int (g i) s.toks) {s with toks:=s.toks+1}→wpAny (model X.prog X.w) X.A (f (.int i t)) Q E s) :
  Pd X f (rU fun i=>.int (g i)):=by
 intro ah s σ H x v Q I rx h;obtain⟨i,rfl,q⟩:=h;obtain⟨t,rfl⟩:=rx;exact rule i t s _ _ ⟨.int (g i),H,I.tok _,⟨_,rfl⟩,q⟩
theorem En:Pd X (unaryOp .USub) (rU fun i=>.int (-i)):=QH fun _ _ _ _ _ q=>neg_int q
end
section
variable {X:Cx}{a b c:Expr}{ta tb tc:TE}{pos:Pos}
theorem LL:jB X (compareOp .Lt) (HJ fun i j=>.bl (decide (i<j))):=Hk fun _ _ _ _ _ _ _ q=>lt_int q
theorem NZ:jB X (compareOp .LtE) (HJ fun i j=>.bl (decide (i≤j))):=Hk fun _ _ _ _ _ _ _ q=>le_int q
theorem MB:jB X (compareOp .Gt) (HJ fun i j=>.bl (decide (j<i))):=Hk fun _ _ _ _ _ _ _ q=>gt_int q
theorem Mg:jB X (compareOp .GtE) (HJ fun i j=>.bl (decide (j≤i))):=Hk fun _ _ _ _ _ _ _ q=>ge_int q
def NC:HO→Bool
 | .lst _=>true
 | .ins _ _ _=>true
 | _=>false
theorem Lh {a:Addr}(I:Inv X ah σ H s)(h:H a=some o)(p:NC o=true):∃ob,s.heap.get? a=some ob∧ob.cls≠.type "tuple":=by
 cases o with
 | lst xs=>
  obtain⟨_,its,n,_,e⟩:xs.length≤sizeLine∧∃(its:List Value) (n:Nat),bu xs its∧s.heap.get? a=some {cls:=.type "list",data:=.seq its.toArray n}:=I.hok a _ h;exact⟨_,e,(by show Value.type "list"≠.type "tuple";decide +kernel)⟩
 | ins C dx fs=>
  have x:=I.hok a _ h;obtain⟨_,_,_,e,_⟩:=x;exact⟨_,e,(by show Value.ref C≠.type "tuple";exact fun z=>by cases z)⟩
 | _=>exact absurd (show false=true from p) Bool.false_ne_true
theorem IS (b:Expr){op:CmpOp}(h:op≠.In:=by decide)(h2:op≠.NotIn:=by decide):behindInMarks op b=false:=by
 have e1:(op==CmpOp.In)=false:=by cases op <;> first|rfl|exact absurd rfl h
 have e2:(op==CmpOp.NotIn)=false:=by cases op <;> first|rfl|exact absurd rfl h2
 cases b <;> simp[behindInMarks,e1,e2]
theorem Gb {op:CmpOp}(ho:jB X (compareOp op) r)(ha:PE X a ta)(hb:PE X b tb)(hm:behindInMarks op b=false):PE X (.Compare a [op] [b] pos) (Lr r ta tb):=by
 intro ah s σ H Q I h;exact wpAny_Compare1 (La ha hb I h fun v u s2 x y H2 I2 rx ry q=>ho ah s2 σ H2 x y v u Q I2 rx ry q) hm
def Hy (t:TE):TT:=fun σ H Q=>t σ H fun x H'=>∃k,x=.bl k∧Q k H'
theorem G8 {op:CmpOp}(ho:jB X (compareOp op) r)(ha:PE X a ta)(hb:PE X b tb)(hm:behindInMarks op b=false):PT X (.Compare a [op] [b] pos) (Hy (Lr r ta tb)):=by
 intro ah s σ H Q I h;refine wpAny_isTrue_Compare1 (cZ (ha ah s σ H _ I h) fun v s1 ⟨x,H1,I1,r1,q1⟩=>cZ (hb ah s1 σ H1 _ I1 q1) fun u s2 ⟨y,H2,I2,r2,q2⟩=>
  cZ (ho ah s2 σ H2 x y v u _ I2 r1 r2 q2) fun c s3 ⟨z,H3,I3,r3,k,e,q3⟩=>?_) hm
 subst e;cases r3;exact wpAny_truthy_bool ⟨H3,I3,q3⟩
def zU (r r':R2)(ta tb tc:TE):TE:=fun σ H Q=>ta σ H fun x H1=>tb σ H1 fun y H2=>r x y H2 fun z H3=>∃k,z=.bl k∧
 (if k=true then tc σ H3 fun w' H4=>r' y w' H4 Q else Q (.bl false) H3)
theorem Cz {op op':CmpOp}{r':R2}(ho:jB X (compareOp op) r)(ho':jB X (compareOp op') r')(ha:PE X a ta)(hb:PE X b tb)(hc:PE X c tc)
  (hm:lastMarks [op,op'] [b,c]=false:=by with_unfolding_all rfl):PE X (.Compare a [op,op'] [b,c] pos) (zU r r' ta tb tc):=by
 intro ah s σ H Q I h;refine Compare_chain (cZ (ha ah s σ H _ I h) fun v s1 ⟨x,H1,I1,r1,q1⟩=>chain_link (cZ (hb ah s1 σ H1 _ I1 q1) fun u s2 ⟨y,H2,I2,r2,q2⟩=>
  cZ (ho ah s2 σ H2 x y v u _ I2 r1 r2 q2) fun d s3 ⟨z,H3,I3,r3,k,e,q3⟩=>?_)) hm
 subst e;cases r3;refine wpAny_truthy_bool ?_;cases k with
 | false=>exact ite_ff ⟨.bl false,H3,I3,rfl,q3⟩
 | true=>exact ite_tt (chain_last (cZ (hc ah s3 σ H3 _ I3 q3) fun w' s4 ⟨z',H4,I4,r4,q4⟩=>ho' ah s4 σ H4 y z' u w' Q I4 r2 r4 q4))
theorem D9 {op op':CmpOp}{r':R2}(ho:jB X (compareOp op) r)(ho':jB X (compareOp op') r')(ha:PE X a ta)(hb:PE X b tb)(hc:PE X c tc)
  (hm:lastMarks [op,op'] [b,c]=false:=by with_unfolding_all rfl):PT X (.Compare a [op,op'] [b,c] pos) (Hy (zU r r' ta tb tc)):=by
 intro ah s σ H Q I h;refine isTrue_chain (cZ (ha ah s σ H _ I h) fun v s1 ⟨x,H1,I1,r1,q1⟩=>test_link (cZ (hb ah s1 σ H1 _ I1 q1) fun u s2 ⟨y,H2,I2,r2,q2⟩=>
  cZ (ho ah s2 σ H2 x y v u _ I2 r1 r2 q2) fun d s3 ⟨z,H3,I3,r3,k,e,q3⟩=>?_)) hm
 subst e;cases r3;refine wpAny_truthy_bool ?_;cases k with
 | false=>
  obtain⟨k',e',q'⟩:=q3;cases e';exact ite_ff ⟨H3,I3,q'⟩
 | true=>
  refine ite_tt (test_last (cZ (hc ah s3 σ H3 _ I3 q3) fun w' s4 ⟨z',H4,I4,r4,q4⟩=>cZ (ho' ah s4 σ H4 y z' u w' _ I4 r2 r4 q4) fun d' s5 ⟨z2,H5,I5,r5,k2,e2,q5⟩=>?_));subst e2;cases r5;exact wpAny_truthy_bool ⟨H5,I5,q5⟩
def MS (K:W.Frag)(x:V)(H:Hp)(k:Bool):Prop:=
 match x with
 | .non=>k=false
 | .bl b=>k=b
 | .int i=>k=(i != 0)
 | .str y=>y.length≤sizeLine∧k=((y.length:Int) != 0)
 | .byt y=>y.size≤sizeLine∧k=((y.size:Int) != 0)
 | .ref p=>(∃xs,pc K H p xs∧k=!xs.isEmpty)∨(∃xs,qW K H p xs∧k=!xs.isEmpty)∨∃kvs,H p=some (.dK kvs)∧k=!kvs.isEmpty
 | _=>False
theorem zl {κ:Type}{kvs:List (κ×V)}{vs:List (κ×Value)}(r:KV kvs vs):(!vs.isEmpty)=!kvs.isEmpty:=by
 cases r <;> rfl
theorem rZ {its:List Value}(r:bu xs its):(!its.toArray.isEmpty)=!xs.isEmpty:=by
 cases r <;> simp
theorem p9:(sizeLine:Nat)<2 ^ 63:=by rw[sizeLine_eq];decide
theorem Ih:Ph X (fun x H Q=>∃k,MS X.K x H k∧Q k H):=by
 intro ah s σ H x v Q I rx h;obtain⟨k,e,q⟩:=h;have hl:=p9;have hs:sizeLine=16777216:=sizeLine_eq;cases x with
 | non=>
  cases rx;have e':k=false:=e;subst e';exact truthy_none ⟨H,I,q⟩
 | bl b=>
  cases rx;have e':k=b:=e;subst e';exact wpAny_truthy_bool ⟨H,I,q⟩
 | int i=>
  obtain⟨t,rfl⟩:=rx;have e':k=(i != 0):=e;subst e';exact PySem.P.truthy_int ⟨H,I,q⟩
 | str y=>
  obtain⟨t,rfl⟩:=rx;obtain⟨hy,e'⟩:y.length≤sizeLine∧k=((y.length:Int) != 0):=e;subst e';exact PySem.P.truthy_str (by omega) ⟨H,I.tok _,q⟩
 | byt y=>
  obtain⟨t,rfl⟩:=rx;obtain⟨hy,e'⟩:y.size≤sizeLine∧k=((y.size:Int) != 0):=e;subst e';exact W.truthy_bytes (by omega) ⟨H,I.tok _,q⟩
 | ref p=>
  cases rx;have e':(∃xs,pc X.K H p xs∧k=!xs.isEmpty)∨(∃xs,qW X.K H p xs∧k=!xs.isEmpty)∨∃kvs,H p=some (.dK kvs)∧k=!kvs.isEmpty:=e;rcases e' with⟨xs,hx,e'⟩|⟨xs,hx,e'⟩|⟨kvs,hx,e'⟩
  ·subst e';obtain⟨its,r,pl,hz⟩:=I.list hx;have hlen:=r.length;exact wpAny_truthy_list pl.isList (by simp only[size_toArray];omega) ⟨H,I.tok _,by rw[rZ r];exact q⟩
  ·subst e';obtain⟨its,r,pl,hz⟩:=I.tuple hx;have hlen:=r.length;exact truthy_tuple pl (by simp only[size_toArray];omega) ⟨H,I.tok _,by rw[rZ r];exact q⟩
  ·subst e';obtain⟨hz,hS,vs,r,m⟩:kvs.length≤sizeLine∧(p==sysModules)=false∧∃vs,KV kvs vs∧s.heap.DictOf (c0 X.prog X.w) p vs:=I.hok p _ hx;have hlen:kvs.length=vs.length:=Paired.length r;exact wpAny_truthy_dict hS m (by omega) ⟨H,I.tok _,by rw[zl r];exact q⟩
 | _=>exact(show False from e).elim
theorem Dg (ha:PE X a ta)(he:∀whole,isTrue a X.env whole=(do let v ←whole;standAt a.pos;holding [v] (truthy v))) :
  PT X a (fun σ H Q=>ta σ H fun x H'=>∃k,MS X.K x H' k∧Q k H'):=by
 intro ah s σ H Q I h;exact isTrue_plain (cZ (ha ah s σ H _ I h) fun v s1 ⟨x,H1,I1,r1,q1⟩=>Ih ah s1 σ H1 x v Q I1 r1 q1) (he _)
theorem yK:jB X (binaryOp .Add) (fun x y H Q=>∃i j,x=.str i∧y=.str j∧i.length+j.length≤sizeLine∧Q (.str (i++j)) H):=by
 intro ah s σ H x y v u Q I rx ry h;obtain⟨i,j,rfl,rfl,hz,q⟩:=h;obtain⟨t,rfl⟩:=rx;obtain⟨t',rfl⟩:=ry;exact add_str (fun t' tk=>⟨.str (i++j),H,I.tok _,⟨_,rfl⟩,q⟩) hz
theorem oK {x:V}(r:bu [x] us):∃u,us=[u]∧bC x u:=by
 cases r with
 | cons r1 r2=>cases r2;exact⟨_,rfl,r1⟩
theorem AI {x y:V}(r:bu [x,y] us):∃u w',us=[u,w']∧bC x u∧bC y w':=by
 cases r with
 | cons r1 r2=>
  cases r2 with
  | cons r3 r4=>cases r4;exact⟨_,_,rfl,r1,r3⟩
theorem BH (hc:X.calm=true):eO X (.builtin "max") (fun xs H Q=>∃i j,xs=[.int i,.int j]∧Q (.int (if j>i then j else i)) H):=by
 intro ah s σ H xs us Q I r h;obtain⟨i,j,rfl,q⟩:=h;obtain⟨u,w',rfl,⟨t,rfl⟩,⟨t',rfl⟩⟩:=AI r;refine max_two_ints (I.ok.hd hc) fun h' tk k=>⟨_,H,I.kept k,?_,q⟩
 by_cases hj:j>i
 ·rw[if_pos hj,if_pos hj];exact⟨_,rfl⟩
 ·rw[if_neg hj,if_neg hj];exact⟨_,rfl⟩
theorem BI (hc:X.calm=true):eO X (.builtin "min") (fun xs H Q=>∃i j,xs=[.int i,.int j]∧Q (.int (if j<i then j else i)) H):=by
 intro ah s σ H xs us Q I r h;obtain⟨i,j,rfl,q⟩:=h;obtain⟨u,w',rfl,⟨t,rfl⟩,⟨t',rfl⟩⟩:=AI r;refine min_two_ints (I.ok.hd hc) fun h' tk k=>⟨_,H,I.kept k,?_,q⟩
 by_cases hj:j<i
 ·rw[if_pos hj,if_pos hj];exact⟨_,rfl⟩
 ·rw[if_neg hj,if_neg hj];exact⟨_,rfl⟩
theorem u7:eO X (.type "int") (fun xs H Q=>(∃i,xs=[.int i]∧Q (.int i) H)∨∃k,xs=[.bl k]∧Q (.int (if k then 1 else 0)) H):=by
 intro ah s σ H xs us Q I r h;rcases h with⟨i,rfl,q⟩|⟨k,rfl,q⟩
 ·obtain⟨u,rfl,t,rfl⟩:=oK r;exact call_int_int ⟨.int i,H,I,⟨_,rfl⟩,q⟩
 ·obtain⟨u,rfl,r1⟩:=oK r;cases r1;exact call_int_bool ⟨.int (if k then 1 else 0),H,I.tok _,⟨_,rfl⟩,q⟩
end
structure yR (h:Heap)(x dx C:Addr)(mA:Str→Option Value):Prop where
 obj:h.get? x=some (W.instObj C dx)
 ns:h.Ns1 dx mA
 ne:dx≠x
variable{mA:Str→Option Value}
theorem BK {dx:Addr}(n:h.Ns1 dx mA):∃od,h.get? dx=some od∧∀name,W.lookIn name od=some (mA name):=by
 obtain⟨o,es,ep,ho,hd,hk,_,hm⟩:=n;refine⟨o,ho,fun name=>?_⟩;have e:=hm name;unfold nsFind findBy at e;rw[←Array.find?_toList] at e;unfold W.lookIn;rw[hd];dsimp only;split
 ·rename_i y q;rw[q] at e;exact congrArg some e
 ·rename_i q;rw[q] at e;have a:es.toList.any (·.refKey)=false:=by
   rw[any_eq_false];intro y hy;obtain⟨z,t,hkey⟩:=hk y (Array.mem_toList_iff.mp hy);simp[DictEntry.refKey,hkey]
  have a':¬es.toList.any (·.refKey)=true:=by rw[a];exact Bool.false_ne_true
  rw[if_neg a'];exact congrArg some e
variable{C:Addr}
theorem yR.look {x dx:Addr}(I:yR h x dx C mA):∃od,W.InstAt h x (W.instObj C dx) C (some od)∧∀name,W.lookIn name od=some (mA name):=
 let ⟨od,ho,hl⟩:=BK I.ns
 ⟨od,⟨I.obj,rfl,rfl,ho⟩,hl⟩
variable{pl:Sem Bool}{kw:List (Str×Value)}
section
variable {prog:Program}{w:World}{A:Around}{E:Value→Shared→Prop}{s:Shared}{K:W.Frag}{x dx C f:Addr}{mA:Str→Option Value}{name:Str}{v:Value}
theorem GY {expr:Bool}(X:K.In s.heap)(I:yR s.heap x dx C mA)(hg:W.plainGet K C name=true)(hh:W.hasDictIn K C=true)
  (ha:W.findIn K (.ref C) name=some none) (hv:mA name=some v) (hv':W.handedIn v=true) (h:Q v {s with toks:=s.toks+1}) :
  wpAny (model prog w) A (getAttr (.ref x) name expr) Q E s:=by
 obtain⟨od,J,hl⟩:=I.look;exact W.get_value X J (W.plainGet_of hg).1 (W.findObj_own hh ha rfl (by rw[hl,hv])) hv' h
theorem DQ {Q:Value×List Value→Shared→Prop}(X:K.In s.heap)(I:yR s.heap x dx C mA)(hg:W.plainGet K C name=true)
  (hf:W.findIn K (.ref C) name=some (some (.ref f))) (ht:W.isFn K (.ref f)=true) (hv:mA name=none) (h:Q (.ref f,[.ref x]) s) :
  wpAny (model prog w) A (getMethod (.ref x) name pl) Q E s:=by
 obtain⟨od,J,hl⟩:=I.look;exact W.method_fn X J (W.plainGet_of hg).1 (W.plainGet_of hg).2 hf (beq_iff_eq.mp ht) (by show(W.lookIn name od).map (·.isSome)=some false;rw[hl,hv];rfl) h
theorem Fv {ns:List Str}{Q:Unit→Shared→Prop}(X:K.In s.heap)(I:yR s.heap x dx C mA)
  (hs:W.findIn K (.ref C) "__setattr__"=some (some (.builtin "object.__setattr__"))) (hp:W.plainOver K C=true) (ht:W.takerIn K C name=some none) (hh:W.hasDictIn K C=true)
  (hw:PySem.Within mA ns) (hsz:ns.length≤sizeLine)
  (h:∀h',yR h' x dx C (fun y=>if y=name then some v else mA y)→Heap.SameBut dx s.heap h'→Q () {s with heap:=h',toks:=s.toks+2}) :
  wpAny (model prog w) A (setAttr (.ref x) name v) Q E s:=by
 obtain⟨od,J,hl⟩:=I.look;refine W.set_plain X J hs (W.osa_open (s:={s with toks:=s.toks+1}) (r:=none) X J hp ht fun b=>?_);obtain⟨cd,hc,hd'⟩:=W.any_some hh;have hx:s.heap.get? x=some ⟨.ref C,some dx,.plain,#[]⟩:=I.obj;refine wpAny_bind (wpAny_pure (wpAny_bind (wpAny_bind (wpAny_loadPart hx (wpAny_bind (W.Looks.here (s:={s with toks:=s.toks+1}) (W.looks_clsIn X hc) ?_))))));rw[hd'];refine wpAny_pure (a:=some dx) (wpAny_bind (wpAny_pure (wpAny_bind ?_)));refine wpAny_nsSet1 (s:={s with toks:=s.toks+1}) I.ns fun h' hn2 hs2=>?_
 obtain⟨oD,esD,epD,hoD,hdD,hcD⟩:=hn2.count (PySem.Within.cons name v hw);refine wpAny_bind (wpAny_lookBehind hoD (by rw[hdD];exact pastItsLine_dict (Nat.le_trans hcD (by rw[length_cons];omega))) ?_);exact wpAny_pure (h _ ⟨(hs2.2 _ (Ne.symm I.ne)).trans I.obj,hn2,I.ne⟩ hs2)
theorem DB {R:Result→Shared→Prop}{vs:List Value}(X:K.In s.heap)(hm:W.makesIn K C=true)
  (hi:W.findIn K (.ref C) "__init__"=some (some (.ref f))) (hf:W.typeIn K (.ref f)=some (.type "function"))
  (h:codeAny (model prog w) (A.under (.builtin "type.__call__" ⟨.ref C::vs,kw⟩)) (.call (.ref f) ⟨.ref (s.heap.objs.size+1)::vs,kw⟩) (W.InitBack (s.heap.objs.size+1) R)
   {s with heap:=(s.heap.push W.emptyDict).push (W.instObj C s.heap.objs.size)}) :
  codeAny (model prog w) A (.call (.ref C) ⟨vs,kw⟩) R s:=by
 obtain⟨hh,g,d,t,os⟩:=s;exact W.make_core (W.makes_of X hm) (W.looks_findIn X hi) (fun self=>W.bind_fn X self hf) (.inl rfl) h
end
def kS (f:Str)(v:V):List (Str×V)→List (Str×V)
 | []=>[(f,v)]
 | (g,x)::r=>if g=f then(g,v)::r else(g,x)::kS f v r
theorem qC (f g:Str)(v:V):∀fs:List (Str×V),(kS f v fs).lookup g=if g=f then some v else fs.lookup g
 | []=>by
  show List.lookup g [(f,v)]=_
  by_cases h:g=f
  ·have hb:(g==f)=true:=beq_iff_eq.mpr h;simp only[List.lookup,hb,if_pos h]
  ·have hb:(g==f)=false:=beq_eq_false_iff_ne.mpr h;simp only[List.lookup,hb,if_neg h]
 | (k,x)::r=>by
  have ih:=qC f g v r;rw[show kS f v ((k,x)::r)=(if k=f then(k,v)::r else(k,x)::kS f v r) from rfl]
  by_cases hk:k=f
  ·rw[if_pos hk]
   by_cases h:g=k
   ·have hb:(g==k)=true:=beq_iff_eq.mpr h;simp only[List.lookup,hb,if_pos (h.trans hk)]
   ·have hb:(g==k)=false:=beq_eq_false_iff_ne.mpr h;simp only[List.lookup,hb,if_neg (fun e:g=f=>h (e.trans hk.symm))]
  ·rw[if_neg hk]
   by_cases h:g=k
   ·have hb:(g==k)=true:=beq_iff_eq.mpr h;simp only[List.lookup,hb,if_neg (fun e:g=f=>hk (h.symm.trans e))]
   ·have hb:(g==k)=false:=beq_eq_false_iff_ne.mpr h;simp only[List.lookup,hb];exact ih
theorem pN (f:Str)(v:V):∀fs:List (Str×V),f∈(kS f v fs).map (·.1)∧∀g,g∈fs.map (·.1)→g∈(kS f v fs).map (·.1)
 | []=>⟨by simp[kS],fun g h=>by simp at h⟩
 | (k,x)::r=>by
  obtain⟨i1,i2⟩:=pN f v r;rw[show kS f v ((k,x)::r)=(if k=f then(k,v)::r else(k,x)::kS f v r) from rfl]
  by_cases hk:k=f
  ·rw[if_pos hk];subst hk;exact⟨by simp,fun g h=>by simpa using h⟩
  ·rw[if_neg hk];refine⟨?_,fun g h=>?_⟩
   ·rw[map_cons];exact mem_cons_of_mem _ i1
   ·rw[map_cons] at h ⊢;rcases mem_cons.mp h with e|e
    ·exact mem_cons.mpr (.inl e)
    ·exact mem_cons_of_mem _ (i2 g e)
theorem qI (f:Str)(v:V):∀fs:List (Str×V),(kS f v fs).length≤fs.length+1
 | []=>by simp[kS]
 | (k,x)::r=>by
  have ih:=qI f v r;rw[show kS f v ((k,x)::r)=(if k=f then(k,v)::r else(k,x)::kS f v r) from rfl]
  by_cases hk:k=f
  ·rw[if_pos hk,length_cons,length_cons];omega
  ·rw[if_neg hk,length_cons,length_cons];omega
theorem ma.some_of {o:Option Value}(r:ma (some v) o):∃u,o=some u∧bC v u:=by
 cases o with
 | none=>exact(show False from r).elim
 | some u=>exact⟨u,rfl,r⟩
theorem ma.none_of {o:Option Value}(r:ma none o):o=none:=by
 cases o with
 | none=>rfl
 | some u=>exact(show False from r).elim
theorem BG (r:bC v u):W.handedIn u=true:=by
 cases v with
 | non=>cases (show u=Value.none from r);rfl
 | bl b=>cases (show u=Value.bool b from r);rfl
 | int i=>obtain⟨t,e⟩:=(show∃t,u=Value.int i t from r);cases e;rfl
 | str x=>obtain⟨t,e⟩:=(show∃t,u=Value.str x t from r);cases e;rfl
 | byt b=>obtain⟨t,e⟩:=(show∃t,u=Value.bytes b t from r);cases e;rfl
 | flt b=>obtain⟨t,e⟩:=(show∃t,u=Value.float b t from r);cases e;rfl
 | ref a=>cases (show u=Value.ref a from r);rfl
 | ty n=>cases (show u=Value.type n from r);rfl
section
variable {P:Program}{w:World}{H H':Hp}{h h':Heap}{a C dx:Addr}{fs fs':List (Str×V)}
theorem wI (hok:mU P w H h)(e:H a=some (.ins C dx fs)):∃mA,yR h a dx C mA∧(∀f,ma (fs.lookup f) (mA f))∧PySem.Within mA (fs.map (·.1))∧fs.length≤1000∧H dx=some (.own a):=by
 obtain⟨d,z,ne,ob,mA,n,r,q⟩:=(show dq P w H h a (.ins C dx fs) from hok a _ e);exact⟨mA,⟨ob,n,ne⟩,r,q,z,d⟩
end
structure DE (K:W.Frag)(C:Addr):Prop where
 pg:W.plainGet K C Str.empty=true
 hd:W.hasDictIn K C=true
 po:W.plainOver K C=true
 sa:W.findIn K (.ref C) "__setattr__"=some (some (.builtin "object.__setattr__"))
theorem DE.get (c:DE K C)(f:Str):W.plainGet K C f=true:=c.pg
def gV (K:W.Frag)(C:Addr)(f:Str):Prop:=W.findIn K (.ref C) f=some none
theorem gV.taker {f:Str}(n:gV K C f):W.takerIn K C f=some none:=by
 unfold W.takerIn;rw[show W.findIn K (.ref C) f=some none from n];rfl
structure wM (K:W.Frag)(C:Addr)(m:Str)(f:Addr):Prop where
 at_:W.findIn K (.ref C) m=some (some (.ref f))
 fn:W.isFn K (.ref f)=true
 kp:W.keepIn K (.ref f)=true
section
variable {X:Cx}{ah:List (Addr×Obj)}{σ:St}{H:Hp}{s:Shared}{a C dx:Addr}{fs:List (Str×V)}{f:Str}{v:V}{A:Around}{E:Value→Shared→Prop}
theorem sN {b:Bool}(I:Inv X ah σ H s)(e:H a=some (.ins C dx fs))(c:DE X.K C)(n:gV X.K C f)(l:fs.lookup f=some v)
  (h:∀u s',Inv X ah σ H s'→bC v u→Q u s'):wpAny (model X.prog X.w) A (getAttr (.ref a) f b) Q E s:=by
 obtain⟨mA,O,r,_,_,_⟩:=wI I.hok e;obtain⟨u,hu,ru⟩:=ma.some_of (v:=v) (o:=mA f) (by rw[←l];exact r f);exact GY I.kIn O (c.get f) c.hd n hu (BG ru) (h u _ (I.tok _) ru)
theorem rK {m:Str}{g:Addr}{Q:Value×List Value→Shared→Prop}(I:Inv X ah σ H s)(e:H a=some (.ins C dx fs))(c:DE X.K C)(k:wM X.K C m g)(l:fs.lookup m=none)
  (h:Q (.ref g,[.ref a]) s):wpAny (model X.prog X.w) A (getMethod (.ref a) m pl) Q E s:=by
 obtain⟨mA,O,r,_,_,_⟩:=wI I.hok e;have hn:mA m=none:=ma.none_of (by rw[←l];exact r m);exact DQ I.kIn O (c.get m) k.at_ k.fn hn h
theorem sG {y:V}{Q:Unit→Shared→Prop}(I:Inv X ah σ H s)(e:H a=some (.ins C dx fs))(c:DE X.K C)(n:gV X.K C f)(hl:fs.length<1000)(ry:bC y u)
  (h:∀s',Inv X ah σ (cR H a (.ins C dx (kS f y fs))) s'→Q () s'):wpAny (model X.prog X.w) A (setAttr (.ref a) f u) Q E s:=by
 obtain⟨mA,O,r,wi,_,ho⟩:=wI I.hok e;have hz:(fs.map (·.1)).length≤sizeLine:=by rw[length_map,sizeLine_eq];omega
 refine Fv I.kIn O c.sa c.po n.taker c.hd wi hz fun h' O' sb=>h _ ?_
 have hd:∃o,h'.get? dx=some o:=let ⟨o,_,_,e',_⟩:=O'.ns;⟨o,e'⟩
 refine I.write (x:=a) (e:=dx) (by rw[e];exact True.intro) (.inr ho) (fun b q hb z=>(sb.2 b hb).trans z) hd ?_;refine⟨by rw[aQ O.ne];exact ho,?_,O.ne,O'.obj,_,O'.ns,fun g=>?_,fun g hg=>?_⟩
 ·have:=qI f y fs;omega
 ·show ma ((kS f y fs).lookup g) (if g=f then some u else mA g);rw[qC]
  by_cases q:g=f
  ·rw[if_pos q,if_pos q];exact ry
  ·rw[if_neg q,if_neg q];exact r g
 ·by_cases q:g=f
  ·rw[q];exact(pN f y fs).1
  ·refine(pN f y fs).2 g (wi g fun z=>hg ?_);show(if g=f then some u else mA g)=none;rw[if_neg q];exact z
theorem Inv.made (I:Inv X ah σ H s):Inv X ah σ (cR (cR H s.heap.objs.size (.own (s.heap.objs.size+1))) (s.heap.objs.size+1) (.ins C s.heap.objs.size []))
  {s with heap:=(s.heap.push W.emptyDict).push (W.instObj C s.heap.objs.size)}:=by
 have e1:(s.heap.push W.emptyDict).get? s.heap.objs.size=some W.emptyDict:=Heap.get?_push_size s.heap rfl;have e2:((s.heap.push W.emptyDict).push (W.instObj C s.heap.objs.size)).get? (s.heap.objs.size+1)=some (W.instObj C s.heap.objs.size):=by
  have:=Heap.get?_push_size (s.heap.push W.emptyDict) (o:=W.instObj C s.heap.objs.size) rfl;rwa [Heap.size_push] at this
 have e3:(s.heap.push W.emptyDict).Ns s.heap.objs.size (fun _=>none):=⟨W.emptyDict,#[],_,e1,rfl,(fun e he=>absurd he (by simp)),fun _=>rfl⟩;have I1:=I.laid (a:=s.heap.objs.size) (o:=.own (s.heap.objs.size+1)) (h':=s.heap.push W.emptyDict) (t':=s.toks) (fun b u q=>Heap.get?_push_of_some _ q) (Nat.le_refl _) ⟨_,e1⟩;refine I1.laid (a:=s.heap.objs.size+1) (o:=.ins C s.heap.objs.size []) (t':=s.toks) (fun b u q=>Heap.get?_push_of_some _ q) (Nat.le_of_eq (Heap.size_push _ _)) ?_;have ne:s.heap.objs.size≠s.heap.objs.size+1:=Nat.ne_of_lt (Nat.lt_succ_self _);refine⟨by rw[aQ ne,bX],Nat.zero_le _,ne,e2,fun _=>none,(Heap.Ns1.of_empty e3).at fun o q=>Heap.get?_push_of_some _ q,fun _=>True.intro,fun y hy=>absurd rfl hy⟩
theorem F5 {prog:Program}{env:Env}{f:Str}{pos:Pos}{s:Shared}(hb:attributeBase e f env (eval e env)=eval e env)
  (h:wpAny (model prog w) A (eval e env) (fun o s₁=>wpAny (model prog w) A (getAttr o f true) Q E s₁) E s):wpAny (model prog w) A (eval (.Attribute e f pos) env) Q E s:=
 Attribute_any_ h (by rw[arm_eval_Attribute,hb])
end
def Qe (K:W.Frag)(ta:TE)(f:Str):TE:=fun σ H Q=>ta σ H fun x H1=>∃a C dx fs v,x=.ref a∧H1 a=some (.ins C dx fs)∧DE K C∧gV K C f∧fs.lookup f=some v∧Q v H1
def Py (K:W.Frag)(ta tv:TE)(f:Str):TS:=fun D σ H=>tv σ H fun y H1=>ta σ H1 fun x H2=>∃a C dx fs,x=.ref a∧H2 a=some (.ins C dx fs)∧DE K C∧gV K C f∧fs.length<1000∧
 D.nx σ (cR H2 a (.ins C dx (kS f y fs)))
def GJ (X:Cx)(op:Operator)(rd:V→V→Hp→VK→Prop):Prop:=
 ∀(ah:List (Addr×Obj)) (s:Shared) (σ:St) (H:Hp) (x y:V) (u v:Value) (Q:VK),Inv X ah σ H s→bC x u→bC y v→rd x y H Q→wpAny (model X.prog X.w) X.A (inplaceOp op u v) (EP X ah σ Q) X.xe s
def Hc (K:W.Frag)(ta tv:TE)(rd:V→V→Hp→VK→Prop)(f:Str):TS:=fun D σ H=>ta σ H fun x H1=>∃a C dx fs v,x=.ref a∧H1 a=some (.ins C dx fs)∧DE K C∧gV K C f∧fs.lookup f=some v∧
 tv σ H1 fun y H2=>rd v y H2 fun z H3=>∃dx' fs',H3 a=some (.ins C dx' fs')∧fs'.length<1000∧D.nx σ (cR H3 a (.ins C dx' (kS f z fs')))
section
variable {X:Cx}{o e value:Expr}{f:Str}{pos pos' tpos:Pos}{ta tv:TE}
theorem Ii (he:PE X e ta)(hb:attributeBase e f X.env (eval e X.env)=eval e X.env):PE X (.Attribute e f pos) (Qe X.K ta f):=by
 intro ah s σ H Q I h;refine F5 hb (cZ (he ah s σ H _ I h) fun u s1 ⟨x,H1,I1,rx,a,C,dx,fs,v,ex,ea,c,n,l,q⟩=>?_);subst ex;obtain rfl:u=Value.ref a:=rx;exact sN I1 ea c n l fun u' s2 I2 ru=>⟨v,H1,I2,ru,q⟩
theorem JQ (ha:PE X o ta)(hv:PE X value tv)(hs:swapsWith value (some (.Attribute o f pos')) pos.line X.env=pure false):PS X (.Assign [.Attribute o f pos'] value pos) (Py X.K ta tv f):=by
 intro ah s σ H D I h;refine plainObj_wpAny_Assign_Attribute (cZ (hv ah s σ H _ I h) fun u s1 ⟨y,H1,I1,ry,q⟩=>cZ (ha ah s1 σ H1 _ I1 q) fun ov s2 ⟨x,H2,I2,rx,a,C,dx,fs,ex,ea,c,n,l,q2⟩=>?_) hs;subst ex;obtain rfl:ov=Value.ref a:=rx;exact sG I2 ea c n l ry fun s3 I3=>⟨σ,_,I3,q2⟩
theorem A8 {rd:V→V→Hp→VK→Prop}(ha:PE X o ta)(hv:PE X value tv)(hop:GJ X op rd):PS X (.AugAssign (.Attribute o f tpos) op value pos) (Hc X.K ta tv rd f):=by
 intro ah s σ H D I h;refine wpAny_AugAssign_AttributeAny (cZ (ha ah s σ H _ I h) fun ov s1 ⟨x,H1,I1,rx,a,C,dx,fs,v,ex,ea,c,n,l,q⟩=>?_);subst ex;obtain rfl:ov=Value.ref a:=rx;refine sN I1 ea c n l fun u s2 I2 ru=>cZ (hv ah s2 σ H1 _ I2 q) fun w3 s3 ⟨y,H2,I3,ry,q3⟩=>cZ (hop ah s3 σ H2 v y u w3 _ I3 ru ry q3) fun w4 s4 ⟨z,H3,I4,rz,dx',fs',ea',l',q4⟩=>?_
 exact sG I4 ea' c n l' rz fun s5 I5=>⟨σ,_,I5,q4⟩
def Pa:V→V→Hp→VK→Prop:=fun x y H Q=>∃i j,x=.int i∧y=.int j∧Q (.int (i+j)) H
theorem JA:GJ X .Add Pa:=by
 rintro ah s σ H x y u v Q I rx ry ⟨i,j,rfl,rfl,q⟩;obtain⟨t,rfl⟩:=(show∃t,u=Value.int i t from rx);obtain⟨t',rfl⟩:=(show∃t',v=Value.int j t' from ry);exact PyProof.Rows.iadd_int ⟨.int (i+j),H,I.tok _,⟨_,rfl⟩,q⟩
end
structure bR (k:Nat)(A:Around):Prop where
 hd:A.handled=none
 dp:A.depth+3*k+5<recursionLimit
 un:A.units+16*k+200<cLine
variable{k:Nat}
theorem bR.mono {j:Nat}(r:bR k A)(h:j≤k):bR j A:=⟨r.hd,by have:=r.dp;omega,by have:=r.un;omega⟩
theorem bR.deeper (r:bR (k+1) A)(env:Env):bR k (A.deeper env):=
 ⟨r.hd,by have:=r.dp;show A.depth+1+3*k+5<_;omega,by have:=r.un;show A.units+3+16*k+200<_;omega⟩
theorem bR.in1 (r:bR (k+1) A):bR k A.in1:=
 ⟨r.hd,by have:=r.dp;show A.depth+3*k+5<_;omega,by have:=r.un;show A.units+1+16*k+200<_;omega⟩
theorem zG :(A.under (.builtin "type.__call__" ⟨.ref C::us,kw⟩)).depth=A.depth+1:=by
 first|rfl|simp[Around.under,Code.weight,Code.isCreation,Code.isGuard,Code.isCaller,Code.frames,Code.isFrame,guardIds]
theorem zd :(A.under (.builtin "type.__call__" ⟨.ref C::us,kw⟩)).units=A.units+1:=by
 first|rfl|simp[Around.under,Code.cUnits,Code.frames,Code.isFrame]
theorem bR.make (r:bR (k+1) A)(C:Addr)(us:List Value)(kw:List (Str×Value)):bR k (A.under (.builtin "type.__call__" ⟨.ref C::us,kw⟩)):=
 ⟨r.hd,by have:=r.dp;rw[zG];omega,by have:=r.un;rw[zd];omega⟩
theorem bR.depth (r:bR k A):A.depth<recursionLimit:=by have:=r.dp;omega
theorem bR.units (r:bR k A):A.units+64<cLine:=by have:=r.un;omega
theorem bR.units0 (r:bR k A):A.units<cLine:=by have:=r.un;omega
def II:TA:=fun _ H Q=>Q [] H
def HS (ta:TE)(tr:TA):TA:=fun σ H Q=>ta σ H fun x H1=>tr σ H1 fun xs H2=>Q (x::xs) H2
section
variable {X:Cx}{e:Expr}{es:List Expr}{te:TE}{t:TA}{pos:Pos}
theorem tj:PA X [] II:=fun _ _ _ _ H Q I h=>Calls.spliced_nil ⟨[],H,I,.nil,h⟩
theorem m7 (ha:PE X e te)(hr:PA X es t)(hs:starEach (e::es) X.env=(false,eval e X.env)::starEach es X.env:=by rfl):PA X (e::es) (HS te t):=by
 intro pos ah s σ H Q I h;rw[hs];show wpAny _ _ (spliced ((false,eval e X.env)::backTo pos (starEach es X.env))) _ _ s;refine Calls.spliced_cons (cZ (ha ah s σ H _ I h) fun u s1 ⟨x,H1,I1,r1,q1⟩=>?_);exact cZ (hr pos ah s1 σ H1 _ I1 q1) fun us s2 ⟨xs,H2,I2,r2,q2⟩=>⟨x::xs,H2,I2,.cons r1 r2,q2⟩
def PU (t:TA):TE:=fun σ H Q=>t σ H fun xs H1=>xs.length≤sizeLine∧∀p,H1 p=none→Q (.ref p) (cR H1 p (.tup xs))
def Ps (t:TA):TE:=fun σ H Q=>t σ H fun xs H1=>xs.length≤sizeLine∧∀p,H1 p=none→Q (.ref p) (cR H1 p (.lst xs))
theorem IP {x1}(h:PA X es t):PE X (.Tuple es x1 pos) (PU t):=by
 intro ah s σ H Q I hq;refine wpAny_Tuple_spliced (cZ (h pos ah s σ H _ I hq) fun us s1 ⟨xs,H1,I1,r,z,q⟩=>⟨by rw[←r.length];exact z,?_⟩);have hf:H1 s1.heap.objs.size=none:=I1.hok.fresh (Nat.le_refl _);refine⟨.ref s1.heap.objs.size,cR H1 s1.heap.objs.size (.tup xs),I1.laid (t':=s1.toks) (fun b u e=>Heap.get?_push_of_some _ e) (Nat.le_refl _) ?_,rfl,q _ hf⟩;exact⟨z,us,r,⟨_,Heap.get?_push_size _ rfl,rfl,_,rfl⟩⟩
theorem Em (h:PA X es t):PE X (.List es pos) (Ps t):=by
 intro ah s σ H Q I hq;refine wpAny_List_spliced (cZ (h pos ah s σ H _ I hq) fun us s1 ⟨xs,H1,I1,r,z,q⟩=>⟨by rw[←r.length];exact z,?_⟩);have hf:H1 s1.heap.objs.size=none:=I1.hok.fresh (Nat.le_refl _);refine⟨.ref s1.heap.objs.size,cR H1 s1.heap.objs.size (.lst xs),I1.laid (t':=s1.toks) (fun b u e=>Heap.get?_push_of_some _ e) (Nat.le_refl _) ?_,rfl,q _ hf⟩;exact⟨z,us,0,r,Heap.get?_push_size _ rfl⟩
end
abbrev Sp:=List V→Hp→VK→XK→Prop
abbrev B8:=List Env→Hp→Shared→XK→Value→Shared→Prop
structure tD (P:Program)(w:World)(K:W.Frag)(mg:Str→Option Value)(base:Heap)(A:Around)(outer:List Env)(s:Shared)(H:Hp):Prop where
 frames:A.frames=some outer
 mod:Mod K mg base
 bs:∀b o,base.get? b=some o→s.heap.get? b=some o∧H b=none
 bsz:base.objs.size≤s.heap.objs.size
 funs:s.heap.FunFrames base outer
 frf:∀b∈tU outer,H b=none
 hok:mU P w H s.heap
 bare:AllBare s.gens
def CE (outer:List Env)(P:Program)(w:World)(H:Hp)(s:Shared)(Q:VK)(u:Value)(s':Shared):Prop:=
 ∃v H',s'.os=s.os∧AllBare s'.gens∧Un (tU outer) [] H H' s.heap s'.heap∧mU P w H' s'.heap∧bC v u∧Q v H'
def CR (CX:B8)(outer:List Env)(P:Program)(w:World)(H:Hp)(s:Shared)(Q:VK)(E:XK)(r:Result)(s':Shared):Prop:=
 match r with
 | .ok (.ret u)=>CE outer P w H s Q u s'
 | .ok _=>False
 | .error e=>CX outer H s E e s'
structure eX (P:Program)(w:World)(K:W.Frag)(mg:Str→Option Value)(base:Heap)(CX:B8)(k:Nat)(f:Addr)(fd:FuncData)(ps:List Str)(sp:Sp):Prop where
 len:∀vs H Q E,sp vs H Q E→vs.length=ps.length
 run:∀(A:Around) (outer:List Env) (s:Shared) (H:Hp) (args:Args) (us:List Value) (vs:List V) (Q:VK) (E:XK),bR k A→tD P w K mg base A outer s H→BindsTo s fd args (ps.zip us)→bu vs us→sp vs H Q E→
  codeAny (model P w) A (.call (.ref f) args) (CR CX outer P w H s Q E) s
variable{mg:Str→Option Value}{base:Heap}{CX:B8}{fd:FuncData}{ps:List Str}
theorem eX.imp {f:Addr}{sp sp':Sp}(F:eX P w K mg base CX k f fd ps sp)
  (h:∀vs H Q E,sp' vs H Q E→sp vs H Q E):eX P w K mg base CX k f fd ps sp':=
 ⟨fun vs H Q E q=>F.len vs H Q E (h _ _ _ _ q),fun A outer s H args us vs Q E hr he hb hv hs=>F.run A outer s H args us vs Q E hr he hb hv (h _ _ _ _ hs)⟩
variable{outer:List Env}
theorem tD.make (e:tD P w K mg base A outer s H)(C:Addr)(us:List Value)(kw:List (Str×Value)) :
  tD P w K mg base (A.under (.builtin "type.__call__" ⟨.ref C::us,kw⟩)) outer s H:=⟨by first|exact e.frames|(simpa[Around.under,Code.envs,Code.isFrame,pushEnvs] using e.frames),e.mod,e.bs,e.bsz,e.funs,e.frf,e.hok,e.bare⟩
theorem tD.in1 (e:tD P w K mg base A outer s H) :
  tD P w K mg base A.in1 outer s H:=⟨e.frames,e.mod,e.bs,e.bsz,e.funs,e.frf,e.hok,e.bare⟩
section
variable {X:Cx}{ah:List (Addr×Obj)}{σ:St}{H:Hp}{s s':Shared}
theorem Inv.env0 (I:Inv X ah σ H s):tD X.prog X.w X.K X.mg X.base X.A X.stack s H:=
 ⟨I.ok.frames,I.ok.mod,I.bs,Nat.le_trans I.ok.bsz I.sz,I.stack,I.stkFree,I.hok,I.bare⟩
theorem Inv.after {Q:VK}(I:Inv X ah σ H s)(h:CE X.stack X.prog X.w H s Q u s'):EP X ah σ Q u s':=by
 obtain⟨v,H',os,bare,un,hok,r,q⟩:=h;obtain⟨hh,g,d,t,os'⟩:=s';obtain rfl:os'=s.os:=os;exact⟨v,H',I.call (h':=hh) (g':=g) (d':=d) (t':=t) (ch:=[]) un hok bare (fun b z=>absurd z (by simp)),r,q⟩
end
def NB (sp:Sp)(dvs:List V)(E:XK)(t:TA):TE:=fun σ H Q=>t σ H fun vs H1=>sp (vs++dvs) H1 Q E
def ED (C:Addr)(m:Str)(sp:Sp)(dvs:List V)(E:XK)(ta:TE)(t:TA):TE:=fun σ H Q=>ta σ H fun x H1=>∃a dx fs,x=.ref a∧H1 a=some (.ins C dx fs)∧fs.lookup m=none∧
 t σ H1 fun vs H2=>sp (x::(vs++dvs)) H2 Q E
def Hu (C:Addr)(sp:Sp)(dvs:List V)(E:XK)(t:TA):TE:=fun σ H Q=>t σ H fun vs H1=>∀x dx,H1 x=none→H1 dx=none→dx≠x→
 sp (.ref x::(vs++dvs)) (cR (cR H1 dx (.own x)) x (.ins C dx [])) (fun v H2=>v=.non∧Q (.ref x) H2) E
def fL (K:W.Frag)(fd:FuncData)(ps:List Str)(ds:List Value):Prop:=
 ∀(s:Shared) (us:List Value),K.In s.heap→(us++ds).length=ps.length→BindsTo s fd ⟨us,[]⟩ (ps.zip (us++ds))
theorem fL.all (h:∀us:List Value,us.length=ps.length→bindArgs fd ⟨us,[]⟩=pure (ps.zip us)):fL K fd ps []:=fun s us _ hl=>by
 rw[append_nil] at hl ⊢;exact .of_eq (h us hl)
def nS (CX:B8)(X:Cx)(E:XK):Prop:=∀(ah:List (Addr×Obj)) (σ:St) (H:Hp) (s:Shared) (e:Value) (s':Shared),Inv X ah σ H s→CX X.stack H s E e s'→X.xe e s'
variable{vs:List V}
section
variable {X:Cx}{CX:B8}{k:Nat}{f C:Addr}{fd:FuncData}{ps:List Str}{sp:Sp}{dvs:List V}{ds:List Value}{E:XK}{x m:Str}{p pos apos:Pos}{e o:Expr}{es:List Expr}{ta:TE}{t:TA}
theorem yS {Q:VK}(F:eX X.prog X.w X.K X.mg X.base CX k f fd ps sp)(hr:bR k X.A)(hb:fL X.K fd ps ds)(hd:bu dvs ds)(hx:nS CX X E)
  (I:Inv X ah σ H s) (r:bu vs us) (h:sp (vs++dvs) H Q E):wpAny (model X.prog X.w) X.A (call (.ref f) us) (EP X ah σ Q) X.xe s:=by
 have r2:bu (vs++dvs) (us++ds):=r.append hd;have hl:(us++ds).length=ps.length:=by rw[←r2.length];exact F.len _ _ _ _ h
 refine wpAny_call (codeAny_mono (F.run X.A X.stack s H ⟨us,[]⟩ (us++ds) (vs++dvs) Q E hr I.env0 (hb s us I.kIn hl) r2 h) fun r s' hq=>?_);cases r with
 | error e=>exact hx ah σ H s e s' I hq
 | ok fl=>
  cases fl with
  | ret u=>exact I.after hq
  | next=>exact False.elim hq
  | brk=>exact False.elim hq
  | cont=>exact False.elim hq
theorem FS (F:eX X.prog X.w X.K X.mg X.base CX k f fd ps sp)(hr:bR k X.A)(hg:Gl X x)(hm:X.mg x=some (.ref f))(hk:W.keepIn X.K (.ref f)=true)(hb:fL X.K fd ps ds)(hd:bu dvs ds)(hx:nS CX X E)
  (ha:PA X (e::es) t) (hdb:(x==("__debug__":Str))=false:=by decide) (he:starEach (e::es) X.env=(false,eval e X.env)::starEach es X.env:=by rfl) (hpl:(backTo pos (starEach es X.env)).any (·.1)=false:=by rfl) :
  PE X (.Call (.Name x p) (e::es) [] pos) (NB sp dvs E t):=by
 intro ah s σ H Q I h;refine wpAny_Call_Name_kw (rh I hg hm ?_ hdb);refine W.callWith_K (h₀:=X.base) I.ok.mod.kin hk (cZ (ha pos ah s σ H _ I h) fun us s1 ⟨vs,H1,I1,r,q⟩=>⟨I1.kIn,?_⟩) he hpl;exact yS F hr hb hd hx I1 r q
theorem F0 {pl:Sem Bool}(he:PE X o ta)(c:DE X.K C)(hm:wM X.K C m f)(F:eX X.prog X.w X.K X.mg X.base CX k f fd ps sp)(hr:bR k X.A)(hb:fL X.K fd ps ds)(hd:bu dvs ds)(hx:nS CX X E)(ha:PA X (e::es) t)
  (hst:starEach (e::es) X.env=(false,eval e X.env)::starEach es X.env:=by rfl) (hpl:(backTo pos (starEach es X.env)).any (·.1)=false:=by rfl)
  (ht:eval (.Call (.Attribute o m apos) (e::es) [] pos) X.env=(do
   let ov ←eval o X.env
   standAt apos.atName
   let (f,first) ←holding [ov] (getMethod ov m pl)
   callWith pos f first (backTo pos (starEach (e::es) X.env)) (backToKw pos (keywordEach [] X.env))):=by rfl) :
  PE X (.Call (.Attribute o m apos) (e::es) [] pos) (ED C m sp dvs E ta t):=by
 intro ah s σ H Q I h;refine W.methodCall_KW (pl:=pl) (cZ (he ah s σ H _ I h) fun u s1 ⟨x,H1,I1,rx,a,dx,fs,ex,ea,l,q⟩=>?_) ht;subst ex;obtain rfl:u=Value.ref a:=rx;refine rK I1 ea c hm l ?_;refine W.callWith_K (first:=[.ref a]) (h₀:=X.base) I.ok.mod.kin hm.kp (cZ (ha pos ah s1 σ H1 _ I1 q) fun us s2 ⟨vs,H2,I2,r,q2⟩=>⟨I2.kIn,?_⟩) hst hpl;exact yS (us:=.ref a::us) (vs:=.ref a::vs) F hr hb hd hx I2 (.cons rfl r) q2
theorem DH (he:PE X o ta)(c:DE X.K C)(hm:wM X.K C m f)(F:eX X.prog X.w X.K X.mg X.base CX k f fd ps sp)(hr:bR k X.A)(hb:fL X.K fd ps ds)(hd:bu dvs ds)(hx:nS CX X E)
  (ht:eval (.Call (.Attribute o m apos) [] [] pos) X.env=(do
   let ov ←eval o X.env
   standAt apos.atName
   let (f,first) ←holding [ov] (getMethod ov m pl)
   callWith pos f first (backTo pos (starEach [] X.env)) (backToKw pos (keywordEach [] X.env))):=by rfl) :
  PE X (.Call (.Attribute o m apos) [] [] pos) (ED C m sp dvs E ta II):=by
 intro ah s σ H Q I h;refine W.methodCall_KW (pl:=pl) (cZ (he ah s σ H _ I h) fun u s1 ⟨x,H1,I1,rx,a,dx,fs,ex,ea,l,q⟩=>?_) ht;subst ex;obtain rfl:u=Value.ref a:=rx;refine rK I1 ea c hm l ?_;exact W.callWith_K0 (first:=[.ref a]) I1.kIn hm.kp (yS (us:=[.ref a]) (vs:=[.ref a]) F hr hb hd hx I1 (.cons rfl .nil) q)
structure Mk (K:W.Frag)(C f:Addr):Prop where
 makes:W.makesIn K C=true
 init:W.findIn K (.ref C) "__init__"=some (some (.ref f))
 fn:W.isFn K (.ref f)=true
 kp:W.keepIn K (.ref C)=true
theorem CG {Q:VK}(M:Mk X.K C f)(F:eX X.prog X.w X.K X.mg X.base CX k f fd ps sp)(hr:bR (k+1) X.A)(hb:fL X.K fd ps ds)(hd:bu dvs ds)
  (hx:nS CX X E) (I:Inv X ah σ H s) (r:bu vs us)
  (h:∀x dx,H x=none→H dx=none→dx≠x→sp (.ref x::(vs++dvs)) (cR (cR H dx (.own x)) x (.ins C dx [])) (fun v H2=>v=.non∧Q (.ref x) H2) E) :
  wpAny (model X.prog X.w) X.A (call (.ref C) us) (EP X ah σ Q) X.xe s:=by
 have hq:=h (s.heap.objs.size+1) s.heap.objs.size (I.hok.fresh (Nat.le_succ _)) (I.hok.fresh (Nat.le_refl _)) (Nat.ne_of_lt (Nat.lt_succ_self _));have I2:=Inv.made (C:=C) I;have r2:bu (V.ref (s.heap.objs.size+1)::(vs++dvs)) (Value.ref (s.heap.objs.size+1)::(us++ds)):=.cons rfl (r.append hd);have hl:(Value.ref (s.heap.objs.size+1)::us++ds).length=ps.length:=by
  have e:=r2.length;rw[F.len _ _ _ _ hq] at e;exact e.symm
 refine wpAny_call (DB (f:=f) I.kIn M.makes M.init (beq_iff_eq.mp M.fn) (codeAny_mono (F.run _ X.stack _ _ ⟨Value.ref (s.heap.objs.size+1)::us,[]⟩ (Value.ref (s.heap.objs.size+1)::(us++ds)) _ _ E (hr.make C us [])
  (I2.env0.make C us []) (hb _ (Value.ref (s.heap.objs.size+1)::us) I2.kIn hl) r2 hq) fun r s' hq'=>?_))
 cases r with
 | error e=>exact hx ah σ _ _ e s' I2 hq'
 | ok fl=>
  cases fl with
  | ret u=>
   obtain⟨v,H',I3,rv,ev,q3⟩:=I2.after hq';subst ev;exact⟨rv,⟨V.ref (s.heap.objs.size+1),H',I3,rfl,q3⟩⟩
  | next=>exact False.elim hq'
  | brk=>exact False.elim hq'
  | cont=>exact False.elim hq'
theorem Gc (M:Mk X.K C f)(F:eX X.prog X.w X.K X.mg X.base CX k f fd ps sp)(hr:bR (k+1) X.A)(hg:Gl X x)(hm:X.mg x=some (.ref C))(hb:fL X.K fd ps ds)(hd:bu dvs ds)(hx:nS CX X E)
  (ha:PA X (e::es) t) (hdb:(x==("__debug__":Str))=false:=by decide) (he:starEach (e::es) X.env=(false,eval e X.env)::starEach es X.env:=by rfl) (hpl:(backTo pos (starEach es X.env)).any (·.1)=false:=by rfl) :
  PE X (.Call (.Name x p) (e::es) [] pos) (Hu C sp dvs E t):=by
 intro ah s σ H Q I h;refine wpAny_Call_Name_kw (rh I hg hm ?_ hdb);refine W.callWith_K (h₀:=X.base) I.ok.mod.kin M.kp (cZ (ha pos ah s σ H _ I h) fun us s1 ⟨vs,H1,I1,r,q⟩=>⟨I1.kIn,?_⟩) he hpl;exact CG M F hr hb hd hx I1 r q
end
structure fF (N P:List Str)(sc:Scope):Prop where
 kind:sc.kind=.function
 co:sc.isCoroutine=false
 gen:sc.isGenerator=false
 nd:N.Nodup
 pre:N.take P.length=P
 par:∀x∈P,sc.names.lookup x=some .local∨sc.names.lookup x=some .cell
 nofree:∀y∈sc.names,y.2≠.free
theorem u5 {kindOf:Str→Option NameKind}{x:Str}:∀{binds:List (Str×Value)} {m:Str→Option Value},(∀v,(x,v)∉binds)→bindL kindOf binds m x=m x
 | [],_,_=>rfl
 | (n,v)::r,m,h=>by
  unfold bindL;rw[u5 fun w hw=>h w (mem_cons_of_mem _ hw)];split
  ·have:x≠n:=by rintro rfl;exact h v mem_cons_self
   simp[this]
  ·rfl
theorem uD {kindOf:Str→Option NameKind}{x:Str}:∀{binds:List (Str×Value)} {m:Str→Option Value},(∀v,(x,v)∉binds)→bindC kindOf binds m x=m x
 | [],_,_=>rfl
 | (n,v)::r,m,h=>by
  unfold bindC;rw[uD fun w hw=>h w (mem_cons_of_mem _ hw)];split
  ·rfl
  ·have:x≠n:=by rintro rfl;exact h v mem_cons_self
   simp[this]
theorem va {kindOf:Str→Option NameKind}{x:Str}{v:Value}:∀{P:List Str} {vs:List Value} {i:Nat} {m:Str→Option Value},P.Nodup→P[i]?=some x→vs[i]?=some v→kindOf x=some .local→
  bindL kindOf (P.zip vs) m x=some v
 | [],_,_,_,_,h,_,_=>by simp at h
 | _::_,[],_,_,_,_,h,_=>by simp at h
 | p::P,w::vs,0,m,nd,h1,h2,hk=>by
  simp at h1 h2;subst h1;subst h2;show bindL kindOf ((p,w)::P.zip vs) m p=_;unfold bindL;rw[u5 fun v hv=>(nodup_cons.mp nd).1 (of_mem_zip hv).1,if_pos hk];simp
 | p::P,w::vs,i+1,m,nd,h1,h2,hk=>by
  show bindL kindOf ((p,w)::P.zip vs) m x=_;unfold bindL;exact va (i:=i) (nodup_cons.mp nd).2 (by simpa using h1) (by simpa using h2) hk
theorem uK {kindOf:Str→Option NameKind}{x:Str}{v:Value}:∀{P:List Str} {vs:List Value} {i:Nat} {m:Str→Option Value},P.Nodup→P[i]?=some x→vs[i]?=some v→kindOf x≠some .local→
  bindC kindOf (P.zip vs) m x=some v
 | [],_,_,_,_,h,_,_=>by simp at h
 | _::_,[],_,_,_,_,h,_=>by simp at h
 | p::P,w::vs,0,m,nd,h1,h2,hk=>by
  simp at h1 h2;subst h1;subst h2;show bindC kindOf ((p,w)::P.zip vs) m p=_;unfold bindC;rw[uD fun v hv=>(nodup_cons.mp nd).1 (of_mem_zip hv).1,if_neg hk];simp
 | p::P,w::vs,i+1,m,nd,h1,h2,hk=>by
  show bindC kindOf ((p,w)::P.zip vs) m x=_;unfold bindC;exact uK (i:=i) (nodup_cons.mp nd).2 (by simpa using h1) (by simpa using h2) hk
def start (N:List Str)(vs:List V):St:=vs.map some++List.replicate (N.length-vs.length) none
def iX (CX:B8)(P:Program)(w:World)(K:W.Frag)(mg:Str→Option Value)(base:Heap)(N:List Str)(qual:Str)(scope:Scope)(f:Addr)(cd:Value)(A:Around)(outer:List Env)(s:Shared)(H:Hp)(E:XK):Cx where
 prog:=P
 w:=w
 K:=K
 mg:=mg
 base:=base
 A:=A.deeper (envOfC qual scope s.heap.objs.size f cd)
 N:=N
 s₀:=s
 H₀:=H
 env:=envOfC qual scope s.heap.objs.size f cd
 outer:=outer
 stack:=envOfC qual scope s.heap.objs.size f cd::outer
 ex:=[]
 calm:=true
 fn:=fun _=>true
 pn:=[]
 xe:=fun e s'=>wpAny (model P w) (A.deeper (envOfC qual scope s.heap.objs.size f cd)) (leaving (envOfC qual scope s.heap.objs.size f cd) e) (fun _ s''=>CX outer H s E e s'') (fun e' s''=>CX outer H s E e' s'') s'
theorem wZ {sc:Scope}{n:Nat}(h:sc.names.lookup x=some .cell):∃c,(cellsFrom n sc.names []).lookup x=some c:=by
 have q:=W.cellsFrom_some sc.names n [] (.inl h);exact Option.isSome_iff_exists.mp q
variable{scope:Scope}
theorem uX {N:List Str}{qual:Str}{f:Addr}{cd:Value}{s1:Shared}{E:XK}
  (S:fF N ps scope) (hd:A.handled=none) (e0:tD P w K mg base A outer s H) (hl:vs.length=ps.length) (r:bu vs us)
  (x:InCallC s s.heap.objs.size (bindL (envOfC qual scope s.heap.objs.size f cd).kindOf (ps.zip us) fun _=>none) (cellsFrom (s.heap.objs.size+1) scope.names []) (bindC (envOfC qual scope s.heap.objs.size f cd).kindOf (ps.zip us) fun _=>none) s1) :
  Inv (iX CX P w K mg base N qual scope f cd A outer s H E) [] (start N vs) H s1:=by
 have hpl:ps.length≤N.length:=by have:=congrArg List.length S.pre;rw[length_take] at this;omega
 obtain⟨h1,tk,rfl,hk⟩:=x.done;have noA:∀b:Addr,b∉(iX CX P w K mg base N qual scope f cd A outer s H E).ex:=fun b z=>absurd (show b∈([]:List Addr) from z) (by simp)
 refine⟨⟨e0.mod,S.kind,rfl,rfl,Nat.le_refl _,fun y z c h1 h2=>?_,fun y hy=>?_,fun y c _ h=>?_,fun _=>hd,Around.frames_deeper e0.frames,.inr ⟨rfl,rfl⟩,fun b z=>absurd z (noA b),e0.bs,e0.bsz,fun b _ _=>noA b,fun b z=>absurd z (noA b),e0.funs,e0.frf⟩,
  rfl,e0.bare,Un.kept hk,⟨_,x.toInCall.ns,fun i y v h1 h2 h3=>?_⟩,fun y c h=>⟨_,x.cell y c h⟩,e0.hok.fresh (Nat.le_refl _),fun y c h=>?_,fun p hp=>absurd (show p∈([]:List (Addr×Obj)) from hp) (by simp),e0.hok.kept hk,?_⟩
 ·exact name_of_addr x.apart (PySem.mem_of_lookup h1) (PySem.mem_of_lookup h2)
 ·have hy:scope.names.lookup y=some .cell∨scope.names.lookup y=some .free:=hy;rcases hy with hy|hy
  ·exact wZ hy
  ·exact absurd rfl (S.nofree _ (PySem.mem_of_lookup hy))
 ·exact Nat.le_of_lt (x.above y c (PySem.mem_of_lookup h))
 ·have hi:i<vs.length:=by
   unfold start at h2
   by_cases hi:i<vs.length
   ·exact hi
   ·rw[getElem?_append_right (by simpa using hi)] at h2;rw[getElem?_replicate] at h2;split at h2 <;> cases h2
  have ha:vs[i]?=some v:=by
   unfold start at h2;rw[getElem?_append_left (by simpa using hi),getElem?_map] at h2;cases e:vs[i]? with
   | none=>rw[e] at h2;cases h2
   | some a=>rw[e] at h2;cases h2;rfl
  obtain⟨u,hu,rv⟩:=r.get ha;have hp:ps[i]?=some y:=by
   rw[←S.pre,getElem?_take_of_lt (by omega)];exact h1
  have ndP:ps.Nodup:=by rw[←S.pre];exact S.nd.sublist (take_sublist _ _)
  refine⟨u,rv,?_⟩;rcases S.par y (mem_of_getElem? hp) with k|k
  ·exact .inl ⟨k,va ndP hp hu k⟩
  ·obtain⟨c,e⟩:=wZ (n:=s.heap.objs.size+1) k;refine .inr ⟨.inl k,c,e,?_⟩;have q:=x.cell y c e;rw[uK ndP hp hu (by show scope.names.lookup y≠_;rw[k];decide)] at q;exact q
 ·exact e0.hok.fresh (Nat.le_of_lt (x.above y c (PySem.mem_of_lookup h)))
 ·unfold start;show _=N.length;rw[length_append,length_map,length_replicate];omega
theorem Hr {f:Addr}{name qual:Str}{params:Arguments}{dV kV doc pm cdv ct oc:Value}{an od:Option Addr}
  {osl:Array (Option Value)} {N:List Str} {sp:Sp} (lk:K.lookup f=some ⟨oc,od,.func (W.fnOf name qual params body scope dV kV doc pm an cdv ct),osl⟩) (hcd:W.codeIn K cdv qual=true) (S:fF N ps scope)
  (len:∀vs H Q E,sp vs H Q E→vs.length=ps.length)
  (hbody:∀(A:Around) (outer:List Env) (s:Shared) (H:Hp) (vs:List V) (Q:VK) (E:XK),bR k (A.deeper (envOfC qual scope s.heap.objs.size f cdv))→sp vs H Q E→
   ∃t,PSs (iX CX P w K mg base N qual scope f cdv A outer s H E) body t∧t {nx:=fun _ H'=>Q .non H',rt:=Q} (start N vs) H) :
  eX P w K mg base CX (k+1) f (W.fnOf name qual params body scope dV kV doc pm an cdv ct) ps sp:=by
 refine⟨len,fun A outer s H args us vs Q E hr e0 hb r hsp=>?_⟩;have hl:=len _ _ _ _ hsp;have KX:K.In s.heap:=e0.mod.kin.keeps fun b o e=>(e0.bs b o e).1
 have lim:s.heap.NoLimit:=e0.mod.nolimit.keeps fun b o e=>(e0.bs b o e).1
 have hkind:∀y∈ps.zip us,scope.names.lookup y.1=some .local∨(scope.names.lookup y.1=some .cell∧((cellsFrom (s.heap.objs.size+1) scope.names []).lookup y.1).isSome=true):=fun⟨n,v⟩ hy=>by
  rcases S.par n (of_mem_zip hy).1 with q|q
  ·exact .inl q
  ·exact .inr ⟨q,W.cellsFrom_some _ _ _ (.inl q)⟩
 refine codeAny_call_function hr.depth (KX _ _ lk) rfl S.co S.gen rfl (W.codeRec_of KX hcd) (hb _ _ _ _ ?_);refine wpAny_newFunctionEnv_cells S.kind hkind fun env he s1 x=>?_
 subst he;refine⟨lim.keeps x.toInCall.keep,codeAny_func ?_⟩;obtain⟨t,ht,hq⟩:=hbody A outer s H vs Q E (hr.deeper _) hsp;have I:Inv (iX CX P w K mg base N qual scope f cdv A outer s H E) [] (start N vs) H s1:=uX S hr.hd e0 hl r x;refine wpAny_mono (ht [] s1 (start N vs) H _ I hq) (fun fl s' hs=>?_) fun e s' hs=>hs
 have fin:∀{σ':St} {H':Hp} {v:V} {u:Value},Inv (iX CX P w K mg base N qual scope f cdv A outer s H E) [] σ' H' s'→bC v u→Q v H'→CE outer P w H s Q u s':=
  fun {σ' H' v u} J rv q=>⟨v,H',J.os,J.bare,J.base,J.hok,rv,q⟩
 cases fl with
 | ret u=>
  obtain⟨v,σ',H',J,rv,q⟩:=hs;exact fin J rv q
 | next=>
  obtain⟨σ',H',J,q⟩:=hs;exact fin (v:=V.non) (u:=Value.none) J rfl q
 | brk=>
  obtain⟨_,_,_,q⟩:=hs;exact False.elim q
 | cont=>
  obtain⟨_,_,_,q⟩:=hs;exact False.elim q
section
variable {X:Cx}{x:Str}{p pos:Pos}{e:Expr}{es:List Expr}{t:TA}{id T:String}{r:List V→Hp→VK→Prop}
def Px (r:List V→Hp→VK→Prop)(t:TA):TE:=fun σ H Q=>t σ H fun vs H1=>r vs H1 Q
theorem xQ (hc:eO X (.builtin id) r)(hg:Gl X x)(hm:X.mg x=none)(hv:bootBuiltins x=some (.builtin id))(ha:PA X (e::es) t)(hn:x≠"__name__":=by decide)(hdb:(x==("__debug__":Str))=false:=by decide)
  (he:starEach (e::es) X.env=(false,eval e X.env)::starEach es X.env:=by rfl) (hpl:(backTo pos (starEach es X.env)).any (·.1)=false:=by rfl):PE X (.Call (.Name x p) (e::es) [] pos) (Px r t):=by
 intro ah s σ H Q I h;refine wpAny_Call_Name_kw (pP I hg hm hv ?_ hn hdb);exact PyProof.Rows.callWith_builtin1 (cZ (ha pos ah s σ H _ I h) fun us s1 ⟨vs,H1,I1,r1,q1⟩=>hc ah s1 σ H1 vs us Q I1 r1 q1) he hpl
theorem Ba (hc:eO X (.type T) r)(hg:Gl X x)(hm:X.mg x=none)(hv:bootBuiltins x=some (.type T))(ha:PA X (e::es) t)(hn:x≠"__name__":=by decide)(hdb:(x==("__debug__":Str))=false:=by decide)
  (he:starEach (e::es) X.env=(false,eval e X.env)::starEach es X.env:=by rfl) (hpl:(backTo pos (starEach es X.env)).any (·.1)=false:=by rfl):PE X (.Call (.Name x p) (e::es) [] pos) (Px r t):=by
 intro ah s σ H Q I h;refine wpAny_Call_Name_kw (pP I hg hm hv ?_ hn hdb);exact PyProof.Rows.callWith_type1 (cZ (ha pos ah s σ H _ I h) fun us s1 ⟨vs,H1,I1,r1,q1⟩=>hc ah s1 σ H1 vs us Q I1 r1 q1) he hpl
end
end L2
namespace HT
open PySem PyProof.Rows
def lexLt:List Int→List Int→Bool
 | [],[]=>false
 | [],_::_=>true
 | _::_,[]=>false
 | x::xs,y::ys=>if x=y then lexLt xs ys else decide (x<y)
theorem yX (x y:Int)(xs ys:List Int):lexLt (x::xs) (y::ys)=if x=y then lexLt xs ys else decide (x<y):=rfl
theorem tR:lexLt [] []=false:=rfl
theorem rN (y:Int)(ys:List Int):lexLt [] (y::ys)=true:=rfl
theorem rP (x:Int)(xs:List Int):lexLt (x::xs) []=false:=rfl
theorem Df (A:Around)(s:Shared)(a:Int)(t:Tok)(c:Int)(u:Tok):∃e,SeqAt.EqAt A s (.int a t) (.int c u) e∧(e=true↔a=c):=
 ⟨(a==c),SeqAt.EqAt.int_int a t c u,by simp⟩
theorem Dp (A:Around)(s:Shared)(a:Int)(t:Tok)(c:Int)(u:Tok)(prog:Program)(w:World)(E:Value→Shared→Prop)(Q:Value→Shared→Prop)(h:Q (.bool (decide (a<c))) s) :
  wpAny (model prog w) A (richCompare .Lt (.int a t) (.int c u)) Q E s:=
 (PyProof.Rows.lt_int h:wpAny (model prog w) A (compareOp .Lt (.int a t) (.int c u)) Q E s)
section
open PySem.SeqAt
open PySem.AutoSeq1 (wpAny_loadPart')
open PySem.MeetsSeq PySem.MeetsSeq2 PySem.MeetsSeq3
theorem uh (l b:Addr)(items items2:Array Value)(n n2:Nat)(dd dd2:Option Addr)(sl sl2:Array (Option Value))(ns ms:List Int)(hi:IntsAre items.toList ns)(hj:IntsAre items2.toList ms) :
  Meets (Builtin.«tuple.__lt__» ⟨[.ref l,.ref b],[]⟩)
   (fun _ R s=>s.heap.get? l=some {cls:=.type "tuple",dict:=dd,data:=.seq items n,slots:=sl}∧s.heap.get? b=some {cls:=.type "tuple",dict:=dd2,data:=.seq items2 n2,slots:=sl2}∧
    R (.ok (.ret (.bool (lexLt ns ms)))) s):=
 .of_wp fun prog w A R s h=>by
  obtain⟨hp,g,d,tk,os⟩:=s;obtain⟨hl,hb,h⟩:=h;have f2:=AutoSeq1.sub_tuple_tuple;have z1:items.size=ns.length:=by rw[←hi.length];simp
  have z2:items2.size=ms.length:=by rw[←hj.length];simp
  wp_walk using wpAny_loadPart' hl,wpAny_loadPart' hb,wpAny_forIn_list _ (fun rest b s'=>b.1=none∧s'=⟨hp,g,d,tk,os⟩∧∃(vs ws:List Value) (ns' ms':List Int),rest=vs.zip ws∧
   IntsAre vs ns'∧IntsAre ws ms'∧ns'.length+items2.size=ms'.length+items.size∧R (.ok (.ret (.bool (lexLt ns' ms')))) ⟨hp,g,d,tk,os⟩) _
  case turn=>
   rintro ⟨y,x⟩ rest b s' ⟨hb',rfl,vs,ws,ns',ms',hz,hvi,hwi,hlen,hR⟩;cases hvi with
   | nil=>rw[List.zip_nil_left] at hz;cases hz
   | cons a t hvi'=>
    cases hwi with
    | nil=>rw[List.zip_nil_right] at hz;cases hz
    | cons c u hwi'=>
     rw[List.zip_cons_cons] at hz;injection hz with hyx hrest
     injection hyx with hy hx
     subst hy hx;rw[yX] at hR;simp only[List.length_cons] at hlen;obtain⟨e,he,hiff⟩:=Df A.in1 ⟨hp,g,d,tk,os⟩ a t c u;refine wpAny_bind (he prog w _ _ ?_);cases e with
     | true=>
      rw[if_pos (hiff.mp rfl)] at hR
      wp_walk
      exact⟨rfl,rfl,_,_,_,_,hrest,hvi',hwi',by omega,hR⟩
     | false=>
      rw[if_neg (fun q=>absurd (hiff.mpr q) Bool.false_ne_true)] at hR;have hri:=Dp A.in1 ⟨hp,g,d,tk,os⟩ a t c u prog w
      wp_walk using hri
      exact⟨_,rfl,by simpa using hR⟩
  case fin=>
   rintro ⟨b1,b2⟩ s' ⟨hb',rfl,vs,ws,ns',ms',hz,hvi,hwi,hlen,hR⟩;simp only at hb';subst hb';have hv:lexLt ns' ms'=decide (items.size<items2.size):=by
    cases hvi with
    | nil=>
     cases hwi with
     | nil=>
      simp only[List.length_nil] at hlen;rw[tR];exact(decide_eq_false (by omega)).symm
     | cons c u hw=>
      simp only[List.length_nil,List.length_cons] at hlen;rw[rN];exact(decide_eq_true (by omega)).symm
    | cons a t hv=>
     cases hwi with
     | nil=>
      simp only[List.length_nil,List.length_cons] at hlen;rw[rP];exact(decide_eq_false (by omega)).symm
     | cons c u hw=>
      rw[List.zip_cons_cons] at hz;cases hz
   rw[hv] at hR
   wp_walk
   exact⟨_,rfl,by simpa[Builtin.Tuple.tupleCompareSizes] using hR⟩
  case h=>
   exact⟨rfl,rfl,items.toList,items2.toList,ns,ms,rfl,hi,hj,by omega,h⟩
end
variable{Q:Value→Shared→Prop}
section
variable {prog:Program}{w:World}{A:Around}{E:Value→Shared→Prop}{s:Shared}
theorem lt_tupInts {l b:Addr}{items items2:Array Value}{ns ms:List Int}(hl:IsTup s.heap l items)(hb:IsTup s.heap b items2)(hi:IntsAre items.toList ns)(hj:IntsAre items2.toList ms)
  (hu:A.units<cLine) (h:Q (.bool (lexLt ns ms)) s):wpAny (model prog w) A (compareOp .Lt (.ref l) (.ref b)) Q E s:=by
 obtain⟨⟨cls,dd,data,sl⟩,ho,hc,n,hd⟩:=id hl;obtain⟨⟨cls2,dd2,data2,sl2⟩,ho2,hc2,n2,hd2⟩:=id hb;simp only at hc hd hc2 hd2;subst hc hd hc2 hd2;exact richCompare_meets_room (op:=.Lt) ⟨_,ho,rfl⟩ ⟨_,ho2,rfl⟩ PySem.F.slot_tuple_lt PySem.F.entry_tuple_lt (PySem.F.args_tuple_lt_2 _ _) (uh l b items items2 n n2 dd dd2 sl sl2 ns ms hi hj)
  ⟨ho,ho2,show Value.bool (lexLt ns ms)≠Value.notImplemented∧Q (.bool (lexLt ns ms)) s from⟨(fun x=>nomatch x),h⟩⟩ hu
theorem cat_tup {t b:Addr}{vs ws:List Value}(ht:IsTup s.heap t vs.toArray)(hb:IsTup s.heap b ws.toArray)(hv:vs≠[])
  (h1:ws=[]→Q (.ref t) s) (h2:ws≠[]→Q (.ref s.heap.objs.size) {s with heap:=s.heap.push {cls:=.type "tuple",data:=.seq (vs++ws).toArray}})
  (hsz:vs.length+ws.length≤sizeLine):wpAny (model prog w) A (binaryOp .Add (.ref t) (.ref b)) Q E s:=by
 obtain⟨⟨cls,dd,data,sl⟩,ho,hc,n,hd⟩:=id ht;obtain⟨⟨cls2,dd2,data2,sl2⟩,ho2,hc2,n2,hd2⟩:=id hb;simp only at hc hd hc2 hd2;subst hc hd hc2 hd2;have e:vs.toArray++ws.toArray=(vs++ws).toArray:=by simp
 by_cases hw:ws=[]
 ·exact concat_meets ⟨_,ho,rfl⟩ ⟨_,ho2,rfl⟩ noFill_tuple_add seq_tuple_add PySem.F.slot_tuple_add PySem.F.entry_tuple_add (PySem.F.args_tuple_add_2 _ _)
   (tuple_addW1 t b vs.toArray ws.toArray n n2 dd dd2 sl sl2 (by simpa using hv) (by simp[hw])) ⟨ho,ho2,h1 hw⟩
 ·refine concat_meets ⟨_,ho,rfl⟩ ⟨_,ho2,rfl⟩ noFill_tuple_add seq_tuple_add PySem.F.slot_tuple_add PySem.F.entry_tuple_add (PySem.F.args_tuple_add_2 _ _)
   (tuple_addW2 t b vs.toArray ws.toArray n n2 dd dd2 sl sl2 (by simpa using hv) (by simpa using hw) (by rw[List.size_toArray,List.size_toArray];exact hsz)) ⟨ho,ho2,?_⟩
  rw[e];exact h2 hw
def sIx (n d:Nat):Option Int→Nat
 | none=>d
 | some v=>if v<0 then(v+(n:Int)).toNat else min v.toNat n
theorem sIx_none (n d:Nat):sIx n d none=d:=rfl
theorem sIx_nat (n d k:Nat):sIx n d (some (k:Int))=min k n:=by
 show(if(k:Int)<0 then((k:Int)+(n:Int)).toNat else min (k:Int).toNat n)=min k n;rw[if_neg (by omega),Int.toNat_natCast]
theorem KS (n d:Nat)(hd:d≤n)(o:Option Int):sIx n d o≤n:=by
 cases o with
 | none=>exact hd
 | some v=>
  show(if v<0 then(v+(n:Int)).toNat else min v.toNat n)≤n
  by_cases hv:v<0
  ·rw[if_pos hv];omega
  ·rw[if_neg hv];exact Nat.min_le_right _ _
theorem AB (v:Int)(n d:Nat):(if v<0 then max (v+(n:Int)) 0 else min v (n:Int))=((sIx n d (some v):Nat):Int):=by
 show(if v<0 then max (v+(n:Int)) 0 else min v (n:Int))=(((if v<0 then(v+(n:Int)).toNat else min v.toNat n):Nat):Int)
 by_cases hv:v<0
 ·simp only[if_pos hv];omega
 ·simp only[if_neg hv];omega
theorem yH (lo hi:Option Int)(n:Nat):Builtin.Slice.sliceAdjust lo hi 1 (n:Int)=(((sIx n 0 lo:Nat):Int),((sIx n n hi:Nat):Int)):=by
 have h1:¬((1:Int)<0):=by omega
 unfold Builtin.Slice.sliceAdjust;simp only[h1,if_false];refine Prod.ext ?_ ?_
 ·cases lo with
  | none=>rfl
  | some v=>exact AB v n 0
 ·cases hi with
  | none=>rfl
  | some v=>exact AB v n n
theorem zy (i j:Nat):Builtin.Slice.slicePlaces (i:Int) (j:Int) 1=j-i:=by
 unfold Builtin.Slice.slicePlaces;have h1:(1:Int)>0:=by omega
 simp only[h1,if_true,Int.ediv_one];split <;> omega
theorem sL {v:Value}{o:Option Int}{Q:Option Int→Shared→Prop}(p:IsPart v o)(h:Q o s):wpAny (model prog w) A (Builtin.Slice.slicePartIndex v) Q E s:=by
 cases p with
 | none=>exact slicePart_none h
 | int i t=>exact slicePart_int h
theorem sliceApplied_gen {sl:Addr}{vl vu:Value}{lo hi:Option Int}{n:Nat}{Q:Int×Int×Nat→Shared→Prop}(hs:s.heap.IsSliceOf sl vl vu .none)(pl:IsPart vl lo)(pu:IsPart vu hi)
  (h:Q (((sIx n 0 lo:Nat):Int),1,sIx n n hi-sIx n 0 lo) s):wpAny (model prog w) A (Builtin.Slice.sliceApplied (.ref sl) (pure (n:Int))) Q E s:=by
 obtain⟨os,hos,hcs,hds⟩:=id hs;unfold Builtin.Slice.sliceApplied Builtin.Slice.sliceFields;refine wpAny_bind (wpAny_bind (wpAny_field hos hds (x:=vl) rfl (wpAny_bind (wpAny_field hos hds (x:=vu) rfl (wpAny_bind (wpAny_field hos hds (x:=.none) rfl (wpAny_pure ?_)))))));refine wpAny_bind (slicePart_none ?_);show wpAny _ _ (if((1:Int)==0)=true then _ else _) _ _ s;rw[if_neg (by decide)];refine wpAny_bind (sL pl (wpAny_bind (sL pu (wpAny_bind (wpAny_pure ?_)))));show wpAny _ _ (match Builtin.Slice.sliceAdjust lo hi 1 (n:Int) with|(lo,hi)=>pure (lo,(1:Int),Builtin.Slice.slicePlaces lo hi 1)) _ _ s;rw[yH lo hi n];show wpAny _ _ (pure (((sIx n 0 lo:Nat):Int),(1:Int),Builtin.Slice.slicePlaces ((sIx n 0 lo:Nat):Int) ((sIx n n hi:Nat):Int) 1)) _ _ s;rw[zy];exact wpAny_pure h
theorem El (xs:Array Value)(i k:Nat):((List.range k).filterMap fun(m:Nat)=>xs[((i:Int)+(m:Int)*1).toNat]?).toArray=((xs.toList.drop i).take k).toArray:=by
 have e:(fun(m:Nat)=>xs[((i:Int)+(m:Int)*1).toNat]?)=fun m=>xs[i+m]?:=by
  funext m;have:((i:Int)+(m:Int)*1).toNat=i+m:=by omega
  rw[this]
 rw[e];have:=pick_run xs i k;rw[List.filterMap_map] at this;have e2:((fun x=>xs[x]?) ∘ fun x=>i+x)=fun m=>xs[i+m]?:=rfl
 rw[e2] at this;rw[this]
theorem getItem_tuple_cut {t sl:Addr}{items:Array Value}{vl vu:Value}{lo hi:Option Int}(ht:IsTup s.heap t items)(hs:s.heap.IsSliceOf sl vl vu .none)(pl:IsPart vl lo)(pu:IsPart vu hi)
  (hw:¬(sIx items.size 0 lo=0∧sIx items.size items.size hi=items.size))
  (h:Q (.ref s.heap.objs.size) {s with heap:=s.heap.push {cls:=.type "tuple",data:=.seq ((items.toList.drop (sIx items.size 0 lo)).take (sIx items.size items.size hi-sIx items.size 0 lo)).toArray}})
  (hsz:items.size≤sizeLine):wpAny (model prog w) A (getItem (.ref t) (.ref sl)) Q E s:=by
 have htake:sizeOk (.seq ((items.toList.drop (sIx items.size 0 lo)).take (sIx items.size items.size hi-sIx items.size 0 lo)).toArray):=by
  show((items.toList.drop (sIx items.size 0 lo)).take (sIx items.size items.size hi-sIx items.size 0 lo)).toArray.size≤sizeLine;rw[List.size_toArray,List.length_take,List.length_drop,Array.length_toList];omega
 have hj:sIx items.size items.size hi≤items.size:=KS _ _ (Nat.le_refl _) hi;obtain⟨os,hos,hcs,hds⟩:=id hs;have hTs:s.TypeIs (.ref sl) "slice":=⟨os,hos,hcs⟩;unfold getItem
 try with_reducible refine wpAny_holding ?_
 first|refine wpAny_bind (wpAny_pure ?_)|skip
 refine wpAny_bind (wpAny_sequenceKey ht.typeIs (by decide) ?_);refine wpAny_bind (wpAny_callSpecial?_slot (name:=Str.ofString "__getitem__") ht.typeIs PyProof.Rows.slot_tuple_getitem
  (wpAny_call_entry PyProof.Rows.slot_tuple_getitem ht.typeIs entry_tuple_getitem ?_ (args_tuple_getitem _ _)))
 show wpAny _ _ (Builtin.Tuple.tupleItemsOf (.ref t) >>= _) _ _ s;refine wpAny_bind (tupleItemsOf_ ht ?_);refine wpAny_bind (wpAny_typeOf hTs ?_);rw[if_pos (by decide)];refine wpAny_bind (sliceApplied_gen hs pl pu ?_);have hno:¬((((sIx items.size 0 lo:Nat):Int)==0&&(1:Int)==1&&(sIx items.size items.size hi-sIx items.size 0 lo)==items.size)=true):=by
  intro q;rw[Bool.and_eq_true,Bool.and_eq_true] at q;have q1:((sIx items.size 0 lo:Nat):Int)=0:=eq_of_beq q.1.1;have q2:sIx items.size items.size hi-sIx items.size 0 lo=items.size:=eq_of_beq q.2;exact hw ⟨by omega,by omega⟩
 show wpAny _ _ (if(((sIx items.size 0 lo:Nat):Int)==0&&(1:Int)==1&&(sIx items.size items.size hi-sIx items.size 0 lo)==items.size)=true then _ else _) _ _ s;rw[if_neg hno,El]
 first
  | exact wpAny_bind (m:=Builtin.Tuple.tupleExact _) (wpAny_newObj_type (wpAny_pure ⟨_,rfl,wpAny_pure h⟩) htake)
  | exact wpAny_bind (m:=Builtin.Tuple.tupleExact _) (wpAny_newObj_type (wpAny_bind (wpAny_pure (wpAny_pure ⟨_,rfl,wpAny_pure h⟩))) htake)
  | exact wpAny_bind (wpAny_bind (m:=Builtin.Tuple.tupleExact _) (wpAny_newObj_type (wpAny_pure (wpAny_pure ⟨_,rfl,wpAny_pure h⟩)) htake))
  | exact wpAny_bind (wpAny_bind (m:=Builtin.Tuple.tupleExact _) (wpAny_newObj_type (wpAny_pure ⟨_,rfl,wpAny_pure h⟩) htake))
end
end HT
namespace L2
open PySem PySem.Spec PyProof.Rows List
abbrev TO:=St→Hp→(Option Int→Hp→Prop)→Prop
def PO (X:Cx)(e:Option Expr)(t:TO):Prop:=
 ∀(ah:List (Addr×Obj)) (s:Shared) (σ:St) (H:Hp) (Q:Option Int→Hp→Prop),Inv X ah σ H s→t σ H Q→
  wpAny (model X.prog X.w) X.A (evalPart e X.env) (fun u s'=>∃o H',Inv X ah σ H' s'∧IsPart u o∧Q o H') X.xe s
def Fj:TO:=fun _ H Q=>Q none H
def NN (t:TE):TO:=fun σ H Q=>t σ H fun x H1=>∃i,x=.int i∧Q (some i) H1
theorem sT {ns:List Int}:∀{us:List Value},bu (ns.map V.int) us→IntsAre us ns:=by
 induction ns with
 | nil=>intro us r;rw[map_nil] at r;cases r;exact .nil
 | cons n ns ih=>
  intro us r;rw[map_cons] at r;cases r with
  | cons r1 r2=>
   obtain⟨t,e⟩:=r1;subst e;exact .cons n t (ih r2)
variable{xs:List V}{us:List Value}
section
variable {X:Cx}{e:Expr}{te:TE}{lo hi:Option Expr}{tl th:TO}{pos p2:Pos}
theorem Fd:PO X none Fj:=by
 intro ah s σ H Q I h;rw[evalPart_none];exact wpAny_pure ⟨none,H,I,.none,h⟩
theorem G9 (h:PE X e te):PO X (some e) (NN te):=by
 intro ah s σ H Q I hw;rw[evalPart_some];refine cZ (h ah s σ H _ I hw) fun u s1 ⟨x,H1,I1,r1,q1⟩=>?_
 obtain⟨i,rfl,q⟩:=q1;obtain⟨t,rfl⟩:=r1;exact⟨some i,H1,I1,.int i t,q⟩
def Oo (X:Cx)(r:V→Option Int→Option Int→Hp→VK→Prop):Prop:=
 ∀(ah:List (Addr×Obj)) (s:Shared) (σ:St) (H:Hp) (x:V) (v vl vu:Value) (lo hi:Option Int) (sl:Addr) (Q:VK),Inv X ah σ H s→bC x v→s.heap.IsSliceOf sl vl vu .none→IsPart vl lo→IsPart vu hi→r x lo hi H Q→
  ∃T id,typeLookup (.type T) "__getitem__"=pure (some (.builtin id))∧s.TypeIs v T∧wpAny (model X.prog X.w) X.A (getItem v (.ref sl)) (EP X ah σ Q) X.xe s
def QR (r:V→Option Int→Option Int→Hp→VK→Prop)(te:TE)(tl th:TO):TE:=fun σ H Q=>te σ H fun x H1=>tl σ H1 fun l H2=>th σ H2 fun u H3=>r x l u H3 Q
theorem CW {r:V→Option Int→Option Int→Hp→VK→Prop}(hr:Oo X r)(he:PE X e te)(hl:PO X lo tl)(hu:PO X hi th):PE X (.Subscript e (.Slice lo hi none p2) pos) (QR r te tl th):=by
 intro ah s σ H Q I h;refine Subscript_ (cZ (he ah s σ H _ I h) fun v s1 ⟨x,H1,I1,r1,q1⟩=>?_);refine wpAny_Slice (cZ (hl ah s1 σ H1 _ I1 q1) fun vl s2 ⟨l,H2,I2,pl,q2⟩=>cZ (hu ah s2 σ H2 _ I2 q2) fun vu s3 ⟨u,H3,I3,pu,q3⟩=>?_);rw[evalPart_none];refine wpAny_pure ?_;have I4:Inv X ah σ H3 {s3 with heap:=s3.heap.push {cls:=.type "slice",data:=.fields #[vl,vu,.none]}}:=I3.kept (t':=s3.toks) fun b ob q=>Heap.get?_push_of_some _ q
 obtain⟨T,id,hT,ht,hg⟩:=hr ah {s3 with heap:=s3.heap.push {cls:=.type "slice",data:=.fields #[vl,vu,.none]}} σ H3 x v vl vu l u s3.heap.objs.size Q I4 r1 (Heap.IsSliceOf.new ..) pl pu q3;show wpAny (model X.prog X.w) X.A (subscriptTail e (.Slice lo hi none p2) v (.ref s3.heap.objs.size)) (EP X ah σ Q) X.xe {s3 with heap:=s3.heap.push {cls:=.type "slice",data:=.fields #[vl,vu,.none]}};exact tail_any (ops:=[.ref s3.heap.objs.size,v]) ht hT hg (by with_unfolding_all rfl)
def ym (xs:List V)(lo hi:Option Int):List V:=(xs.drop (HT.sIx xs.length 0 lo)).take (HT.sIx xs.length xs.length hi-HT.sIx xs.length 0 lo)
theorem qF (xs:List V)(lo hi:Option Int):(ym xs lo hi).length≤xs.length:=by
 unfold ym;rw[length_take,length_drop];omega
def OK (K:W.Frag):V→Option Int→Option Int→Hp→VK→Prop:=fun x lo hi H Q=>∃a xs,x=.ref a∧qW K H a xs∧
 ¬(HT.sIx xs.length 0 lo=0∧HT.sIx xs.length xs.length hi=xs.length)∧∀p,H p=none→Q (.ref p) (cR H p (.tup (ym xs lo hi)))
theorem Kp:Oo X (OK X.K):=by
 intro ah s σ H x v vl vu lo hi sl Q I rx hs pl pu h;obtain⟨a,xs,rfl,hx,hw,q⟩:=h;cases rx;obtain⟨its,r,ht,hz⟩:=I.tuple hx;have hlen:its.toArray.size=xs.length:=by rw[size_toArray];exact r.length.symm
 refine⟨"tuple",_,PyProof.Rows.slot_tuple_getitem.lookup,ht.typeIs,?_⟩;refine HT.getItem_tuple_cut ht hs pl pu (by rw[hlen];exact hw) ?_ (by rw[hlen];exact hz);rw[hlen];refine⟨.ref s.heap.objs.size,_,I.laid (t':=s.toks) (o:=.tup (ym xs lo hi)) (fun b ob q=>Heap.get?_push_of_some _ q) (Nat.le_refl _) ?_,rfl,q _ (I.hok.fresh (Nat.le_refl _))⟩;exact⟨Nat.le_trans (qF xs lo hi) hz,_,(r.drop (HT.sIx xs.length 0 lo)).take (HT.sIx xs.length xs.length hi-HT.sIx xs.length 0 lo),IsTup.new _ _⟩
def MG (K:W.Frag):R2:=fun x y H Q=>∃a b xs ys,x=.ref a∧y=.ref b∧qW K H a xs∧qW K H b ys∧xs≠[]∧xs.length+ys.length≤sizeLine∧
 (ys=[]→Q (.ref a) H)∧(ys≠[]→∀p,H p=none→Q (.ref p) (cR H p (.tup (xs++ys))))
theorem bu.nil_iff (r:bu xs us):us=[]↔xs=[]:=by
 cases r with
 | nil=>simp
 | cons _ _=>simp
theorem Fu:jB X (binaryOp .Add) (MG X.K):=by
 intro ah s σ H x y v u Q I rx ry h;obtain⟨a,b,xs,ys,rfl,rfl,ha,hb,hx,hz,q1,q2⟩:=h;cases rx;cases ry;obtain⟨its,r1,p1,_⟩:=I.tuple ha;obtain⟨its2,r2,p2,_⟩:=I.tuple hb;refine HT.cat_tup p1 p2 (fun z=>hx (r1.nil_iff.mp z)) (fun z=>⟨.ref a,H,I,rfl,q1 (r2.nil_iff.mp z)⟩) (fun z=>?_) (by rw[←r1.length,←r2.length];exact hz);refine⟨.ref s.heap.objs.size,_,I.laid (t':=s.toks) (o:=.tup (xs++ys)) (fun b ob q=>Heap.get?_push_of_some _ q) (Nat.le_refl _) ?_,rfl,q2 (fun w=>z (r2.nil_iff.mpr w)) _ (I.hok.fresh (Nat.le_refl _))⟩;exact⟨by rw[length_append];exact hz,_,r1.append r2,IsTup.new _ _⟩
end
def EO (n:Nat)(i:Int):Option Nat:=if 0≤i then(if i<n then some i.toNat else none) else if -(n:Int)≤i then some (i+n).toNat else none
def ny {α:Type}(xs:List α)(i:Int):Option α:=(EO xs.length i).bind fun j=>xs[j]?
theorem Ag {n:Nat}{i:Int}{j:Nat}(h:EO n i=some j):seqIndex? i n=some j∧j<n∧-(n:Int)≤i∧i<n:=by
 unfold EO at h
 by_cases h0:0≤i
 ·rw[if_pos h0] at h
  by_cases h1:i<n
  ·rw[if_pos h1] at h;have e:i.toNat=j:=Option.some.inj h;exact⟨by rw[seqIndex_of h0 h1,e],by omega,by omega,h1⟩
  ·rw[if_neg h1] at h;cases h
 ·rw[if_neg h0] at h
  by_cases h1:-(n:Int)≤i
  ·rw[if_pos h1] at h;have e:(i+n).toNat=j:=Option.some.inj h;exact⟨by rw[seqIndex_neg (by omega) h1,e],by omega,h1,by omega⟩
  ·rw[if_neg h1] at h;cases h
theorem AH {α:Type}{xs:List α}{i:Int}{v:α}(h:ny xs i=some v):∃j,seqIndex? i xs.length=some j∧xs[j]?=some v∧j<xs.length∧-(xs.length:Int)≤i∧i<xs.length:=by
 unfold ny at h;cases e:EO xs.length i with
 | none=>rw[e] at h;cases h
 | some j=>
  rw[e] at h;obtain⟨h1,h2,h3,h4⟩:=Ag e;exact⟨j,h1,h,h2,h3,h4⟩
theorem jX {α:Type}{xs:List α}{j:Nat}{v:α}(h:xs[j]?=some v):ny xs (j:Int)=some v:=by
 have hj:j<xs.length:=(List.getElem?_eq_some_iff.mp h).1;have e:EO xs.length (j:Int)=some j:=by
  unfold EO;rw[if_pos (by omega),if_pos (by omega)];simp
 unfold ny;rw[e];exact h
def wm (b:Expr):Prop:=∀o i,subscripted b false o i=operate [o,i] (getItem o i)
def Oa (X:Cx)(r:R2):Prop:=
 ∀(value slice:Expr) (ah:List (Addr×Obj)) (s:Shared) (σ:St) (H:Hp) (x y:V) (v u:Value) (Q:VK),Inv X ah σ H s→bC x v→bC y u→r x y H Q→
  subscripted slice false v u=operate [v,u] (getItem v u)→wpAny (model X.prog X.w) X.A (subscriptTail value slice v u) (EP X ah σ Q) X.xe s
def QN (X:Cx)(id:String)(r:V→List V→Hp→VK→Prop):Prop:=
 ∀(ah:List (Addr×Obj)) (s:Shared) (σ:St) (H:Hp) (x:V) (xs:List V) (v:Value) (us:List Value) (Q:VK),Inv X ah σ H s→bC x v→bu xs us→r x xs H Q→
  wpAny (model X.prog X.w) X.A (call (.builtin id) (v::us)) (EP X ah σ Q) X.xe s
variable{ah:List (Addr×Obj)}{σ:St}{H:Hp}{s:Shared}
section
variable {X:Cx}{a b:Expr}{ta tb:TE}{pos:Pos}
theorem NR {r:R2}(hr:Oa X r)(ha:PE X a ta)(hb:PE X b tb)(hs:wm b):PE X (.Subscript a b pos) (Lr r ta tb):=by
 intro ah s σ H Q I h;exact Subscript_ (La ha hb I h fun v u s2 x y H2 I2 rx ry q=>hr a b ah s2 σ H2 x y v u Q I2 rx ry q (hs _ _))
def Pz (K:W.Frag):R2:=fun x y H Q=>∃p xs i v,x=.ref p∧y=.int i∧pc K H p xs∧ny xs i=some v∧Q v H
def O5 (K:W.Frag):R2:=fun x y H Q=>∃p xs i v,x=.ref p∧y=.int i∧qW K H p xs∧ny xs i=some v∧Q v H
theorem Gh:Oa X (Pz X.K):=by
 intro value slice ah s σ H x y v u Q I rx ry h hs;obtain⟨p,xs,i,z,rfl,rfl,hq,he,q⟩:=h;cases rx;obtain⟨t,rfl⟩:=ry;obtain⟨its,r,pl,hz⟩:=I.list hq;obtain⟨j,h1,h2,h3,h4,h5⟩:=AH he;obtain⟨w,ew,rw'⟩:=r.get h2;have hl:=r.length;have hn:=p9;have fin:EP X ah σ Q w s:=⟨z,H,I,rw',q⟩
 by_cases h0:0≤i
 ·have hj:i.toNat=j:=by
   rw[seqIndex_of h0 h5] at h1;exact Option.some.inj h1
  exact item_listR pl.isList h0 (by omega) (by rw[hj];simpa using ew) fin hs
 ·have hj:(i+(its.toArray.size:Int)).toNat=j:=by
   rw[seqIndex_neg (by omega) h4] at h1;rw[size_toArray,←hl];exact Option.some.inj h1
  exact subscriptTail_builtinR (x:=w) pl.isList.typeIs slot_list_getitem.lookup
   (wpAny_getItem_list_neg (Q:=fun r s'=>r=w∧EP X ah σ Q r s') pl.isList (by omega) (by rw[size_toArray] <;> omega) (by omega) (by rw[hj];simpa using ew) ⟨rfl,fin⟩) hs
theorem Le:Oa X (O5 X.K):=by
 intro value slice ah s σ H x y v u Q I rx ry h hs;obtain⟨p,xs,i,z,rfl,rfl,hq,he,q⟩:=h;cases rx;obtain⟨t,rfl⟩:=ry;obtain⟨its,r,pl,hz⟩:=I.tuple hq;obtain⟨j,h1,h2,h3,h4,h5⟩:=AH he;obtain⟨w,ew,rw'⟩:=r.get h2;have hl:=r.length;have hn:=p9;have fin:EP X ah σ Q w s:=⟨z,H,I,rw',q⟩;exact subscriptTail_builtinR (x:=w) pl.typeIs slot_tuple_getitem.lookup
  (getItem_tuple (j:=j) (Q:=fun r s'=>r=w∧EP X ah σ Q r s') pl (by omega) (by omega) (by rw[size_toArray,←hl];exact h1) (by simpa using ew) ⟨rfl,fin⟩) hs
theorem zW (its:List Value)(n j:Nat)(u:Value):Obj.mapSeq (·.setIfInBounds j u) {cls:=.type "list",data:=.seq its.toArray n}={cls:=.type "list",data:=.seq (its.set j u).toArray n}:=by
 simp[Obj.mapSeq]
theorem Inv.lst {p:Addr}(I:Inv X ah σ H s)(h:H p=some (.lst xs)) :
  ∃(its:List Value) (n:Nat),bu xs its∧s.heap.get? p=some {cls:=.type "list",data:=.seq its.toArray n}∧xs.length≤sizeLine:=by
 obtain⟨z,its,n,r,e⟩:=I.hok p _ h;exact⟨its,n,r,e,z⟩
theorem Inv.lstUpd {p:Addr}{ys:List V}{its its':List Value}{n n':Nat}{f:Obj→Obj}(I:Inv X ah σ H s)(h:H p=some (.lst xs))
  (ho:s.heap.get? p=some {cls:=.type "list",data:=.seq its.toArray n}) (hf:f {cls:=.type "list",data:=.seq its.toArray n}={cls:=.type "list",data:=.seq its'.toArray n'}) (r:bu ys its') (hz:ys.length≤sizeLine) (t:Nat) :
  Inv X ah σ (cR H p (.lst ys)) {s with heap:=s.heap.update p f,toks:=t}:=by
 have e:(s.heap.update p f).get? p=some {cls:=.type "list",data:=.seq its'.toArray n'}:=by
  rw[Heap.get?_update_self f ho (by rw[hf] <;> rfl),hf]
 refine I.write (x:=p) (e:=p) (by rw[h];trivial) (.inl rfl) (fun b u hb q=>(Heap.get?_update_other _ _ (Ne.symm hb)).trans q) ⟨_,e⟩ ?_;exact⟨hz,its',n',r,e⟩
def Nf:V→V→V→Hp→(Hp→Prop)→Prop:=fun o i v H Q=>∃p xs k j,o=.ref p∧i=.int k∧H p=some (.lst xs)∧EO xs.length k=some j∧Q (cR H p (.lst (xs.set j v)))
theorem CK:Lu X Nf:=by
 intro ah s σ H o i v ov iv u Q I ro ri rv h;obtain⟨p,xs,k,j,rfl,rfl,hp,hj,q⟩:=h;cases ro;obtain⟨t,rfl⟩:=ri;obtain⟨its,n,r,ho,hz⟩:=I.lst hp;obtain⟨h1,h2,h3,h4⟩:=Ag hj;have hl:=r.length;have hn:=p9;have I':Inv X ah σ (cR H p (.lst (xs.set j v))) {s with heap:=s.heap.update p (Obj.mapSeq (·.setIfInBounds j u))}:=
  I.lstUpd hp ho (zW its n j u) (r.set rv j) (by rw[length_set];exact hz) s.toks
 by_cases h0:0≤k
 ·have hk:k.toNat=j:=by
   rw[seqIndex_of h0 h4] at h1;exact Option.some.inj h1
  exact W.ki_setAt ho h0 (by omega) (by rw[size_toArray,←hl];exact h4) (by rw[hk];exact⟨_,I',q⟩)
 ·have hk:(k+(its.toArray.size:Int)).toNat=j:=by
   rw[seqIndex_neg (by omega) h3] at h1;rw[size_toArray,←hl];exact Option.some.inj h1
  exact W.ki_setBack ho (by omega) (by rw[size_toArray,←hl];exact h3) (by omega) (by rw[hk];exact⟨_,I',q⟩)
theorem vA (lo hi:Option Int)(n:Nat):(sliceBounds lo hi none n).1=((HT.sIx n 0 lo:Nat):Int)∧(sliceBounds lo hi none n).2.1=((HT.sIx n n hi:Nat):Int)∧(sliceBounds lo hi none n).2.2=1:=by
 refine⟨?_,?_,rfl⟩
 ·cases lo with
  | none=>simp[sliceBounds,HT.sIx]
  | some i=>
   simp only[sliceBounds,HT.sIx,Option.getD_none,show(1:Int)>0 by decide,if_true]
   by_cases h:i<0
   ·simp only[h,if_true] <;> omega
   ·simp only[h,if_false] <;> omega
 ·cases hi with
  | none=>simp[sliceBounds,HT.sIx]
  | some i=>
   simp only[sliceBounds,HT.sIx,Option.getD_none,show(1:Int)>0 by decide,if_true]
   by_cases h:i<0
   ·simp only[h,if_true] <;> omega
   ·simp only[h,if_false] <;> omega
theorem um (its:List Value)(lo hi:Option Int):slicePick its.toArray lo hi none=((its.drop (HT.sIx its.length 0 lo)).take (HT.sIx its.length its.length hi-HT.sIx its.length 0 lo)).toArray:=by
 obtain⟨h1,h2,h3⟩:=vA lo hi its.toArray.size;unfold slicePick;rw[h1,h2,h3];simp only[sliceRange_one,pick_run,size_toArray] <;> rfl
def P0 (K:W.Frag):V→Option Int→Option Int→Hp→VK→Prop:=fun x lo hi H Q=>∃a xs,x=.ref a∧pc K H a xs∧∀p,H p=none→Q (.ref p) (cR H p (.lst (ym xs lo hi)))
theorem vO:Oo X (P0 X.K):=by
 intro ah s σ H x v vl vu lo hi sl Q I rx hs pl pu h;obtain⟨a,xs,rfl,hx,q⟩:=h;cases rx;obtain⟨its,r,ht,hz⟩:=I.list hx;have hlen:=r.length;refine⟨"list",_,slot_list_getitem.lookup,ht.isList.typeIs,?_⟩;refine wpAny_getItem_list_slice ht.isList hs pl pu .none (by simp) ?_ (by rw[size_toArray] <;> omega);rw[um,←hlen];refine⟨.ref s.heap.objs.size,_,I.laid (t':=s.toks) (o:=.lst (ym xs lo hi)) (fun b ob q=>Heap.get?_push_of_some _ q) (Nat.le_refl _) ?_,rfl,q _ (I.hok.fresh (Nat.le_refl _))⟩;exact⟨Nat.le_trans (qF xs lo hi) hz,_,0,(r.drop (HT.sIx xs.length 0 lo)).take (HT.sIx xs.length xs.length hi-HT.sIx xs.length 0 lo),Heap.get?_push_size _ rfl⟩
def nF:V→Bool
 | .non=>true
 | .bl _=>true
 | .int _=>true
 | .str _=>true
 | _=>false
def ES:V→V→Bool
 | .non,.non=>true
 | .bl a,.bl b=>a==b
 | .bl a,.int b=>(if a then 1 else 0)==b
 | .int a,.bl b=>a==(if b then 1 else 0)
 | .int a,.int b=>a==b
 | .str a,.str b=>a==b
 | _,_=>false
theorem K3 {A:Around}{y x:V}{u v:Value}(ry:bC y u)(rx:bC x v)(fy:nF y=true)(fx:nF x=true):SeqAt.EqAt A s u v (ES y x):=by
 cases y with
 | non=>
  cases ry;cases x with
  | non=>cases rx;exact SeqAt.EqAt.same _
  | bl b=>cases rx;exact SeqAt.EqAt.none_bool b
  | int b=>obtain⟨t,rfl⟩:=rx;exact SeqAt.EqAt.none_int b t
  | str b=>obtain⟨t,rfl⟩:=rx;exact SeqAt.EqAt.none_str b t
  | _=>exact absurd (show false=true from fx) Bool.false_ne_true
 | bl a=>
  cases ry;cases x with
  | non=>cases rx;exact SeqAt.EqAt.bool_none a
  | bl b=>cases rx;exact SeqAt.EqAt.bool_bool a b
  | int b=>obtain⟨t,rfl⟩:=rx;exact SeqAt.EqAt.bool_int a b t
  | str b=>obtain⟨t,rfl⟩:=rx;exact SeqAt.EqAt.bool_str a b t
  | _=>exact absurd (show false=true from fx) Bool.false_ne_true
 | int a=>
  obtain⟨t',rfl⟩:=ry;cases x with
  | non=>cases rx;exact SeqAt.EqAt.int_none a t'
  | bl b=>cases rx;exact SeqAt.EqAt.int_bool a t' b
  | int b=>obtain⟨t,rfl⟩:=rx;exact SeqAt.EqAt.int_int a t' b t
  | str b=>obtain⟨t,rfl⟩:=rx;exact SeqAt.EqAt.int_str a t' b t
  | _=>exact absurd (show false=true from fx) Bool.false_ne_true
 | str a=>
  obtain⟨t',rfl⟩:=ry;cases x with
  | non=>cases rx;exact SeqAt.EqAt.str_none a t'
  | bl b=>cases rx;exact SeqAt.EqAt.str_bool a t' b
  | int b=>obtain⟨t,rfl⟩:=rx;exact SeqAt.EqAt.str_int a t' b t
  | str b=>obtain⟨t,rfl⟩:=rx;exact SeqAt.EqAt.str_str a t' b t
  | _=>exact absurd (show false=true from fx) Bool.false_ne_true
 | _=>exact absurd (show false=true from fy) Bool.false_ne_true
def zF (x:V)(u:Value):Bool:=match u with
 | .none=>ES .non x
 | .bool b=>ES (.bl b) x
 | .int i _=>ES (.int i) x
 | .str z _=>ES (.str z) x
 | _=>false
theorem EB {x y:V}{u:Value}(r:bC y u)(f:nF y=true):zF x u=ES y x:=by
 cases y with
 | non=>cases r;rfl
 | bl b=>cases r;rfl
 | int i=>obtain⟨t,rfl⟩:=r;rfl
 | str z=>obtain⟨t,rfl⟩:=r;rfl
 | _=>exact absurd (show false=true from f) Bool.false_ne_true
theorem oB {x:V}:∀{xs:List V} {us:List Value},bu xs us→xs.all nF=true→us.any (zF x)=xs.any fun y=>ES y x
 | _,_,.nil,_=>rfl
 | y::xs,u::us,.cons r t,f=>by
  rw[all_cons,Bool.and_eq_true] at f;rw[any_cons,any_cons,EB r f.1,oB t f.2]
theorem mG {A:Around}{s:Shared}{x:V}{v:Value}(rx:bC x v)(fx:nF x=true):∀{xs:List V} {us:List Value},bu xs us→xs.all nF=true→∀u∈us,SeqAt.EqAt A s u v (zF x u)
 | _,_,.nil,_=>fun u hu=>by cases hu
 | y::xs,u::us,.cons r t,f=>fun u' hu=>by
  rw[all_cons,Bool.and_eq_true] at f;rcases mem_cons.mp hu with rfl|hu
  ·rw[EB r f.1];exact K3 r rx f.1 fx
  ·exact mG rx fx t f.2 u' hu
def Od (x:V)(xs:List V):Bool:=xs.any fun y=>ES y x
def Qk (K:W.Frag)(neg:Bool):R2:=fun x y H Q=>∃p xs,y=.ref p∧(pc K H p xs∨qW K H p xs)∧nF x=true∧xs.all nF=true∧Q (.bl (if neg then !Od x xs else Od x xs)) H
theorem Bi:jB X (compareOp .In) (Qk X.K false):=by
 intro ah s σ H x y v u Q I rx ry h;obtain⟨p,xs,rfl,hq,fx,fs,q⟩:=h;cases ry;rcases hq with hq|hq
 ·obtain⟨its,r,pl,hz⟩:=I.list hq;refine SeqAt.in_listAt (zF x) pl.isList (fun w hw=>mG rx fx r fs w (by simpa using hw)) ⟨.bl _,H,I,rfl,?_⟩;rw[show its.toArray.any (zF x)=its.any (zF x) by simp,oB r fs];exact q
 ·obtain⟨its,r,pl,hz⟩:=I.tuple hq;refine SeqAt.in_tupleAt (zF x) pl (fun w hw=>mG rx fx r fs w (by simpa using hw)) ⟨.bl _,H,I,rfl,?_⟩;rw[show its.toArray.any (zF x)=its.any (zF x) by simp,oB r fs];exact q
theorem vH:jB X (compareOp .NotIn) (Qk X.K true):=by
 intro ah s σ H x y v u Q I rx ry h;obtain⟨p,xs,rfl,hq,fx,fs,q⟩:=h;cases ry;rcases hq with hq|hq
 ·obtain⟨its,r,pl,hz⟩:=I.list hq;refine SeqAt.notIn_listAt (zF x) pl.isList (fun w hw=>mG rx fx r fs w (by simpa using hw)) ⟨.bl _,H,I,rfl,?_⟩;rw[show its.toArray.any (zF x)=its.any (zF x) by simp,oB r fs];exact q
 ·obtain⟨its,r,pl,hz⟩:=I.tuple hq;refine SeqAt.notIn_tupleAt (zF x) pl (fun w hw=>mG rx fx r fs w (by simpa using hw)) ⟨.bl _,H,I,rfl,?_⟩;rw[show its.toArray.any (zF x)=its.any (zF x) by simp,oB r fs];exact q
theorem wF:eO X (.builtin "len") (fun xs H Q=>∃p ys,xs=[.ref p]∧(pc X.K H p ys∨qW X.K H p ys)∧Q (.int ys.length) H):=by
 intro ah s σ H xs us Q I r h;obtain⟨p,ys,rfl,hq,q⟩:=h;obtain⟨u,rfl,rx⟩:=oK r;cases rx;have hn:=p9;rcases hq with hq|hq
 ·obtain⟨its,r',pl,hz⟩:=I.list hq;have hlen:=r'.length;exact Calls.call_len_list pl.isList (by simp only[size_toArray] <;> omega) ⟨.int ys.length,H,I.tok _,⟨s.toks+1,by rw[size_toArray,hlen]⟩,q⟩
 ·obtain⟨its,r',pl,hz⟩:=I.tuple hq;have hlen:=r'.length;exact len_tuple pl (by simp only[size_toArray] <;> omega) ⟨.int ys.length,H,I.tok _,⟨s.toks+1,by rw[size_toArray,hlen]⟩,q⟩
theorem vE:eO X (.builtin "len") (fun xs H Q=>∃z,xs=[.str z]∧z.length≤sizeLine∧Q (.int z.length) H):=by
 intro ah s σ H xs us Q I r h;obtain⟨z,rfl,hz,q⟩:=h;obtain⟨u,rfl,t,rfl⟩:=oK r;have hn:=p9;exact len_str (by omega) ⟨.int z.length,H,I.tok _,⟨_,rfl⟩,q⟩
theorem vj:eO X (.type "list") (fun xs H Q=>∃p ys,xs=[.ref p]∧(pc X.K H p ys∨qW X.K H p ys)∧∀l,H l=none→Q (.ref l) (cR H l (.lst ys))):=by
 intro ah s σ H xs us Q I r h;obtain⟨p,ys,rfl,hq,q⟩:=h;obtain⟨u,rfl,rx⟩:=oK r;cases rx;have fin:∀(its:List Value),bu ys its→ys.length≤sizeLine→∀(h':Heap) (c':Nat),(∀b o',s.heap.get? b=some o'→h'.get? b=some o')→
   h'.get? s.heap.objs.size=some {cls:=.type "list",dict:=none,data:=.seq its.toArray c',slots:=#[]}→EP X ah σ Q (.ref s.heap.objs.size) {s with heap:=h'}:=fun its r' hz h' c' kp e=>
  ⟨.ref s.heap.objs.size,_,I.laid (t':=s.toks) kp (Nat.le_refl _) (show dq X.prog X.w _ h' _ (.lst ys) from⟨hz,its,c',r',e⟩),rfl,q _ (I.hok.fresh (Nat.le_refl _))⟩
 rcases hq with hq|hq
 ·obtain⟨its,r',pl,hz⟩:=I.list hq;have hlen:=r'.length;obtain⟨o,ho,hc,n,hd⟩:=pl.isList;exact call_list_seq p (.inl rfl) ho hc hd (fun h' c' kp e=>fin its r' hz h' c' kp e) (by simp only[size_toArray] <;> omega)
 ·obtain⟨its,r',pl,hz⟩:=I.tuple hq;have hlen:=r'.length;obtain⟨o,ho,hc,n,hd⟩:=pl;exact call_list_seq p (.inr rfl) ho hc hd (fun h' c' kp e=>fin its r' hz h' c' kp e) (by simp only[size_toArray] <;> omega)
theorem iN:eO X (.type "tuple") (fun xs H Q=>∃p ys,xs=[.ref p]∧((pc X.K H p ys∧∀l,H l=none→Q (.ref l) (cR H l (.tup ys)))∨(qW X.K H p ys∧Q (.ref p) H))):=by
 intro ah s σ H xs us Q I r h;obtain⟨p,ys,rfl,h⟩:=h;obtain⟨u,rfl,rx⟩:=oK r;cases rx;rcases h with⟨hq,q⟩|⟨hq,q⟩
 ·obtain⟨its,r',pl,hz⟩:=I.list hq;have hlen:=r'.length;refine call_tuple_list pl.isList (fun h' kp=>?_) (by simp only[size_toArray] <;> omega);have I1:Inv X ah σ H {s with heap:=h'}:=I.kept (t':=s.toks) kp;have I2:Inv X ah σ (cR H h'.objs.size (.tup ys)) {s with heap:=h'.push {cls:=.type "tuple",data:=.seq its.toArray}}:=
   I1.laid (t':=s.toks) (fun b o e=>Heap.get?_push_of_some _ e) (Nat.le_refl _) (show dq X.prog X.w _ _ _ (.tup ys) from⟨hz,its,r',IsTup.new _ _⟩)
  exact⟨.ref h'.objs.size,_,I2,rfl,q _ (I1.hok.fresh (Nat.le_refl _))⟩
 ·obtain⟨its,r',pl,hz⟩:=I.tuple hq;exact call_tuple_same pl ⟨.ref p,H,I,rfl,q⟩
def Qr (K:W.Frag)(T:String)(x:V)(H:Hp):Prop:=match x with
 | .str _=>T="str"
 | .int _=>T="int"
 | .ref p=>(T="list"∧∃xs,pc K H p xs)∨(T="tuple"∧∃o,K.lookup p=some o∧o.cls=.type "tuple"∧o.dict=none)∨
   (T="dict"∧((∃kvs,H p=some (.dK kvs))∨∃kvs,H p=some (.dT kvs)))∨(T="set"∧∃S n,H p=some (.set S n))
 | _=>False
theorem KG {T:String}{x:V}{v:Value}(I:Inv X ah σ H s)(r:bC x v)(ty:Qr X.K T x H) :
  s.TypeIs v T∧∀a,v=.ref a→∃ob,s.heap.get? a=some ob∧ob.dict=none:=by
 cases x with
 | str z=>
  obtain⟨t,rfl⟩:=r;cases (show T="str" from ty);exact⟨typeIs_str s z t,fun _ e=>nomatch e⟩
 | int i=>
  obtain⟨t,rfl⟩:=r;cases (show T="int" from ty);exact⟨typeIs_int s i t,fun _ e=>nomatch e⟩
 | ref p=>
  cases r;rcases ty with⟨rfl,xs,hq⟩|⟨rfl,o,hk,hc,hd⟩|⟨rfl,hk⟩|⟨rfl,S,n,hk⟩
  ·obtain⟨its,_,pl,_⟩:=I.list hq;refine⟨pl.isList.typeIs,fun a e=>?_⟩;cases e;obtain⟨o,n,e,c,hd,_⟩:=pl;exact⟨o,e,hd⟩
  ·refine⟨⟨o,I.kIn p o hk,hc⟩,fun a e=>?_⟩;cases e;exact⟨o,I.kIn _ o hk,hd⟩
  ·have z:∃o,s.heap.get? p=some o∧o.ExactDict:=by
    rcases hk with⟨kvs,hk⟩|⟨kvs,hk⟩
    ·obtain⟨_,_,_,_,o,_,_,e,ex,_⟩:=I.hok p _ hk;exact⟨o,e,ex⟩
    ·obtain⟨_,_,_,_,o,_,_,e,ex,_⟩:=I.hok p _ hk;exact⟨o,e,ex⟩
   obtain⟨o,e,ex⟩:=z;refine⟨⟨o,e,ex.1⟩,fun a e2=>?_⟩;cases e2;exact⟨o,e,ex.2.1⟩
  ·obtain⟨o,_,_,_,e,ex,_⟩:=I.hok p _ hk;refine⟨⟨o,e,ex.1⟩,fun a e2=>?_⟩;cases e2;exact⟨o,e,ex.2.1⟩
 | _=>exact False.elim ty
def QX (K:W.Frag)(T:String)(r:V→List V→Hp→VK→Prop)(to:TE)(t:TA):TE:=fun σ H Q=>to σ H fun x H1=>Qr K T x H1∧t σ H1 fun xs H2=>r x xs H2 Q
variable {o e:Expr}{es:List Expr}{to:TE}{t:TA}{name:Str}{apos cpos:Pos}{T id:String}{r:V→List V→Hp→VK→Prop}
theorem NT (pa:PlainAttrs T)(slot:Slot T name id)(hty:typeOf (.builtin id)=pure (.type "method_descriptor"))(hm:QN X id r)(ho:PE X o to)(ha:PA X (e::es) t)
  (hbase:attributeBase o name X.env (eval o X.env)=eval o X.env:=by rfl)
  (hfew:((backTo cpos (starEach (e::es) X.env)).all (fun x=>!x.1)&&(backToKw cpos (keywordEach [] X.env)).all (fun x=>x.1.isSome)
   && decide ((e::es).length+([]:List Keyword).length+(if([]:List Keyword).isEmpty then 0 else 1)<30))=true:=by rfl)
  (hline:(apos.endLine==cpos.line)=true:=by rfl) (hs:starEach (e::es) X.env=(false,eval e X.env)::starEach es X.env:=by rfl) (hplain:(backTo cpos (starEach es X.env)).any (·.1)=false:=by rfl) :
  PE X (.Call (.Attribute o name apos) (e::es) [] cpos) (QX X.K T r to t):=by
 intro ah s σ H Q I h;refine wpAny_Call_method_late hbase hfew hline rfl (cZ (ho ah s σ H _ I h) fun v s1 ⟨x,H1,I1,r1,ty,q1⟩=>?_);obtain⟨h1,h2⟩:=KG I1 r1 ty;refine⟨T,id,pa,slot,hty,h1,h2,?_⟩;have hA:=ha cpos ah s1 σ H1 _ I1 q1;rw[hs] at hA ⊢;refine Calls.callWith_builtin (by show(false||(backTo cpos (starEach es X.env)).any (·.1))=false;rw[hplain] <;> rfl) (Calls.evalArgs_plain ?_);exact cZ hA fun us s2 ⟨vs,H2,I2,r2,q2⟩=>hm ah s2 σ H2 x vs v us Q I2 r1 r2 q2
end
def QU (X:Cx)(id:String)(r:V→List V→Hp→VK→Prop):Prop:=
 ∀(ah:List (Addr×Obj)) (s:Shared) (σ:St) (H:Hp) (x:V) (xs:List V) (v:Value) (us:List Value) (Q:VK),Inv X ah σ H s→bC x v→bu xs us→r x xs H Q→
  wpAny (model X.prog X.w) X.A (call (.builtin id) (v::us)) (EP X ah σ Q) X.xe s
theorem bu.one:∀{x:V} {us:List Value},bu [x] us→∃u,us=[u]∧bC x u
 | _,_,.cons r .nil=>⟨_,rfl,r⟩
theorem bu.reverse (h:bu xs us):bu xs.reverse us.reverse:=by
 induction h with
 | nil=>exact .nil
 | cons r t ih=>rw[reverse_cons,reverse_cons];exact bu.append ih (.cons r .nil)
section
variable {X:Cx}{ah:List (Addr×Obj)}{σ:St}{H:Hp}{s:Shared}{l b:Addr}{xs ys zs:List V}
theorem Inv.lset {its its':List Value}{n:Nat}{f:Array Value→Array Value}{t':Nat}(I:Inv X ah σ H s)(hH:H l=some (.lst xs))
  (e:s.heap.get? l=some {cls:=.type "list",data:=.seq its.toArray n}) (hf:f its.toArray=its'.toArray) (hv:bu ys its') (hz:ys.length≤sizeLine) :
  Inv X ah σ (cR H l (.lst ys)) {s with heap:=s.heap.update l (Obj.mapSeq f),toks:=t'}:=by
 have q:=PySem.IsL.update e f;rw[hf] at q;refine I.write (x:=l) (e:=l) (by rw[hH];exact trivial) (.inl rfl) (fun b' u hb hu=>(Heap.get?_update_other s.heap (Obj.mapSeq f) (Ne.symm hb)).trans hu) ⟨_,q⟩ ?_;exact⟨hz,its',_,hv,q⟩
theorem Inv.lnew {its:List Value}{t':Nat}(I:Inv X ah σ H s)(hv:bu ys its)(hz:ys.length≤sizeLine) :
  Inv X ah σ (cR H s.heap.objs.size (.lst ys)) {s with heap:=s.heap.push {cls:=.type "list",data:=.seq its.toArray},toks:=t'}:=
 I.laid (fun _ _ q=>Heap.get?_push_of_some _ q) (Nat.le_refl _) ⟨hz,its,0,hv,Heap.get?_push_size _ rfl⟩
theorem Inv.fresh (I:Inv X ah σ H s):H s.heap.objs.size=none:=I.hok.fresh (Nat.le_refl _)
theorem Inv.lstM (I:Inv X ah σ H s)(hH:H l=some (.lst xs)):xs.length≤sizeLine∧∃(its:List Value) (n:Nat),bu xs its∧xs.length=its.length∧s.heap.get? l=some {cls:=.type "list",data:=.seq its.toArray n}:=by
 obtain⟨z,its,n,r,e⟩:=I.hok l _ hH;exact⟨z,its,n,r,r.length,e⟩
theorem De {n:Nat}(h:n≤sizeLine):Builtin.List.listTooLong n=false:=by
 unfold Builtin.List.listTooLong;exact decide_eq_false (by omega)
end
section
variable {X:Cx}
def FE:V→List V→Hp→VK→Prop:=fun x vs H Q=>∃l xs y,x=.ref l∧vs=[y]∧H l=some (.lst xs)∧xs.length<sizeLine∧Q .non (cR H l (.lst (xs++[y])))
theorem BB:QU X "list.append" FE:=by
 intro ah s σ H x vs v us Q I rx rv h;obtain⟨l,xs,y,rfl,rfl,hH,hz,q⟩:=h;cases rx;obtain⟨u,rfl,ru⟩:=rv.one;obtain⟨z,its,n,r,hl,e⟩:=I.lstM hH;refine call_meets F.slot_list_append ⟨_,e,rfl⟩ F.entry_list_append (F.args_list_append_2 _ _) (PySem.list_append l its.toArray n u (by rw[size_toArray];omega)) ⟨e,?_⟩;refine⟨.non,_,I.lset (its':=its++[u]) hH e (by simp) (r.append (.cons ru .nil)) ?_,rfl,q⟩;rw[length_append,length_singleton];omega
def OV:R2:=fun x y H Q=>∃l b xs zs,x=.ref l∧y=.ref b∧H l=some (.lst xs)∧H b=some (.lst zs)∧xs.length+zs.length≤sizeLine∧∀p,H p=none→Q (.ref p) (cR H p (.lst (xs++zs)))
theorem Kw:jB X (binaryOp .Add) OV:=by
 intro ah s σ H x y v u Q I rx ry h;obtain⟨l,b,xs,zs,rfl,rfl,hH,hB,hz,q⟩:=h;cases rx;cases ry;obtain⟨z,its,n,r,hl,e⟩:=I.lstM hH;obtain⟨z2,its2,n2,r2,hl2,e2⟩:=I.lstM hB;refine PySem.P.add_list e e2 ?_ (by rw[size_toArray,size_toArray];omega);have ea:its.toArray++its2.toArray=(its++its2).toArray:=by simp
 rw[ea];exact⟨.ref _,_,I.lnew (t':=s.toks) (r.append r2) (by rw[length_append];omega),rfl,q _ I.fresh⟩
end
end L2
namespace Att
open PySem PySem.W PySem.Calls PyProof.Rows
variable{P:Params}
theorem qQ {h:Heap}:∀(ns:List Int) (vs:List Value),WellAll P h vs (ns.map WData.int)→IntsAre vs ns:=by
 intro ns
 induction ns with
 | nil=>
  intro vs w;rw[List.map_nil] at w;cases w;exact .nil
 | cons n ns ih=>
  intro vs w;rw[List.map_cons] at w;cases w with
  | cons a b=>
   cases a;exact .cons _ _ (ih _ b)
variable{l:OpenLaw}
theorem A3 {n:Nat}(hn:l.most=some n){h:Heap}{args:List WData}{vals:List Value}
  (hpre:l.row.toRowW.claim.pre args=true) (hwl:WellAll P h vals args) :
  ∃a vs ns,vals=[Value.ref a]∧args=[WData.list (ns.map WData.int)]∧h.get? a=some {cls:=.type "list",data:=.seq vs.toArray}∧IntsAre vs ns∧ns.length≤n:=by
 have hsh:WShape.hasAll [] args [.list .int]=true:=(pre_splitW hpre).1;have hc:l.pre.holds [] {args:=args}=true:=(pre_splitW hpre).2;obtain⟨d,r,rfl,h1,h2⟩:=hasAllW_cons hsh;obtain rfl:=hasAllW_nil h2;obtain⟨xs,rfl,h3⟩:=hasW_list h1;obtain⟨ns,rfl⟩:=items_int h3;have hlen:ns.length≤n:=by
  unfold OpenLaw.pre at hc;have h4:(WTm.not (.lt (.lit (.int (n:Int))) (.len (.arg 0)))).holds [] {args:=[.list (ns.map .int)]}=true:=by
   have h4:=(holds_andW hc).1;rw[hn] at h4;exact h4
  have h5:=condW_of h4 (w_not (w_lt w_lit (w_len_list (w_arg rfl))));rw[List.length_map] at h5;refine Nat.le_of_not_lt fun q=>?_
  have q':(n:Int)<((ns.length:Nat):Int):=by omega
  first
   | (rw[decide_eq_true q'] at h5;exact absurd h5 (by decide))
   | (simp at h5;omega)
 cases hwl with
 | cons w1 w2=>
  cases w2;cases w1 with
  | list ho hall=>exact⟨_,_,ns,rfl,rfl,ho,qQ ns _ hall,hlen⟩
theorem BV (l:OpenLaw)(args:List WData):l.row.toRowW.claim.post args (.bool true) args=true:=
 postW_of (r:=l.row.toRowW) (X:=(true==true))
  (show WShape.has [] (.bool true) .bool=true by first|rfl|decide|simp[WShape.has,WShape.arms,WShape.armsAll])
  (show(WTm.eq .res (.lit (.bool true))).value [] {args:=args,res:=some (.bool true),after:=args}=some (.bool (true==true)) from w_eq_bool (w_res rfl) w_lit) rfl
theorem attach_call {n:Nat}{q:Program}{loose:List Str}{XP:(Str→Option Value)→Heap→Prop}{YP:World→Heap→Prop}{d:DefRec}
  (hn:l.most=some n) (hdf:d.params.defaults=[])
  (call:∀(w:World) (s₀ s₁:Shared) (mg mb:Str→Option Value) (fa:Addr) (o:Obj) (pm cd doc:Value) (a:Addr) (vs:List Value) (ns:List Int),
   Ground q loose [] XP w s₀ mg mb s₁.heap→YP w s₁.heap→
   s₁.heap.get? fa=some o→o.data=.func (docDef d.name d.params d.body d.scope pm cd doc)→s₁.heap.CodeRec cd d.name→mg d.name=some (.ref fa)→
   s₁.heap.get? a=some {cls:=.type "list",data:=.seq vs.toArray}→IntsAre vs ns→ns.length≤n→s₁.gens=#[]→
   codeAny (model l.prog w) callerA (.call (.ref fa) ⟨[.ref a],[]⟩) (fun r s'=>r=.ok (.ret (.bool true))∧OldK s₁.heap s'.heap∧s'.os=s₁.os∧AllBare s'.gens) s₁) :
  WalkO q loose XP YP l.row.toRowW d [] (fun f vs=>PySem.call f vs):=by
 intro w s₀ s₁ mg mb G Y fa o pm cd doc dV kV ho hd hcd hD hmg hg args vals as hpre hlay hrd hwl hlo;obtain rfl:dV=.none:=Dflts.none hD hdf;obtain rfl:kV=.none:=Dflts.noKw hD;obtain⟨a,vs,ns,rfl,rfl,hobj,hints,hlen⟩:=A3 hn hpre hwl;refine enter_call (codeAny_mono (call w s₀ s₁ mg mb fa o pm cd doc a vs ns G Y ho (fd_plain hd) hcd hmg hobj hints hlen hg) fun r s' hq=>?_);obtain⟨rfl,h2,h3,h4⟩:=hq;exact⟨.inl ⟨.bool true,.bool true,[],rfl,fun _=>rfl,.bool true,BV l _,fun _=>⟨List.Pairwise.nil,fun _ hm=>(nomatch hm)⟩⟩,h2,h3,h4⟩
end Att
namespace L2
open PySem PySem.Spec PyProof.Rows List
theorem uY:∀{vs:List Value} {ns:List Int},IntsAre vs ns→bu (ns.map V.int) vs
 | _,_,.nil=>.nil
 | _,_,.cons n t h=>.cons ⟨t,rfl⟩ (uY h)
def ib (s:Stmt)(j:Nat):Stmt:=match s with
 | .ClassDef _ _ _ body _ _ _ _ _ _ _=>body.getD j (.Pass ⟨0,0,0,0⟩)
 | _=>.Pass ⟨0,0,0,0⟩
def hO (s:Stmt):Arguments:=match s with
 | .FunctionDef _ a _ _ _ _ _ _ _ _=>a
 | _=>{posonlyargs:=[],args:=[],vararg:=none,kwonlyargs:=[],kw_defaults:=[],kwarg:=none,defaults:=[]}
def cY (s:Stmt):List Stmt:=match s with
 | .FunctionDef _ _ b _ _ _ _ _ _ _=>b
 | _=>[]
def a7 (s:Stmt):Scope:=match s with
 | .FunctionDef _ _ _ _ _ _ sc _ _ _=>sc
 | _=>{kind:=.function,names:=[],isGenerator:=false,isCoroutine:=false}
structure Fh (K:W.Frag)(x qual:Str)(st:Stmt)(f:Addr)(fd:FuncData):Prop where
 ex:∃(oc:Value) (od:Option Addr) (kV doc pm:Value) (an:Option Addr) (cdv ct:Value) (osl:Array (Option Value)),
  fd=W.fnOf x qual (hO st) (cY st) (a7 st) .none kV doc pm an cdv ct∧K.lookup f=some ⟨oc,od,.func fd,osl⟩∧W.codeIn K cdv qual=true
 kp:W.keepIn K (.ref f)=true
section
variable {P:Program}{w:World}{K:W.Frag}{mg:Str→Option Value}{base:Heap}
theorem Fh.binds {x qual:Str}{st:Stmt}{f:Addr}{fd:FuncData}{ps:List Str}(F:Fh K x qual st f fd)
  (h:∀(kV doc pm:Value) (an:Option Addr) (cdv ct:Value) (us:List Value),us.length=ps.length→bindArgs (W.fnOf x qual (hO st) (cY st) (a7 st) .none kV doc pm an cdv ct) ⟨us,[]⟩=pure (ps.zip us)):fL K fd ps []:=by
 obtain⟨oc,od,kV,doc,pm,an,cdv,ct,osl,rfl,lk,hcd⟩:=F.ex;exact .all (h kV doc pm an cdv ct)
theorem pG {x qual:Str}{st:Stmt}{f:Addr}{oc:Value}{od an:Option Addr}{osl:Array (Option Value)}{kV doc pm cdv ct:Value}(l:K.lookup f=some ⟨oc,od,.func (W.fnOf x qual (hO st) (cY st) (a7 st) .none kV doc pm an cdv ct),osl⟩)
  (c:W.codeIn K cdv qual=true) (k:W.keepIn K (.ref f)=true):Fh K x qual st f (W.fnOf x qual (hO st) (cY st) (a7 st) .none kV doc pm an cdv ct):=⟨⟨oc,od,kV,doc,pm,an,cdv,ct,osl,rfl,l,c⟩,k⟩
end
theorem Mp {A:Around}{k:Nat}(hr:bR k A):A.units+1<cLine:=Nat.lt_of_le_of_lt (Nat.add_le_add_left (by decide:1≤64) _) hr.units
variable{y:V}{u:Value}
section
variable {κ:Type}[DecidableEq κ]
def n5 (kvs:List (κ×V))(k:κ):Option V:=(kvs.find? fun kv=>decide (kv.1=k)).map (·.2)
def qT (kvs:List (κ×V))(k:κ)(v:V):List (κ×V):=
 if(kvs.any fun kv=>decide (kv.1=k))=true then kvs.map (fun kv=>if kv.1=k then(kv.1,v) else kv) else kvs++[(k,v)]
theorem oF {p:κ×V}{r:List (κ×V)}{k:κ}(e:p.1=k):n5 (p::r) k=some p.2:=by simp[n5,find?_cons,e]
theorem oC {p:κ×V}{r:List (κ×V)}{k:κ}(e:¬p.1=k):n5 (p::r) k=n5 r k:=by simp[n5,find?_cons,e]
theorem rO (k:κ):∀kvs:List (κ×V),(kvs.any fun kv=>decide (kv.1=k))=(n5 kvs k).isSome
 | []=>rfl
 | p::r=>by
  rw[any_cons]
  by_cases e:p.1=k
  ·simp only[oF e,decide_eq_true e,Bool.true_or,Option.isSome_some]
  ·rw[oC e,decide_eq_false e,Bool.false_or];exact rO k r
theorem qB (kvs:List (κ×V))(k:κ)(v:V):(qT kvs k v).length≤kvs.length+1:=by
 unfold qT;split
 ·rw[length_map];omega
 ·rw[length_append,length_cons,length_nil];omega
theorem yt {kvs:List (κ×V)}{k:κ}(v:V)(h:n5 kvs k=none):qT kvs k v=kvs++[(k,v)]:=by
 unfold qT;rw[rO,h];exact if_neg (by decide)
theorem ma.isSome_eq {o:Option V}{u:Option Value}(r:ma o u):o.isSome=u.isSome:=by
 cases o with
 | none=>cases u with
  | none=>rfl
  | some _=>exact(show False from r).elim
 | some _=>cases u with
  | none=>exact(show False from r).elim
  | some _=>rfl
theorem KV.val {kvs:List (κ×V)}{vs:List (κ×Value)}(r:KV kvs vs)(k:κ):ma (n5 kvs k) (valueAt vs k):=by
 unfold KV at r
 induction r with
 | nil=>exact True.intro
 | @cons p q ps qs h t ih=>
  obtain⟨h1,h2⟩:=h
  by_cases e:p.1=k
  ·have e':q.1=k:=h1.symm.trans e;have b:valueAt (q::qs) k=some q.2:=by simp[valueAt,find?_cons,e']
   rw[oF e,b];exact h2
  ·have e':¬q.1=k:=fun z=>e (h1.trans z)
   have b:valueAt (q::qs) k=valueAt qs k:=by simp[valueAt,find?_cons,e']
   rw[oC e,b];exact ih
theorem KV.any {kvs:List (κ×V)}{vs:List (κ×Value)}(r:KV kvs vs)(k:κ):(kvs.any fun kv=>decide (kv.1=k))=vs.any fun kv=>decide (kv.1=k):=by
 unfold KV at r
 induction r with
 | nil=>rfl
 | cons h t ih=>rw[any_cons,any_cons,ih,h.1]
theorem KV.repl {kvs:List (κ×V)}{vs:List (κ×Value)}(r:KV kvs vs)(k:κ)(ry:bC y u) :
  KV (kvs.map fun kv=>if kv.1=k then(kv.1,y) else kv) (vs.map fun kv=>if kv.1=k then(kv.1,u) else kv):=by
 unfold KV at r ⊢
 induction r with
 | nil=>exact .nil
 | @cons p q ps qs h t ih=>
  rw[map_cons,map_cons];refine .cons ?_ ih;obtain⟨h1,h2⟩:=h
  by_cases e:p.1=k
  ·rw[if_pos e,if_pos (h1.symm.trans e)];exact⟨h1,ry⟩
  ·rw[if_neg e,if_neg (fun z=>e (h1.trans z))];exact⟨h1,h2⟩
theorem KV.put {kvs:List (κ×V)}{vs:List (κ×Value)}(r:KV kvs vs)(k:κ)(ry:bC y u):KV (qT kvs k y) (stored vs k u):=by
 unfold qT stored;rw[r.any k]
 by_cases e:(vs.any fun kv=>decide (kv.1=k))=true
 ·rw[if_pos e,if_pos e];exact r.repl k ry
 ·rw[if_neg e,if_neg e];exact Paired.snoc r ⟨rfl,ry⟩
theorem KV.length {kvs:List (κ×V)}{vs:List (κ×Value)}(r:KV kvs vs):kvs.length=vs.length:=Paired.length r
end
variable{P:Program}{w:World}
theorem DZ {k:eQ}(r:bC (kV k) u):(c0 P w).is k u=true:=by
 cases k with
 | inl i=>obtain⟨t,e⟩:=(show∃t,u=Value.int i t from r);subst e;exact yv P w i t
 | inr x=>obtain⟨t,e⟩:=(show∃t,u=Value.str x t from r);subst e;exact xB P w x t
theorem uU {P:Program}{w:World}:∀{ks:List eQ} {us:List Value},bu (ks.map kV) us→ItemsAre (c0 P w) ks us
 | [],_,r=>by rw[map_nil] at r;cases r;exact .nil
 | k::ks,_,r=>by
  rw[map_cons] at r;cases r with
  | cons h t=>exact .cons (DZ h) (uU t)
abbrev KT (H:Hp):List (List eQ×V)→List (List eQ×Addr×Value)→Prop:=Paired fun p q=>p.1=q.1∧H q.2.1=some (.tup (p.1.map kV))∧bC p.2 q.2.2
variable{H:Hp}{kvs:List (List eQ×V)}{xs:List (List eQ×Addr×Value)}
theorem KT.val (r:KT H kvs xs)(k:List eQ):ma (n5 kvs k) ((atKey xs k).map (·.2)):=by
 induction r with
 | nil=>exact True.intro
 | @cons p q ps qs h t ih=>
  obtain⟨h1,_,h2⟩:=h
  by_cases e:p.1=k
  ·have e':q.1=k:=h1.symm.trans e;have b:atKey (q::qs) k=some q.2:=by simp[atKey,find?_cons,e']
   rw[oF e,b];exact h2
  ·have e':¬q.1=k:=fun z=>e (h1.trans z)
   have b:atKey (q::qs) k=atKey qs k:=by simp[atKey,find?_cons,e']
   rw[oC e,b];exact ih
theorem KT.repl (r:KT H kvs xs)(k:List eQ)(ry:bC y u) :
  KT H (kvs.map fun kv=>if kv.1=k then(kv.1,y) else kv) (xs.map (putAt k u)):=by
 induction r with
 | nil=>exact .nil
 | @cons p q ps qs h t ih=>
  rw[map_cons,map_cons];refine .cons ?_ ih;obtain⟨h1,h2,h3⟩:=h;unfold putAt
  by_cases e:p.1=k
  ·rw[if_pos e,if_pos (h1.symm.trans e)];exact⟨h1,h2,ry⟩
  ·rw[if_neg e,if_neg (fun z=>e (h1.trans z))];exact⟨h1,h2,h3⟩
theorem KT.put (r:KT H kvs xs)(k:List eQ){b:Addr}(hb:H b=some (.tup (k.map kV)))(ry:bC y u) :
  KT H (qT kvs k y) (storedH xs k b u):=by
 have e:(kvs.any fun kv=>decide (kv.1=k))=(atKey xs k).isSome:=by
  rw[rO,(r.val k).isSome_eq,Option.isSome_map]
 unfold qT storedH;rw[e]
 by_cases q:(atKey xs k).isSome=true
 ·rw[if_pos q,if_pos q];exact r.repl k ry
 ·rw[if_neg q,if_neg q];exact Paired.snoc r ⟨rfl,hb,ry⟩
theorem KT.keeps {H':Hp}(r:KT H kvs xs)(ht:∀b ys,H b=some (.tup ys)→H' b=some (.tup ys)):KT H' kvs xs:=
 Paired.mapP r fun _ _ z=>⟨z.1,ht _ _ z.2.1,z.2.2⟩
section
variable {P:Program}{w:World}{H:Hp}{h:Heap}{a:Addr}
theorem Hv {u:HO}(ok:mU P w H h)(e:Rd H a u):dq P w H h a u:=e.ok ok
theorem D1 {kvs:List (eQ×V)}(ok:mU P w H h)(e:Rd H a (.dK kvs)):kvs.length≤sizeLine∧(a==sysModules)=false∧∃vs,KV kvs vs∧h.DictOf (c0 P w) a vs:=
 show dq P w H h a (.dK kvs) from Hv ok e
theorem Ly {kvs:List (eQ×V)}(ok:mU P w H h)(e:H a=some (.dK kvs)):kvs.length≤sizeLine∧(a==sysModules)=false∧∃vs,KV kvs vs∧h.DictOf (c0 P w) a vs:=D1 ok (.inl e)
theorem zL {ks:List eQ}(ok:mU P w H h)(e:H a=some (.tup (ks.map kV))):(tupleKind (c0 P w)).is h ks a:=by
 obtain⟨_,its,r,o,h1,h2,n,h3⟩:=(show dq P w H h a (.tup (ks.map kV)) from ok a _ e);exact⟨o,its.toArray,n,h1,h2,h3,by simpa using uU r⟩
theorem Cs (ok:mU P w H h)(e:Rd H a (.dT kvs)):kvs.length≤sizeLine∧(a==sysModules)=false∧
  ∃xs,KT H kvs xs∧h.DictOfH (tupleKind (c0 P w)) a xs:=by
 obtain⟨z,y,xs,r,o,es,ep,h1,h2,h3,h4,h5⟩:=(show dq P w H h a (.dT kvs) from Hv ok e);refine⟨z,y,xs,r,o,es,ep,h1,h2,h3,h4,fun x hx=>?_,h5⟩;have all:∀{l:List (List eQ×V)} {m:List (List eQ×Addr×Value)},KT H l m→∀x∈m,(tupleKind (c0 P w)).is h x.1 x.2.1:=by
  intro l m q
  induction q with
  | nil=>intro x hx;exact nomatch hx
  | @cons p q ps qs hq t ih=>
   intro x hx;rcases mem_cons.mp hx with e|hx
   ·subst e;exact zL ok (by rw[←hq.1];exact hq.2.1)
   ·exact ih x hx
 exact all r x hx
theorem ND (ok:mU P w H h)(e:H a=some (.dT kvs)):kvs.length≤sizeLine∧(a==sysModules)=false∧
  ∃xs,KT H kvs xs∧h.DictOfH (tupleKind (c0 P w)) a xs:=Cs ok (.inl e)
end
def OJ (H:Hp)(a:Addr)(y:V)(r:Option V):Prop:=
 (∃kvs k,Rd H a (.dK kvs)∧y=kV k∧r=n5 kvs k)∨∃kvs k b,Rd H a (.dT kvs)∧y=.ref b∧H b=some (.tup (k.map kV))∧r=n5 kvs k
section
variable {X:Cx}{ah:List (Addr×Obj)}{σ:St}{H:Hp}{s:Shared}{a:Addr}{y v:V}{u r:Value}{o:Option V}{A:Around}{E:Value→Shared→Prop}
theorem Inv.big (I:Inv X ah σ H s):sysModules<s.heap.objs.size:=by
 have h:mainGlobals<s.heap.objs.size:=(I.mod.glob.keeps I.bk).lt;exact Nat.lt_trans (by decide) h
theorem AL {h':Heap}{t':Nat}{ob:HO}(I:Inv X ah σ H s)(mu:Ml (H a))(hs:Heap.SameBut a s.heap h')(he:∃q,h'.get? a=some q)(new:dq X.prog X.w (cR H a ob) h' a ob) :
  Inv X ah σ (cR H a ob) {s with heap:=h',toks:=t'}:=
 I.write (x:=a) (e:=a) mu (.inl rfl) (fun b q hb z=>(hs.2 b hb).trans z) he new
theorem K2 {H':Hp}{h':Heap}{kvs:List (eQ×V)}{vs:List (eQ×Value)}(z:kvs.length≤sizeLine)(hd:(a==sysModules)=false)(rel:KV kvs vs)(dd:h'.DictOf (c0 P w) a vs) :
  dq P w H' h' a (.dK kvs):=⟨z,hd,vs,rel,dd⟩
end
theorem Dq (h:Heap)(hb:sysModules<h.objs.size):dq P w H (h.push {cls:=.type "dict",data:=.dict #[]}) h.objs.size (.dK []):=
 ⟨Nat.zero_le _,beq_eq_false_iff_ne.mpr (Ne.symm (Nat.ne_of_lt hb)),[],.nil,Heap.DictOf.new h⟩
theorem CQ (h:Heap)(hb:sysModules<h.objs.size):dq P w H (h.push {cls:=.type "dict",data:=.dict #[]}) h.objs.size (.dT []):=
 ⟨Nat.zero_le _,beq_eq_false_iff_ne.mpr (Ne.symm (Nat.ne_of_lt hb)),[],.nil,_,#[],0,Heap.get?_push_size _ rfl,⟨rfl,rfl,rfl⟩,rfl,rfl,nodup_nil⟩
def IQ:TE:=fun _ H Q=>∀p,H p=none→Q (.ref p) (cR H p (.dK []))
def JL:TE:=fun _ H Q=>∀p,H p=none→Q (.ref p) (cR H p (.dT []))
section
variable {X:Cx}{pos:Pos}
theorem CB:PE X (.Dict [] [] pos) IQ:=fun ah s σ H Q I h=>
 wpAny_Dict_empty ⟨.ref s.heap.objs.size,_,I.laid (a:=s.heap.objs.size) (o:=.dK []) (t':=s.toks) (fun _ _ q=>Heap.get?_push_of_some _ q) (Nat.le_refl _) (Dq s.heap I.big),rfl,h _ (I.hok.fresh (Nat.le_refl _))⟩
theorem EF:PE X (.Dict [] [] pos) JL:=fun ah s σ H Q I h=>
 wpAny_Dict_empty ⟨.ref s.heap.objs.size,_,I.laid (a:=s.heap.objs.size) (o:=.dT []) (t':=s.toks) (fun _ _ q=>Heap.get?_push_of_some _ q) (Nat.le_refl _) (CQ s.heap I.big),rfl,h _ (I.hok.fresh (Nat.le_refl _))⟩
end
abbrev VV:List (V×V)→List (Value×Value)→Prop:=Paired fun p q=>bC p.1 q.1∧bC p.2 q.2
structure M1 (X:Cx)(o:Expr)(m:Str)(apos:Pos)(e:Expr)(cpos:Pos):Prop where
 base:attributeBase o m X.env (eval o X.env)=eval o X.env
 few:((backTo cpos (starEach [e] X.env)).all (fun x=>!x.1)&&(backToKw cpos (keywordEach [] X.env)).all (fun x=>x.1.isSome)
  && decide (([e]:List Expr).length+([]:List Keyword).length+(if([]:List Keyword).isEmpty then 0 else 1)<30))=true
 line:(apos.endLine==cpos.line)=true
 trees:backTo cpos (starEach [e] X.env)=[(false,eval e X.env)]
structure M2 (X:Cx)(o:Expr)(m:Str)(apos:Pos)(e f:Expr)(cpos:Pos):Prop where
 base:attributeBase o m X.env (eval o X.env)=eval o X.env
 few:((backTo cpos (starEach [e,f] X.env)).all (fun x=>!x.1)&&(backToKw cpos (keywordEach [] X.env)).all (fun x=>x.1.isSome)
  && decide (([e,f]:List Expr).length+([]:List Keyword).length+(if([]:List Keyword).isEmpty then 0 else 1)<30))=true
 line:(apos.endLine==cpos.line)=true
 trees:backTo cpos (starEach [e,f] X.env)=[(false,eval e X.env),(false,eval f X.env)]
def OM (H:Hp)(a:Addr):Prop:=(∃kvs,Rd H a (.dK kvs))∨∃kvs,Rd H a (.dT kvs)
theorem K6 {X:Cx}{ah:List (Addr×Obj)}{σ:St}{s:Shared}{a:Addr}(I:Inv X ah σ H s)(d:OM H a) :
  s.TypeIs (.ref a) "dict"∧(∀b,Value.ref a=.ref b→∃ob,s.heap.get? b=some ob∧ob.dict=none)∧(a==sysModules)=false:=by
 rcases d with⟨kvs,e⟩|⟨kvs,e⟩
 ·obtain⟨_,hd,vs,_,dd⟩:=D1 I.hok e;refine⟨dd.typeIs,fun b q=>?_,hd⟩;cases q;obtain⟨ob,_,_,h1,h2,_⟩:=dd;exact⟨ob,h1,h2.2.1⟩
 ·obtain⟨_,hd,xs,_,dd⟩:=Cs I.hok e;refine⟨dd.typeIs,fun b q=>?_,hd⟩;cases q;obtain⟨ob,_,_,h1,h2,_⟩:=dd;exact⟨ob,h1,h2.2.1⟩
end L2
namespace Att
open PySem PySem.W PySem.Calls PyProof.Rows
end Att
namespace L2
open PySem PySem.Spec PyProof.Rows List
end L2
namespace DL
open PySem PySem.Spec PyProof.Rows L2 List
structure L1 (X:Cx)(ah:List (Addr×Obj))(H:Hp)(B:Heap):Prop where
 trk:∀b o,H b=some o→∃o',B.get? b=some o'
 pin:∀p∈X.pn++ah,∃o',B.get? p.1=some o'
 old:∀b o,X.s₀.heap.get? b=some o→b∉X.ex→b∉tU X.stack→∃o',B.get? b=some o'
def PH (X:Cx)(H:Hp)(a C:Addr)(s:Shared):Prop:=∃ah σ,
 (∃h vs,L2.Inv X ah σ H {s with heap:=h}∧Heap.MadeExcOf h s.heap a (.ref C) vs)∨
 (L2.Inv X ah σ H s∧H a=none∧∃B a0,Heap.FlyingW B X.stack a (.ref C) a0 s.heap∧L1 X ah H B)∨
 (L2.Inv X ah σ H s∧H a=none∧∃B a0 L,X.env.frame=some L∧Heap.HeldW B X.stack a (.ref C) a0 L s.heap∧L1 X ah H B)
def jH (K:W.Frag)(c:Str)(C:Addr):Prop:=W.nsIn K mainGlobals c=some (some (.ref C))
variable{K:W.Frag}
theorem jH.inj {c:Str}{C C':Addr}(a:jH K c C)(b:jH K c C'):C=C':=by
 unfold jH at a b;rw[a] at b;cases b;rfl
variable{P:Program}{w:World}{H:Hp}{a:Addr}{o:HO}
theorem s9 {h:Heap}(x:dq P w H h a o):∃u,h.get? a=some u:=by
 cases o with
 | lst xs=>obtain⟨_,_,_,_,e⟩:=x;exact⟨_,e⟩
 | tup xs=>obtain⟨_,_,_,o,e,_⟩:=x;exact⟨_,e⟩
 | dK kvs=>obtain⟨_,_,_,_,o,_,_,e,_⟩:=x;exact⟨_,e⟩
 | dT kvs=>obtain⟨_,_,_,_,o,_,_,e,_⟩:=x;exact⟨_,e⟩
 | set S n=>obtain⟨o,_,_,_,e,_⟩:=x;exact⟨_,e⟩
 | ins C dx fs=>obtain⟨_,_,_,e,_⟩:=x;exact⟨_,e⟩
 | own y=>obtain⟨_,e⟩:=x;exact⟨_,e⟩
 | xd fs=>obtain⟨_,⟨_,_,_,e,_⟩,_⟩:=x;exact⟨_,e⟩
 | rng lo hi=>obtain⟨_,_,_,e⟩:=x;exact⟨_,e⟩
 | frz ob u=>obtain⟨e,_⟩:=x;exact⟨_,e⟩
 | tbl ps=>exact⟨_,show h.get? a=some _ from x⟩
 | met f y=>exact⟨_,show h.get? a=some _ from x⟩
 | ext φ=>obtain⟨_,⟨_,e⟩,_⟩:=x;exact⟨_,e⟩
section
variable {X:Cx}{ah:List (Addr×Obj)}{σ:List (Option V)}{H:Hp}{s:Shared}{B h':Heap}{a C:Addr}
theorem wk (I:L2.Inv X ah σ H s){b:Addr}{o:Obj}(e:X.s₀.heap.get? b=some o)(n:b∉X.fs):b∉tU X.stack:=fun z=>by
 rcases mem_cons.mp (I.stkSub b z) with q|q
 ·have h1:=Heap.lt_size e;rw[q] at h1;exact absurd (Nat.lt_of_lt_of_le h1 I.ok.above) (Nat.lt_irrefl _)
 ·exact n q
theorem Az {h h':Heap}{c:Addr}{v:Option Value}(u:h.UpToSlots h')(x:h.IsCell c v):h'.IsCell c v:=by
 obtain⟨o,e,d⟩:=x;obtain⟨sl,e'⟩:=u c o e fun vs q=>by rw[d] at q;cases q
 exact⟨_,e',d⟩
theorem CP (I:L2.Inv X ah σ H s)(kX:L1 X ah H B)(hB:B.StaysIn s.heap)(hB':B.StaysIn h')(up:s.heap.UpToSlots h'):L2.Inv X ah σ H {s with heap:=h'}:=by
 have keepB:∀b o o',B.get? b=some o'→s.heap.get? b=some o→h'.get? b=some o:=fun b o o' e1 e2=>by
  have:=hB b o' e1;rw[e2] at this;cases this;exact hB' b _ e1
 refine⟨I.ok,I.os,I.bare,⟨fun b o e n nf nx=>?_,fun b o e n hf nx=>?_,fun b o e n nx=>I.base.free b o e n nx,fun b o e nx=>?_,I.base.tups,I.base.frzs,I.base.tbls⟩,?_,fun x c e=>?_,I.free,I.freeC,fun p hp=>?_,fun b o e=>?_,I.len⟩
 ·obtain⟨o',e'⟩:=kX.old b o e nx (wk I e nf);exact keepB b o o' e' (I.base.keep b o e n nf nx)
 ·obtain⟨sl,e1⟩:=I.base.slot b o e n hf nx;obtain⟨_,ob,e2,nf⟩:=I.funs.mem hf;rw[e1] at e2;cases e2;obtain⟨sl',e3⟩:=up b _ e1 nf;exact⟨sl',e3⟩
 ·by_cases hf:b∈X.fs
  ·obtain⟨_,ob,e2,nf⟩:=I.funs.mem hf;obtain⟨sl',e3⟩:=up b _ e2 nf;exact⟨_,e3⟩
  ·obtain⟨o',e'⟩:=kX.old b o e nx (wk I e hf);exact⟨o',hB' b o' e'⟩
 ·obtain⟨m,hn,hl⟩:=I.loc;refine⟨m,up.ns hn,fun i x v e1 e2 e3=>?_⟩;obtain⟨u,r,lk⟩:=hl i x v e1 e2 e3;refine⟨u,r,?_⟩;rcases lk with lk|⟨k,c,ec,ic⟩
  ·exact .inl lk
  ·exact .inr ⟨k,c,ec,Az up ic⟩
 ·obtain⟨v,ic⟩:=I.cell x c e;exact⟨v,Az up ic⟩
 ·obtain⟨e,n,ne,nf,d⟩:=I.pin p hp;obtain⟨o',e'⟩:=kX.pin p hp;exact⟨keepB p.1 p.2 o' e' e,n,ne,nf,d⟩
 ·refine(I.hok b o e).stay (fun c u hc q=>?_) (fun _ q=>q) fun _ _ q=>q
  have:∃o,H c=some o:=by
   rcases hc with z|z
   ·exact⟨o,by rw[z];exact e⟩
   ·exact⟨_,z⟩
  obtain⟨oc,ec⟩:=this;obtain⟨o',e'⟩:=kX.trk c oc ec;exact keepB c u o' e' q
theorem DD (I:L2.Inv X ah σ H s):L1 X ah H (W.hideAll s.heap (tU X.stack)):=by
 refine⟨fun b o e=>?_,fun p hp=>?_,fun b o e nx nf=>?_⟩
 ·obtain⟨u,q⟩:=s9 (I.hok b o e);exact⟨u,W.hideAll_get _ q fun z=>by rw[I.stkFree b z] at e;cases e⟩
 ·obtain⟨e,n,ne,nf,d⟩:=I.pin p hp;exact⟨p.2,W.hideAll_get _ e fun z=>by
   rcases mem_cons.mp (I.stkSub _ z) with q|q
   ·exact ne q
   ·exact nf q⟩
 ·obtain⟨o',e'⟩:=I.base.there b o e nx;exact⟨o',W.hideAll_get _ e' nf⟩
theorem wR (I:L2.Inv X ah σ H s):s.heap.FunFrames (W.hideAll s.heap (tU X.stack)) X.stack:=
 W.funFrames_hide I.stack fun env he b hb=>mem_filterMap.mpr ⟨env,he,hb⟩
theorem Bm {vs:List Value}{h:Heap}(I:L2.Inv X ah σ H {s with heap:=h})(m:Heap.MadeExcOf h s.heap a (.ref C) vs):H a=none:=by
 cases q:H a with
 | none=>rfl
 | some o=>
  obtain⟨u,e⟩:=s9 (I.hok a o q);have e:h.get? a=some u:=e;rw[m.new] at e;cases e
end
def iZ (P:Program)(w:World):B8:=fun outer H s E e s'=>∃a C H' B a0,e=.ref a∧s'.os=s.os∧AllBare s'.gens∧Un (tU outer) [] H H' s.heap s'.heap∧mU P w H' s'.heap∧H' a=none∧
 Heap.FlyingW B outer a (.ref C) a0 s'.heap∧(∀b o,H' b=some o→∃o',B.get? b=some o')∧(∀b o,s.heap.get? b=some o→b∉tU outer→∃o',B.get? b=some o')∧E (.ref C) (some a) H'
variable{mg:Str→Option Value}{base:Heap}{scope:Scope}{f:Addr}{A:Around}{s:Shared}{E:XK}
theorem nY {N:List Str}{qual:Str}{cdv:Value}{outer:List Env}{s':Shared}{H':Hp}{C:Addr}
  (fl:PH (iX (iZ P w) P w K mg base N qual scope f cdv A outer s H E) H' a C s') (hE:E (.ref C) (some a) H'):(iX (iZ P w) P w K mg base N qual scope f cdv A outer s H E).xe (.ref a) s':=by
 show wpAny (model P w) (A.deeper (envOfC qual scope s.heap.objs.size f cdv)) (leaving (envOfC qual scope s.heap.objs.size f cdv) (.ref a)) (fun _ s''=>iZ P w outer H s E (.ref a) s'') (fun e' s''=>iZ P w outer H s E e' s'') s';obtain⟨ah,σ,fl⟩:=fl;have key:∀(B:Heap) (a0:Value) (h':Heap) (I:L2.Inv (iX (iZ P w) P w K mg base N qual scope f cdv A outer s H E) ah σ H' s'),B.StaysIn s'.heap→L1 (iX (iZ P w) P w K mg base N qual scope f cdv A outer s H E) ah H' B→H' a=none→
   Heap.FlyingW B outer a (.ref C) a0 h'→s'.heap.UpToSlots h'→iZ P w outer H s E (.ref a) {s' with heap:=h'}:=fun B a0 h' I hB kX hn fl' up=>by
  have I':=CP I kX hB fl'.1 up;refine⟨a,C,H',B,a0,rfl,I'.os,I'.bare,I'.base,I'.hok,hn,fl',kX.trk,fun b o e nf=>?_,hE⟩;exact kX.old b o e (by show b∉([]:List Addr);simp) (wk I e nf)
 rcases fl with⟨h,vs,I,m⟩|⟨I,hn,B,a0,fl,kX⟩|⟨I,hn,B,a0,L,hL,held,kX⟩
 ·have kX:=DD I;have hid:∀b o,(W.hideAll h (tU (iX (iZ P w) P w K mg base N qual scope f cdv A outer s H E).stack)).get? b=some o→h.get? b=some o:=fun b o q=>W.of_hideAll _ q
  refine wpAny_leaves_madeW (env:=envOfC qual scope s.heap.objs.size f cdv) (outer:=outer) I.ok.frames rfl hid (wR I) m fun h' t x1 x2 x3 x4=>?_
  exact key _ _ h' (I.kept (t':=s'.toks) (h':=s'.heap) m.keeps) (fun b o q=>m.keeps b o (hid b o q)) kX (Bm I m) x1 x4
 ·refine wpAny_leaves_onW (env:=envOfC qual scope s.heap.objs.size f cdv) (outer:=outer) I.ok.frames rfl fl fun h' x1 x2=>?_
  exact key B a0 h' I fl.1 kX hn x1 x2
 ·unfold leaving;refine wpAny_bind (wpAny_noteFrame_againW hL held.2.2.2 ?_);refine wpAny_landsW held fun h' x1 x2=>?_
  obtain⟨k1,k2,⟨_,_,k3⟩,k4⟩:=x1;exact key B a0 h' I held.1 kX hn ⟨k1,k2,k3,k4⟩ x2
variable{ah:List (Addr×Obj)}{σ:L2.St}
theorem Bq {X:Cx}{e:Value}{s':Shared}(I:L2.Inv X ah σ H s)(h:iZ X.prog X.w X.stack H s E e s'):∃a C H',e=.ref a∧PH X H' a C s'∧E (.ref C) (some a) H':=by
 obtain⟨a,C,H',B,a0,rfl,os,bare,un,hok,hn,fl,trk,old,hE⟩:=h;refine⟨a,C,H',rfl,⟨ah,σ,.inr (.inl ⟨I.call' os un hok bare (fun b z=>absurd z (by simp)),hn,B,a0,fl,trk,fun p hp=>?_,fun b o eb nx nf=>?_⟩)⟩,hE⟩
 ·obtain⟨eb,n,ne,nf,d⟩:=I.pin p hp;exact old p.1 p.2 eb fun z=>by
   rcases mem_cons.mp (I.stkSub _ z) with q|q
   ·exact ne q
   ·exact nf q
 ·obtain⟨o',e'⟩:=I.base.there b o eb nx;exact old b o' e' nf
inductive D where
 | non|bl (b:Bool)|int (i:Int)|str (x:Str)|tup (xs:List D)|lst (xs:List D)|ro (xs:List D)|mr (i:Nat)|exc (c:Str)|any
instance:Inhabited D:=⟨.non⟩
inductive MO where
 | lst (xs:List D)|obj (c:Str) (fs:List (Str×D))|dK (kvs:List (eQ×D))|dT (kvs:List (List eQ×D))
instance:Inhabited MO:=⟨.lst []⟩
abbrev aB:=List MO
abbrev cC:=List (Option D)
inductive bj (α:Type) where
 | ok (a:α) (M:aB)
 | err (c:Str) (M:aB)
 | bad
def bj.bind {α β:Type}(o:bj α)(f:α→aB→bj β):bj β:=
 match o with
 | .ok a M=>f a M
 | .err c M=>.err c M
 | .bad=>.bad
@[simp] theorem aq {α β:Type} (a:α) (M:aB) (f:α→aB→bj β):(bj.ok a M).bind f=f a M:=by rw[bj.bind]
@[simp] theorem LX {α β:Type} (c:Str) (M:aB) (f:α→aB→bj β):(bj.err c M:bj α).bind f=.err c M:=by rw[bj.bind]
@[simp] theorem N5 {α β:Type} (f:α→aB→bj β):(bj.bad:bj α).bind f=.bad:=by rw[bj.bind]
def QY (K:W.Frag)(a:Addr)(xs:List V):Prop:=∃(o:Obj) (its:Array Value) (n:Nat),K.lookup a=some o∧o.cls=.type "tuple"∧o.data=.seq its n∧its.size≤sizeLine∧bu xs its.toList
def KL (K:W.Frag)(a:Addr)(xs:List V):Prop:=∃(o:Obj) (its:Array Value) (n:Nat),K.lookup a=some o∧o.cls=.type "list"∧o.dict=none∧o.data=.seq its n∧its.size≤sizeLine∧bu xs its.toList
def oV (K:W.Frag)(θ:List Addr)(H:Hp)(a:Addr)(xs:List V):Prop:=H a=some (.tup xs)∧a∉θ
def uF (θ:List Addr)(H:Hp)(a:Addr)(xs:List V):Prop:=H a=some (.lst xs)∧a∉θ
def uf (K:W.Frag)(θ:List Addr)(H:Hp)(a:Addr)(xs:List V):Prop:=(Rd H a (.lst xs)∧a∉θ)∨KL K a xs
variable{θ:List Addr}{xs:List V}
theorem oV.sq (h:oV K θ H a xs):qW K H a xs:=.inl (.inl h.1)
theorem uF.sq (h:uF θ H a xs):pc K H a xs:=.inl (.inl h.1)
theorem uf.sq (h:uf K θ H a xs):pc K H a xs:=by
 rcases h with⟨h,_⟩|h
 ·exact .inl h
 ·exact .inr h
def OF (a C:Addr):HO:=.ext fun h=>∃o,h.get? a=some o∧o.cls=.ref C
mutual
def fA (K:W.Frag)(θ:List Addr)(H:Hp):D→V→Prop
 | .non,v=>v=.non
 | .bl b,v=>v=.bl b
 | .int i,v=>v=.int i
 | .str x,v=>v=.str x
 | .tup ds,v=>∃a vs,v=.ref a∧oV K θ H a vs∧bO K θ H ds vs
 | .lst ds,v=>∃a vs,v=.ref a∧uF θ H a vs∧bO K θ H ds vs
 | .ro ds,v=>∃a vs,v=.ref a∧uf K θ H a vs∧bO K θ H ds vs
 | .mr i,v=>∃a,v=.ref a∧θ[i]?=some a
 | .exc c,v=>∃a C,v=.ref a∧jH K c C∧H a=some (OF a C)∧a∉θ
 | .any,_=>True
def bO (K:W.Frag)(θ:List Addr)(H:Hp):List D→List V→Prop
 | [],vs=>vs=[]
 | d::ds,vs=>∃v r,vs=v::r∧fA K θ H d v∧bO K θ H ds r
end
def oW (K:W.Frag)(θ:List Addr)(H:Hp):List (Str×D)→List (Str×V)→Prop
 | [],vs=>vs=[]
 | (f,d)::fs,vs=>∃v r,vs=(f,v)::r∧fA K θ H d v∧oW K θ H fs r
def sX {κ:Type}(K:W.Frag)(θ:List Addr)(H:Hp):List (κ×D)→List (κ×V)→Prop
 | [],vs=>vs=[]
 | (k,d)::fs,vs=>∃v r,vs=(k,v)::r∧fA K θ H d v∧sX K θ H fs r
def tX (K:W.Frag)(θ:List Addr)(H:Hp):MO→Addr→Prop
 | .lst ds,a=>∃vs,H a=some (.lst vs)∧bO K θ H ds vs
 | .obj c fs,a=>∃C dx vs,jH K c C∧H a=some (.ins C dx vs)∧oW K θ H fs vs
 | .dK kvs,a=>∃vs,H a=some (.dK vs)∧sX K θ H kvs vs
 | .dT kvs,a=>∃vs,H a=some (.dT vs)∧sX K θ H kvs vs
def cW:List Str:=["ink_shown","table_within","slots_given","cast_on_slots"]
def cM (x:Str):Str:=x++(".<locals>.<lambda>":Str)
def ka (c:Addr)(q:Str):HO:=.ext fun h=>h.CodeRec (.ref c) q
def Qg (ob:Obj):HO:=.frz ob (.ext fun _=>True)
structure nQ (K:W.Frag)(H:Hp):Prop where
 tab:∀x,x∈cW→∀c P,W.tabIn K x=some (c,P)→∃ps,H P=some (.tbl ps)∧TriplesOk ps.toList∧∀pos cv,codeAmong pos ps.toList=some cv→∃c',cv=.ref c'∧H c'=some (ka c' (cM x))
 bm:∀x,x∈cW→∀c P,W.tabIn K x=some (c,P)→∃bm ob,W.nsIn K mainGlobals "__builtins__"=some (some (.ref bm))∧H bm=some (Qg ob)∧ob.cls=.type "module"∧ob.dict=some builtinsNs∧ob.data=.plain∧bm≠builtinsNs∧bm≠mainGlobals
theorem nQ.of {H':Hp}(t:nQ K H)(k1:∀b ps,H b=some (.tbl ps)→H' b=some (.tbl ps))(k2:∀b φ,H b=some (.ext φ)→H' b=some (.ext φ))(k3:∀b o u,H b=some (.frz o u)→H' b=some (.frz o u)):nQ K H':=
 ⟨fun x hx c P e=>by
  obtain⟨ps,h1,h2,h3⟩:=t.tab x hx c P e;refine⟨ps,k1 _ _ h1,h2,fun pos cv q=>?_⟩;obtain⟨c',e1,e2⟩:=h3 pos cv q;exact⟨c',e1,k2 _ _ e2⟩,fun x hx c P e=>by
  obtain⟨bm,ob,e1,e2,r⟩:=t.bm x hx c P e;exact⟨bm,ob,e1,k3 _ _ _ e2,r⟩⟩
theorem nQ.new {p:Addr}(t:nQ K H)(hp:H p=none):nQ K (cR H p o):=
 t.of (fun b ps e=>by rw[aQ (cj e hp)];exact e) (fun b φ e=>by rw[aQ (cj e hp)];exact e) fun b o u e=>by rw[aQ (cj e hp)];exact e
def zo:HO→Bool
 | .tbl _=>false
 | .ext _=>false
 | .frz _ _=>false
 | _=>true
theorem nQ.at_ {u:HO}(t:nQ K H)(ha:H a=some u)(hu:zo u=true):nQ K (cR H a o):=
 t.of (fun b ps e=>by rw[aQ (xN e ha (by intro z;subst z;cases hu))];exact e) (fun b φ e=>by rw[aQ (xN e ha (by intro z;subst z;cases hu))];exact e) fun b o u e=>by rw[aQ (xN e ha (by intro z;subst z;cases hu))];exact e
structure Wr (K:W.Frag)(θ:List Addr)(H:Hp)(M:aB):Prop where
 len:θ.length=M.length
 nd:θ.Nodup
 at_:∀(i:Nat) a m,θ[i]?=some a→M[i]?=some m→tX K θ H m a
 tb:nQ K H
structure l9 (K:W.Frag)(θ:List Addr)(H:Hp)(σ:L2.St)(ρ:cC):Prop where
 len:ρ.length=σ.length
 at_:∀(i:Nat) d,ρ[i]?=some (some d)→∃v,σ[i]?=some (some v)∧fA K θ H d v
structure Grow (θ:List Addr)(H:Hp)(θ':List Addr)(H':Hp):Prop where
 ext:∃more,θ'=θ++more∧∀a∈more,H a=none
 keep:∀b o,H b=some o→b∉θ→(∀ps,o≠.tbl ps)→H' b=some o
 tkeep:∀b ps,H b=some (.tbl ps)→∃ps',H' b=some (.tbl ps')
structure Go (K:W.Frag)(θ:List Addr)(H:Hp)(θ':List Addr)(H':Hp)(M':aB):Prop extends Grow θ H θ' H' where
 wr:Wr K θ' H' M'
variable{m:MO}{i:Nat}{d:D}{v:V}{ds:List D}{vs:List V}
section
variable {K:W.Frag}{θ θ' θ1 θ2:List Addr}{H H' H1 H2:Hp}{M M' M1 M2:aB}{a p:Addr}{σ:L2.St}{ρ:cC}
theorem Wr.tracked (w:Wr K θ H M)(h:a∈θ):H a≠none:=by
 obtain⟨i,hi,e⟩:=mem_iff_getElem.mp h;have h1:θ[i]?=some a:=by rw[getElem?_eq_getElem hi,e]
 have h2:i<M.length:=by rw[←w.len];exact hi
 have h3:=w.at_ i a _ h1 (getElem?_eq_getElem h2);cases q:M[i] with
 | lst ds=>
  rw[q] at h3;obtain⟨vs,e,_⟩:=h3;rw[e];simp
 | obj c fs=>
  rw[q] at h3;obtain⟨C,dx,vs,_,e,_⟩:=h3;rw[e];simp
 | dK kvs=>
  rw[q] at h3;obtain⟨vs,e,_⟩:=h3;rw[e];simp
 | dT kvs=>
  rw[q] at h3;obtain⟨vs,e,_⟩:=h3;rw[e];simp
theorem tX.plain (h:tX K θ H m a):∃o,H a=some o∧zo o=true:=by
 cases m with
 | lst ds=>obtain⟨vs,e,_⟩:=h;exact⟨_,e,rfl⟩
 | obj c fs=>obtain⟨C,dx,vs,_,e,_⟩:=h;exact⟨_,e,rfl⟩
 | dK kvs=>obtain⟨vs,e,_⟩:=h;exact⟨_,e,rfl⟩
 | dT kvs=>obtain⟨vs,e,_⟩:=h;exact⟨_,e,rfl⟩
theorem Wr.plain (w:Wr K θ H M)(h:θ[i]?=some a):∃o,H a=some o∧zo o=true:=by
 have h2:i<M.length:=by rw[←w.len];exact(List.getElem?_eq_some_iff.mp h).1
 exact(w.at_ i a _ h (getElem?_eq_getElem h2)).plain
theorem Wr.fresh (w:Wr K θ H M)(h:H p=none):p∉θ:=fun z=>w.tracked z h
theorem Grow.refl (θ:List Addr)(H:Hp):Grow θ H θ H:=⟨⟨[],by simp,fun _ z=>by cases z⟩,fun _ _ h _ _=>h,fun b ps e=>⟨ps,e⟩⟩
theorem Go.refl (w:Wr K θ H M):Go K θ H θ H M:=⟨.refl θ H,w⟩
theorem Go.trans (a:Go K θ H θ1 H1 M1)(b:Go K θ1 H1 θ2 H2 M2):Go K θ H θ2 H2 M2:=by
 obtain⟨m1,e1,f1⟩:=a.ext;obtain⟨m2,e2,f2⟩:=b.ext;refine⟨⟨⟨m1++m2,by rw[e2,e1,append_assoc],fun x hx=>?_⟩,fun x o hx nx nt=>?_,fun x ps e=>?_⟩,b.wr⟩
 ·rcases mem_append.mp hx with z|z
  ·exact f1 x z
  ·cases q:H x with
   | none=>rfl
   | some o=>
    have nx:x∉θ:=by
     intro y;have nd:=b.wr.nd;rw[e2] at nd;have y1:x∈θ1:=by rw[e1];exact mem_append_left _ y
     exact(nodup_append.mp nd).2.2 x y1 x z rfl
    exfalso
    by_cases nt:∃ps,o=.tbl ps
    ·obtain⟨ps,rfl⟩:=nt;obtain⟨ps',e'⟩:=a.tkeep x ps q;rw[f2 x z] at e';cases e'
    ·have:=a.keep x o q nx fun ps e'=>nt ⟨ps,e'⟩
     rw[f2 x z] at this;cases this
 ·have h1:=a.keep x o hx nx nt;refine b.keep x o h1 ?_ nt;rw[e1];intro z;rcases mem_append.mp z with z|z
  ·exact nx z
  ·rw[f1 x z] at hx;cases hx
 ·obtain⟨ps',e'⟩:=a.tkeep x ps e;exact b.tkeep x ps' e'
theorem Grow.notin (g:Grow θ H θ' H')(h:H a=some o)(n:a∉θ):a∉θ':=by
 obtain⟨m,e,f⟩:=g.ext;rw[e];intro z;rcases mem_append.mp z with z|z
 ·exact n z
 ·rw[f a z] at h;cases h
theorem oV.grow (g:Grow θ H θ' H')(h:oV K θ H a xs):oV K θ' H' a xs:=⟨g.keep _ _ h.1 h.2 (by intro _ z;cases z),g.notin h.1 h.2⟩
theorem uF.grow (g:Grow θ H θ' H')(h:uF θ H a xs):uF θ' H' a xs:=⟨g.keep _ _ h.1 h.2 (by intro _ z;cases z),g.notin h.1 h.2⟩
theorem uf.grow (g:Grow θ H θ' H')(h:uf K θ H a xs):uf K θ' H' a xs:=by
 rcases h with⟨h|⟨o,h⟩,n⟩|h
 ·exact .inl ⟨.inl (g.keep _ _ h n (by intro _ z;cases z)),g.notin h n⟩
 ·exact .inl ⟨.inr ⟨o,g.keep _ _ h n (by intro _ z;cases z)⟩,g.notin h n⟩
 ·exact .inr h
mutual
theorem o8 (g:Grow θ H θ' H'):∀(d:D) (v:V),fA K θ H d v→fA K θ' H' d v
 | .non,v,h=>h
 | .bl b,v,h=>h
 | .int i,v,h=>h
 | .str x,v,h=>h
 | .tup ds,v,h=>by
  obtain⟨a,vs,e,t,r⟩:=h;exact⟨a,vs,e,t.grow g,eW g ds vs r⟩
 | .lst ds,v,h=>by
  obtain⟨a,vs,e,t,r⟩:=h;exact⟨a,vs,e,t.grow g,eW g ds vs r⟩
 | .ro ds,v,h=>by
  obtain⟨a,vs,e,t,r⟩:=h;exact⟨a,vs,e,t.grow g,eW g ds vs r⟩
 | .mr i,v,h=>by
  obtain⟨a,e,t⟩:=h;obtain⟨m,em,_⟩:=g.ext;refine⟨a,e,?_⟩;rw[em,getElem?_append_left (List.getElem?_eq_some_iff.mp t).1];exact t
 | .exc c,v,h=>by
  obtain⟨a,C,e,k,t,n⟩:=h;exact⟨a,C,e,k,g.keep _ _ t n (by intro _ z;cases z),g.notin t n⟩
 | .any,v,h=>h
theorem eW (g:Grow θ H θ' H'):∀(ds:List D) (vs:List V),bO K θ H ds vs→bO K θ' H' ds vs
 | [],vs,h=>h
 | d::ds,vs,h=>by
  obtain⟨v,r,e,h1,h2⟩:=h;exact⟨v,r,e,o8 g d v h1,eW g ds r h2⟩
end
theorem fA.go (h:fA K θ H d v)(g:Go K θ H θ' H' M'):fA K θ' H' d v:=o8 g.toGrow d v h
theorem bO.go (h:bO K θ H ds vs)(g:Go K θ H θ' H' M'):bO K θ' H' ds vs:=eW g.toGrow ds vs h
theorem l9.go (h:l9 K θ H σ ρ)(g:Go K θ H θ' H' M'):l9 K θ' H' σ ρ:=⟨h.len,fun i d e=>let ⟨v,e1,e2⟩:=h.at_ i d e;⟨v,e1,e2.go g⟩⟩
theorem aJ:∀{ds:List D} {vs:List V},bO K θ H ds vs→ds.length=vs.length
 | [],vs,h=>by cases (show vs=[] from h);rfl
 | d::ds,vs,h=>by
  obtain⟨v,r,e,_,h2⟩:=h;subst e;rw[length_cons,length_cons,aJ h2]
theorem fh:∀{ds es:List D} {vs us:List V},bO K θ H ds vs→bO K θ H es us→bO K θ H (ds++es) (vs++us)
 | [],es,vs,us,h,k=>by cases (show vs=[] from h);exact k
 | d::ds,es,vs,us,h,k=>by
  obtain⟨v,r,e,h1,h2⟩:=h;subst e;exact⟨v,r++us,rfl,h1,fh h2 k⟩
theorem gZ:∀{ds:List D} {vs:List V} {i:Nat} {d:D},bO K θ H ds vs→ds[i]?=some d→∃v,vs[i]?=some v∧fA K θ H d v
 | [],vs,i,d,h,e=>by simp at e
 | x::ds,vs,0,d,h,e=>by
  obtain⟨v,r,e1,h1,h2⟩:=h;subst e1;simp at e;subst e;exact⟨v,rfl,h1⟩
 | x::ds,vs,i+1,d,h,e=>by
  obtain⟨v,r,e1,h1,h2⟩:=h;subst e1;obtain⟨u,e2,h3⟩:=gZ (i:=i) h2 (by simpa using e);exact⟨u,by simpa using e2,h3⟩
theorem ut:∀{ds:List D} {vs:List V} (n:Nat),bO K θ H ds vs→bO K θ H (ds.take n) (vs.take n)
 | ds,vs,0,h=>by rw[take_zero,take_zero];exact rfl
 | [],vs,n+1,h=>by cases (show vs=[] from h);exact rfl
 | d::ds,vs,n+1,h=>by
  obtain⟨v,r,e,h1,h2⟩:=h;subst e;exact⟨v,r.take n,rfl,h1,ut n h2⟩
theorem uP:∀{ds:List D} {vs:List V} (n:Nat),bO K θ H ds vs→bO K θ H (ds.drop n) (vs.drop n)
 | ds,vs,0,h=>h
 | [],vs,n+1,h=>by cases (show vs=[] from h);exact rfl
 | d::ds,vs,n+1,h=>by
  obtain⟨v,r,e,h1,h2⟩:=h;subst e;exact uP n h2
theorem xF {d:D}{v:V}(hd:fA K θ H d v):∀{ds:List D} {vs:List V} (i:Nat),bO K θ H ds vs→bO K θ H (ds.set i d) (vs.set i v)
 | [],vs,i,h=>by cases (show vs=[] from h);exact rfl
 | x::ds,vs,0,h=>by
  obtain⟨u,r,e,h1,h2⟩:=h;subst e;exact⟨v,r,rfl,hd,h2⟩
 | x::ds,vs,i+1,h=>by
  obtain⟨u,r,e,h1,h2⟩:=h;subst e;exact⟨u,r.set i v,rfl,h1,xF hd i h2⟩
theorem o5 (w:Wr K θ H M)(hp:H p=none):Grow θ H θ (cR H p o):=
 ⟨⟨[],by simp,fun _ z=>by cases z⟩,fun b u h _ _=>by rw[aQ (cj h hp)];exact h,fun b ps h=>⟨ps,by rw[aQ (cj h hp)];exact h⟩⟩
theorem pq (g:Grow θ H θ' H'):∀{fs:List (Str×D)} {vs:List (Str×V)},oW K θ H fs vs→oW K θ' H' fs vs
 | [],vs,h=>h
 | (f,d)::fs,vs,h=>by
  obtain⟨v,r,e,h1,h2⟩:=h;exact⟨v,r,e,o8 g d v h1,pq g h2⟩
theorem kU {κ:Type}(g:Grow θ H θ' H'):∀{fs:List (κ×D)} {vs:List (κ×V)},sX K θ H fs vs→sX K θ' H' fs vs
 | [],vs,h=>h
 | (f,d)::fs,vs,h=>by
  obtain⟨v,r,e,h1,h2⟩:=h;exact⟨v,r,e,o8 g d v h1,kU g h2⟩
theorem tX.grow (g:Grow θ H θ' H')(hs:H' a=H a)(h:tX K θ H m a):tX K θ' H' m a:=by
 cases m with
 | lst ds=>
  obtain⟨vs,e,r⟩:=h;exact⟨vs,by rw[hs];exact e,eW g ds vs r⟩
 | obj c fs=>
  obtain⟨C,dx,vs,k,e,r⟩:=h;exact⟨C,dx,vs,k,by rw[hs];exact e,pq g r⟩
 | dK kvs=>
  obtain⟨vs,e,r⟩:=h;exact⟨vs,by rw[hs];exact e,kU g r⟩
 | dT kvs=>
  obtain⟨vs,e,r⟩:=h;exact⟨vs,by rw[hs];exact e,kU g r⟩
theorem fm (w:Wr K θ H M)(hp:H p=none):Go K θ H θ (cR H p o) M:=
 ⟨o5 w hp,w.len,w.nd,fun i a m h1 h2=>by
  have ha:a≠p:=fun e=>w.fresh hp (by rw[←e];exact mem_of_getElem? h1)
  exact(w.at_ i a m h1 h2).grow (o5 w hp) (aQ ha),w.tb.new hp⟩
theorem je (w:Wr K θ H M)(hp:H p=none)(r:bO K θ H ds vs):fA K θ (cR H p (.tup vs)) (.tup ds) (.ref p):=
 ⟨p,vs,rfl,⟨bX,w.fresh hp⟩,eW (o5 w hp) ds vs r⟩
theorem lR (w:Wr K θ H M)(hp:H p=none)(r:bO K θ H ds vs):fA K θ (cR H p (.lst vs)) (.lst ds) (.ref p):=
 ⟨p,vs,rfl,⟨bX,w.fresh hp⟩,eW (o5 w hp) ds vs r⟩
theorem uR (hp:H p=none):Grow θ H (θ++[p]) (cR H p o):=
 ⟨⟨[p],rfl,fun a ha=>by rw[mem_singleton.mp ha];exact hp⟩,fun b u h _ _=>by rw[aQ (cj h hp)];exact h,fun b ps h=>⟨ps,by rw[aQ (cj h hp)];exact h⟩⟩
theorem wy (w:Wr K θ H M)(hp:H p=none)(hm:tX K (θ++[p]) (cR H p o) m p):Go K θ H (θ++[p]) (cR H p o) (M++[m]):=by
 have np:=w.fresh hp;have g:Grow θ H (θ++[p]) (cR H p o):=uR hp;refine⟨g,by rw[length_append,length_append,w.len];rfl,?_,fun i a m' h1 h2=>?_,w.tb.new hp⟩
 ·rw[nodup_append];exact⟨w.nd,by simp,fun x hx y hy e=>np (by rw[mem_singleton.mp hy] at e;rw[←e];exact hx)⟩
 ·by_cases hi:i<θ.length
  ·rw[getElem?_append_left hi] at h1;rw[getElem?_append_left (by rw[←w.len];exact hi)] at h2;have ha:a≠p:=fun e=>np (by rw[←e];exact mem_of_getElem? h1)
   exact(w.at_ i a m' h1 h2).grow g (aQ ha)
  ·have hi':i=θ.length:=by
    have:=(List.getElem?_eq_some_iff.mp h1).1;rw[length_append,length_singleton] at this;omega
   subst hi';rw[getElem?_append_right (Nat.le_refl _)] at h1;rw[getElem?_append_right (by rw[w.len];exact Nat.le_refl _)] at h2;simp only[Nat.sub_self,w.len,getElem?_cons_zero,Option.some.injEq] at h1 h2;subst h1;subst h2;exact hm
theorem K9 (w:Wr K θ H M)(hp:H p=none)(r:bO K θ H ds vs):Go K θ H (θ++[p]) (cR H p (.lst vs)) (M++[.lst ds]):=
 wy w hp ⟨vs,bX,eW (uR hp) ds vs r⟩
theorem oY (w:Wr K θ H M)(hi:θ[i]?=some a):Grow θ H θ (cR H a o):=by
 have ha:a∈θ:=mem_of_getElem? hi;obtain⟨u,hu,pu⟩:=w.plain hi;exact⟨⟨[],by simp,fun _ z=>by cases z⟩,fun b u h n _=>by rw[aQ (fun e=>n (by rw[e];exact ha))];exact h,fun b ps h=>⟨ps,by rw[aQ (xN h hu (by intro z;subst z;cases pu))];exact h⟩⟩
theorem rm (w:Wr K θ H M)(hi:θ[i]?=some a)(hm:tX K θ (cR H a o) m a):Go K θ H θ (cR H a o) (M.set i m):=by
 have g:Grow θ H θ (cR H a o):=oY w hi;obtain⟨u,hu,pu⟩:=w.plain hi;refine⟨g,by rw[length_set];exact w.len,w.nd,fun j b m' h1 h2=>?_,w.tb.at_ hu pu⟩
 by_cases hj:j=i
 ·subst hj;rw[hi] at h1;cases h1;have hl:j<M.length:=by rw[←w.len];exact(List.getElem?_eq_some_iff.mp hi).1
  rw[getElem?_set_self hl] at h2;cases h2;exact hm
 ·rw[getElem?_set_ne (Ne.symm hj)] at h2;have hb:b≠a:=fun e=>by
   subst e;obtain⟨h3,e3⟩:=List.getElem?_eq_some_iff.mp h1;obtain⟨h4,e4⟩:=List.getElem?_eq_some_iff.mp hi;exact hj ((getElem_inj w.nd).mp (e3.trans e4.symm))
  exact(w.at_ j b m' h1 h2).grow g (aQ hb)
theorem zr {ds ds':List D}{vs':List V}(w:Wr K θ H M)(hi:θ[i]?=some a)(r:bO K θ H ds' vs'):Go K θ H θ (cR H a (.lst vs')) (M.set i (.lst ds')):=
 rm w hi ⟨vs',bX,eW (oY w hi) ds' vs' r⟩
end
abbrev GE:=cC→aB→bj D
abbrev GT:=cC→aB→bj Bool
abbrev GA:=cC→aB→bj (List D)
inductive Fl where
 | nx (ρ:cC)|rt (d:D)|bk (ρ:cC)|ct (ρ:cC)
abbrev GS:=cC→aB→bj Fl
def fW (X:Cx)(θ:List Addr)(H:Hp)(c:Str)(M:aB):Prop:=∀C θ' H' a s',jH X.K c C→Go X.K θ H θ' H' M→PH X H' a C s'→X.xe (.ref a) s'
def bh (X:Cx)(θ:List Addr)(H:Hp)(Q:VK):bj D→Prop
 | .ok d M'=>∀v θ' H',Go X.K θ H θ' H' M'→fA X.K θ' H' d v→Q v H'
 | .err c M'=>fW X θ H c M'
 | .bad=>False
def pO (X:Cx)(θ:List Addr)(H:Hp)(Q:Bool→Hp→Prop):bj Bool→Prop
 | .ok b M'=>∀θ' H',Go X.K θ H θ' H' M'→Q b H'
 | .err c M'=>fW X θ H c M'
 | .bad=>False
def A0 (X:Cx)(θ:List Addr)(H:Hp)(Q:List V→Hp→Prop):bj (List D)→Prop
 | .ok ds M'=>∀vs θ' H',Go X.K θ H θ' H' M'→bO X.K θ' H' ds vs→Q vs H'
 | .err c M'=>fW X θ H c M'
 | .bad=>False
def cT (X:Cx)(θ:List Addr)(H:Hp)(D:BJ):bj Fl→Prop
 | .ok (.nx ρ) M'=>∀σ θ' H',Go X.K θ H θ' H' M'→l9 X.K θ' H' σ ρ→D.nx σ H'
 | .ok (.bk ρ) M'=>∀σ θ' H',Go X.K θ H θ' H' M'→l9 X.K θ' H' σ ρ→D.bk σ H'
 | .ok (.ct ρ) M'=>∀σ θ' H',Go X.K θ H θ' H' M'→l9 X.K θ' H' σ ρ→D.ct σ H'
 | .ok (.rt d) M'=>∀v θ' H',Go X.K θ H θ' H' M'→fA X.K θ' H' d v→D.rt v H'
 | .err c M'=>fW X θ H c M'
 | .bad=>False
def tE (X:Cx)(g:GE):TE:=fun σ H Q=>∃ρ θ M,l9 X.K θ H σ ρ∧Wr X.K θ H M∧bh X θ H Q (g ρ M)
def tT (X:Cx)(g:GT):TT:=fun σ H Q=>∃ρ θ M,l9 X.K θ H σ ρ∧Wr X.K θ H M∧pO X θ H Q (g ρ M)
def tA (X:Cx)(g:GA):TA:=fun σ H Q=>∃ρ θ M,l9 X.K θ H σ ρ∧Wr X.K θ H M∧A0 X θ H Q (g ρ M)
def tS (X:Cx)(g:GS):TS:=fun D σ H=>∃ρ θ M,l9 X.K θ H σ ρ∧Wr X.K θ H M∧cT X θ H D (g ρ M)
variable{M:aB}{Q:Bool→Hp→Prop}
section
variable {X:Cx}{θ θ':List Addr}{H H':Hp}{M':aB}
theorem fW.go {c:Str}(g:Go X.K θ H θ' H' M')(h:fW X θ H c M):fW X θ' H' c M:=fun C θ2 H2 a s' k g2 fl=>h C θ2 H2 a s' k (g.trans g2) fl
theorem bh.go {Q:VK}{o:bj D}(g:Go X.K θ H θ' H' M')(h:bh X θ H Q o):bh X θ' H' Q o:=by
 cases o with
 | ok d M=>exact fun v θ2 H2 g2=>h v θ2 H2 (g.trans g2)
 | err c M=>exact fW.go (c:=c) (M:=M) g h
 | bad=>exact h
theorem pO.go {o:bj Bool}(g:Go X.K θ H θ' H' M')(h:pO X θ H Q o):pO X θ' H' Q o:=by
 cases o with
 | ok d M=>exact fun θ2 H2 g2=>h θ2 H2 (g.trans g2)
 | err c M=>exact fW.go (c:=c) (M:=M) g h
 | bad=>exact h
theorem A0.go {Q:List V→Hp→Prop}{o:bj (List D)}(g:Go X.K θ H θ' H' M')(h:A0 X θ H Q o):A0 X θ' H' Q o:=by
 cases o with
 | ok d M=>exact fun v θ2 H2 g2=>h v θ2 H2 (g.trans g2)
 | err c M=>exact fW.go (c:=c) (M:=M) g h
 | bad=>exact h
theorem cT.go {D:BJ}{o:bj Fl}(g:Go X.K θ H θ' H' M')(h:cT X θ H D o):cT X θ' H' D o:=by
 cases o with
 | ok f M=>cases f <;> exact fun v θ2 H2 g2=>h v θ2 H2 (g.trans g2)
 | err c M=>exact fW.go (c:=c) (M:=M) g h
 | bad=>exact h
end
variable{c:Expr}{es:List Expr}{g ga gb:GE}{ρ:cC}{pos:Pos}{op:CmpOp}
section
variable {X:Cx}{e:Expr}
theorem _root_.L2.PE.of {t t':TE}(h:PE X e t)(w:∀σ H Q,t' σ H Q→t σ H Q):PE X e t':=fun ah s σ H Q I q=>h ah s σ H Q I (w σ H Q q)
theorem _root_.L2.PT.of {t t':TT}(h:PT X e t)(w:∀σ H Q,t' σ H Q→t σ H Q):PT X e t':=fun ah s σ H Q I q=>h ah s σ H Q I (w σ H Q q)
theorem _root_.L2.PW.of {t t':TT}(h:PW X e t)(w:∀σ H Q,t' σ H Q→t σ H Q):PW X e t':=fun wh ah s σ H Q I q=>h wh ah s σ H Q I (w σ H Q q)
theorem _root_.L2.PA.of {t t':TA}(h:PA X es t)(w:∀σ H Q,t' σ H Q→t σ H Q):PA X es t':=fun pos ah s σ H Q I q=>h pos ah s σ H Q I (w σ H Q q)
theorem _root_.L2.PS.of {st:Stmt}{t t':TS}(h:PS X st t)(w:∀D σ H,t' D σ H→t D σ H):PS X st t':=fun ah s σ H D I q=>h ah s σ H D I (w D σ H q)
theorem _root_.L2.PSs.of {st:List Stmt}{t t':TS}(h:PSs X st t)(w:∀D σ H,t' D σ H→t D σ H):PSs X st t':=fun ah s σ H D I q=>h ah s σ H D I (w D σ H q)
theorem bZ {Q:VK}{α:Type}(hd:l9 X.K θ H σ ρ)(hw:Wr X.K θ H M)(F:bj α→Prop)(Fe:∀c M',F (.err c M')→fW X θ H c M')(Fb:F .bad→False)
  {f:D→aB→bj α} (h:F ((g ρ M).bind f))
  (k:∀d M1 v θ1 H1,Go X.K θ H θ1 H1 M1→fA X.K θ1 H1 d v→F (f d M1)→Q v H1):tE X g σ H Q:=by
 refine⟨ρ,θ,M,hd,hw,?_⟩;cases q:g ρ M with
 | ok d M1=>
  rw[q] at h;exact fun v θ1 H1 g1 r1=>k d M1 v θ1 H1 g1 r1 h
 | err c M1=>rw[q] at h;exact Fe c M1 h
 | bad=>rw[q] at h;exact(Fb h).elim
def ae (i:Nat):GE:=fun ρ M=>match ρ[i]? with
 | some (some d)=>.ok d M
 | _=>.bad
def gC (d:D):GE:=fun _ M=>.ok d M
theorem Ic (h:PE X e (N1 i)):PE X e (tE X (ae i)):=h.of fun σ H Q ⟨ρ,θ,M,hd,hw,f⟩=>by
 unfold ae at f;split at f
 ·rename_i d q;obtain⟨v,e1,r⟩:=hd.at_ i d q;exact⟨v,e1,f v θ H (.refl hw) r⟩
 ·exact f.elim
theorem KZ {i j pos}:PE X (.Constant (.int i) j pos) (tE X (gC (.int i))):=Et.of fun σ H Q ⟨ρ,θ,M,hd,hw,f⟩=>f _ θ H (.refl hw) rfl
theorem NW {b j pos}:PE X (.Constant (.bool b) j pos) (tE X (gC (.bl b))):=Mi.of fun σ H Q ⟨ρ,θ,M,hd,hw,f⟩=>f _ θ H (.refl hw) rfl
theorem Jz {j pos}:PE X (.Constant .none j pos) (tE X (gC .non)):=Iw.of fun σ H Q ⟨ρ,θ,M,hd,hw,f⟩=>f _ θ H (.refl hw) rfl
theorem IK {x j pos}:PE X (.Constant (.str x) j pos) (tE X (gC (.str x))):=Ie.of fun σ H Q ⟨ρ,θ,M,hd,hw,f⟩=>f _ θ H (.refl hw) rfl
abbrev F2:=D→D→aB→bj D
def g2 (f:F2)(ga gb:GE):GE:=fun ρ M=>(ga ρ M).bind fun x M1=>(gb ρ M1).bind fun y M2=>f x y M2
def rD (X:Cx)(f:F2):R2:=fun x y H Q=>∃θ M dx dy,Wr X.K θ H M∧fA X.K θ H dx x∧fA X.K θ H dy y∧bh X θ H Q (f dx dy M)
theorem Av {f:F2}{Q:VK}(h:tE X (g2 f ga gb) σ H Q):Lr (rD X f) (tE X ga) (tE X gb) σ H Q:=by
 obtain⟨ρ,θ,M,hd,hw,h⟩:=h;refine bZ hd hw (bh X θ H Q) (fun c M' h=>h) (fun h=>h) h fun dx M1 x θ1 H1 g1 r1 h1=>?_
 refine bZ (hd.go g1) g1.wr (bh X θ1 H1 Q) (fun c M' h=>h) (fun h=>h) (h1.go g1) fun dy M2 y θ2 H2 g2 r2 h2=>?_
 exact⟨θ2,M2,dx,dy,g2.wr,r1.go g2,r2,h2.go g2⟩
theorem ME {a b:Expr}{op:Operator}{f:F2}(ho:jB X (binaryOp op) (rD X f))(ha:PE X a (tE X ga))(hb:PE X b (tE X gb)):PE X (.BinOp a op b pos) (tE X (g2 f ga gb)):=
 (Nl ho ha hb).of fun _ _ _ h=>Av h
theorem JU {a b:Expr}{f:F2}(ho:jB X (compareOp op) (rD X f))(ha:PE X a (tE X ga))(hb:PE X b (tE X gb))(hm:behindInMarks op b=false):PE X (.Compare a [op] [b] pos) (tE X (g2 f ga gb)):=
 (Gb ho ha hb hm).of fun _ _ _ h=>Av h
def HH:D→aB→bj Bool
 | .bl b,M=>.ok b M
 | _,_=>.bad
def az (g:GE):GT:=fun ρ M=>(g ρ M).bind HH
theorem Dk {o:bj D}(h:pO X θ H Q (o.bind HH)):bh X θ H (fun x H'=>∃k,x=.bl k∧Q k H') o:=by
 cases o with
 | ok d M=>
  cases d with
  | bl b=>exact fun v θ1 H1 g1 r1=>⟨b,r1,h θ1 H1 g1⟩
  | _=>exact h.elim
 | err c M=>exact h
 | bad=>exact h
theorem Ee (h:tT X (az g) σ H Q):tE X g σ H fun x H'=>∃k,x=.bl k∧Q k H':=by
 obtain⟨ρ,θ,M,hd,hw,h⟩:=h;exact⟨ρ,θ,M,hd,hw,Dk h⟩
theorem Ej {a b:Expr}{f:F2}(ho:jB X (compareOp op) (rD X f))(ha:PE X a (tE X ga))(hb:PE X b (tE X gb))(hm:behindInMarks op b=false):PT X (.Compare a [op] [b] pos) (tT X (az (g2 f ga gb))):=
 (G8 ho ha hb hm).of fun σ H Q h=>Av (Ee h)
def qH (f f':F2)(ga gb gc:GE):GE:=fun ρ M=>(ga ρ M).bind fun x M1=>(gb ρ M1).bind fun y M2=>(f x y M2).bind fun z M3=>match z with
 | .bl true=>(gc ρ M3).bind fun w M4=>f' y w M4
 | .bl false=>.ok (.bl false) M3
 | _=>.bad
theorem Hq {f f':F2}{gc:GE}{Q:VK}(h:tE X (qH f f' ga gb gc) σ H Q):zU (rD X f) (rD X f') (tE X ga) (tE X gb) (tE X gc) σ H Q:=by
 obtain⟨ρ,θ,M,hd,hw,h⟩:=h;refine bZ hd hw (bh X θ H Q) (fun c M' h=>h) (fun h=>h) h fun dx M1 x θ1 H1 g1 r1 h1=>?_
 refine bZ (hd.go g1) g1.wr (bh X θ1 H1 Q) (fun c M' h=>h) (fun h=>h) (h1.go g1) fun dy M2 y θ2 H2 g2 r2 h2=>?_
 refine⟨θ2,M2,dx,dy,g2.wr,r1.go g2,r2,?_⟩;have h3:=h2.go g2;cases q:f dx dy M2 with
 | ok z M3=>
  rw[q] at h3;intro v θ3 H3 g3 r3;cases z with
  | bl k=>
   refine⟨k,r3,?_⟩;cases k with
   | true=>
    rw[if_pos rfl];refine bZ ((hd.go g1).go (g2.trans g3)) g3.wr (bh X θ3 H3 Q) (fun c M' h=>h) (fun h=>h) (h3.go g3) fun dw M4 w θ4 H4 g4 r4 h4=>?_
    exact⟨θ4,M4,dy,dw,g4.wr,r2.go (g3.trans g4),r4,h4.go g4⟩
   | false=>
    rw[if_neg Bool.false_ne_true];exact h3 _ θ3 H3 g3 rfl
  | _=>exact h3.elim
 | err c M3=>rw[q] at h3;exact h3
 | bad=>rw[q] at h3;exact h3
theorem Ca {a b:Expr}{op':CmpOp}{pos:Pos}{f f':F2}{gc:GE}(ho:jB X (compareOp op) (rD X f))(ho':jB X (compareOp op') (rD X f'))(ha:PE X a (tE X ga))(hb:PE X b (tE X gb))(hc:PE X c (tE X gc))
  (hm:lastMarks [op,op'] [b,c]=false:=by with_unfolding_all rfl):PE X (.Compare a [op,op'] [b,c] pos) (tE X (qH f f' ga gb gc)):=(Cz ho ho' ha hb hc hm).of fun _ _ _ h=>Hq h
theorem D8 {a b:Expr}{op':CmpOp}{pos:Pos}{f f':F2}{gc:GE}(ho:jB X (compareOp op) (rD X f))(ho':jB X (compareOp op') (rD X f'))(ha:PE X a (tE X ga))(hb:PE X b (tE X gb))(hc:PE X c (tE X gc))
  (hm:lastMarks [op,op'] [b,c]=false:=by with_unfolding_all rfl):PT X (.Compare a [op,op'] [b,c] pos) (tT X (az (qH f f' ga gb gc))):=(D9 ho ho' ha hb hc hm).of fun σ H Q h=>Hq (Ee h)
def dL (a b:GT):GT:=fun ρ M=>(a ρ M).bind fun c M1=>if c then b ρ M1 else .ok false M1
def cx (a b:GT):GT:=fun ρ M=>(a ρ M).bind fun c M1=>if c then .ok true M1 else b ρ M1
def bI (a:GT):GT:=fun ρ M=>(a ρ M).bind fun c M1=>.ok (!c) M1
theorem uG {g:GT}{α:Type}(hd:l9 X.K θ H σ ρ)(hw:Wr X.K θ H M)(F:bj α→Prop)(Fe:∀c M',F (.err c M')→fW X θ H c M')(Fb:F .bad→False)
  {f:Bool→aB→bj α} (h:F ((g ρ M).bind f)) (k:∀d M1 θ1 H1,Go X.K θ H θ1 H1 M1→F (f d M1)→Q d H1):tT X g σ H Q:=by
 refine⟨ρ,θ,M,hd,hw,?_⟩;cases q:g ρ M with
 | ok d M1=>
  rw[q] at h;exact fun θ1 H1 g1=>k d M1 θ1 H1 g1 h
 | err c M1=>rw[q] at h;exact Fe c M1 h
 | bad=>rw[q] at h;exact(Fb h).elim
variable {a b:Expr}{pos:Pos}{rest:List Expr}{ta tb:GT}{ga gb:GE}
theorem FA (ha:PT X a (tT X ta)):PW X (.BoolOp .And [a] pos) (tT X ta):=Fw ha
theorem HV (ha:PT X a (tT X ta)):PW X (.BoolOp .Or [a] pos) (tT X ta):=Iq ha
theorem Kj (ha:PT X a (tT X ta))(hb:PW X (.BoolOp .And (b::rest) pos) (tT X tb)):PW X (.BoolOp .And (a::b::rest) pos) (tT X (dL ta tb)):=(JE ha hb).of fun σ H Q ⟨ρ,θ,M,hd,hw,h⟩=>by
 refine uG hd hw (pO X θ H Q) (fun c M' h=>h) (fun h=>h) h fun c M1 θ1 H1 g1 h1=>?_
 cases c with
 | true=>exact⟨ρ,θ1,M1,hd.go g1,g1.wr,pO.go g1 h1⟩
 | false=>exact h1 θ1 H1 g1
theorem Nn (ha:PT X a (tT X ta))(hb:PW X (.BoolOp .Or (b::rest) pos) (tT X tb)):PW X (.BoolOp .Or (a::b::rest) pos) (tT X (cx ta tb)):=(Mt ha hb).of fun σ H Q ⟨ρ,θ,M,hd,hw,h⟩=>by
 refine uG hd hw (pO X θ H Q) (fun c M' h=>h) (fun h=>h) h fun c M1 θ1 H1 g1 h1=>?_
 cases c with
 | true=>exact h1 θ1 H1 g1
 | false=>exact⟨ρ,θ1,M1,hd.go g1,g1.wr,pO.go g1 h1⟩
theorem Jm (ha:PT X a (tT X ta)):PT X (.UnaryOp .Not a pos) (tT X (bI ta)):=(JC ha).of fun σ H Q ⟨ρ,θ,M,hd,hw,h⟩=>by
 exact uG hd hw (pO X θ H Q) (fun c M' h=>h) (fun h=>h) h fun c M1 θ1 H1 g1 h1=>h1 θ1 H1 g1
def cV (a b:GE):GE:=fun ρ M=>(a ρ M).bind fun x M1=>match x with
 | .bl true=>b ρ M1
 | .bl false=>.ok (.bl false) M1
 | _=>.bad
def EN (a b:GE):GE:=fun ρ M=>(a ρ M).bind fun x M1=>match x with
 | .bl true=>.ok (.bl true) M1
 | .bl false=>b ρ M1
 | _=>.bad
def wf (a:GT):GE:=fun ρ M=>(a ρ M).bind fun c M1=>.ok (.bl (!c)) M1
theorem Ko {op}(h:PE X a (tE X g)):PE X (.BoolOp op [a] pos) (tE X g):=IA h
theorem Ky (ha:PE X a (tE X ga))(hb:PE X (.BoolOp .And (b::rest) pos) (tE X gb)):PE X (.BoolOp .And (a::b::rest) pos) (tE X (cV ga gb)):=(Jt ha hb).of fun σ H Q ⟨ρ,θ,M,hd,hw,h⟩=>by
 refine bZ hd hw (bh X θ H Q) (fun c M' h=>h) (fun h=>h) h fun d M1 v θ1 H1 g1 r1 h1=>?_
 cases d with
 | bl c=>
  refine⟨c,r1,?_⟩;cases c with
  | true=>rw[if_pos rfl];exact⟨ρ,θ1,M1,hd.go g1,g1.wr,bh.go g1 h1⟩
  | false=>rw[if_neg Bool.false_ne_true];exact h1 _ θ1 H1 g1 rfl
 | _=>exact h1.elim
theorem L7 (ha:PE X a (tE X ga))(hb:PE X (.BoolOp .Or (b::rest) pos) (tE X gb)):PE X (.BoolOp .Or (a::b::rest) pos) (tE X (EN ga gb)):=(LD ha hb).of fun σ H Q ⟨ρ,θ,M,hd,hw,h⟩=>by
 refine bZ hd hw (bh X θ H Q) (fun c M' h=>h) (fun h=>h) h fun d M1 v θ1 H1 g1 r1 h1=>?_
 cases d with
 | bl c=>
  refine⟨c,r1,?_⟩;cases c with
  | true=>rw[if_pos rfl];exact h1 _ θ1 H1 g1 rfl
  | false=>rw[if_neg Bool.false_ne_true];exact⟨ρ,θ1,M1,hd.go g1,g1.wr,bh.go g1 h1⟩
 | _=>exact h1.elim
def yw (t:GT)(a b:GE):GE:=fun ρ M=>(t ρ M).bind fun c M1=>if c then a ρ M1 else b ρ M1
theorem L9 (hc:PT X c (tT X ta))(ha:PE X a (tE X ga))(hb:PE X b (tE X gb)):PE X (.IfExp c a b pos) (tE X (yw ta ga gb)):=(CD hc ha hb).of fun σ H Q ⟨ρ,θ,M,hd,hw,h⟩=>by
 refine uG hd hw (bh X θ H Q) (fun c M' h=>h) (fun h=>h) h fun c M1 θ1 H1 g1 h1=>?_
 cases c with
 | true=>rw[if_pos rfl];exact⟨ρ,θ1,M1,hd.go g1,g1.wr,bh.go g1 h1⟩
 | false=>rw[if_neg Bool.false_ne_true];exact⟨ρ,θ1,M1,hd.go g1,g1.wr,bh.go g1 h1⟩
def ag:GA:=fun _ M=>.ok [] M
def aa (g:GE)(r:GA):GA:=fun ρ M=>(g ρ M).bind fun d M1=>(r ρ M1).bind fun ds M2=>.ok (d::ds) M2
theorem mQ {g:GA}{Q:List V→Hp→Prop}{α:Type}(hd:l9 X.K θ H σ ρ)(hw:Wr X.K θ H M)(F:bj α→Prop)(Fe:∀c M',F (.err c M')→fW X θ H c M')(Fb:F .bad→False)
  {f:List D→aB→bj α} (h:F ((g ρ M).bind f)) (k:∀ds M1 vs θ1 H1,Go X.K θ H θ1 H1 M1→bO X.K θ1 H1 ds vs→F (f ds M1)→Q vs H1):tA X g σ H Q:=by
 refine⟨ρ,θ,M,hd,hw,?_⟩;cases q:g ρ M with
 | ok d M1=>
  rw[q] at h;exact fun v θ1 H1 g1 r1=>k d M1 v θ1 H1 g1 r1 h
 | err c M1=>rw[q] at h;exact Fe c M1 h
 | bad=>rw[q] at h;exact(Fb h).elim
theorem KQ:PA X [] (tA X ag):=tj.of fun σ H Q ⟨ρ,θ,M,hd,hw,f⟩=>f [] θ H (.refl hw) rfl
theorem E9 {gr:GA}(ha:PE X e (tE X ga))(hr:PA X es (tA X gr))(hs:starEach (e::es) X.env=(false,eval e X.env)::starEach es X.env:=by rfl):PA X (e::es) (tA X (aa ga gr)):=
 (m7 ha hr hs).of fun σ H Q ⟨ρ,θ,M,hd,hw,h⟩=>by
  refine bZ hd hw (A0 X θ H Q) (fun c M' h=>h) (fun h=>h) h fun d M1 v θ1 H1 g1 r1 h1=>?_
  refine mQ (hd.go g1) g1.wr (A0 X θ1 H1 Q) (fun c M' h=>h) (fun h=>h) (h1.go g1) fun ds M2 vs θ2 H2 g2 r2 h2=>?_
  exact h2 (v::vs) θ2 H2 g2 ⟨v,vs,rfl,r1.go g2,r2⟩
def sO (ds:List D)(M:aB):bj D:=if ds.length≤sizeLine then .ok (.tup ds) M else .bad
def aZ (ds:List D)(M:aB):bj D:=if ds.length≤sizeLine then .ok (.lst ds) M else .bad
def fq (ds:List D)(M:aB):bj D:=if ds.length≤sizeLine then .ok (.mr M.length) (M++[.lst ds]) else .bad
def bb (g:GA):GE:=fun ρ M=>(g ρ M).bind sO
def dD (g:GA):GE:=fun ρ M=>(g ρ M).bind aZ
def iC (g:GA):GE:=fun ρ M=>(g ρ M).bind fq
theorem bh.tup {Q:VK}(h:bh X θ H Q (sO ds M))(hw:Wr X.K θ H M)(r:bO X.K θ H ds vs):vs.length≤sizeLine∧∀p,H p=none→Q (.ref p) (cR H p (.tup vs)):=by
 unfold sO at h
 by_cases hl:ds.length≤sizeLine
 ·rw[if_pos hl] at h;exact⟨by rw[←aJ r];exact hl,fun p hp=>h _ θ _ (fm hw hp) (je hw hp r)⟩
 ·rw[if_neg hl] at h;exact h.elim
theorem bh.lst {Q:VK}(h:bh X θ H Q (aZ ds M))(hw:Wr X.K θ H M)(r:bO X.K θ H ds vs):vs.length≤sizeLine∧∀p,H p=none→Q (.ref p) (cR H p (.lst vs)):=by
 unfold aZ at h
 by_cases hl:ds.length≤sizeLine
 ·rw[if_pos hl] at h;exact⟨by rw[←aJ r];exact hl,fun p hp=>h _ θ _ (fm hw hp) (lR hw hp r)⟩
 ·rw[if_neg hl] at h;exact h.elim
theorem bh.mut {Q:VK}(h:bh X θ H Q (fq ds M))(hw:Wr X.K θ H M)(r:bO X.K θ H ds vs):vs.length≤sizeLine∧∀p,H p=none→Q (.ref p) (cR H p (.lst vs)):=by
 unfold fq at h
 by_cases hl:ds.length≤sizeLine
 ·rw[if_pos hl] at h;refine⟨by rw[←aJ r];exact hl,fun p hp=>h _ (θ++[p]) _ (K9 hw hp r) ⟨p,rfl,?_⟩⟩;rw[←hw.len,getElem?_append_right (Nat.le_refl _)];simp
 ·rw[if_neg hl] at h;exact h.elim
theorem Ia {x1}{g:GA}(h:PA X es (tA X g)):PE X (.Tuple es x1 pos) (tE X (bb g)):=(IP h).of fun σ H Q ⟨ρ,θ,M,hd,hw,h⟩=>
 mQ hd hw (bh X θ H Q) (fun c M' h=>h) (fun h=>h) h fun ds M1 vs θ1 H1 g1 r1 h1=>bh.tup (bh.go g1 h1) g1.wr r1
theorem Jl {g:GA}(h:PA X es (tA X g)):PE X (.List es pos) (tE X (dD g)):=(Em h).of fun σ H Q ⟨ρ,θ,M,hd,hw,h⟩=>
 mQ hd hw (bh X θ H Q) (fun c M' h=>h) (fun h=>h) h fun ds M1 vs θ1 H1 g1 r1 h1=>bh.lst (bh.go g1 h1) g1.wr r1
theorem Jc {g:GA}(h:PA X es (tA X g)):PE X (.List es pos) (tE X (iC g)):=(Em h).of fun σ H Q ⟨ρ,θ,M,hd,hw,h⟩=>
 mQ hd hw (bh X θ H Q) (fun c M' h=>h) (fun h=>h) h fun ds M1 vs θ1 H1 g1 r1 h1=>bh.mut (bh.go g1 h1) g1.wr r1
end
section
variable {K:W.Frag}{θ:List Addr}{H:Hp}{σ:L2.St}{ρ:cC}
theorem l9.set (h:l9 K θ H σ ρ)(r:fA K θ H d v)(i:Nat):l9 K θ H (σ.set i (some v)) (ρ.set i (some d)):=by
 refine⟨by rw[length_set,length_set];exact h.len,fun j d' e=>?_⟩
 by_cases hj:j=i
 ·subst hj;have hl:j<ρ.length:=by
   have:=(List.getElem?_eq_some_iff.mp e).1;rw[length_set] at this;exact this
  rw[getElem?_set_self hl] at e;have e':d=d':=by simpa using e
  subst e';exact⟨v,getElem?_set_self (by rw[←h.len];exact hl),r⟩
 ·rw[getElem?_set_ne (Ne.symm hj)] at e;obtain⟨u,e1,r1⟩:=h.at_ j d' e;exact⟨u,by rw[getElem?_set_ne (Ne.symm hj)];exact e1,r1⟩
end
def aA:GS:=fun ρ M=>.ok (.nx ρ) M
def ar (a b:GS):GS:=fun ρ M=>(a ρ M).bind fun f M1=>match f with
 | .nx ρ1=>b ρ1 M1
 | .rt d=>.ok (.rt d) M1
 | .bk ρ1=>.ok (.bk ρ1) M1
 | .ct ρ1=>.ok (.ct ρ1) M1
def aH (i:Nat)(g:GE):GS:=fun ρ M=>(g ρ M).bind fun d M1=>.ok (.nx (ρ.set i (some d))) M1
def aD (g:GE):GS:=fun ρ M=>(g ρ M).bind fun d M1=>.ok (.rt d) M1
def cK (g:GE):GS:=fun ρ M=>(g ρ M).bind fun _ M1=>.ok (.nx ρ) M1
def bL (t:GT)(a b:GS):GS:=fun ρ M=>(t ρ M).bind fun c M1=>if c then a ρ M1 else b ρ M1
variable{x:Str}{is:List Nat}{n:Nat}
section
variable {X:Cx}{st:Stmt}{rest:List Stmt}{e:Expr}{g:GE}{t u:GS}{pos:Pos}
theorem K8:PSs X [] (tS X aA):=Gq.of fun D σ H ⟨ρ,θ,M,hd,hw,f⟩=>f σ θ H (.refl hw) hd
theorem Gi (h1:PS X st (tS X t))(h2:PSs X rest (tS X u)):PSs X (st::rest) (tS X (ar t u)):=(DP h1 h2).of fun D σ H ⟨ρ,θ,M,hd,hw,h⟩=>by
 refine⟨ρ,θ,M,hd,hw,?_⟩;unfold ar at h;cases q:t ρ M with
 | ok f M1=>
  rw[q] at h;cases f with
  | nx ρ1=>exact fun σ1 θ1 H1 g1 d1=>⟨ρ1,θ1,M1,d1,g1.wr,cT.go g1 h⟩
  | rt d=>exact h
  | bk ρ1=>exact h
  | ct ρ1=>exact h
 | err c M1=>rw[q] at h;exact h
 | bad=>rw[q] at h;exact h
theorem KD (h1:PS X st (tS X t)):PSs X [st] (tS X t):=Ft h1
theorem J8 {pos':Pos}(hN:X.N.Nodup)(hi:X.N[i]?=some x)(hx:yL X.env.scope x)(he:PE X e (tE X g))(hs:swapsWith e (some (.Name x pos')) pos.line X.env=pure false:=by rfl)(hf:X.fn x=true∨X.env.scope.names.lookup x=some .local:=by first|exact .inl rfl|exact .inr rfl|assumption) :
  PS X (.Assign [.Name x pos'] e pos) (tS X (aH i g)):=(Jn hN hi hx he hs hf).of fun D σ H ⟨ρ,θ,M,hd,hw,h⟩=>
 bZ hd hw (cT X θ H D) (fun c M' h=>h) (fun h=>h) h fun d M1 v θ1 H1 g1 r1 h1=>h1 _ θ1 H1 g1 ((hd.go g1).set r1 i)
theorem Ji (he:PE X e (tE X g)):PS X (.Return (some e) pos) (tS X (aD g)):=(Kh he).of fun D σ H ⟨ρ,θ,M,hd,hw,h⟩=>
 bZ hd hw (cT X θ H D) (fun c M' h=>h) (fun h=>h) h fun d M1 v θ1 H1 g1 r1 h1=>h1 v θ1 H1 g1 r1
theorem FO (he:PE X e (tE X g))(hs:swapsWith e none pos.line X.env=pure false:=by rfl):PS X (.Expr e pos) (tS X (cK g)):=(E6 he hs).of fun D σ H ⟨ρ,θ,M,hd,hw,h⟩=>
 bZ hd hw (cT X θ H D) (fun c M' h=>h) (fun h=>h) h fun d M1 v θ1 H1 g1 r1 h1=>h1 σ θ1 H1 g1 (hd.go g1)
theorem L3 {a b:List Stmt}{tc:GT}(hc:PT X c (tT X tc))(ha:PSs X a (tS X t))(hb:PSs X b (tS X u)):PS X (.If c a b pos) (tS X (bL tc t u)):=(Nu hc ha hb).of fun D σ H ⟨ρ,θ,M,hd,hw,h⟩=>by
 refine uG hd hw (cT X θ H D) (fun c M' h=>h) (fun h=>h) h fun c M1 θ1 H1 g1 h1=>?_
 cases c with
 | true=>rw[if_pos rfl];exact⟨ρ,θ1,M1,hd.go g1,g1.wr,cT.go g1 h1⟩
 | false=>rw[if_neg Bool.false_ne_true];exact⟨ρ,θ1,M1,hd.go g1,g1.wr,cT.go g1 h1⟩
abbrev GG:=D→cC→Option cC
def tG (X:Cx)(s:GG):TG:=fun v σ H Q=>∃ρ θ M d,l9 X.K θ H σ ρ∧Wr X.K θ H M∧fA X.K θ H d v∧∃ρ',s d ρ=some ρ'∧∀σ',l9 X.K θ H σ' ρ'→Q σ' H
def dM (i:Nat):GG:=fun d ρ=>some (ρ.set i (some d))
def l6:List Nat→List D→cC→Option cC
 | [],[],ρ=>some ρ
 | i::is,d::ds,ρ=>l6 is ds (ρ.set i (some d))
 | _,_,_=>none
def bJ (is:List Nat):GG:=fun d ρ=>match d with
 | .tup ds=>l6 is ds ρ
 | _=>none
theorem vN (hN:X.N.Nodup)(hi:X.N[i]?=some x)(hx:yL X.env.scope x)(hf:X.fn x=true∨X.env.scope.names.lookup x=some .local:=by first|exact .inl rfl|exact .inr rfl|assumption):PG X (.Name x pos) (tG X (dM i)):=by
 intro ah s σ H v u Q I r h;obtain⟨ρ,θ,M,d,hd,hw,rd,ρ',e,h⟩:=h;cases e;exact Gd hN hi hx hf ah s σ H v u Q I r (h _ (hd.set rd i))
def MT (X:Cx)(is:List Nat):Fz:=fun vs σ H Q=>∃ρ θ M ds,l9 X.K θ H σ ρ∧Wr X.K θ H M∧bO X.K θ H ds vs∧∃ρ',l6 is ds ρ=some ρ'∧∀σ',l9 X.K θ H σ' ρ'→Q σ' H
theorem Hm:Ay X [] (MT X []):=by
 intro ah s σ H vs us Q I r h;obtain⟨ρ,θ,M,ds,hd,hw,rd,ρ',e,h⟩:=h;cases ds with
 | cons d ds=>cases e
 | nil=>
  have e2:vs=[]:=rd;subst e2;cases e;exact Ac ah s σ H [] us Q I r ⟨rfl,h σ hd⟩
theorem DU (h1:PG X e (tG X (dM i)))(h2:Ay X es (MT X is))
  (hs:(assignEach (e::es) X.env).map (·.2)=assign e X.env::(assignEach es X.env).map (·.2):=by rfl):Ay X (e::es) (MT X (i::is)):=by
 intro ah s σ H vs us Q I r h;obtain⟨ρ,θ,M,ds,hd,hw,rd,ρ',e1,h⟩:=h;cases ds with
 | nil=>cases e1
 | cons d ds=>
  obtain⟨v,vr,e2,rv,rr⟩:=rd;subst e2;refine yq h1 h2 hs ah s σ H _ us Q I r ⟨v,vr,rfl,ρ,θ,M,d,hd,hw,rv,_,rfl,fun σ1 d1=>?_⟩;exact⟨_,θ,M,ds,d1,hw,rr,ρ',e1,h⟩
theorem IH {k:Nat}(hc:X.calm=true)(h:Ay X es (MT X is))(hl:is.length=n:=by rfl)
  (hn:(assignEach es X.env).length=n:=by rfl) (hst:(assignEach es X.env).findIdx? (·.1)=none:=by rfl):PG X (.Tuple es k pos) (tG X (bJ is)):=by
 intro ah s σ H v u Q I r hw;obtain⟨ρ,θ,M,d,hd,hwr,rd,ρ',e1,hw⟩:=hw;cases d with
 | tup ds=>
  obtain⟨a,vs,e2,ta,rs⟩:=rd;have hlen:ds.length=is.length:=by
   have e1:l6 is ds ρ=some ρ':=e1;clear hw hd hwr rs hn hst h hl
   induction is generalizing ds ρ with
   | nil=>
    cases ds with
    | nil=>rfl
    | cons _ _=>cases e1
   | cons i is ih=>
    cases ds with
    | nil=>cases e1
    | cons d ds=>rw[length_cons,length_cons,ih _ ds e1 e1]
  refine DM (n:=n) hc h hn hst ah s σ H v u Q I r ⟨a,vs,e2,ta.sq,by rw[←aJ rs,hlen,hl],?_⟩;exact⟨ρ,θ,M,ds,hd,hwr,rs,ρ',e1,hw⟩
 | _=>cases e1
def nE:List GG→List D→cC→Option cC
 | [],[],ρ=>some ρ
 | s::ss,d::ds,ρ=>match s d ρ with
  | some ρ1=>nE ss ds ρ1
  | none=>none
 | _,_,_=>none
def oS (ss:List GG):GG:=fun d ρ=>match d with
 | .tup ds=>nE ss ds ρ
 | _=>none
theorem uO:∀{ss:List GG} {ds:List D} {ρ ρ':cC},nE ss ds ρ=some ρ'→ds.length=ss.length
 | [],[],_,_,_=>rfl
 | [],_::_,_,_,h=>by cases h
 | _::_,[],_,_,h=>by cases h
 | s::ss,d::ds,ρ,ρ',h=>by
  unfold nE at h;split at h
  ·rw[length_cons,length_cons,uO h]
  ·cases h
def Cy (X:Cx)(ss:List GG):Fz:=fun vs σ H Q=>∃ρ θ M ds,l9 X.K θ H σ ρ∧Wr X.K θ H M∧bO X.K θ H ds vs∧∃ρ',nE ss ds ρ=some ρ'∧∀σ',l9 X.K θ H σ' ρ'→Q σ' H
theorem EM:Ay X [] (Cy X []):=by
 intro ah s σ H vs us Q I r h;obtain⟨ρ,θ,M,ds,hd,hw,rd,ρ',e,h⟩:=h;cases ds with
 | cons d ds=>cases e
 | nil=>
  have e2:vs=[]:=rd;subst e2;cases e;exact Ac ah s σ H [] us Q I r ⟨rfl,h σ hd⟩
theorem B0 {sg:GG}{ss:List GG}(h1:PG X e (tG X sg))(h2:Ay X es (Cy X ss))
  (hs:(assignEach (e::es) X.env).map (·.2)=assign e X.env::(assignEach es X.env).map (·.2):=by rfl):Ay X (e::es) (Cy X (sg::ss)):=by
 intro ah s σ H vs us Q I r h;obtain⟨ρ,θ,M,ds,hd,hw,rd,ρ',e1,h⟩:=h;cases ds with
 | nil=>cases e1
 | cons d ds=>
  obtain⟨v,vr,e2,rv,rr⟩:=rd;subst e2;unfold nE at e1;split at e1
  ·rename_i ρ1 q1;refine yq h1 h2 hs ah s σ H _ us Q I r ⟨v,vr,rfl,ρ,θ,M,d,hd,hw,rv,ρ1,q1,fun σ1 d1=>?_⟩;exact⟨ρ1,θ,M,ds,d1,hw,rr,ρ',e1,h⟩
  ·cases e1
theorem GV {ss:List GG}{k:Nat}(hc:X.calm=true)(h:Ay X es (Cy X ss))(hl:ss.length=n:=by rfl)
  (hn:(assignEach es X.env).length=n:=by rfl) (hst:(assignEach es X.env).findIdx? (·.1)=none:=by rfl):PG X (.Tuple es k pos) (tG X (oS ss)):=by
 intro ah s σ H v u Q I r hw;obtain⟨ρ,θ,M,d,hd,hwr,rd,ρ',e1,hw⟩:=hw;cases d with
 | tup ds=>
  obtain⟨a,vs,e2,ta,rs⟩:=rd;have hlen:ds.length=ss.length:=uO e1;refine DM (n:=n) hc h hn hst ah s σ H v u Q I r ⟨a,vs,e2,ta.sq,by rw[←aJ rs,hlen,hl],?_⟩;exact⟨ρ,θ,M,ds,hd,hwr,rs,ρ',e1,hw⟩
 | _=>cases e1
def dC (s:GG)(g:GE):GS:=fun ρ M=>(g ρ M).bind fun d M1=>match s d ρ with
 | some ρ1=>.ok (.nx ρ1) M1
 | none=>.bad
theorem Ks {tg:Expr}{s:GG}(he:PE X e (tE X g))(hg:PG X tg (tG X s))(hs:swapsWithSole [tg] e pos.line X.env=pure false:=by rfl)(hw:swappedStores [tg] e X.env=pure none:=by rfl)
  (h1:(assignEach [tg] X.env).map (·.2)=[assign tg X.env]:=by rfl):PS X (.Assign [tg] e pos) (tS X (dC s g)):=(Eo he hg hs hw h1).of fun D σ H ⟨ρ,θ,M,hd,hwr,h⟩=>by
 refine bZ hd hwr (cT X θ H D) (fun c M' h=>h) (fun h=>h) h fun d M1 v θ1 H1 g1 r1 h1=>?_
 cases q:s d ρ with
 | some ρ1=>
  rw[q] at h1;exact⟨ρ,θ1,M1,d,hd.go g1,g1.wr,r1,ρ1,q,fun σ' d'=>h1 σ' θ1 H1 g1 d'⟩
 | none=>rw[q] at h1;exact h1.elim
def wb (o i x:D)(M:aB):bj Unit:=match o,i with
 | .mr k,.int j=>match M[k]? with
  | some (.lst xs)=>match EO xs.length j with
   | some n=>.ok () (M.set k (.lst (xs.set n x)))
   | none=>.bad
  | _=>.bad
 | _,_=>.bad
def nr (go gi g:GE):GS:=fun ρ M=>(g ρ M).bind fun x M1=>(go ρ M1).bind fun o M2=>(gi ρ M2).bind fun i M3=>(wb o i x M3).bind fun _ M4=>.ok (.nx ρ) M4
theorem IV {o i:Expr}{ip:Pos}{go gi:GE}(he:PE X e (tE X g))(ho:PE X o (tE X go))(hi:PE X i (tE X gi))
  (ha:∀v,assign (.Subscript o i ip) X.env v=(do
   let ov ←holding [v] (eval o X.env)
   let iv ←holding [v,ov] (eval i X.env)
   standAt ip
   holding [v,ov,iv] (setItem ov iv v)
   release [v,ov,iv] []):=by intro _;rfl)
  (hs:swapsWithSole [.Subscript o i ip] e pos.line X.env=pure false:=by rfl) (hw:swappedStores [.Subscript o i ip] e X.env=pure none:=by rfl)
  (h1:(assignEach [.Subscript o i ip] X.env).map (·.2)=[assign (.Subscript o i ip) X.env]:=by rfl):PS X (.Assign [.Subscript o i ip] e pos) (tS X (nr go gi g)):=
 (Eo he (KU ho hi CK ha) hs hw h1).of fun D σ H ⟨ρ,θ,M,hd,hwr,h⟩=>by
  refine bZ hd hwr (cT X θ H D) (fun c M' h=>h) (fun h=>h) h fun dx M1 vx θ1 H1 g1 r1 h1=>?_
  refine bZ (hd.go g1) g1.wr (cT X θ1 H1 D) (fun c M' h=>h) (fun h=>h) (h1.go g1) fun dob M2 vo θ2 H2 g2 r2 h2=>?_
  refine bZ ((hd.go g1).go g2) g2.wr (cT X θ2 H2 D) (fun c M' h=>h) (fun h=>h) (h2.go g2) fun di M3 vi θ3 H3 g3 r3 h3=>?_
  have h4:=h3.go g3;unfold wb at h4;split at h4
  ·rename_i k j;split at h4
   ·rename_i xs q;split at h4
    ·rename_i n hn;obtain⟨a,ea,ta⟩:=r2.go g3;obtain⟨vs,ev,rv⟩:=g3.wr.at_ k a _ ta q;have ei:vi=.int j:=r3;refine⟨a,vs,j,n,ea,ei,ev,by rw[←aJ rv];exact hn,?_⟩;have gs:=zr (ds:=xs) g3.wr ta (xF (r1.go (g2.trans g3)) n rv);exact h4 σ θ3 _ gs ((((hd.go g1).go g2).go g3).go gs)
    ·exact h4.elim
   ·exact h4.elim
  ·exact h4.elim
end
mutual
def jb:D→D→Bool
 | .non,.non=>true
 | .bl a,.bl b=>a==b
 | .int a,.int b=>a==b
 | .str a,.str b=>a==b
 | .tup a,.tup b=>kO a b
 | .lst a,.lst b=>kO a b
 | .ro a,.ro b=>kO a b
 | .mr a,.mr b=>a==b
 | .exc a,.exc b=>a==b
 | .any,.any=>true
 | _,_=>false
def kO:List D→List D→Bool
 | [],[]=>true
 | a::as,b::bs=>jb a b&&kO as bs
 | _,_=>false
end
mutual
theorem E5:∀(a b:D),jb a b=true→a=b
 | .non,b,h=>by cases b <;> simp_all [jb]
 | .bl x,b,h=>by cases b <;> simp_all [jb]
 | .int x,b,h=>by cases b <;> simp_all [jb]
 | .str x,b,h=>by cases b <;> simp_all [jb]
 | .tup x,b,h=>by
  cases b with
  | tup y=>rw[mB x y (by simpa[jb] using h)]
  | _=>simp[jb] at h
 | .lst x,b,h=>by
  cases b with
  | lst y=>rw[mB x y (by simpa[jb] using h)]
  | _=>simp[jb] at h
 | .ro x,b,h=>by
  cases b with
  | ro y=>rw[mB x y (by simpa[jb] using h)]
  | _=>simp[jb] at h
 | .mr x,b,h=>by cases b <;> simp_all [jb]
 | .exc x,b,h=>by cases b <;> simp_all [jb]
 | .any,b,h=>by cases b <;> simp_all [jb]
theorem mB:∀(a b:List D),kO a b=true→a=b
 | [],b,h=>by
  cases b with
  | nil=>rfl
  | cons _ _=>simp[kO] at h
 | x::xs,b,h=>by
  cases b with
  | nil=>simp[kO] at h
  | cons y ys=>
   simp only[kO,Bool.and_eq_true] at h;rw[E5 x y h.1,mB xs ys h.2]
end
mutual
theorem BA:∀(a:D),jb a a=true
 | .non=>rfl
 | .bl x=>by simp[jb]
 | .int x=>by simp[jb]
 | .str x=>by simp[jb]
 | .tup x=>by rw[jb];exact jS x
 | .lst x=>by rw[jb];exact jS x
 | .ro x=>by rw[jb];exact jS x
 | .mr x=>by simp[jb]
 | .exc x=>by simp[jb]
 | .any=>rfl
theorem jS:∀(a:List D),kO a a=true
 | []=>rfl
 | x::xs=>by rw[kO,BA x,jS xs];rfl
end
structure tK where
 ds:List D
 m:Option Nat
def tK.ok (t:tK)(M:aB):Bool:=match t.m with
 | none=>true
 | some i=>match M[i]? with
  | some (.lst xs)=>kO xs t.ds
  | _=>false
abbrev GI:=cC→aB→bj tK
def GL (K:W.Frag)(J:It)(θ:List Addr)(H:Hp)(t:tK):Prop:=∀θ1 H1 M1,Go K θ H θ1 H1 M1→t.ok M1=true→∀i:Nat,
 (∀d,t.ds[i]?=some d→J.go i H1∧∀x H2,J.yld i H1 x H2→Go K θ1 H1 θ1 H2 M1∧fA K θ1 H2 d x)∧(t.ds.length≤i→J.stop i H1)
def Dx (X:Cx)(θ:List Addr)(H:Hp)(R:It→Hp→Prop):bj tK→Prop
 | .ok t M'=>∀J θ' H',Go X.K θ H θ' H' M'→GL X.K J θ' H' t→R J H'
 | .err c M'=>fW X θ H c M'
 | .bad=>False
def tI (X:Cx)(g:GI):TI:=fun σ H R=>∃ρ θ M,l9 X.K θ H σ ρ∧Wr X.K θ H M∧Dx X θ H R (g ρ M)
def uM (d:D)(M:aB):bj tK:=match d with
 | .lst ds=>.ok ⟨ds,none⟩ M
 | .ro ds=>.ok ⟨ds,none⟩ M
 | .tup ds=>.ok ⟨ds,none⟩ M
 | .mr k=>match M[k]? with
  | some (.lst ds)=>.ok ⟨ds,some k⟩ M
  | _=>.bad
 | _=>.bad
def bY (g:GE):GI:=fun ρ M=>(g ρ M).bind uM
variable{body:List Stmt}
section
variable {X:Cx}{tg:Expr}
theorem LR {l:Expr}{tl:TE}(hl:PE X l tl):PI X tg l (fun σ H R=>tl σ H fun x H1=>∃a,x=.ref a∧(((∃xs,pc X.K H1 a xs)∧R (Ox X.K a) H1)∨((∃xs,qW X.K H1 a xs)∧R (Pg X.K a) H1))):=by
 intro ah s σ H R I h;refine cZ (hl ah s σ H _ I h) fun v s1 ⟨x,H1,I1,r1,q1⟩=>?_
 obtain⟨a,e,q1⟩:=q1;subst e;cases r1;rcases q1 with⟨⟨xs,hq⟩,q⟩|⟨⟨xs,hq⟩,q⟩
 ·obtain⟨its,rv,p,hz⟩:=I1.list hq;refine wpAny_pyIter_list p.isList ?_;refine⟨s1.heap.objs.size,[s1.heap.objs.size],_,_,H1,rfl,I1.kept (t':=s1.toks) fun b o e=>Heap.get?_push_of_some _ e,A1 a _,⟨_,Heap.get?_push_size _ rfl,rfl,rfl⟩,fun b hb=>?_,q⟩;have e:b=s1.heap.objs.size:=by simpa using hb
  subst e;exact I1.fpOk (Nat.le_refl _) (I1.hok.fresh (Nat.le_refl _))
 ·obtain⟨its,rv,p,hz⟩:=I1.tuple hq;refine wpAny_pyIter_tuple (show s1.heap.IsTuple a its.toArray from p) ?_;refine⟨s1.heap.objs.size,[s1.heap.objs.size],_,_,H1,rfl,I1.kept (t':=s1.toks) fun b o e=>Heap.get?_push_of_some _ e,zJ a _,⟨_,Heap.get?_push_size _ rfl,rfl,rfl⟩,fun b hb=>?_,q⟩;have e:b=s1.heap.objs.size:=by simpa using hb
  subst e;exact I1.fpOk (Nat.le_refl _) (I1.hok.fresh (Nat.le_refl _))
theorem AK (ta:uf K θ H a vs)(r:bO K θ H ds vs):GL K (Ox K a) θ H ⟨ds,none⟩:=by
 intro θ1 H1 M1 g _ i;have t1:=(ta.grow g.toGrow).sq;have r1:=r.go g;refine⟨fun d e=>?_,fun hl=>⟨vs,t1,by rw[←aJ r1];exact hl⟩⟩;obtain⟨v,e1,rv⟩:=gZ r1 e;refine⟨⟨vs,v,t1,e1⟩,fun x H2 y=>?_⟩;obtain⟨eH,y⟩:=y;subst eH;have e2:=y vs t1;rw[e1] at e2;cases e2;exact⟨.refl g.wr,rv⟩
theorem Gg (ta:oV K θ H a vs)(r:bO K θ H ds vs):GL K (Pg K a) θ H ⟨ds,none⟩:=by
 intro θ1 H1 M1 g _ i;have t1:=(ta.grow g.toGrow).sq;have r1:=r.go g;refine⟨fun d e=>?_,fun hl=>⟨vs,t1,by rw[←aJ r1];exact hl⟩⟩;obtain⟨v,e1,rv⟩:=gZ r1 e;refine⟨⟨vs,v,t1,e1⟩,fun x H2 y=>?_⟩;obtain⟨eH,y⟩:=y;subst eH;have e2:=y vs t1;rw[e1] at e2;cases e2;exact⟨.refl g.wr,rv⟩
theorem GH {k:Nat}(ta:θ[k]?=some a):GL K (Ox K a) θ H ⟨ds,some k⟩:=by
 intro θ1 H1 M1 g hok i;have t1:θ1[k]?=some a:=by
  obtain⟨m,em,_⟩:=g.ext;rw[em,getElem?_append_left (List.getElem?_eq_some_iff.mp ta).1];exact ta
 have hok':(match M1[k]? with|some (.lst xs)=>kO xs ds|_=>false)=true:=hok;cases q:M1[k]? with
 | none=>rw[q] at hok';cases hok'
 | some m=>
  cases m with
  | lst xs=>
   rw[q] at hok';have e:xs=ds:=mB xs ds hok';subst e;obtain⟨vs,hv,r1⟩:=g.wr.at_ k a _ t1 q;have s1:pc K H1 a vs:=.inl (.inl hv);refine⟨fun d e=>?_,fun hl=>⟨vs,s1,by rw[←aJ r1];exact hl⟩⟩;obtain⟨v,e1,rv⟩:=gZ r1 e;refine⟨⟨vs,v,s1,e1⟩,fun x H2 y=>?_⟩;obtain⟨eH,y⟩:=y;subst eH;have e2:=y vs s1;rw[e1] at e2;cases e2;exact⟨.refl g.wr,rv⟩
  | _=>rw[q] at hok';cases hok'
theorem Jb {l:Expr}(hl:PE X l (tE X g)):PI X tg l (tI X (bY g)):=by
 intro ah s σ H R I h;refine LR hl ah s σ H R I ?_;obtain⟨ρ,θ,M,hd,hw,h⟩:=h;refine bZ hd hw (Dx X θ H R) (fun c M' h=>h) (fun h=>h) h fun d M1 v θ1 H1 g1 r1 h1=>?_
 cases d with
 | lst ds=>
  obtain⟨a,vs,e,ta,r⟩:=r1;exact⟨a,e,.inl ⟨⟨vs,ta.sq⟩,h1 _ θ1 H1 g1 (AK (.inl ⟨.inl ta.1,ta.2⟩) r)⟩⟩
 | ro ds=>
  obtain⟨a,vs,e,ta,r⟩:=r1;exact⟨a,e,.inl ⟨⟨vs,ta.sq⟩,h1 _ θ1 H1 g1 (AK ta r)⟩⟩
 | tup ds=>
  obtain⟨a,vs,e,ta,r⟩:=r1;exact⟨a,e,.inr ⟨⟨vs,ta.sq⟩,h1 _ θ1 H1 g1 (Gg ta r)⟩⟩
 | mr k=>
  obtain⟨a,e,ta⟩:=r1;have h2:Dx X θ H R (match M1[k]? with|some (.lst ds)=>.ok ⟨ds,some k⟩ M1|_=>.bad):=h1;cases q:M1[k]? with
  | none=>rw[q] at h2;exact h2.elim
  | some m=>
   cases m with
   | lst ds=>
    rw[q] at h2;obtain⟨vs,hv,r⟩:=g1.wr.at_ k a _ ta q;exact⟨a,e,.inl ⟨⟨vs,.inl (.inl hv)⟩,h2 _ θ1 H1 g1 (GH ta)⟩⟩
   | _=>rw[q] at h2;exact h2.elim
 | _=>exact h1.elim
def bq (lo:Int)(n:Nat):List D:=(List.range n).map fun(k:Nat)=>D.int (lo+(k:Int))
theorem Gw (lo:Int)(n:Nat):GL K (Ob lo n) θ H ⟨bq lo n,none⟩:=by
 intro θ1 H1 M1 g _ i;refine⟨fun d e=>?_,fun hl=>?_⟩
 ·have hi:i<n:=by
   have:=(List.getElem?_eq_some_iff.mp e).1;simpa[bq] using this
  refine⟨hi,fun x H2 y=>?_⟩;obtain⟨eH,y⟩:=y;subst eH;refine⟨.refl g.wr,?_⟩;have e':D.int (lo+(i:Int))=d:=by
   have:(bq lo n)[i]?=some (D.int (lo+(i:Int))):=by simp[bq,hi]
   rw[this] at e;exact Option.some.inj e
  subst e';exact y
 ·have h2:(bq lo n).length≤i:=hl;have h3:n≤i:=by simpa[bq] using h2
  exact h3
def Eh (ds:List D)(M:aB):bj tK:=match ds with
 | [.int j]=>if -(2 ^ 62)≤j∧j<2 ^ 62 then .ok ⟨bq 0 j.toNat,none⟩ M else .bad
 | _=>.bad
def gK (g:GA):GI:=fun ρ M=>(g ρ M).bind Eh
theorem BX {a:Expr}{g:GA}{p pos:Pos}(hg:Gl X "range")(hm:X.mg "range"=none)(ha:PA X [a] (tA X g))(hs:starEach [a] X.env=[(false,eval a X.env)]:=by rfl):PI X tg (.Call (.Name "range" p) [a] [] pos) (tI X (gK g)):=by
 intro ah s σ H R I h;refine BZ hg hm ha hs ah s σ H R I ?_;obtain⟨ρ,θ,M,hd,hw,h⟩:=h;refine mQ hd hw (Dx X θ H R) (fun c M' h=>h) (fun h=>h) h fun ds M1 vs θ1 H1 g1 r1 h1=>?_
 unfold Eh at h1;split at h1
 ·rename_i j;obtain⟨v,r,e,rv,rr⟩:=r1;have e2:r=[]:=rr;have e3:v=.int j:=rv;subst e2;subst e3;split at h1
  ·rename_i hj;exact⟨j,e,hj.1,hj.2,h1 _ θ1 H1 g1 (Gw 0 j.toNat)⟩
  ·exact h1.elim
 ·exact h1.elim
def eL (t:tK)(s:GG)(body:GS):List D→cC→aB→bj Fl
 | [],ρ,M=>if t.ok M then .ok (.nx ρ) M else .bad
 | d::r,ρ,M=>if t.ok M then
   match s d ρ with
   | none=>.bad
   | some ρ1=>(body ρ1 M).bind fun f M1=>match f with
    | .nx ρ2=>eL t s body r ρ2 M1
    | .ct ρ2=>eL t s body r ρ2 M1
    | .bk ρ2=>.ok (.nx ρ2) M1
    | .rt d=>.ok (.rt d) M1
  else .bad
def js (gi:GI)(s:GG)(body:GS):GS:=fun ρ M=>(gi ρ M).bind fun t M1=>eL t s body t.ds ρ M1
theorem IM {iter:Expr}{gi:GI}{sg:GG}{gb:GS}{pos:Pos}(hp:PassesOwn (model X.prog X.w) X.A X.env X.xe)(hc:X.calm=true)(hi:PI X tg iter (tI X gi))(hg:PG X tg (tG X sg))(hb:PSs X body (tS X gb))
  (hs:∀x,foldedSetIterable iter X.env x=pure x:=by intro _;rfl):PS X (.For tg iter body [] pos) (tS X (js gi sg gb)):=(Lb hp hc hi hg hb hs).of fun D σ H ⟨ρ,θ,M,hd,hw,h⟩=>by
 refine⟨ρ,θ,M,hd,hw,?_⟩;unfold js at h;cases q:gi ρ M with
 | err c M1=>rw[q] at h;exact h
 | bad=>rw[q] at h;exact h
 | ok t M1=>
  rw[q] at h;intro J θ1 H1 g1 hJ;have h:cT X θ H D (eL t sg gb t.ds ρ M1):=h;refine⟨fun i m σ' H'=>m=t.ds.length-i∧i≤t.ds.length∧∃ρ' θ' M',Go X.K θ1 H1 θ' H' M'∧l9 X.K θ' H' σ' ρ'∧cT X θ' H' D (eL t sg gb (t.ds.drop i) ρ' M'),
   ⟨t.ds.length,by simp,Nat.zero_le _,ρ,θ1,M1,.refl g1.wr,hd.go g1,cT.go g1 h⟩,?_⟩
  rintro i m σ' H' ⟨rfl,hil,ρ',θ',M',g',hd',h'⟩
  by_cases hok:t.ok M'=true
  ·obtain⟨hy,hst⟩:=hJ θ' H' M' g' hok i
   by_cases hlt:i<t.ds.length
   ·refine .inr ?_;have e1:t.ds[i]?=some t.ds[i]:=getElem?_eq_getElem hlt;obtain⟨hgo,hyl⟩:=hy _ e1;rw[drop_eq_getElem_cons hlt,eL,if_pos hok] at h';refine⟨hgo,fun σ2 H2=>∃ρ2 θ2 M2,Go X.K θ' H' θ2 H2 M2∧l9 X.K θ2 H2 σ2 ρ2∧cT X θ2 H2 D (eL t sg gb (t.ds.drop (i+1)) ρ2 M2),fun σ2 H2 ⟨ρ2,θ2,M2,g2,d2,h2⟩=>?_,fun x H2 y=>?_⟩
    ·exact⟨t.ds.length-(i+1),by omega,rfl,hlt,ρ2,θ2,M2,g'.trans g2,d2,h2⟩
    ·obtain⟨gy,rx⟩:=hyl x H2 y;cases qs:sg t.ds[i] ρ' with
     | none=>rw[qs] at h';exact h'.elim
     | some ρ1=>
      rw[qs] at h';refine⟨ρ',θ',M',_,hd'.go gy,gy.wr,rx,ρ1,qs,fun σ1 d1=>⟨ρ1,θ',M',d1,gy.wr,?_⟩⟩;have h':cT X θ' H2 D ((gb ρ1 M').bind _):=cT.go gy h';cases qb:gb ρ1 M' with
      | err c M2=>rw[qb] at h';exact h'
      | bad=>rw[qb] at h';exact h'
      | ok f M2=>
       rw[qb] at h';cases f with
       | nx ρ2=>exact fun σ2 θ2 H3 g2 d2=>⟨ρ2,θ2,M2,gy.trans g2,d2,cT.go g2 h'⟩
       | ct ρ2=>exact fun σ2 θ2 H3 g2 d2=>⟨ρ2,θ2,M2,gy.trans g2,d2,cT.go g2 h'⟩
       | bk ρ2=>exact h'
       | rt d=>exact h'
   ·have e:i=t.ds.length:=by omega
    subst e;rw[drop_length,eL,if_pos hok] at h';exact .inl ⟨hst (Nat.le_refl _),h' σ' θ' H' (.refl g'.wr) hd'⟩
  ·have hz:cT X θ' H' D .bad:=by
    cases hdr:t.ds.drop i with
    | nil=>rw[hdr,eL,if_neg hok] at h';exact h'
    | cons d r=>rw[hdr,eL,if_neg hok] at h';exact h'
   exact hz.elim
end
def Ep (K:W.Frag)(θ:List Addr)(H:Hp)(E:XK)(c:Str)(M:aB):Prop:=∀C θ' H' a,jH K c C→Go K θ H θ' H' M→E (.ref C) (some a) H'
def yD (K:W.Frag)(θ:List Addr)(H:Hp)(Q:VK)(E:XK):bj D→Prop
 | .ok d M'=>∀v θ' H',Go K θ H θ' H' M'→fA K θ' H' d v→Q v H'
 | .err c M'=>Ep K θ H E c M'
 | .bad=>False
abbrev FD:=List D→aB→bj D
def oy (K:W.Frag)(n:Nat)(F:FD):Sp:=fun vs H Q E=>∃θ M ds,ds.length=n∧bO K θ H ds vs∧Wr K θ H M∧yD K θ H Q E (F ds M)
variable{F:FD}{ps:List Str}
theorem qY (hn:ps.length=n):∀vs H Q E,oy K n F vs H Q E→vs.length=ps.length:=fun vs H Q E ⟨θ,M,ds,hl,r,_⟩=>by rw[hn,←hl,aJ r]
def kJ (k:Nat)(ds:List D):cC:=ds.map some++List.replicate k none
def aP (o:bj Fl):bj D:=o.bind fun f M=>match f with
 | .rt d=>.ok d M
 | .nx _=>.ok .non M
 | _=>.bad
def bi (k:Nat)(g:GS):FD:=fun ds M=>aP (g (kJ k ds) M)
theorem IN (r:bO K θ H ds vs)(N:List Str):l9 K θ H (L2.start N vs) (kJ (N.length-vs.length) ds):=by
 have hl:=aJ r;refine⟨by simp[L2.start,kJ,hl],fun i d e=>?_⟩;unfold kJ at e
 by_cases hi:i<ds.length
 ·rw[getElem?_append_left (by simpa using hi),getElem?_map] at e;cases q:ds[i]? with
  | none=>rw[q] at e;cases e
  | some d'=>
   rw[q] at e;have e':d'=d:=by simpa using e
   subst e';obtain⟨v,e1,rv⟩:=gZ r q;refine⟨v,?_,rv⟩;unfold L2.start;rw[getElem?_append_left (by rw[length_map,←hl];exact hi),getElem?_map,e1];rfl
 ·rw[getElem?_append_right (by simpa using hi),getElem?_replicate] at e;split at e <;> cases e
variable{fd:FuncData}
section
variable {P:Program}{w:World}{K:W.Frag}{mg:Str→Option Value}{base:Heap}
theorem P5 {qual:Str}{st:Stmt}{N:List Str}{k:Nat}{g:GS}(F:Fh K x qual st f fd)(S:fF N ps (a7 st))(hn:ps.length=n)
  (hbody:∀(cdv:Value) (A:Around) (outer:List Env) (s:Shared) (H:Hp) (E:XK),bR k (A.deeper (envOfC qual (a7 st) s.heap.objs.size f cdv))→
   PSs (iX (iZ P w) P w K mg base N qual (a7 st) f cdv A outer s H E) (cY st) (tS (iX (iZ P w) P w K mg base N qual (a7 st) f cdv A outer s H E) g)) :
  eX P w K mg base (iZ P w) (k+1) f fd ps (oy K n (bi (N.length-n) g)):=by
 obtain⟨oc,od,kV,doc,pm,an,cdv,ct,osl,rfl,lk,hcd⟩:=F.ex;refine Hr lk hcd S (qY hn) fun A outer s H vs Q E hr h=>⟨_,hbody cdv A outer s H E hr,?_⟩
 obtain⟨θ,M,ds,hl,r,hw,h⟩:=h;have hv:vs.length=n:=by rw[←aJ r];exact hl
 refine⟨kJ (N.length-n) ds,θ,M,by rw[←hv];exact IN r N,hw,?_⟩;have h:yD K θ H Q E (aP (g (kJ (N.length-n) ds) M)):=h;unfold aP at h;cases q:g (kJ (N.length-n) ds) M with
 | bad=>rw[q] at h;exact h
 | err c M1=>
  rw[q] at h;have h:Ep K θ H E c M1:=h;exact fun C θ' H' a s' kC g1 fl=>nY fl (h C θ' H' a kC g1)
 | ok fl M1=>
  rw[q] at h;cases fl with
  | rt d=>exact h
  | nx ρ1=>exact fun σ1 θ1 H1 g1 _=>h .non θ1 H1 g1 rfl
  | bk ρ1=>exact h.elim
  | ct ρ1=>exact h.elim
end
variable{T:String}
section
variable {X:Cx}{e:Expr}{es:List Expr}{x:Str}{p pos:Pos}{k n:Nat}{f:Addr}{fd:FuncData}{ps:List Str}{F:FD}{ga:GA}
def aj (n:Nat)(F:FD)(ga:GA):GE:=fun ρ M=>(ga ρ M).bind fun ds M1=>if ds.length=n then F ds M1 else .bad
def Ho (X:Cx):XK:=fun cls oa H'=>∃a C c θ M,oa=some a∧cls=.ref C∧jH X.K c C∧Wr X.K θ H' M∧fW X θ H' c M
theorem ky:nS (iZ X.prog X.w) X (Ho X):=fun ah σ H s e s' I h=>by
 obtain⟨a,C,H',rfl,fl,a',C',c,θ,M,e1,e2,kC,hw,ok⟩:=Bq I h;cases e1;cases e2;exact ok C θ H' a s' kC (.refl hw) fl
theorem wo {c:Str}(h:fW X θ H c M):Ep X.K θ H (Ho X) c M:=fun C θ' H' a kC g=>⟨a,C,c,θ',M,rfl,rfl,kC,g.wr,h.go g⟩
theorem FR (Fn:eX X.prog X.w X.K X.mg X.base (iZ X.prog X.w) k f fd ps (oy X.K n F))(hr:bR k X.A)(hg:Gl X x)(hm:X.mg x=some (.ref f))(hk:W.keepIn X.K (.ref f)=true)(hb:fL X.K fd ps [])
  (ha:PA X (e::es) (tA X ga)) (hdb:(x==("__debug__":Str))=false:=by decide) (he:starEach (e::es) X.env=(false,eval e X.env)::starEach es X.env:=by rfl) (hpl:(backTo pos (starEach es X.env)).any (·.1)=false:=by rfl) :
  PE X (.Call (.Name x p) (e::es) [] pos) (tE X (aj n F ga)):=(FS Fn hr hg hm hk hb .nil ky ha hdb he hpl).of fun σ H Q ⟨ρ,θ,M,hd,hw,h⟩=>by
 refine mQ hd hw (bh X θ H Q) (fun c M' h=>h) (fun h=>h) h fun ds M1 vs θ1 H1 g1 r1 h1=>?_
 by_cases hl:ds.length=n
 ·rw[if_pos hl] at h1;refine⟨θ1,M1,ds,hl,by rw[append_nil];exact r1,g1.wr,?_⟩;have h2:=bh.go g1 h1;cases q:F ds M1 with
  | ok d M2=>rw[q] at h2;exact h2
  | err c M2=>rw[q] at h2;exact wo h2
  | bad=>rw[q] at h2;exact h2
 ·rw[if_neg hl] at h1;exact h1.elim
def rC (X:Cx)(F:FD):List V→Hp→VK→Prop:=fun xs H Q=>∃θ M ds,Wr X.K θ H M∧bO X.K θ H ds xs∧bh X θ H Q (F ds M)
def aC (F:FD)(ga:GA):GE:=fun ρ M=>(ga ρ M).bind F
theorem Eb {Q:VK}(h:tE X (aC F ga) σ H Q):Px (rC X F) (tA X ga) σ H Q:=by
 obtain⟨ρ,θ,M,hd,hw,h⟩:=h;exact mQ hd hw (bh X θ H Q) (fun c M' h=>h) (fun h=>h) h fun ds M1 vs θ1 H1 g1 r1 h1=>⟨θ1,M1,ds,g1.wr,r1,bh.go g1 h1⟩
theorem Dv {id:String}(hc:eO X (.builtin id) (rC X F))(hg:Gl X x)(hm:X.mg x=none)(hv:bootBuiltins x=some (.builtin id))(ha:PA X (e::es) (tA X ga))(hn:x≠"__name__":=by decide)(hdb:(x==("__debug__":Str))=false:=by decide)
  (he:starEach (e::es) X.env=(false,eval e X.env)::starEach es X.env:=by rfl) (hpl:(backTo pos (starEach es X.env)).any (·.1)=false:=by rfl):PE X (.Call (.Name x p) (e::es) [] pos) (tE X (aC F ga)):=
 (xQ hc hg hm hv ha hn hdb he hpl).of fun σ H Q h=>Eb h
theorem BD (hc:eO X (.type T) (rC X F))(hg:Gl X x)(hm:X.mg x=none)(hv:bootBuiltins x=some (.type T))(ha:PA X (e::es) (tA X ga))(hn:x≠"__name__":=by decide)(hdb:(x==("__debug__":Str))=false:=by decide)
  (he:starEach (e::es) X.env=(false,eval e X.env)::starEach es X.env:=by rfl) (hpl:(backTo pos (starEach es X.env)).any (·.1)=false:=by rfl):PE X (.Call (.Name x p) (e::es) [] pos) (tE X (aC F ga)):=
 (Ba hc hg hm hv ha hn hdb he hpl).of fun σ H Q h=>Eb h
end
variable{items:Array Value}
section
variable {prog:Program}{w:World}{A:Around}{E:Value→Shared→Prop}{s:Shared}
theorem Cw {t b:Addr}{ws:List Value}{Q:Value→Shared→Prop}(ht:IsTup s.heap t #[])(hb:IsTup s.heap b ws.toArray)
  (h:Q (.ref b) s):wpAny (model prog w) A (binaryOp .Add (.ref t) (.ref b)) Q E s:=by
 obtain⟨⟨cls,dd,data,sl⟩,ho,hc,n,hd⟩:=id ht;obtain⟨⟨cls2,dd2,data2,sl2⟩,ho2,hc2,n2,hd2⟩:=id hb;simp only at hc hd hc2 hd2;subst hc hd hc2 hd2;exact concat_meets ⟨_,ho,rfl⟩ ⟨_,ho2,rfl⟩ noFill_tuple_add seq_tuple_add PySem.F.slot_tuple_add PySem.F.entry_tuple_add (PySem.F.args_tuple_add_2 _ _)
   (tuple_addW0 t b #[] ws.toArray n n2 dd dd2 sl sl2 (by simp)) ⟨ho,ho2,h⟩
theorem nu {t sl:Addr}{vl vu:Value}{lo hi:Option Int}{Q:Value→Shared→Prop}(ht:IsTup s.heap t items)(hs:s.heap.IsSliceOf sl vl vu .none)(pl:IsPart vl lo)(pu:IsPart vu hi)
  (hw:HT.sIx items.size 0 lo=0∧HT.sIx items.size items.size hi=items.size) (h:Q (.ref t) s):wpAny (model prog w) A (getItem (.ref t) (.ref sl)) Q E s:=by
 obtain⟨os,hos,hcs,hds⟩:=id hs;have hTs:s.TypeIs (.ref sl) "slice":=⟨os,hos,hcs⟩;unfold getItem
 try with_reducible refine wpAny_holding ?_
 first|refine wpAny_bind (wpAny_pure ?_)|skip
 refine wpAny_bind (wpAny_sequenceKey ht.typeIs (by decide) ?_);refine wpAny_bind (wpAny_callSpecial?_slot (name:=Str.ofString "__getitem__") ht.typeIs PyProof.Rows.slot_tuple_getitem
  (wpAny_call_entry PyProof.Rows.slot_tuple_getitem ht.typeIs entry_tuple_getitem ?_ (args_tuple_getitem _ _)))
 show wpAny _ _ (Builtin.Tuple.tupleItemsOf (.ref t) >>= _) _ _ s;refine wpAny_bind (tupleItemsOf_ ht ?_);refine wpAny_bind (wpAny_typeOf hTs ?_);rw[if_pos (by decide)];refine wpAny_bind (HT.sliceApplied_gen hs pl pu ?_);have hyes:(((HT.sIx items.size 0 lo:Nat):Int)==0&&(1:Int)==1&&(HT.sIx items.size items.size hi-HT.sIx items.size 0 lo)==items.size)=true:=by
  rw[hw.1,hw.2];simp
 show wpAny _ _ (if(((HT.sIx items.size 0 lo:Nat):Int)==0&&(1:Int)==1&&(HT.sIx items.size items.size hi-HT.sIx items.size 0 lo)==items.size)=true then _ else _) _ _ s;rw[if_pos hyes];unfold Builtin.Tuple.tupleIsExact;refine wpAny_bind (wpAny_bind (wpAny_typeOf ht.typeIs (wpAny_pure ?_)));rw[if_pos (by decide)]
 first
  | exact wpAny_bind (wpAny_rule (wpAny_bind (wpAny_pure ⟨_,rfl,wpAny_pure h⟩)))
  | exact wpAny_bind (wpAny_rule (wpAny_pure ⟨_,rfl,wpAny_pure h⟩))
  | exact wpAny_bind (wpAny_rule (wpAny_bind (wpAny_pure (wpAny_pure ⟨_,rfl,wpAny_pure h⟩))))
end
def sv (d:D)(M:aB):Option (List D):=match d with
 | .lst xs=>some xs
 | .mr k=>match M[k]? with
  | some (.lst xs)=>some xs
  | _=>none
 | _=>none
def a9:F2:=fun x y M=>match x,y with
 | .int i,.int j=>.ok (.int (i+j)) M
 | .str a,.str b=>if a.length+b.length≤sizeLine then .ok (.str (a++b)) M else .bad
 | .tup a,.tup b=>if a.length+b.length≤sizeLine then .ok (.tup (a++b)) M else .bad
 | .bl a,.int j=>.ok (.int ((if a=true then 1 else 0)+j)) M
 | x,y=>match sv x M,sv y M with
  | some a,some b=>if a.length+b.length≤sizeLine then .ok (.lst (a++b)) M else .bad
  | _,_=>.bad
theorem AU {xs:List D}(hw:Wr K θ H M)(r:fA K θ H d v)(e:sv d M=some xs):∃a vs,v=.ref a∧H a=some (.lst vs)∧bO K θ H xs vs:=by
 cases d with
 | lst ys=>cases e;obtain⟨a,vs,ea,ta,ra⟩:=r;exact⟨a,vs,ea,ta.1,ra⟩
 | mr k=>
  obtain⟨a,ea,ta⟩:=r;have e:(match M[k]? with|some (.lst xs)=>some xs|_=>none)=some xs:=e;cases q:M[k]? with
  | none=>rw[q] at e;cases e
  | some m=>
   cases m with
   | lst ys=>
    rw[q] at e;cases e;obtain⟨vs,hv,ra⟩:=hw.at_ k a _ ta q;exact⟨a,vs,ea,hv,ra⟩
   | _=>rw[q] at e;cases e
 | _=>cases e
def eE:F2:=fun x y M=>match x,y with
 | .int i,.int j=>.ok (.int (i-j)) M
 | _,_=>.bad
def cz:F2:=fun x y M=>match x,y with
 | .int i,.int j=>if(-(2 ^ 64)<i∧i<2 ^ 64)∨(-(2 ^ 64)<j∧j<2 ^ 64) then .ok (.int (i*j)) M else .bad
 | _,_=>.bad
def e9:F2:=fun x y M=>match x,y with
 | .int i,.int j=>if 0<j∧j.natAbs.log2<9000 then .ok (.int (i / j)) M else .bad
 | _,_=>.bad
def iV:F2:=fun x y M=>match x,y with
 | .int i,.int j=>if 0<j then .ok (.int (i % j)) M else .bad
 | _,_=>.bad
def tH:F2:=fun x y M=>match x,y with
 | .int i,.int j=>if 0≤j∧j≤1000000∧i.natAbs<2 ^ 64 then .ok (.int (i ^ j.toNat)) M else .bad
 | _,_=>.bad
variable{u:Value}{e:Expr}
section
variable {X:Cx}
theorem J4:jB X (binaryOp .Add) (rD X a9):=by
 intro ah s σ H x y v u Q I rx ry h;obtain⟨θ,M,dx,dy,hw,r1,r2,h⟩:=h;unfold a9 at h;split at h
 ·rename_i i j;exact IY ah s σ H x y v u Q I rx ry ⟨i,j,r1,r2,h _ θ H (.refl hw) rfl⟩
 ·rename_i a b;split at h
  ·rename_i hl;exact yK ah s σ H x y v u Q I rx ry ⟨a,b,r1,r2,hl,h _ θ H (.refl hw) rfl⟩
  ·exact h.elim
 ·rename_i as bs;split at h
  ·rename_i hl;obtain⟨a,vs,ea,ta,ra⟩:=r1;obtain⟨b,us,eb,tb,rb⟩:=r2
   by_cases hv:vs=[]
   ·subst hv;have e0:as=[]:=length_eq_zero_iff.mp (aJ ra);subst e0;subst ea;subst eb;cases rx;cases ry;obtain⟨its,q1,p1,_⟩:=I.tuple ta.sq;obtain⟨its2,q2,p2,_⟩:=I.tuple tb.sq;cases q1;exact Cw p1 p2 ⟨.ref b,H,I,rfl,h _ θ H (.refl hw) ⟨b,us,rfl,tb,rb⟩⟩
   ·refine Fu ah s σ H x y v u Q I rx ry ⟨a,b,vs,us,ea,eb,ta.sq,tb.sq,hv,by rw[←aJ ra,←aJ rb];exact hl,fun hu=>?_,fun _ p hp=>h _ θ _ (fm hw hp) (je hw hp (fh ra rb))⟩;subst hu;have e0:bs=[]:=length_eq_zero_iff.mp (aJ rb);subst e0;exact h _ θ H (.refl hw) ⟨a,vs,rfl,ta,by rw[append_nil];exact ra⟩
  ·exact h.elim
 ·rename_i a j;have e1:x=.bl a:=r1;have e2:y=.int j:=r2;subst e1;subst e2;cases rx;obtain⟨t',rfl⟩:=ry;exact IntBool.add_bool_int ⟨.int _,H,I.tok _,⟨_,rfl⟩,h _ θ H (.refl hw) rfl⟩
 ·split at h
  ·rename_i as bs q1 q2;split at h
   ·rename_i hl;obtain⟨a,vs,ea,ta,ra⟩:=AU hw r1 q1;obtain⟨b,us,eb,tb,rb⟩:=AU hw r2 q2;exact Kw ah s σ H x y v u Q I rx ry ⟨a,b,vs,us,ea,eb,ta,tb,by rw[←aJ ra,←aJ rb];exact hl,fun p hp=>h _ θ _ (fm hw hp) (lR hw hp (fh ra rb))⟩
   ·exact h.elim
  ·exact h.elim
theorem tz {H':Hp}{p:Addr}(hw:Wr K θ H M):fA K (θ++[p]) H' (.mr M.length) (.ref p):=by
 refine⟨p,rfl,?_⟩;rw[←hw.len,getElem?_append_right (Nat.le_refl _)];simp
theorem J2:jB X (binaryOp .Sub) (rD X eE):=by
 intro ah s σ H x y v u Q I rx ry h;obtain⟨θ,M,dx,dy,hw,r1,r2,h⟩:=h;unfold eE at h;split at h
 ·rename_i i j;exact HZ ah s σ H x y v u Q I rx ry ⟨i,j,r1,r2,h _ θ H (.refl hw) rfl⟩
 ·exact h.elim
theorem HX:jB X (binaryOp .Mult) (rD X cz):=by
 intro ah s σ H x y v u Q I rx ry h;obtain⟨θ,M,dx,dy,hw,r1,r2,h⟩:=h;unfold cz at h;split at h
 ·rename_i i j;split at h
  ·rename_i hc;exact Kk ah s σ H x y v u Q I rx ry ⟨i,j,r1,r2,hc,h _ θ H (.refl hw) rfl⟩
  ·exact h.elim
 ·exact h.elim
theorem Hj:jB X (binaryOp .FloorDiv) (rD X e9):=by
 intro ah s σ H x y v u Q I rx ry h;obtain⟨θ,M,dx,dy,hw,r1,r2,h⟩:=h;unfold e9 at h;split at h
 ·rename_i i j;split at h
  ·rename_i hc;have e1:x=.int i:=r1;have e2:y=.int j:=r2;subst e1;subst e2;obtain⟨t,rfl⟩:=rx;obtain⟨t',rfl⟩:=ry;have h1:(0:Int)<j:=hc.1;exact floordiv_int (by omega) (by rw[Int.fdiv_eq_ediv_of_nonneg i (by omega)];exact⟨.int (i / j),H,I.tok _,⟨_,rfl⟩,h _ θ H (.refl hw) rfl⟩) (.inl (PyProof.noPylong_of_log2 hc.2))
  ·exact h.elim
 ·exact h.elim
theorem ID:jB X (binaryOp .Mod) (rD X iV):=by
 intro ah s σ H x y v u Q I rx ry h;obtain⟨θ,M,dx,dy,hw,r1,r2,h⟩:=h;unfold iV at h;split at h
 ·rename_i i j;split at h
  ·rename_i hc;exact J7 ah s σ H x y v u Q I rx ry ⟨i,j,r1,r2,hc,h _ θ H (.refl hw) rfl⟩
  ·exact h.elim
 ·exact h.elim
theorem Kd:jB X (binaryOp .Pow) (rD X tH):=by
 intro ah s σ H x y v u Q I rx ry h;obtain⟨θ,M,dx,dy,hw,r1,r2,h⟩:=h;unfold tH at h;split at h
 ·rename_i i j;split at h
  ·rename_i hc;exact Jy ah s σ H x y v u Q I rx ry ⟨i,j,r1,r2,hc,h _ θ H (.refl hw) rfl⟩
  ·exact h.elim
 ·exact h.elim
def mI (g:GE):GE:=fun ρ M=>(g ρ M).bind fun x M1=>match x with
 | .int i=>.ok (.int (-i)) M1
 | _=>.bad
theorem K7 {a:Expr}(ha:PE X a (tE X g)):PE X (.UnaryOp .USub a pos) (tE X (mI g)):=(HP En ha).of fun σ H Q ⟨ρ,θ,M,hd,hw,h⟩=>by
 refine bZ hd hw (bh X θ H Q) (fun c M' h=>h) (fun h=>h) h fun d M1 v θ1 H1 g1 r1 h1=>?_
 split at h1
 ·rename_i i;exact⟨i,r1,h1 _ θ1 H1 g1 rfl⟩
 ·exact h1.elim
theorem Kv {a:Expr}(ha:PE X a (tE X g)):PE X (.UnaryOp .Not a pos) (tE X (wf (az g))):=(JD ha).of fun σ H Q ⟨ρ,θ,M,hd,hw,h⟩=>by
 refine⟨ρ,θ,M,hd,hw,?_⟩;unfold wf az at h;cases q:g ρ M with
 | ok d M1=>
  rw[q] at h;cases d with
  | bl b=>exact fun v θ1 H1 g1 r1=>⟨b,r1,h _ θ1 H1 g1 rfl⟩
  | _=>exact h.elim
 | err c M1=>rw[q] at h;exact h
 | bad=>rw[q] at h;exact h
def jo:F2:=fun x y M=>match x,y with
 | .int i,.int j=>.ok (.bl (decide (i<j))) M
 | _,_=>.bad
def mT:F2:=fun x y M=>match x,y with
 | .int i,.int j=>.ok (.bl (decide (i≤j))) M
 | _,_=>.bad
def mj:F2:=fun x y M=>match x,y with
 | .int i,.int j=>.ok (.bl (decide (j<i))) M
 | _,_=>.bad
def rY:F2:=fun x y M=>match x,y with
 | .int i,.int j=>.ok (.bl (decide (j≤i))) M
 | _,_=>.bad
theorem Lv:jB X (compareOp .Lt) (rD X jo):=by
 intro ah s σ H x y v u Q I rx ry h;obtain⟨θ,M,dx,dy,hw,r1,r2,h⟩:=h;unfold jo at h;split at h
 ·rename_i i j;exact LL ah s σ H x y v u Q I rx ry ⟨i,j,r1,r2,h _ θ H (.refl hw) rfl⟩
 ·exact h.elim
theorem NI:jB X (compareOp .LtE) (rD X mT):=by
 intro ah s σ H x y v u Q I rx ry h;obtain⟨θ,M,dx,dy,hw,r1,r2,h⟩:=h;unfold mT at h;split at h
 ·rename_i i j;exact NZ ah s σ H x y v u Q I rx ry ⟨i,j,r1,r2,h _ θ H (.refl hw) rfl⟩
 ·exact h.elim
theorem Np:jB X (compareOp .Gt) (rD X mj):=by
 intro ah s σ H x y v u Q I rx ry h;obtain⟨θ,M,dx,dy,hw,r1,r2,h⟩:=h;unfold mj at h;split at h
 ·rename_i i j;exact MB ah s σ H x y v u Q I rx ry ⟨i,j,r1,r2,h _ θ H (.refl hw) rfl⟩
 ·exact h.elim
theorem LH:jB X (compareOp .GtE) (rD X rY):=by
 intro ah s σ H x y v u Q I rx ry h;obtain⟨θ,M,dx,dy,hw,r1,r2,h⟩:=h;unfold rY at h;split at h
 ·rename_i i j;exact Mg ah s σ H x y v u Q I rx ry ⟨i,j,r1,r2,h _ θ H (.refl hw) rfl⟩
 ·exact h.elim
def Nj (d c:D):Option Bool:=match c,d with
 | .non,.non=>some true
 | .non,.any=>none
 | .non,_=>some false
 | .bl b,.bl b'=>some (b'==b)
 | .bl _,.non=>some false
 | .bl _,.int _=>some false
 | .bl _,.str _=>some false
 | .bl _,.tup _=>some false
 | .bl _,.lst _=>some false
 | .bl _,.ro _=>some false
 | .bl _,.mr _=>some false
 | _,_=>none
def kW (neg:Bool):F2:=fun x y M=>match Nj x y with
 | some b=>.ok (.bl (b != neg)) M
 | none=>.bad
theorem Cb {dx dy:D}{x y:V}{v:Value}{b:Bool}(r1:fA K θ H dx x)(r2:fA K θ H dy y)(rx:bC x v)(ry:bC y u)(h:Nj dx dy=some b) :
  plainIs v u=true∧(v==u)=b:=by
 cases dy with
 | non=>
  have e:y=.non:=r2;subst e;cases ry;cases dx with
  | non=>have e:x=.non:=r1;subst e;cases rx;cases h;exact⟨rfl,rfl⟩
  | bl b=>have e:x=.bl b:=r1;subst e;cases rx;cases h;exact⟨rfl,rfl⟩
  | int i=>have e:x=.int i:=r1;subst e;obtain⟨t,rfl⟩:=rx;cases h;exact⟨rfl,rfl⟩
  | str i=>have e:x=.str i:=r1;subst e;obtain⟨t,rfl⟩:=rx;cases h;exact⟨rfl,rfl⟩
  | tup ds=>obtain⟨a,vs,e,_⟩:=r1;subst e;cases rx;cases h;exact⟨rfl,rfl⟩
  | lst ds=>obtain⟨a,vs,e,_⟩:=r1;subst e;cases rx;cases h;exact⟨rfl,rfl⟩
  | ro ds=>obtain⟨a,vs,e,_⟩:=r1;subst e;cases rx;cases h;exact⟨rfl,rfl⟩
  | mr k=>obtain⟨a,e,_⟩:=r1;subst e;cases rx;cases h;exact⟨rfl,rfl⟩
  | exc c=>first|(obtain⟨a,C,e,_⟩:=r1;subst e;cases rx;cases h;exact⟨rfl,rfl⟩)|cases h
  | any=>cases h
 | bl c=>
  have e:y=.bl c:=r2;subst e;cases ry;cases dx with
  | non=>have e:x=.non:=r1;subst e;cases rx;cases h;exact⟨rfl,rfl⟩
  | bl b=>
   have e:x=.bl b:=r1;subst e;cases rx;cases h;refine⟨rfl,?_⟩;cases b <;> cases c <;> rfl
  | int i=>have e:x=.int i:=r1;subst e;obtain⟨t,rfl⟩:=rx;cases h;exact⟨rfl,rfl⟩
  | str i=>have e:x=.str i:=r1;subst e;obtain⟨t,rfl⟩:=rx;cases h;exact⟨rfl,rfl⟩
  | tup ds=>obtain⟨a,vs,e,_⟩:=r1;subst e;cases rx;cases h;exact⟨rfl,rfl⟩
  | lst ds=>obtain⟨a,vs,e,_⟩:=r1;subst e;cases rx;cases h;exact⟨rfl,rfl⟩
  | ro ds=>obtain⟨a,vs,e,_⟩:=r1;subst e;cases rx;cases h;exact⟨rfl,rfl⟩
  | mr k=>obtain⟨a,e,_⟩:=r1;subst e;cases rx;cases h;exact⟨rfl,rfl⟩
  | exc c=>first|(obtain⟨a,C,e,_⟩:=r1;subst e;cases rx;cases h;exact⟨rfl,rfl⟩)|cases h
  | any=>cases h
 | _=>cases dx <;> cases h
theorem NM:jB X (compareOp .Is) (rD X (kW false)):=by
 intro ah s σ H x y v u Q I rx ry h;obtain⟨θ,M,dx,dy,hw,r1,r2,h⟩:=h;unfold kW at h;split at h
 ·rename_i b q;obtain⟨hp,e⟩:=Cb r1 r2 rx ry q;refine wpAny_is_plain hp ?_;rw[e];refine⟨.bl b,H,I,rfl,?_⟩;have:=h (.bl (b != false)) θ H (.refl hw) rfl;rw[Bool.bne_false] at this;exact this
 ·exact h.elim
theorem Ex:jB X (compareOp .IsNot) (rD X (kW true)):=by
 intro ah s σ H x y v u Q I rx ry h;obtain⟨θ,M,dx,dy,hw,r1,r2,h⟩:=h;unfold kW at h;split at h
 ·rename_i b q;obtain⟨hp,e⟩:=Cb r1 r2 rx ry q;refine wpAny_isNot_plain hp ?_;rw[e];refine⟨.bl (!b),H,I,rfl,?_⟩;have:=h (.bl (b != true)) θ H (.refl hw) rfl;rw[Bool.bne_true] at this;exact this
 ·exact h.elim
mutual
def nB:D→PyData
 | .non=>.none
 | .bl b=>.bool b
 | .int i=>.int i
 | .str x=>.str x
 | .tup ds=>.tuple (pe ds)
 | .lst ds=>.list (pe ds)
 | .ro ds=>.list (pe ds)
 | .mr _=>.dict []
 | .exc _=>.dict []
 | .any=>.dict []
def pe:List D→List PyData
 | []=>[]
 | d::ds=>nB d::pe ds
end
mutual
def aG:Nat→D→Bool
 | _,.non=>true
 | _,.bl _=>true
 | _,.int _=>true
 | _,.str x=>PyData.strOk x
 | n+1,.tup ds=>cr n ds
 | n+1,.lst ds=>cr n ds
 | n+1,.ro ds=>cr n ds
 | _,_=>false
def cr:Nat→List D→Bool
 | _,[]=>true
 | n,d::ds=>aG n d&&cr n ds
end
mutual
def gk:D→D→Bool
 | .non,.non=>true
 | .bl a,.bl b=>a==b
 | .bl a,.int j=>(if a then 1 else 0)==j
 | .int i,.bl b=>i==(if b then 1 else 0)
 | .int i,.int j=>i==j
 | .str x,.str y=>x==y
 | .lst xs,.lst ys=>im xs ys
 | .lst xs,.ro ys=>im xs ys
 | .ro xs,.lst ys=>im xs ys
 | .ro xs,.ro ys=>im xs ys
 | .tup xs,.tup ys=>im xs ys
 | _,_=>false
def im:List D→List D→Bool
 | [],[]=>true
 | x::xs,y::ys=>gk x y&&im xs ys
 | _,_=>false
end
mutual
theorem wz:∀(x y:D) (n m:Nat),aG n x=true→aG m y=true→PyData.eqv (nB x) (nB y)=gk x y
 | .non,y,n,m,hx,hy=>by cases y <;> simp_all [nB,gk,PyData.eqv,aG]
 | .bl a,y,n,m,hx,hy=>by cases y <;> simp_all [nB,gk,PyData.eqv,aG]
 | .int a,y,n,m,hx,hy=>by cases y <;> simp_all [nB,gk,PyData.eqv,aG]
 | .str a,y,n,m,hx,hy=>by cases y <;> simp_all [nB,gk,PyData.eqv,aG]
 | .tup xs,y,n,m,hx,hy=>by
  cases n with
  | zero=>simp[aG] at hx
  | succ n=>
   cases y with
   | tup ys=>
    cases m with
    | zero=>simp[aG] at hy
    | succ m=>
     simp only[nB,PyData.eqv,gk];exact kK xs ys n m (by simpa[aG] using hx) (by simpa[aG] using hy)
   | _=>simp_all [nB,gk,PyData.eqv,aG]
 | .lst xs,y,n,m,hx,hy=>by
  cases n with
  | zero=>simp[aG] at hx
  | succ n=>
   cases y with
   | lst ys=>
    cases m with
    | zero=>simp[aG] at hy
    | succ m=>
     simp only[nB,PyData.eqv,gk];exact kK xs ys n m (by simpa[aG] using hx) (by simpa[aG] using hy)
   | ro ys=>
    cases m with
    | zero=>simp[aG] at hy
    | succ m=>
     simp only[nB,PyData.eqv,gk];exact kK xs ys n m (by simpa[aG] using hx) (by simpa[aG] using hy)
   | _=>simp_all [nB,gk,PyData.eqv,aG]
 | .ro xs,y,n,m,hx,hy=>by
  cases n with
  | zero=>simp[aG] at hx
  | succ n=>
   cases y with
   | lst ys=>
    cases m with
    | zero=>simp[aG] at hy
    | succ m=>
     simp only[nB,PyData.eqv,gk];exact kK xs ys n m (by simpa[aG] using hx) (by simpa[aG] using hy)
   | ro ys=>
    cases m with
    | zero=>simp[aG] at hy
    | succ m=>
     simp only[nB,PyData.eqv,gk];exact kK xs ys n m (by simpa[aG] using hx) (by simpa[aG] using hy)
   | _=>simp_all [nB,gk,PyData.eqv,aG]
 | .mr a,y,n,m,hx,hy=>by simp[aG] at hx
 | .exc a,y,n,m,hx,hy=>by simp[aG] at hx
 | .any,y,n,m,hx,hy=>by simp[aG] at hx
theorem kK:∀(x y:List D) (n m:Nat),cr n x=true→cr m y=true→PyData.eqvAll (pe x) (pe y)=im x y
 | [],y,n,m,hx,hy=>by cases y <;> simp[pe,PyData.eqvAll,im]
 | x::xs,y,n,m,hx,hy=>by
  cases y with
  | nil=>simp[pe,PyData.eqvAll,im]
  | cons y ys=>
   simp only[cr,Bool.and_eq_true] at hx hy;simp only[pe,PyData.eqvAll,im];rw[wz x y n m hx.1 hy.1,kK xs ys n m hx.2 hy.2]
end
mutual
theorem oJ:∀(d:D) (n:Nat),aG n d=true→(nB d).canLay0=true∧(nB d).depth≤n
 | .non,n,h=>by simp[nB,PyData.canLay0,PyData.depth]
 | .bl a,n,h=>by simp[nB,PyData.canLay0,PyData.depth]
 | .int a,n,h=>by simp[nB,PyData.canLay0,PyData.depth]
 | .str a,n,h=>by
  have:PyData.strOk a=true:=by cases n <;> simpa[aG] using h
  simp[nB,PyData.canLay0,PyData.depth,this]
 | .tup xs,n,h=>by
  cases n with
  | zero=>simp[aG] at h
  | succ n=>
   have:=oN xs n (by simpa[aG] using h);simp only[nB,PyData.canLay0,PyData.depth];exact⟨this.1,by omega⟩
 | .lst xs,n,h=>by
  cases n with
  | zero=>simp[aG] at h
  | succ n=>
   have:=oN xs n (by simpa[aG] using h);simp only[nB,PyData.canLay0,PyData.depth];exact⟨this.1,by omega⟩
 | .ro xs,n,h=>by
  cases n with
  | zero=>simp[aG] at h
  | succ n=>
   have:=oN xs n (by simpa[aG] using h);simp only[nB,PyData.canLay0,PyData.depth];exact⟨this.1,by omega⟩
 | .mr a,n,h=>by simp[aG] at h
 | .exc a,n,h=>by simp[aG] at h
 | .any,n,h=>by simp[aG] at h
theorem oN:∀(ds:List D) (n:Nat),cr n ds=true→PyData.canLayAll0 (pe ds)=true∧PyData.depthAll (pe ds)≤n
 | [],n,h=>by simp[pe,PyData.canLayAll0,PyData.depthAll]
 | d::ds,n,h=>by
  simp only[cr,Bool.and_eq_true] at h;have h1:=oJ d n h.1;have h2:=oN ds n h.2;simp only[pe,PyData.canLayAll0,PyData.depthAll,Bool.and_eq_true];exact⟨⟨h1.1,h2.1⟩,by omega⟩
end
mutual
theorem yr {ah:List (Addr×Obj)}{s:Shared}{σ:L2.St}{H:Hp}{θ:List Addr}(I:Inv X ah σ H s):∀(d:D) (n:Nat) (v:V) (u:Value),aG n d=true→fA X.K θ H d v→bC v u→∃as,Reads s.heap u (nB d) as
 | .non,n,v,u,h,r,q=>by have e:v=.non:=r;subst e;cases q;exact⟨_,.none⟩
 | .bl a,n,v,u,h,r,q=>by have e:v=.bl a:=r;subst e;cases q;exact⟨_,.bool a⟩
 | .int a,n,v,u,h,r,q=>by have e:v=.int a:=r;subst e;obtain⟨t,rfl⟩:=q;exact⟨_,.int a t⟩
 | .str a,n,v,u,h,r,q=>by have e:v=.str a:=r;subst e;obtain⟨t,rfl⟩:=q;exact⟨_,.str a t⟩
 | .tup xs,n,v,u,h,r,q=>by
  cases n with
  | zero=>simp[aG] at h
  | succ n=>
   obtain⟨a,vs,e,ta,ra⟩:=r;subst e;cases q;obtain⟨its,rv,⟨o,h1,h2,m,h3⟩,_⟩:=I.tuple ta.sq;obtain⟨as,R⟩:=kN I xs n vs its (by simpa[aG] using h) ra rv;exact⟨_,.tuple h1 h2 h3 (by simpa using R)⟩
 | .lst xs,n,v,u,h,r,q=>by
  cases n with
  | zero=>simp[aG] at h
  | succ n=>
   obtain⟨a,vs,e,ta,ra⟩:=r;subst e;cases q;obtain⟨its,rv,⟨o,m,h1,h2,_,h3⟩,_⟩:=I.list (ta.sq (K:=X.K));obtain⟨as,R⟩:=kN I xs n vs its (by simpa[aG] using h) ra rv;exact⟨_,.list h1 h2 h3 (by simpa using R)⟩
 | .ro xs,n,v,u,h,r,q=>by
  cases n with
  | zero=>simp[aG] at h
  | succ n=>
   obtain⟨a,vs,e,ta,ra⟩:=r;subst e;cases q;obtain⟨its,rv,⟨o,m,h1,h2,_,h3⟩,_⟩:=I.list ta.sq;obtain⟨as,R⟩:=kN I xs n vs its (by simpa[aG] using h) ra rv;exact⟨_,.list h1 h2 h3 (by simpa using R)⟩
 | .mr a,n,v,u,h,r,q=>by simp[aG] at h
 | .exc a,n,v,u,h,r,q=>by simp[aG] at h
 | .any,n,v,u,h,r,q=>by simp[aG] at h
theorem kN {ah:List (Addr×Obj)}{s:Shared}{σ:L2.St}{H:Hp}{θ:List Addr}(I:Inv X ah σ H s):∀(ds:List D) (n:Nat) (vs:List V) (us:List Value),cr n ds=true→bO X.K θ H ds vs→bu vs us→∃as,ReadsAll s.heap us (pe ds) as
 | [],n,vs,us,h,r,q=>by have e:vs=[]:=r;subst e;cases q;exact⟨_,.nil⟩
 | d::ds,n,vs,us,h,r,q=>by
  simp only[cr,Bool.and_eq_true] at h;obtain⟨v,rr,e,r1,r2⟩:=r;subst e;cases q with
  | cons q1 q2=>
   obtain⟨as,R1⟩:=yr I d n v _ h.1 r1 q1;obtain⟨bs,R2⟩:=kN I ds n rr _ h.2 r2 q2;exact⟨_,.cons R1 R2⟩
end
def ox (d:D)(M:aB):D:=match d with
 | .mr k=>match M[k]? with
  | some (.lst xs)=>.lst xs
  | _=>.mr k
 | d=>d
def aF (neg:Bool):F2:=fun x y M=>if aG 40 (ox x M)&&aG 40 (ox y M) then .ok (.bl (gk (ox x M) (ox y M) != neg)) M else .bad
theorem m4 (I:Inv X ah σ H s)(hw:Wr X.K θ H M)(h:aG n (ox d M)=true)(r:fA X.K θ H d v)(q:bC v u):∃as,Reads s.heap u (nB (ox d M)) as:=by
 cases d with
 | mr k=>
  obtain⟨a,e,ta⟩:=r;subst e;cases q;cases qm:M[k]? with
  | none=>
   have e:ox (.mr k) M=.mr k:=by simp[ox,qm]
   rw[e] at h;simp[aG] at h
  | some m=>
   cases m with
   | lst xs=>
    have e:ox (.mr k) M=.lst xs:=by simp[ox,qm]
    rw[e] at h ⊢;cases n with
    | zero=>simp[aG] at h
    | succ n=>
     obtain⟨vs,hv,ra⟩:=hw.at_ k a _ ta qm;obtain⟨its,rv,⟨o,m,h1,h2,_,h3⟩,_⟩:=I.list (X:=X) (xs:=vs) (.inl (.inl hv));obtain⟨as,R⟩:=kN I xs n vs its (by simpa[aG] using h) ra rv;exact⟨_,.list h1 h2 h3 (by simpa using R)⟩
   | _=>
    have e:ox (.mr k) M=.mr k:=by simp[ox,qm]
    rw[e] at h;simp[aG] at h
 | _=>exact yr I _ n v u h r q
theorem LU (hu:X.A.units+64<cLine):jB X (compareOp .Eq) (rD X (aF false)):=by
 intro ah s σ H x y v u Q I rx ry h;obtain⟨θ,M,dx,dy,hw,r1,r2,h⟩:=h;unfold aF at h;split at h
 ·rename_i hc;rw[Bool.and_eq_true] at hc;obtain⟨as,R1⟩:=m4 I hw hc.1 r1 rx;obtain⟨bs,R2⟩:=m4 I hw hc.2 r2 ry;have l1:=oJ _ _ hc.1;have l2:=oJ _ _ hc.2;refine SeqAt.compareEq_reads R1 R2 l1.1 l2.1 (by have:=l1.2;have:min (nB (ox dx M)).depth (nB (ox dy M)).depth≤(nB (ox dx M)).depth:=Nat.min_le_left _ _;omega) ?_;rw[wz _ _ _ _ hc.1 hc.2];refine⟨.bl _,H,I,rfl,?_⟩;have:=h _ θ H (.refl hw) rfl;rw[Bool.bne_false] at this;exact this
 ·exact h.elim
theorem My (hu:X.A.units+64<cLine):jB X (compareOp .NotEq) (rD X (aF true)):=by
 intro ah s σ H x y v u Q I rx ry h;obtain⟨θ,M,dx,dy,hw,r1,r2,h⟩:=h;unfold aF at h;split at h
 ·rename_i hc;rw[Bool.and_eq_true] at hc;obtain⟨as,R1⟩:=m4 I hw hc.1 r1 rx;obtain⟨bs,R2⟩:=m4 I hw hc.2 r2 ry;have l1:=oJ _ _ hc.1;have l2:=oJ _ _ hc.2;refine SeqAt.compareNe_reads R1 R2 l1.1 l2.1 (by have:=l1.2;have:min (nB (ox dx M)).depth (nB (ox dy M)).depth≤(nB (ox dx M)).depth:=Nat.min_le_left _ _;omega) ?_;rw[wz _ _ _ _ hc.1 hc.2];refine⟨.bl _,H,I,rfl,?_⟩;have:=h _ θ H (.refl hw) rfl;rw[Bool.bne_true] at this;exact this
 ·exact h.elim
def bW (d:D)(M:aB):Option (List D):=match d with
 | .tup xs=>some xs
 | .lst xs=>some xs
 | .ro xs=>some xs
 | .mr k=>match M[k]? with
  | some (.lst xs)=>some xs
  | _=>none
 | _=>none
def aI:F2:=fun x y M=>match bW x M,y with
 | some xs,.int i=>match ny xs i with
  | some d=>.ok d M
  | none=>.bad
 | _,_=>.bad
theorem Er {i:Int}(r:bO K θ H ds vs)(e:ny ds i=some d):∃v,ny vs i=some v∧fA K θ H d v:=by
 unfold ny at e ⊢;rw[←aJ r];cases q:EO ds.length i with
 | none=>rw[q] at e;cases e
 | some j=>
  rw[q] at e;exact gZ r e
theorem qj {xs:List D}(hw:Wr K θ H M)(r:fA K θ H d v)(e:bW d M=some xs):∃a vs,v=.ref a∧(pc K H a vs∨qW K H a vs)∧bO K θ H xs vs:=by
 cases d with
 | tup ds=>obtain⟨a,vs,e1,ta,ra⟩:=r;cases e;exact⟨a,vs,e1,.inr ta.sq,ra⟩
 | lst ds=>obtain⟨a,vs,e1,ta,ra⟩:=r;cases e;exact⟨a,vs,e1,.inl ta.sq,ra⟩
 | ro ds=>obtain⟨a,vs,e1,ta,ra⟩:=r;cases e;exact⟨a,vs,e1,.inl ta.sq,ra⟩
 | mr k=>
  obtain⟨a,e1,ta⟩:=r;have e:(match M[k]? with|some (.lst xs)=>some xs|_=>none)=some xs:=e;cases qm:M[k]? with
  | none=>rw[qm] at e;cases e
  | some m=>
   cases m with
   | lst ys=>
    rw[qm] at e;cases e;obtain⟨vs,hv,ra⟩:=hw.at_ k a _ ta qm;exact⟨a,vs,e1,.inl (.inl (.inl hv)),ra⟩
   | _=>rw[qm] at e;cases e
 | _=>cases e
theorem L5:Oa X (rD X aI):=by
 intro value slice ah s σ H x y v u Q I rx ry h hs;obtain⟨θ,M,dx,dy,hw,r1,r2,h⟩:=h;unfold aI at h;split at h
 ·rename_i xs i q;split at h
  ·rename_i d qd;obtain⟨a,vs,ea,sq,ra⟩:=qj hw r1 q;obtain⟨z,ez,rz⟩:=Er ra qd;have hq:=h z θ H (.refl hw) rz;rcases sq with sq|sq
   ·exact Gh value slice ah s σ H x y v u Q I rx ry ⟨a,vs,i,z,ea,r2,sq,ez,hq⟩ hs
   ·exact Le value slice ah s σ H x y v u Q I rx ry ⟨a,vs,i,z,ea,r2,sq,ez,hq⟩ hs
  ·exact h.elim
 ·exact h.elim
theorem Ma {a b:Expr}{pos:Pos}(ha:PE X a (tE X ga))(hb:PE X b (tE X gb))(hs:wm b:=by intro _ _;rfl):PE X (.Subscript a b pos) (tE X (g2 aI ga gb)):=
 (NR L5 ha hb hs).of fun _ _ _ h=>Av h
def jQ (xs:List D)(lo hi:Option Int):List D:=(xs.drop (HT.sIx xs.length 0 lo)).take (HT.sIx xs.length xs.length hi-HT.sIx xs.length 0 lo)
def sA (x:D)(lo hi:Option Int)(M:aB):bj D:=match x with
 | .tup xs=>.ok (.tup (jQ xs lo hi)) M
 | .lst xs=>.ok (.lst (jQ xs lo hi)) M
 | .ro xs=>.ok (.lst (jQ xs lo hi)) M
 | .mr k=>match M[k]? with
  | some (.lst xs)=>.ok (.lst (jQ xs lo hi)) M
  | _=>.bad
 | _=>.bad
abbrev GO:=cC→aB→bj (Option Int)
def bG:GO:=fun _ M=>.ok none M
def dh (g:GE):GO:=fun ρ M=>(g ρ M).bind fun d M1=>match d with
 | .int i=>.ok (some i) M1
 | _=>.bad
def MI (X:Cx)(θ:List Addr)(H:Hp)(Q:Option Int→Hp→Prop):bj (Option Int)→Prop
 | .ok b M'=>∀θ' H',Go X.K θ H θ' H' M'→Q b H'
 | .err c M'=>fW X θ H c M'
 | .bad=>False
def tO (X:Cx)(g:GO):TO:=fun σ H Q=>∃ρ θ M,l9 X.K θ H σ ρ∧Wr X.K θ H M∧MI X θ H Q (g ρ M)
theorem _root_.L2.PO.of {e:Option Expr}{t t':TO}(h:PO X e t)(w:∀σ H Q,t' σ H Q→t σ H Q):PO X e t':=fun ah s σ H Q I q=>h ah s σ H Q I (w σ H Q q)
theorem Ga:PO X none (tO X bG):=Fd.of fun σ H Q ⟨ρ,θ,M,hd,hw,f⟩=>f θ H (.refl hw)
theorem Hn (h:PE X e (tE X g)):PO X (some e) (tO X (dh g)):=(G9 h).of fun σ H Q ⟨ρ,θ,M,hd,hw,h⟩=>by
 refine bZ hd hw (MI X θ H Q) (fun c M' h=>h) (fun h=>h) h fun d M1 v θ1 H1 g1 r1 h1=>?_
 split at h1
 ·rename_i i;exact⟨i,r1,h1 θ1 H1 g1⟩
 ·exact h1.elim
theorem Ht {g:GO}{Q:Option Int→Hp→Prop}{α:Type}(hd:l9 X.K θ H σ ρ)(hw:Wr X.K θ H M)(F:bj α→Prop)(Fe:∀c M',F (.err c M')→fW X θ H c M')(Fb:F .bad→False)
  {f:Option Int→aB→bj α} (h:F ((g ρ M).bind f)) (k:∀d M1 θ1 H1,Go X.K θ H θ1 H1 M1→F (f d M1)→Q d H1):tO X g σ H Q:=by
 refine⟨ρ,θ,M,hd,hw,?_⟩;cases q:g ρ M with
 | ok d M1=>
  rw[q] at h;exact fun θ1 H1 g1=>k d M1 θ1 H1 g1 h
 | err c M1=>rw[q] at h;exact Fe c M1 h
 | bad=>rw[q] at h;exact(Fb h).elim
def oA (g:GE)(gl gh:GO):GE:=fun ρ M=>(g ρ M).bind fun x M1=>(gl ρ M1).bind fun lo M2=>(gh ρ M2).bind fun hi M3=>sA x lo hi M3
def Qz (X:Cx):V→Option Int→Option Int→Hp→VK→Prop:=fun x lo hi H Q=>∃θ M d,Wr X.K θ H M∧fA X.K θ H d x∧bh X θ H Q (sA d lo hi M)
theorem oP (r:bO K θ H ds vs)(lo hi:Option Int):bO K θ H (jQ ds lo hi) (ym vs lo hi):=by
 unfold jQ ym;rw[←aJ r];exact ut _ (uP _ r)
theorem O6:Oo X (Qz X):=by
 intro ah s σ H x v vl vu lo hi sl Q I rx hs pl pu h;obtain⟨θ,M,d,hw,r,h⟩:=h;cases d with
 | tup ds=>
  obtain⟨a,vs,e,ta,ra⟩:=r
  by_cases hc:HT.sIx vs.length 0 lo=0∧HT.sIx vs.length vs.length hi=vs.length
  ·subst e;cases rx;obtain⟨its,rv,ht,hz⟩:=I.tuple ta.sq;have hlen:its.toArray.size=vs.length:=by rw[size_toArray];exact rv.length.symm
   refine⟨"tuple",_,PyProof.Rows.slot_tuple_getitem.lookup,ht.typeIs,?_⟩;refine nu ht hs pl pu (by rw[hlen];exact hc) ⟨.ref a,H,I,rfl,h _ θ H (.refl hw) ⟨a,vs,rfl,ta,?_⟩⟩;have e:jQ ds lo hi=ds:=by
    unfold jQ;rw[aJ ra,hc.1,hc.2,drop_zero,Nat.sub_zero,←aJ ra,take_length]
   rw[e];exact ra
  ·exact Kp ah s σ H x v vl vu lo hi sl Q I rx hs pl pu ⟨a,vs,e,ta.sq,hc,fun p hp=>h _ θ _ (fm hw hp) (je hw hp (oP ra lo hi))⟩
 | lst ds=>
  obtain⟨a,vs,e,ta,ra⟩:=r;exact vO ah s σ H x v vl vu lo hi sl Q I rx hs pl pu ⟨a,vs,e,ta.sq,fun p hp=>h _ θ _ (fm hw hp) (lR hw hp (oP ra lo hi))⟩
 | ro ds=>
  obtain⟨a,vs,e,ta,ra⟩:=r;exact vO ah s σ H x v vl vu lo hi sl Q I rx hs pl pu ⟨a,vs,e,ta.sq,fun p hp=>h _ θ _ (fm hw hp) (lR hw hp (oP ra lo hi))⟩
 | mr k=>
  obtain⟨a,e,ta⟩:=r;have h:bh X θ H Q (match M[k]? with|some (.lst xs)=>.ok (.lst (jQ xs lo hi)) M|_=>.bad):=h;cases qm:M[k]? with
  | none=>rw[qm] at h;exact h.elim
  | some m=>
   cases m with
   | lst ys=>
    rw[qm] at h;obtain⟨vs,hv,ra⟩:=hw.at_ k a _ ta qm;exact vO ah s σ H x v vl vu lo hi sl Q I rx hs pl pu ⟨a,vs,e,.inl (.inl hv),fun p hp=>h _ θ _ (fm hw hp) (lR hw hp (oP ra lo hi))⟩
   | _=>rw[qm] at h;exact h.elim
 | _=>exact h.elim
theorem Ds {lo hi:Option Expr}{gl gh:GO}{p2:Pos}(he:PE X e (tE X g))(hl:PO X lo (tO X gl))(hh:PO X hi (tO X gh)):PE X (.Subscript e (.Slice lo hi none p2) pos) (tE X (oA g gl gh)):=
 (CW O6 he hl hh).of fun σ H Q ⟨ρ,θ,M,hd,hw,h⟩=>by
  refine bZ hd hw (bh X θ H Q) (fun c M' h=>h) (fun h=>h) h fun d M1 v θ1 H1 g1 r1 h1=>?_
  refine Ht (hd.go g1) g1.wr (bh X θ1 H1 Q) (fun c M' h=>h) (fun h=>h) (h1.go g1) fun l M2 θ2 H2 g2 h2=>?_
  refine Ht ((hd.go g1).go g2) g2.wr (bh X θ2 H2 Q) (fun c M' h=>h) (fun h=>h) (h2.go g2) fun u M3 θ3 H3 g3 h3=>?_
  exact⟨θ3,M3,d,g3.wr,r1.go (g2.trans g3),h3.go g3⟩
def yN (d:D)(M:aB):bj Bool:=match d with
 | .non=>.ok false M
 | .bl b=>.ok b M
 | .int i=>.ok (i != 0) M
 | .str x=>if x.length≤sizeLine then .ok ((x.length:Int) != 0) M else .bad
 | .tup xs=>.ok (!xs.isEmpty) M
 | .lst xs=>.ok (!xs.isEmpty) M
 | .ro xs=>.ok (!xs.isEmpty) M
 | .mr k=>match M[k]? with
  | some (.lst xs)=>.ok (!xs.isEmpty) M
  | _=>.bad
 | .exc _=>.bad
 | .any=>.bad
def cn (g:GE):GT:=fun ρ M=>(g ρ M).bind yN
theorem lA (r:bO K θ H ds vs):(!vs.isEmpty)=!ds.isEmpty:=by
 have:=aJ r;cases ds <;> cases vs <;> simp_all
theorem H9 {a:Expr}(ha:PE X a (tE X g))(he:∀whole,isTrue a X.env whole=(do let v ←whole;standAt a.pos;holding [v] (truthy v)):=by intro _;rfl):PT X a (tT X (cn g)):=
 (Dg ha he).of fun σ H Q ⟨ρ,θ,M,hd,hw,h⟩=>by
  refine bZ hd hw (pO X θ H Q) (fun c M' h=>h) (fun h=>h) h fun d M1 v θ1 H1 g1 r1 h1=>?_
  cases d with
  | non=>have e:v=.non:=r1;subst e;exact⟨false,rfl,h1 θ1 H1 g1⟩
  | bl b=>have e:v=.bl b:=r1;subst e;exact⟨b,rfl,h1 θ1 H1 g1⟩
  | int i=>have e:v=.int i:=r1;subst e;exact⟨i != 0,rfl,h1 θ1 H1 g1⟩
  | str x=>
   have e:v=.str x:=r1;subst e;have h1:pO X θ H Q (if x.length≤sizeLine then .ok ((x.length:Int) != 0) M1 else .bad):=h1;split at h1
   ·rename_i hl;exact⟨_,⟨hl,rfl⟩,h1 θ1 H1 g1⟩
   ·exact h1.elim
  | tup xs=>
   obtain⟨a,vs,e,ta,ra⟩:=r1;subst e;exact⟨_,.inr (.inl ⟨vs,ta.sq,(lA ra).symm⟩),h1 θ1 H1 g1⟩
  | lst xs=>
   obtain⟨a,vs,e,ta,ra⟩:=r1;subst e;exact⟨_,.inl ⟨vs,ta.sq,(lA ra).symm⟩,h1 θ1 H1 g1⟩
  | ro xs=>
   obtain⟨a,vs,e,ta,ra⟩:=r1;subst e;exact⟨_,.inl ⟨vs,ta.sq,(lA ra).symm⟩,h1 θ1 H1 g1⟩
  | mr k=>
   obtain⟨a,e,ta⟩:=r1;subst e;have h1:pO X θ H Q (match M1[k]? with|some (.lst xs)=>.ok (!xs.isEmpty) M1|_=>.bad):=h1;cases qm:M1[k]? with
   | none=>rw[qm] at h1;exact h1.elim
   | some m=>
    cases m with
    | lst ys=>
     rw[qm] at h1;obtain⟨vs,hv,ra⟩:=g1.wr.at_ k a _ ta qm;exact⟨_,.inl ⟨vs,.inl (.inl hv),(lA ra).symm⟩,h1 θ1 H1 g1⟩
    | _=>rw[qm] at h1;exact h1.elim
  | exc c=>exact h1.elim
  | any=>exact h1.elim
def aV:FD:=fun ds M=>match ds with
 | [.str x]=>if x.length≤sizeLine then .ok (.int x.length) M else .bad
 | [d]=>match bW d M with
  | some xs=>.ok (.int xs.length) M
  | none=>.bad
 | _=>.bad
def zI:FD:=fun ds M=>match ds with
 | [.int i,.int j]=>.ok (.int (if j<i then j else i)) M
 | _=>.bad
def xu:FD:=fun ds M=>match ds with
 | [.int i,.int j]=>.ok (.int (if j>i then j else i)) M
 | _=>.bad
def wc:FD:=fun ds M=>match ds with
 | [.int i]=>.ok (.int i) M
 | [.bl b]=>.ok (.int (if b then 1 else 0)) M
 | _=>.bad
def gO:FD:=fun ds M=>match ds with
 | [d]=>match bW d M with
  | some xs=>.ok (.lst xs) M
  | none=>.bad
 | _=>.bad
def fN:FD:=fun ds M=>match ds with
 | [d]=>match bW d M with
  | some xs=>.ok (.tup xs) M
  | none=>.bad
 | _=>.bad
theorem lF (r:bO K θ H [d] xs):∃v,xs=[v]∧fA K θ H d v:=by
 obtain⟨v,rr,e,h1,h2⟩:=r;have e2:rr=[]:=h2;subst e2;exact⟨v,e,h1⟩
theorem zp {d':D}(r:bO K θ H [d,d'] xs):∃v v',xs=[v,v']∧fA K θ H d v∧fA K θ H d' v':=by
 obtain⟨v,rr,e,h1,h2⟩:=r;obtain⟨v',e2,h3⟩:=lF h2;subst e2;exact⟨v,v',e,h1,h3⟩
theorem IR:eO X (.builtin "len") (rC X aV):=by
 intro ah s σ H xs us Q I r h;obtain⟨θ,M,ds,hw,rd,h⟩:=h;unfold aV at h;split at h
 ·rename_i x;split at h
  ·rename_i hl;obtain⟨v,e,rv⟩:=lF rd;exact vE ah s σ H xs us Q I r ⟨x,by rw[e,show v=.str x from rv],hl,h _ θ H (.refl hw) rfl⟩
  ·exact h.elim
 ·rename_i d _;split at h
  ·rename_i ys q;obtain⟨v,e,rv⟩:=lF rd;obtain⟨a,vs,ea,sq,ra⟩:=qj hw rv q;refine wF ah s σ H xs us Q I r ⟨a,vs,by rw[e,ea],sq,?_⟩;rw[←aJ ra];exact h _ θ H (.refl hw) rfl
  ·exact h.elim
 ·exact h.elim
theorem Js (hc:X.calm=true):eO X (.builtin "min") (rC X zI):=by
 intro ah s σ H xs us Q I r h;obtain⟨θ,M,ds,hw,rd,h⟩:=h;unfold zI at h;split at h
 ·rename_i i j;obtain⟨v,v',e,rv,rv'⟩:=zp rd;exact BI hc ah s σ H xs us Q I r ⟨i,j,by rw[e,show v=.int i from rv,show v'=.int j from rv'],h _ θ H (.refl hw) rfl⟩
 ·exact h.elim
theorem IG (hc:X.calm=true):eO X (.builtin "max") (rC X xu):=by
 intro ah s σ H xs us Q I r h;obtain⟨θ,M,ds,hw,rd,h⟩:=h;unfold xu at h;split at h
 ·rename_i i j;obtain⟨v,v',e,rv,rv'⟩:=zp rd;exact BH hc ah s σ H xs us Q I r ⟨i,j,by rw[e,show v=.int i from rv,show v'=.int j from rv'],h _ θ H (.refl hw) rfl⟩
 ·exact h.elim
theorem JR:eO X (.type "int") (rC X wc):=by
 intro ah s σ H xs us Q I r h;obtain⟨θ,M,ds,hw,rd,h⟩:=h;unfold wc at h;split at h
 ·rename_i i;obtain⟨v,e,rv⟩:=lF rd;exact u7 ah s σ H xs us Q I r (.inl ⟨i,by rw[e,show v=.int i from rv],h _ θ H (.refl hw) rfl⟩)
 ·rename_i b;obtain⟨v,e,rv⟩:=lF rd;exact u7 ah s σ H xs us Q I r (.inr ⟨b,by rw[e,show v=.bl b from rv],h _ θ H (.refl hw) rfl⟩)
 ·exact h.elim
theorem GX:eO X (.type "list") (rC X gO):=by
 intro ah s σ H xs us Q I r h;obtain⟨θ,M,ds,hw,rd,h⟩:=h;unfold gO at h;split at h
 ·rename_i d;split at h
  ·rename_i ys q;obtain⟨v,e,rv⟩:=lF rd;obtain⟨a,vs,ea,sq,ra⟩:=qj hw rv q;exact vj ah s σ H xs us Q I r ⟨a,vs,by rw[e,ea],sq,fun l hl=>h _ θ _ (fm hw hl) (lR hw hl ra)⟩
  ·exact h.elim
 ·exact h.elim
theorem Dw:eO X (.type "tuple") (rC X fN):=by
 intro ah s σ H xs us Q I r h;obtain⟨θ,M,ds,hw,rd,h⟩:=h;unfold fN at h;split at h
 ·rename_i d;obtain⟨v,e,rv⟩:=lF rd;cases d with
  | tup ys=>
   obtain⟨a,vs,ea,ta,ra⟩:=rv;exact iN ah s σ H xs us Q I r ⟨a,vs,by rw[e,ea],.inr ⟨ta.sq,h _ θ H (.refl hw) ⟨a,vs,rfl,ta,ra⟩⟩⟩
  | lst ys=>
   obtain⟨a,vs,ea,ta,ra⟩:=rv;exact iN ah s σ H xs us Q I r ⟨a,vs,by rw[e,ea],.inl ⟨ta.sq,fun l hl=>h _ θ _ (fm hw hl) (je hw hl ra)⟩⟩
  | ro ys=>
   obtain⟨a,vs,ea,ta,ra⟩:=rv;exact iN ah s σ H xs us Q I r ⟨a,vs,by rw[e,ea],.inl ⟨ta.sq,fun l hl=>h _ θ _ (fm hw hl) (je hw hl ra)⟩⟩
  | mr k=>
   obtain⟨a,ea,ta⟩:=rv;cases qm:M[k]? with
   | none=>simp[bW,qm] at h;exact h.elim
   | some m=>
    cases m with
    | lst ys=>
     simp only[bW,qm] at h;obtain⟨vs,hv,ra⟩:=hw.at_ k a _ ta qm;exact iN ah s σ H xs us Q I r ⟨a,vs,by rw[e,ea],.inl ⟨.inl (.inl hv),fun l hl=>h _ θ _ (fm hw hl) (je hw hl ra)⟩⟩
    | _=>simp[bW,qm] at h;exact h.elim
  | _=>exact h.elim
 ·exact h.elim
end
def fP (cells:List (Str×Addr)):List (Str×NameKind)→List (Str×Addr)→List (Str×Addr)
 | [],acc=>acc
 | (n,k)::r,acc=>if k==.free then fP cells r ((n,(cells.lookup n).getD 0)::acc) else fP cells r acc
theorem rE {env:Env}:∀(l:List (Str×NameKind)) (cs:List (Str×Addr)),(∀p∈l,p.2=.free→∃c,env.cells.lookup p.1=some c)→
  (forIn (m:=Sem) l cs fun x r=>match x with
   | (name,kind)=>if(kind==NameKind.free)=true then do let __do_lift ←cellOf env name;pure (ForInStep.yield ((name,__do_lift)::r)) else pure (ForInStep.yield r))=pure (fP env.cells l cs)
 | [],cs,h=>rfl
 | (n,k)::r,cs,h=>by
  have ih:=fun cs=>rE (env:=env) r cs fun p hp=>h p (mem_cons_of_mem _ hp)
  rw[forIn_cons]
  by_cases hk:(k==NameKind.free)=true
  ·obtain⟨c,hc⟩:=h (n,k) mem_cons_self (by simpa using hk);have e:cellOf env n=pure c:=by unfold cellOf;rw[show List.lookup n env.cells=some c from hc]
   simp only[hk,if_true,fP,e,pure_bind];rw[ih,show List.lookup n env.cells=some c from hc];rfl
  ·simp only[hk,if_false,fP,pure_bind,Bool.false_eq_true];exact ih cs
theorem oE {env:Env}(h:∀p∈scope.names,p.2=.free→∃c,env.cells.lookup p.1=some c):closureFor scope env=pure (fP env.cells scope.names []):=by
 have:=rE (env:=env) scope.names [] h;unfold closureFor;simp only[bind_pure_comp] at this ⊢
 first
  | (rw[this];rfl)
  | (simp[this])
  | exact this
theorem sB {cells:List (Str×Addr)}:∀(l:List (Str×NameKind)) (acc:List (Str×Addr)),(∀p∈acc,cells.lookup p.1=some p.2)→(∀p∈l,p.2=.free→∃c,cells.lookup p.1=some c)→
  ∀p∈fP cells l acc,cells.lookup p.1=some p.2
 | [],acc,ha,h=>ha
 | (n,k)::r,acc,ha,h=>by
  have hr:∀p∈r,p.2=.free→∃c,cells.lookup p.1=some c:=fun p hp=>h p (mem_cons_of_mem _ hp)
  unfold fP
  by_cases hk:(k==NameKind.free)=true
  ·rw[if_pos hk];refine sB r _ (fun p hp=>?_) hr;rcases mem_cons.mp hp with e|hp
   ·subst e;obtain⟨c,hc⟩:=h (n,k) mem_cons_self (by simpa using hk);have hc':cells.lookup n=some c:=hc;show cells.lookup n=some ((cells.lookup n).getD 0);rw[hc'];rfl
   ·exact ha p hp
  ·rw[if_neg hk];exact sB r acc ha hr
theorem rB {cells:List (Str×Addr)}:∀(l:List (Str×NameKind)) (acc:List (Str×Addr)),∀p∈acc,p∈fP cells l acc
 | [],acc,p,h=>h
 | (n,k)::r,acc,p,h=>by
  unfold fP
  by_cases hk:(k==NameKind.free)=true
  ·rw[if_pos hk];exact rB r _ p (mem_cons_of_mem _ h)
  ·rw[if_neg hk];exact rB r acc p h
theorem sw {cells:List (Str×Addr)}:∀(l:List (Str×NameKind)) (acc:List (Str×Addr)) (n:Str),(n,NameKind.free)∈l→∃c,(n,c)∈fP cells l acc
 | [],acc,n,h=>by cases h
 | (m,k)::r,acc,n,h=>by
  unfold fP;rcases mem_cons.mp h with e|h
  ·cases e;rw[if_pos (by rfl)];exact⟨_,rB r _ _ mem_cons_self⟩
  ·by_cases hk:(k==NameKind.free)=true
   ·rw[if_pos hk];exact sw r _ n h
   ·rw[if_neg hk];exact sw r acc n h
theorem ot {l:List (Str×Addr)}{n:Str}{c:Addr}(h:(n,c)∈l):∃c',l.lookup n=some c':=by
 induction l with
 | nil=>cases h
 | cons p r ih=>
  obtain⟨m,d⟩:=p
  by_cases e:(n==m)=true
  ·exact⟨d,by simp[List.lookup,e]⟩
  ·have e':(n==m)=false:=by simpa using e
   rcases mem_cons.mp h with q|q
   ·cases q;simp at e
   ·obtain⟨c',hc⟩:=ih q;exact⟨c',by simp only[List.lookup,e'];exact hc⟩
theorem jN {env:Env}:∀{names:List (Str×NameKind)} {x:Str} {k:NameKind},
  (names.map fun(n,k)=>if(k==NameKind.free&&env.scope.kind==.function&&env.kindOf n==some .cell) then(n,NameKind.cell) else(n,k)).lookup x=some k→
   names.lookup x=some k∨(k=.cell∧names.lookup x=some .free)
 | [],_,_,h=>by simp at h
 | (n,k')::r,x,k,h=>by
  have ih:=@jN env r x k;have h:List.lookup x ((if(k'==NameKind.free&&env.scope.kind==.function&&env.kindOf n==some .cell)=true then(n,NameKind.cell) else(n,k'))::_)=some k:=h
  by_cases hc:(k'==NameKind.free&&env.scope.kind==.function&&env.kindOf n==some .cell)=true
  ·rw[if_pos hc] at h;cases hx:x==n with
   | true=>
    simp only[lookup_cons,hx] at h ⊢;cases h;have:k'=.free:=by
     rw[Bool.and_eq_true,Bool.and_eq_true] at hc;simpa using hc.1.1
    subst this;exact .inr ⟨rfl,rfl⟩
   | false=>
    simp only[lookup_cons,hx] at h ⊢;exact ih h
  ·rw[if_neg hc] at h;cases hx:x==n with
   | true=>
    simp only[lookup_cons,hx] at h ⊢;exact .inl h
   | false=>
    simp only[lookup_cons,hx] at h ⊢;exact ih h
def dF (sc:Scope)(fk:Str→Option NameKind)(xs:List Str)(R N:List Str):Bool:=
 decide (sc.kind=.function)&&xs.all (fun x=>sc.names.lookup x==some .local) &&
 sc.names.all (fun p=>match p.2 with
  | .cell=>false
  | .local=>(xs.contains p.1||p.1==(".0":Str))&&sc.names.lookup p.1==some .local
  | .free=>fk p.1==some .cell||fk p.1==some .free
  | _=>true) &&
 decide ((xs++R).Nodup)&&!(R.contains (".0":Str))&&R.length==N.length &&
 (R.zip N).all (fun p=>p.1==p.2||sc.names.lookup p.1 != some .free)
structure df (sc:Scope)(fk:Str→Option NameKind)(xs:List Str)(R N:List Str):Prop where
 kind:sc.kind=.function
 own:∀x∈xs,sc.names.lookup x=some .local
 nocell:∀p∈sc.names,p.2≠.cell
 locs:∀p∈sc.names,p.2=.local→p.1∈xs∨p.1=(".0":Str)
 lnames:∀p∈sc.names,p.2=.local→sc.names.lookup p.1=some .local
 free:∀p∈sc.names,p.2=.free→fk p.1=some .cell∨fk p.1=some .free
 nd:(xs++R).Nodup
 no0:(".0":Str)∉R
 len:R.length=N.length
 same:∀(i:Nat) y,R[i]?=some y→sc.names.lookup y=some .free→N[i]?=some y
theorem df.of {sc:Scope}{fk:Str→Option NameKind}{xs:List Str}{R N:List Str}(h:dF sc fk xs R N=true):df sc fk xs R N:=by
 unfold dF at h;simp only[Bool.and_eq_true,decide_eq_true_eq,all_eq_true,Bool.not_eq_true',beq_iff_eq] at h;obtain⟨⟨⟨⟨⟨⟨h1,h2⟩,h3⟩,h4⟩,h5⟩,h6⟩,h7⟩:=h;refine⟨h1,h2,fun p hp e=>?_,fun p hp e=>?_,fun p hp e=>?_,fun p hp e=>?_,h4,?_,h6,fun i y hy hf=>?_⟩
 ·have:=h3 p hp;rw[e] at this;simp at this
 ·have:=h3 p hp;rw[e] at this;simp at this;exact this.1
 ·have:=h3 p hp;rw[e] at this;simp at this;exact this.2
 ·have:=h3 p hp;rw[e] at this;simp at this;exact this
 ·intro hm;have:R.contains (".0":Str)=true:=by simpa using hm
  rw[this] at h5;cases h5
 ·obtain⟨hi,e⟩:=List.getElem?_eq_some_iff.mp hy;have hn:i<N.length:=by rw[←h6];exact hi
  have hz:(R[i],N[i])∈R.zip N:=by
   rw[mem_iff_getElem];exact⟨i,by simp;omega,by simp⟩
  have:=h7 _ hz;simp only[Bool.or_eq_true,beq_iff_eq,bne_iff_ne,ne_eq] at this;rcases this with q|q
  ·rw[getElem?_eq_getElem hn,←q,e]
  ·rw[e] at q;exact absurd hf q
def aU (X:Cx)(scope:Scope)(xs:List Str)(R:List Str)(fp:List Addr)(s:Shared)(H:Hp)(C:Addr):Cx where
 prog:=X.prog
 w:=X.w
 K:=X.K
 mg:=X.mg
 base:=X.base
 A:=X.A
 N:=xs++R
 s₀:=s
 H₀:=H
 env:=compEnvC scope (fP X.env.cells scope.names []) C X.env
 outer:=X.stack
 stack:=X.stack
 ex:=fp
 fn:=fun _=>false
 calm:=X.calm
 pn:=[]
 xe:=fun _ _=>False
variable{y:Str}
section
variable {X:Cx}{ah:List (Addr×Obj)}{σ:L2.St}{H:Hp}{s:Shared}{scope:Scope}{xs:List Str}{R:List Str}{fp:List Addr}{C:Addr}
theorem df.cells (S:df scope X.env.kindOf xs R X.N)(I:L2.Inv X ah σ H s):∀p∈scope.names,p.2=.free→∃c,X.env.cells.lookup p.1=some c:=fun p hp e=>I.ok.has p.1 (S.free p hp e)
theorem eG (S:df scope X.env.kindOf xs R X.N)(I:L2.Inv X ah σ H s){c:Addr}(h:(fP X.env.cells scope.names []).lookup y=some c):X.env.cells.lookup y=some c:=
 sB scope.names [] (fun _ z=>by cases z) (S.cells I) (y,c) (PySem.mem_of_lookup h)
theorem DY {h4:Heap}{m:Str→Option Value}{tk:Nat}(S:df scope X.env.kindOf xs R X.N)(I:L2.Inv X ah σ H s)(hC:s.heap.objs.size≤C)(k:∀b o,s.heap.get? b=some o→h4.get? b=some o)(hn:h4.Ns C m)
  (hf:∀b∈fp,kQ X ah H b) (hfl:∀b∈fp,b<s.heap.objs.size):L2.Inv (aU X scope xs R fp s H C) [] (List.replicate xs.length none++σ) H {s with heap:=h4,toks:=tk}:=by
 have hkn:∀y kk,(relabel scope X.env).names.lookup y=some kk→(kk=.cell∨kk=.free)→scope.names.lookup y=some .free:=fun y kk e hk=>by
  rcases jN e with q|q
  ·rcases hk with z|z
   ·subst z;exact absurd rfl (S.nocell _ (PySem.mem_of_lookup q))
   ·subst z;exact q
  ·exact q.2
 have hasc:∀y,scope.names.lookup y=some .free→∃c,(fP X.env.cells scope.names []).lookup y=some c:=fun y e=>by
  obtain⟨c,hc⟩:=sw (cells:=X.env.cells) scope.names [] y (PySem.mem_of_lookup e);exact ot hc
 refine⟨⟨I.ok.mod,S.kind,I.ok.glob,I.ok.blt,hC,fun y z c h1 h2=>I.ok.inj y z c (eG S I h1) (eG S I h2),fun y hy=>?_,fun y c z=>absurd (show false=true from z) Bool.false_ne_true,I.ok.hd,I.ok.frames,.inl rfl,fun b hb=>⟨?_,fun y c e=>?_⟩,I.bs,Nat.le_trans I.ok.bsz I.sz,fun b o e hb=>?_,fun b hb z=>?_,I.stack,I.stkFree⟩,
  rfl,I.bare,Un.kept k,⟨m,hn,fun i y v h1 h2 h3=>?_⟩,fun y c e=>?_,I.hok.fresh hC,fun y c e=>I.freeC y c (eG S I e),fun p hp=>absurd (show p∈([]:List (Addr×Obj)) from hp) (by simp),I.hok.kept k,?_⟩
 ·rcases hy with e|e
  ·exact hasc y (hkn y _ e (.inl rfl))
  ·exact hasc y (hkn y _ e (.inr rfl))
 ·exact Nat.ne_of_lt (Nat.lt_of_lt_of_le (hfl b hb) hC)
 ·exact(hf b hb).2.2.2.2.1 y c (eG S I e)
 ·rcases(hf b hb).2.2.2.1 with z|z
  ·exact I.ok.noex b o e z
  ·exact absurd (Nat.lt_of_lt_of_le (Heap.lt_size e) (Nat.le_trans I.ok.bsz z)) (Nat.lt_irrefl _)
 ·rcases mem_cons.mp (I.stkSub b z) with e|e
  ·exact(hf b hb).2.1 e
  ·exact(hf b hb).2.2.1 e
 ·by_cases hi:i<xs.length
  ·exfalso;rw[getElem?_append_left (by rw[length_replicate];exact hi),getElem?_replicate,if_pos hi] at h2;cases h2
  ·obtain⟨i,rfl⟩:∃j,i=xs.length+j:=⟨i-xs.length,by omega⟩;have h1:R[i]?=some y:=by
    have h1:(xs++R)[xs.length+i]?=some y:=h1;rw[getElem?_append_right (by omega)] at h1;simpa using h1
   have h2:σ[i]?=some (some v):=by
    rw[getElem?_append_right (by rw[length_replicate];omega)] at h2;simpa using h2
   have hyR:y∈R:=mem_of_getElem? h1;have hf':scope.names.lookup y=some .free∧((relabel scope X.env).names.lookup y=some .cell∨(relabel scope X.env).names.lookup y=some .free):=by
    have h3:(relabel scope X.env).names.lookup y=some .local∨(relabel scope X.env).names.lookup y=some .cell∨(relabel scope X.env).names.lookup y=some .free:=h3;rcases h3 with e|e|e
    ·rcases jN e with q|q
     ·exfalso;rcases S.locs _ (PySem.mem_of_lookup q) rfl with z|z
      ·exact(nodup_append.mp S.nd).2.2 y z y hyR rfl
      ·have z:y=(".0":Str):=z;rw[z] at hyR;exact S.no0 hyR
     ·exact absurd q.1 (by intro z;cases z)
    ·exact⟨hkn y _ e (.inl rfl),.inl e⟩
    ·exact⟨hkn y _ e (.inr rfl),.inr e⟩
   have hN:=S.same i y h1 hf'.1;have hk:=S.free (y,.free) (PySem.mem_of_lookup hf'.1) rfl;obtain⟨mX,hnX,hl⟩:=I.loc;have vis:Lm X.env.scope y:=by
    rcases hk with z|z
    ·exact .inr (.inl z)
    ·exact .inr (.inr z)
   obtain⟨u,r,l⟩:=hl i y v hN h2 vis;refine⟨u,r,.inr ⟨hf'.2,?_⟩⟩;rcases l with⟨z,_⟩|⟨_,c,hc,o,ho,hod⟩
   ·exfalso;rcases hk with q|q
    ·have q:X.env.kindOf y=some .cell:=q;rw[z] at q;cases q
    ·have q:X.env.kindOf y=some .free:=q;rw[z] at q;cases q
   ·obtain⟨c',hc'⟩:=hasc y hf'.1;have:c'=c:=by
     have:=eG S I hc';rw[hc] at this;exact(Option.some.inj this).symm
    subst this;exact⟨c',hc',o,k _ _ ho,hod⟩
 ·obtain⟨v,o,ho,hd⟩:=I.cell y c (eG S I e);exact⟨v,o,k _ _ ho,hd⟩
 ·show(List.replicate xs.length none++σ).length=(xs++R).length;rw[length_append,length_append,length_replicate,I.len,S.len]
end
def fT (t:tK)(gc:GT)(ge:GE):List D→cC→aB→bj (List D)
 | [],ρ,M=>if t.ok M then .ok [] M else .bad
 | d::r,ρ,M=>if t.ok M then
   match gc (some d::ρ) M with
   | .ok true M1=>match ge (some d::ρ) M1 with
    | .ok e M2=>(fT t gc ge r ρ M2).bind fun es M3=>.ok (e::es) M3
    | _=>.bad
   | .ok false M1=>fT t gc ge r ρ M1
   | _=>.bad
  else .bad
def cL:GT:=fun _ M=>.ok true M
def bN (t:tK)(n:Nat)(sg:GG)(gc:GT)(ge:GE):List D→cC→aB→bj (List D)
 | [],ρ,M=>if t.ok M then .ok [] M else .bad
 | d::r,ρ,M=>if t.ok M then
   match sg d (List.replicate n none++ρ) with
   | none=>.bad
   | some ρ1=>match gc ρ1 M with
    | .ok true M1=>match ge ρ1 M1 with
     | .ok e M2=>(bN t n sg gc ge r ρ M2).bind fun es M3=>.ok (e::es) M3
     | _=>.bad
    | .ok false M1=>bN t n sg gc ge r ρ M1
    | _=>.bad
  else .bad
def cP (gi:GI)(n:Nat)(sg:GG)(gc:GT)(ge:GE)(mk:List D→aB→bj D):GE:=fun ρ M=>(gi ρ M).bind fun t M1=>(bN t n sg gc ge t.ds ρ M1).bind mk
theorem yk (t:tK)(gc:GT)(ge:GE):∀(ds:List D) (ρ:cC) (M:aB),fT t gc ge ds ρ M=bN t 1 (dM 0) gc ge ds ρ M
 | [],ρ,M=>rfl
 | d::r,ρ,M=>by
  have ih:=yk t gc ge r;unfold fT bN;show _=(if t.ok M=true then(match gc (some d::ρ) M with
    | .ok true M1=>match ge (some d::ρ) M1 with
     | .ok e M2=>(bN t 1 (dM 0) gc ge r ρ M2).bind fun es M3=>.ok (e::es) M3
     | _=>.bad
    | .ok false M1=>bN t 1 (dM 0) gc ge r ρ M1
    | _=>.bad) else .bad)
  simp only[ih]
def xp (n:Nat)(sg:GG):Prop:=∀d ρ ρ',sg d ρ=some ρ'→ρ'.length=ρ.length∧∀i:Nat,n≤i→ρ'[i]?=ρ[i]?
theorem Aq (h:i<n):xp n (dM i):=fun d ρ ρ' e=>by
 have e:some (ρ.set i (some d))=some ρ':=e;cases e;exact⟨by rw[length_set],fun j hj=>by rw[getElem?_set_ne (by omega)]⟩
theorem yb {n:Nat}:∀{is:List Nat} {ds:List D} {ρ ρ':cC},is.all (fun i=>decide (i<n))=true→l6 is ds ρ=some ρ'→ρ'.length=ρ.length∧∀i:Nat,n≤i→ρ'[i]?=ρ[i]?
 | [],[],ρ,ρ',_,e=>by cases e;exact⟨rfl,fun _ _=>rfl⟩
 | [],_::_,_,_,_,e=>by cases e
 | _::_,[],_,_,_,e=>by cases e
 | i::is,d::ds,ρ,ρ',h,e=>by
  rw[all_cons,Bool.and_eq_true] at h;have hi:i<n:=by simpa using h.1
  obtain⟨a,b⟩:=yb h.2 (show l6 is ds (ρ.set i (some d))=some ρ' from e);exact⟨by rw[a,length_set],fun j hj=>by rw[b j hj,getElem?_set_ne (by omega)]⟩
theorem G1 (h:is.all (fun i=>decide (i<n))=true):xp n (bJ is):=fun d ρ ρ' e=>by
 cases d with
 | tup ds=>exact yb h e
 | _=>cases e
theorem xp.back {sg:GG}{τ:L2.St}{ρ1:cC}(o:xp n sg)(e:sg d (List.replicate n none++ρ)=some ρ1)(h:l9 K θ H τ ρ1):l9 K θ H τ (List.replicate n none++ρ):=by
 obtain⟨a,b⟩:=o _ _ _ e;refine⟨by rw[←a];exact h.len,fun i d' q=>?_⟩
 by_cases hi:i<n
 ·rw[getElem?_append_left (by rw[length_replicate];exact hi),getElem?_replicate,if_pos hi] at q;cases q
 ·rw[←b i (by omega)] at q;exact h.at_ i d' q
def br (gi:GI)(gc:GT)(ge:GE)(mk:List D→aB→bj D):GE:=fun ρ M=>(gi ρ M).bind fun t M1=>(fT t gc ge t.ds ρ M1).bind mk
theorem yp (elt target iter:Expr)(ifs:List Expr)(scope:Scope)(pos:Pos)(it acc:Value)(env:Env)(cond:Sem Bool)
  (hc:(forIn (m:=Sem) ifs true fun c r=>if r=true then do let ok ←isTrue c env (eval c env);pure (ForInStep.yield ok) else pure (ForInStep.yield r))=cond) :
  compTurn (.ListComp elt [⟨target,iter,ifs,0⟩] scope pos) 0 it acc env=(standAt iter.pos >>= fun _=>pyNext it >>= fun r=>match r with
   | none=>pure (.done .next)
   | some v=>letOwnedTupleGo target it v >>= fun _=>assign target env v >>= fun _=>cond >>= fun ok=>
    if ok=true then((eval elt env >>= fun x=>call (.builtin "list.append") [acc,x] >>= fun _=>pure ()) >>= fun _=>
     again (.compLoop (.ListComp elt [⟨target,iter,ifs,0⟩] scope pos) 0 it acc env)) else again (.compLoop (.ListComp elt [⟨target,iter,ifs,0⟩] scope pos) 0 it acc env)):=by
 subst hc;rfl
section
variable {prog:Program}{w:World}{A:Around}{R:Result→Shared→Prop}{s:Shared}
theorem mt {elt target iter:Expr}{ifs:List Expr}{scope:Scope}{pos:Pos}{it acc:Value}{env:Env}{cond:Sem Bool}
  (hc:(forIn (m:=Sem) ifs true fun c r=>if r=true then do let ok ←isTrue c env (eval c env);pure (ForInStep.yield ok) else pure (ForInStep.yield r))=cond) (I:Nat→Shared→Prop)
  (turn:∀n s,I n s→wpAny (model prog w) A (pyNext it) (fun r s₁=>match r with
   | none=>R (.ok .next) s₁
   | some v=>wpAny (model prog w) A (letOwnedTupleGo target it v) (fun _ s₂=>wpAny (model prog w) A (assign target env v) (fun _ s₃=>wpAny (model prog w) A cond (fun ok s₄=>if ok=true then
     wpAny (model prog w) A (eval elt env) (fun x s₅=>wpAny (model prog w) A (call (.builtin "list.append") [acc,x]) (fun _ s₆=>∃m,m<n∧I m s₆) (fun _ _=>False) s₅) (fun _ _=>False) s₄
     else∃m,m<n∧I m s₄) (fun _ _=>False) s₃) (fun _ _=>False) s₂) (fun _ _=>False) s₁) (fun _ _=>False) s)
  (n:Nat) (h:I n s):codeAny (model prog w) A (.compLoop (.ListComp elt [⟨target,iter,ifs,0⟩] scope pos) 0 it acc env) R s:=by
 refine codeAny_loop rfl I (fun n s hI=>?_) n h;show wpAny _ _ ((compTurn (.ListComp elt [⟨target,iter,ifs,0⟩] scope pos) 0 it acc env).onRaise (fun x=>do noteFrame x env;theTreesLotGoes x)) _ _ s;refine wpAny_noted ?_;rw[yp _ _ _ _ _ _ _ _ _ _ hc];refine wpAny_bind (wpAny_standAt (wpAny_bind (wpAny_mono (turn n s hI) (fun r s₁ h₁=>?_) fun _ _ z=>z.elim)));cases r with
 | none=>exact wpAny_pure h₁
 | some v=>
  refine wpAny_bind (wpAny_mono h₁ (fun _ s₂ h₂=>?_) fun _ _ z=>z.elim);refine wpAny_bind (wpAny_mono h₂ (fun _ s₃ h₃=>?_) fun _ _ z=>z.elim);refine wpAny_bind (wpAny_mono h₃ (fun ok s₄ h₄=>?_) fun _ _ z=>z.elim);cases ok with
  | true=>
   rw[if_pos rfl] at h₄;rw[if_pos rfl];exact wpAny_bind (wpAny_bind (wpAny_mono h₄ (fun x s₅ h₅=>wpAny_bind (wpAny_mono h₅ (fun _ s₆ h₆=>wpAny_pure (wpAny_pure ⟨rfl,h₆⟩)) fun _ _ z=>z.elim)) fun _ _ z=>z.elim))
  | false=>
   rw[if_neg Bool.false_ne_true] at h₄;rw[if_neg Bool.false_ne_true];exact wpAny_pure ⟨rfl,h₄⟩
theorem zM {env:Env}:(forIn (m:=Sem) ([]:List Expr) true fun c r=>if r=true then do let ok ←isTrue c env (eval c env);pure (ForInStep.yield ok) else pure (ForInStep.yield r))=pure true:=rfl
theorem AY {env:Env}{c:Expr}:(forIn (m:=Sem) [c] true fun c r=>if r=true then do let ok ←isTrue c env (eval c env);pure (ForInStep.yield ok) else pure (ForInStep.yield r))=isTrue c env (eval c env):=by
 rw[forIn_cons];simp
end
theorem FP {b a c:Nat}(h:b<a)(e:c=a+1):b≠c:=by omega
theorem C9 {b a c:Nat}(h:b<c)(e:c=a):a≠b:=by omega
theorem wN {b a c:Nat}(h:b<c)(e:c=a):b≠a:=by omega
abbrev jO (its:List Value)(n:Nat):Obj:={cls:=.type "list",data:=.seq its.toArray n}
section
variable {X:Cx}{ah:List (Addr×Obj)}{σ:L2.St}{s:Shared}{scope:Scope}{xs:List Str}{tg:Expr}{sg:GG}{R:List Str}{elt iter:Expr}{ifs:List Expr}{pos:Pos}{E:Value→Shared→Prop}
theorem FK {σ:L2.St}(h:l9 K θ H σ ρ):l9 K θ H (List.replicate n none++σ) (List.replicate n none++ρ):=by
 refine⟨by rw[length_append,length_append,length_replicate,length_replicate,h.len],fun i d e=>?_⟩
 by_cases hi:i<n
 ·rw[getElem?_append_left (by rw[length_replicate];exact hi),getElem?_replicate,if_pos hi] at e;cases e
 ·rw[getElem?_append_right (by rw[length_replicate];omega),length_replicate] at e ⊢;exact h.at_ _ d e
theorem sj {fp:List Addr}{it:Addr}{tn:Nat→Heap→Prop}{J:It}{H2:Hp}{s2:Shared}{t:tK}{M1:aB}{θ1:List Addr}{gc:GT}{ge:GE}{es:List D}{Mend:aB}{RR:Value→Addr→Result→Shared→Prop}
  (S:df scope X.env.kindOf xs R X.N) (hc:X.calm=true) (I2:L2.Inv X ah σ H2 s2) (T:BN X.prog X.w X.K tg J fp it tn) (st2:tn 0 s2.heap) (f2:∀b∈fp,kQ X ah H2 b)
  (hw1:Wr X.K θ1 H2 M1) (hd1:l9 X.K θ1 H2 σ ρ) (hJ:GL X.K J θ1 H2 t) (hgo:bN t xs.length sg gc ge t.ds ρ M1=.ok es Mend) (hlen:es.length≤sizeLine)
  (hcd:∀C,∃cond,(forIn (m:=Sem) ifs true fun c r=>if r=true then do let ok ←isTrue c (aU X scope xs R fp s2 H2 C).env (eval c (aU X scope xs R fp s2 H2 C).env);pure (ForInStep.yield ok) else pure (ForInStep.yield r))=cond∧
   ∀(ah:List (Addr×Obj)) (s:Shared) (σ:L2.St) (H:Hp) (Q:Bool→Hp→Prop),L2.Inv (aU X scope xs R fp s2 H2 C) ah σ H s→tT (aU X scope xs R fp s2 H2 C) gc σ H Q→wpAny (model X.prog X.w) X.A cond (TP (aU X scope xs R fp s2 H2 C) ah σ Q) (fun _ _=>False) s)
  (own:xp xs.length sg) (hg:∀C,PG (aU X scope xs R fp s2 H2 C) tg (tG (aU X scope xs R fp s2 H2 C) sg))
  (he:∀C,PE (aU X scope xs R fp s2 H2 C) elt (tE (aU X scope xs R fp s2 H2 C) ge))
  (fin:∀(acc C:Addr) (s':Shared) (H':Hp) (θ':List Addr) (vs:List V) (m:Str→Option Value),L2.Inv X ah σ (cR H' acc (.lst vs)) s'→s'.heap.Ns C m→kQ X ah (cR H' acc (.lst vs)) C→Go X.K θ1 H2 θ' H' Mend→H' acc=none→bO X.K θ' H' es vs→RR (.ref acc) C (.ok .next) s') :
  wpAny (model X.prog X.w) X.A (newList []) (fun acc s₃=>wpAny (model X.prog X.w) X.A (newFunctionEnv scope X.env.globals (fP X.env.cells scope.names []) [] X.env.qual none .none (some X.env)) (fun cenv s₄=>
   codeAny (model X.prog X.w) X.A (.compStart (.ListComp elt [⟨tg,iter,ifs,0⟩] scope pos) 0 (.ref it) acc {cenv with scope:=relabel scope X.env}) (RR acc cenv.locals) s₄) E s₃) E s2:=by
 refine wpAny_newObj_type (wpAny_newFunctionEnv S.nocell (by intro y hy;simp at hy) (fun h₁ hns₁ hsb₁=>?_) S.kind);dsimp only at hns₁ hsb₁ ⊢;generalize hHp:s2.heap.push {cls:=.type "list",dict:=none,data:=.seq ([]:List Value).toArray}=Hp2 at hns₁ hsb₁ ⊢;have hCe:Hp2.objs.size=s2.heap.objs.size+1:=by rw[←hHp,Heap.size_push]
 generalize hCd:Hp2.objs.size=C at hns₁ hsb₁ hCe ⊢;generalize hAd:s2.heap.objs.size=acc at hCe ⊢;have hDC:acc≠C:=by rw[hCe];exact Nat.ne_of_lt (Nat.lt_succ_self _)
 have old:∀b o,s2.heap.get? b=some o→h₁.get? b=some o:=fun b o e=>by
  have hb:b<acc:=by rw[←hAd];exact Heap.lt_size e
  refine hsb₁.extBut b o (FP hb hCe) (Heap.get?_push_of_some _ ?_);rw[←hHp];exact Heap.get?_push_of_some _ e
 have hacc0:h₁.get? acc=some (jO [] 0):=by
  refine hsb₁.extBut acc _ hDC (Heap.get?_push_of_some _ ?_);rw[←hHp,←hAd];exact Heap.get?_push_size _ rfl
 have hfl:∀b∈fp,b<s2.heap.objs.size:=fun b hb=>by
  obtain⟨o,e,_⟩:=T.obj 0 _ st2 b hb;exact Heap.lt_size e
 have hCs:s2.heap.objs.size≤C:=by omega
 have IY0:L2.Inv (aU X scope xs R fp s2 H2 C) [] (List.replicate xs.length none++σ) H2 {s2 with heap:=h₁,toks:=s2.toks+([]:List (Str×Value)).length}:=DY S I2 hCs old hns₁ f2 hfl;obtain⟨cond,hcond,hct⟩:=hcd C;have fpY:∀{H':Hp} {p:Obj},(∀b∈fp,H' b=none)→∀b∈fp,kQ (aU X scope xs R fp s2 H2 C) [(acc,p)] H' b:=fun {H' p} hn b hb=>by
  refine⟨hn b hb,?_,fun z=>?_,.inl hb,fun y c e=>?_,fun q hq=>?_⟩
  ·exact Nat.ne_of_lt (Nat.lt_of_lt_of_le (hfl b hb) hCs)
  ·rcases mem_cons.mp (I2.stkSub b z) with e|e
   ·exact(f2 b hb).2.1 e
   ·exact(f2 b hb).2.2.1 e
  ·exact(f2 b hb).2.2.2.2.1 y c (eG S I2 e)
  ·have hq:q∈([]:List (Addr×Obj))++[(acc,p)]:=hq;have e:q=(acc,p):=by simpa using hq
   rw[e];exact C9 (hfl b hb) hAd
 have accF:∀b∈tU X.stack,acc≠b:=fun b hb e=>by
  have:acc∉X.env.locals::X.fs:=by
   intro z;rcases mem_cons.mp z with z|z
   ·exact C9 I2.lt hAd z
   ·exact I2.nofs (Nat.le_of_eq hAd) z
  exact this (e▸I2.stkSub b hb)
 have loop:∀s₃:Shared,s₃={s2 with heap:=h₁,toks:=s2.toks+([]:List (Str×Value)).length}→
   codeAny (model X.prog X.w) X.A (.compLoop (.ListComp elt [⟨tg,iter,ifs,0⟩] scope pos) 0 (.ref it) (.ref acc) (aU X scope xs R fp s2 H2 C).env) (RR (.ref acc) C) s₃:=by
  rintro s₃ rfl;have pin0:∀{σ':L2.St} {H':Hp} {s':Shared} {its:List Value} {n:Nat},L2.Inv (aU X scope xs R fp s2 H2 C) [] σ' H' s'→s'.heap.get? acc=some (jO its n)→H' acc=none→L2.Inv (aU X scope xs R fp s2 H2 C) [(acc,jO its n)] σ' H' s':=fun {σ' H' s' its n} I' e hn=>
   I'.pins_of fun p hp=>by
    have ep:p=(acc,jO its n):=by simpa using hp
    subst ep;exact⟨e,hn,hDC,fun z=>accF acc z rfl,fun v z=>by cases z⟩
  refine mt hcond (fun n s'=>∃(i:Nat) (τ:L2.St) (H':Hp) (θ':List Addr) (M':aB) (ds rest:List D) (vs:List V) (its:List Value) (na:Nat),n=t.ds.length-i∧i≤t.ds.length∧
   L2.Inv (aU X scope xs R fp s2 H2 C) [(acc,jO its na)] τ H' s'∧l9 X.K θ' H' τ (List.replicate xs.length none++ρ)∧tn i s'.heap∧(∀b∈fp,H' b=none)∧Go X.K θ1 H2 θ' H' M'∧bO X.K θ' H' ds vs∧bu vs its∧
   bN t xs.length sg gc ge (t.ds.drop i) ρ M'=.ok rest Mend∧ds++rest=es) ?_ t.ds.length
   ⟨0,_,H2,θ1,M1,[],es,[],[],0,rfl,Nat.zero_le _,pin0 IY0 hacc0 (I2.hok.fresh (Nat.le_of_eq hAd)),FK hd1,T.keep 0 _ _ st2 (fun b hb o e=>old b o e),fun b hb=>(f2 b hb).1,.refl hw1,rfl,.nil,hgo,rfl⟩
  rintro n s' ⟨i,τ,H',θ',M',ds,rest,vs,its,na,rfl,hil,I',dn',st',fr',g',rd',rv',hrest,hes⟩;have hok:t.ok M'=true:=by
   cases hq:t.ok M' with
   | true=>rfl
   | false=>
    exfalso;cases hdr:t.ds.drop i with
    | nil=>rw[hdr,bN,if_neg (by rw[hq];exact Bool.false_ne_true)] at hrest;cases hrest
    | cons d r=>rw[hdr,bN,if_neg (by rw[hq];exact Bool.false_ne_true)] at hrest;cases hrest
  obtain⟨hy,hst⟩:=hJ θ' H' M' g' hok i
  by_cases hlt:i<t.ds.length
  ·have e1:t.ds[i]?=some t.ds[i]:=getElem?_eq_getElem hlt;obtain⟨hgo',hyl⟩:=hy _ e1;rw[drop_eq_getElem_cons hlt,bN,if_pos hok] at hrest;refine cZ (T.item (aU X scope xs R fp s2 H2 C) rfl rfl rfl hc i _ s' _ H' _ I' (fpY fr') st' hgo') fun r s4 ⟨u,hr,h4⟩=>?_
   subst hr;refine cZ h4 fun _ s5 ⟨v,H5,I5,r5,y5,st5,fr5⟩=>?_
   obtain⟨gy,rx⟩:=hyl v H5 y5;have I5':=I5.pinned (fpY fr5) (T.obj _ _ st5);cases qs:sg t.ds[i] (List.replicate xs.length none++ρ) with
   | none=>rw[qs] at hrest;cases hrest
   | some ρ1=>
   rw[qs] at hrest;dsimp only at hrest;refine cZ (hg C _ s5 _ H5 v u (fun σ6 H6=>l9 X.K θ' H6 σ6 ρ1∧H6=H5) I5' r5 ⟨_,θ',M',t.ds[i],dn'.go gy,gy.wr,rx,ρ1,qs,fun σ6 d6=>⟨d6,rfl⟩⟩) fun _ s6 ⟨σ6,H6,I6,hdY,eH6⟩=>?_
   subst eH6;cases qc:gc ρ1 M' with
   | bad=>rw[qc] at hrest;cases hrest
   | err c Mx=>rw[qc] at hrest;cases hrest
   | ok b Mb=>
    refine cZ (hct _ s6 _ H6 (fun b' H7=>b'=b∧∃θ7,Go X.K θ' H6 θ7 H7 Mb) I6 ⟨_,θ',M',hdY,gy.wr,?_⟩) fun ok s7 ⟨H7,I7,eb,θ7,g7⟩=>?_
    ·rw[qc];exact fun θ7 H7 g7=>⟨rfl,θ7,g7⟩
    subst eb;have fpk:∀{s8:Shared} {σ8:L2.St} {H8:Hp},L2.Inv (aU X scope xs R fp s2 H2 C) ([(acc,jO its na)]++sI fp s5.heap) σ8 H8 s8→(∀b∈fp,H8 b=none)∧(∀b∈fp,∀o,s5.heap.get? b=some o→s8.heap.get? b=some o)∧s8.heap.get? acc=some (jO its na)∧H8 acc=none:=fun {s8 σ8 H8} I8=>by
     have pa:=I8.pin (acc,jO its na) (mem_append_right _ (mem_append_left _ (by simp)));refine⟨fun b hb=>?_,fun b hb o e=>(I8.pin (b,o) (mem_append_right _ (mem_append_right _ (lh hb e)))).1,pa.1,pa.2.1⟩;obtain⟨o,e,d⟩:=T.obj _ _ st5 b hb;exact(I8.pin (b,o) (mem_append_right _ (mem_append_right _ (lh hb e)))).2.1
    cases ok with
    | false=>
     rw[if_neg Bool.false_ne_true];rw[qc] at hrest;obtain⟨k1,k2,k3,k4⟩:=fpk I7;exact⟨t.ds.length-(i+1),by omega,i+1,σ6,H7,θ7,Mb,ds,rest,vs,its,na,rfl,hlt,I7.unpinned,own.back qs (hdY.go g7),T.keep _ _ _ st5 k2,k1,g'.trans (gy.trans g7),rd'.go (gy.trans g7),rv',hrest,hes⟩
    | true=>
     rw[if_pos rfl];rw[qc] at hrest;have hrest:(match ge ρ1 Mb with
      | .ok e M2=>(bN t xs.length sg gc ge (t.ds.drop (i+1)) ρ M2).bind fun es M3=>.ok (e::es) M3
      | _=>.bad)=bj.ok rest Mend:=hrest
     cases qe:ge ρ1 Mb with
     | bad=>rw[qe] at hrest;cases hrest
     | err c Mx=>rw[qe] at hrest;cases hrest
     | ok dv Mv=>
      rw[qe] at hrest;have hrest:((bN t xs.length sg gc ge (t.ds.drop (i+1)) ρ Mv).bind fun es M3=>bj.ok (dv::es) M3)=bj.ok rest Mend:=hrest;refine cZ (he C _ s7 _ H7 (fun w H8=>∃θ8,Go X.K θ7 H7 θ8 H8 Mv∧fA X.K θ8 H8 dv w) I7 ⟨_,θ7,Mb,hdY.go g7,g7.wr,?_⟩) fun uv s8 ⟨w,H8,I8,rw8,θ8,g8,rd8⟩=>?_
      ·rw[qe];exact fun w θ8 H8 g8 rd8=>⟨θ8,g8,rd8⟩
      obtain⟨k1,k2,k3,k4⟩:=fpk I8;cases qr:bN t xs.length sg gc ge (t.ds.drop (i+1)) ρ Mv with
      | bad=>rw[qr] at hrest;cases hrest
      | err c Mx=>rw[qr] at hrest;cases hrest
      | ok rest' Mr=>
       rw[qr] at hrest;have hrest:bj.ok (dv::rest') Mr=bj.ok rest Mend:=hrest;cases hrest;have hsz:its.length<sizeLine:=by
        have e2:(ds++dv::rest').length≤sizeLine:=by rw[hes];exact hlen
        rw[length_append,length_cons,aJ rd',rv'.length] at e2;omega
       refine call_meets F.slot_list_append ⟨_,k3,rfl⟩ F.entry_list_append (F.args_list_append_2 _ _) (PySem.list_append acc its.toArray na uv (by rw[size_toArray];omega)) ⟨k3,?_⟩;have qup:=PySem.IsL.update k3 (fun a=>a.push uv);have eup:(its.toArray.push uv)=(its++[uv]).toArray:=by simp
       have keepb:∀b o,b≠acc→s8.heap.get? b=some o→(s8.heap.update acc (Obj.mapSeq fun a=>a.push uv)).get? b=some o:=fun b o hb e=>(Heap.get?_update_other s8.heap _ (Ne.symm hb)).trans e
       have I9:L2.Inv (aU X scope xs R fp s2 H2 C) [] σ6 H8 {s8 with heap:=s8.heap.update acc (Obj.mapSeq fun a=>a.push uv),toks:=s8.toks}:=by
        refine Inv.turned (it:=acc) (I8.pins_of (pins':=[]) fun p hp=>absurd hp (by simp)) keepb k4 hDC (.inr (Nat.le_of_eq hAd)) (fun y c e z=>?_) fun p hp=>absurd (show p∈([]:List (Addr×Obj)) from hp) (by simp)
        obtain⟨v',o,ho,hdd⟩:=I2.cell y c (eG S I2 e);exact wN (Heap.lt_size ho) hAd z
       obtain⟨n',eq'⟩:∃n',(s8.heap.update acc (Obj.mapSeq fun a=>a.push uv)).get? acc=some (jO (its++[uv]) n'):=by
        have q2:=qup;rw[eup] at q2;exact⟨_,q2⟩
       exact⟨t.ds.length-(i+1),by omega,i+1,σ6,H8,θ8,Mv,ds++[dv],rest',vs++[w],its++[uv],n',rfl,hlt,pin0 I9 eq' k4,own.back qs (hdY.go (g7.trans g8)),T.keep _ _ _ st5 (fun b hb o e=>keepb b o (wN (hfl b hb) hAd) (k2 b hb o e)),k1,g'.trans (gy.trans (g7.trans g8)),fh (rd'.go (gy.trans (g7.trans g8))) ⟨w,[],rfl,rd8,rfl⟩,rv'.append (.cons rw8 .nil),qr,by rw[←hes];simp⟩
  ·have e:i=t.ds.length:=by omega
   subst e;rw[drop_length,bN,if_pos hok] at hrest;cases hrest;have hes:ds=es:=by rw[←hes];simp
   subst hes;refine cZ (T.done (aU X scope xs R fp s2 H2 C) rfl rfl rfl hc _ _ s' _ H' _ I' (fpY fr') st' (hst (Nat.le_refl _))) fun r s4 ⟨hr,I4⟩=>?_
   subst hr;have pa:=I4.pin (acc,jO its na) (mem_append_right _ (by simp));have e4:s4.heap.get? acc=some (jO its na):=pa.1;have n4:H' acc=none:=pa.2.1;have lv:vs.length≤sizeLine:=by rw[←aJ rd'];exact hlen
   obtain⟨mC,hnC,_⟩:=I4.loc;have hHC:H' C=none:=I4.free;have CA:Un (tU X.stack) fp H2 H' s2.heap s4.heap:=I4.base;have neA:∀{b:Addr} {o:Obj},s2.heap.get? b=some o→b≠acc:=fun {b o} e=>wN (Heap.lt_size e) hAd
   have neH:∀{b:Addr} {u:HO},H' b=some u→b≠acc:=fun {b u} e z=>by rw[z,n4] at e;cases e
   have un4:Un (tU X.stack) fp H2 (cR H' acc (.lst vs)) s2.heap s4.heap:=by
    refine⟨CA.keep,CA.slot,fun b o e n hx=>?_,CA.there,fun b xs e=>?_,fun b o u e=>?_,fun b ps e=>?_⟩
    ·rw[aQ (neA e)];exact CA.free b o e n hx
    ·have z:=CA.tups b xs e;rw[aQ (neH z)];exact z
    ·have z:=CA.frzs b o u e;rw[aQ (neH z)];exact z
    ·obtain⟨more,z⟩:=CA.tbls b ps e;exact⟨more,by rw[aQ (neH z)];exact z⟩
   have hok4:mU X.prog X.w (cR H' acc (.lst vs)) s4.heap:=fun b u e=>by
    by_cases hb:b=acc
    ·subst hb;rw[bX] at e;cases e;exact⟨lv,its,na,rv',e4⟩
    ·rw[aQ hb] at e;exact(I4.hok b u e).stay (fun c v _ q=>q) (fun c q=>by rw[aQ (neH q)];exact q) fun c xs q=>by rw[aQ (neH q)];exact q
   have IX:L2.Inv X ah σ (cR H' acc (.lst vs)) s4:=I2.call' (ch:=fp) I4.os un4 hok4 I4.bare fun b hb=>⟨(f2 b hb).2.2.2.1,(f2 b hb).2.1,(f2 b hb).2.2.2.2.1,(f2 b hb).2.2.2.2.2⟩
   refine fin acc C s4 H' θ' vs mC IX hnC (I2.fpOk hCs ?_) g' n4 rd';rw[aQ (Ne.symm hDC)];exact hHC
 exact codeAny_compStart_list (loop _ rfl) (T.self _ 0 _ _ _ (T.keep 0 _ _ st2 fun b hb o e=>old b o e) (loop _ rfl))
end
variable{mk:List D→aB→bj D}
section
variable {X:Cx}{scope:Scope}{xs:List Str}{tg:Expr}{sg:GG}{x:Str}{px:Pos}{R:List Str}{elt iter:Expr}{ifs:List Expr}{pos:Pos}{gi:GI}{gc:GT}{ge:GE}
def K5 (mk:List D→aB→bj D):Prop:=∀(X:Cx) (θ:List Addr) (H:Hp) (Q:VK) (ds:List D) (M:aB) (vs:List V),bh X θ H Q (mk ds M)→Wr X.K θ H M→bO X.K θ H ds vs→vs.length≤sizeLine∧∀p,H p=none→Q (.ref p) (cR H p (.lst vs))
theorem EJ:K5 aZ:=fun X θ H Q ds M vs h hw r=>bh.lst h hw r
theorem DG:K5 fq:=fun X θ H Q ds M vs h hw r=>bh.mut h hw r
theorem Cf (hm:mk=aZ∨mk=fq){X:Cx}{Q:VK}(h:bh X θ H Q (mk ds M)):ds.length≤sizeLine:=by
 rcases hm with e|e <;> subst e
 ·unfold aZ at h;split at h
  ·assumption
  ·exact h.elim
 ·unfold fq at h;split at h
  ·assumption
  ·exact h.elim
theorem Hx (hm:mk=aZ∨mk=fq):K5 mk:=by
 rcases hm with e|e <;> subst e
 ·exact EJ
 ·exact DG
def lL (X:Cx)(scope:Scope)(xs:List Str)(R:List Str)(ifs:List Expr)(gc:GT):Prop:=∀fp s2 H2 C,∃cond,(forIn (m:=Sem) ifs true fun c r=>if r=true then do let ok ←isTrue c (aU X scope xs R fp s2 H2 C).env (eval c (aU X scope xs R fp s2 H2 C).env);pure (ForInStep.yield ok) else pure (ForInStep.yield r))=cond∧
   ∀(ah:List (Addr×Obj)) (s:Shared) (σ:L2.St) (H:Hp) (Q:Bool→Hp→Prop),L2.Inv (aU X scope xs R fp s2 H2 C) ah σ H s→tT (aU X scope xs R fp s2 H2 C) gc σ H Q→wpAny (model X.prog X.w) X.A cond (TP (aU X scope xs R fp s2 H2 C) ah σ Q) (fun _ _=>False) s
theorem DT:lL X scope xs R [] cL:=fun fp s2 H2 C=>⟨_,zM,fun ah s σ H Q I ⟨ρ,θ,M,hd,hw,h⟩=>wpAny_pure ⟨H,I,h θ H (.refl hw)⟩⟩
theorem Cu (h:∀fp s2 H2 C,PT (aU X scope xs R fp s2 H2 C) c (tT (aU X scope xs R fp s2 H2 C) gc)):lL X scope xs R [c] gc:=fun fp s2 H2 C=>⟨_,AY,fun ah s σ H Q I q=>h fp s2 H2 C ah s σ H Q I q⟩
theorem lT {t:tK}{n:Nat}{sg:GG}{gc:GT}{ge:GE}{ρ:cC}{c:Str}{M':aB}:∀(ds:List D) (M:aB),bN t n sg gc ge ds ρ M=.err c M'→False
 | [],M,h=>by
  unfold bN at h;split at h <;> cases h
 | d::r,M,h=>by
  unfold bN at h;split at h
  ·split at h
   ·cases h
   ·split at h
    ·rename_i M1 q1;split at h
     ·rename_i e M2 q2;cases q:bN t n sg gc ge r ρ M2 with
      | ok es M3=>rw[q] at h;cases h
      | err c2 M3=>exact lT r M2 q
      | bad=>rw[q] at h;cases h
     ·cases h
    ·rename_i M1 q1;exact lT r M1 h
    ·cases h
  ·cases h
theorem xY (hS:dF scope X.env.kindOf xs R X.N=true)(hc:X.calm=true)(hm:mk=aZ∨mk=fq)(hi:PI X tg iter (tI X gi))(own:xp xs.length sg)(hg:∀fp s H C,PG (aU X scope xs R fp s H C) tg (tG (aU X scope xs R fp s H C) sg))(hts:lL X scope xs R ifs gc)
  (he:∀fp s H C,PE (aU X scope xs R fp s H C) elt (tE (aU X scope xs R fp s H C) ge))
  (hs:∀x,foldedSetIterable iter X.env x=pure x:=by intro _;rfl):PE X (.ListComp elt [⟨tg,iter,ifs,0⟩] scope pos) (tE X (cP gi xs.length sg gc ge mk)):=by
 have S:=df.of hS;intro ah s σ H Q I h;obtain⟨ρ,θ,M,hd,hw,h⟩:=h;rw[eval_ListComp];refine wpAny_comprehension_free (use:=none) rfl hs (oE (S.cells I)) S.kind S.lnames ?_;refine cZ (hi ah s σ H (fun J H2=>∃t M1 θ1,gi ρ M=.ok t M1∧Go X.K θ H θ1 H2 M1∧GL X.K J θ1 H2 t) I ⟨ρ,θ,M,hd,hw,?_⟩) fun v s1 h1=>cZ h1 fun itv s2 h2=>?_
 ·cases q:gi ρ M with
  | ok t M1=>exact fun J θ1 H1 g1 hJ=>⟨t,M1,θ1,rfl,g1,hJ⟩
  | err c M1=>unfold cP at h;rw[q] at h;exact h
  | bad=>unfold cP at h;rw[q] at h;exact h
 obtain⟨it,fp,tn,J,H2,rfl,I2,T,st2,f2,t,M1,θ1,eg,g1,hJ⟩:=h2;unfold cP at h;rw[eg] at h;have h:bh X θ H Q ((bN t xs.length sg gc ge t.ds ρ M1).bind mk):=h;cases q:bN t xs.length sg gc ge t.ds ρ M1 with
 | bad=>rw[q] at h;exact h.elim
 | err c Mx=>exact(lT _ _ q).elim
 | ok es Mend=>
  rw[q] at h;have h:bh X θ H Q (mk es Mend):=h;refine sj (RR:=fun acc C=>compPost (model X.prog X.w) X.A X.xe none (EP X ah σ Q) acc C) S hc I2 T st2 f2 g1.wr (hd.go g1) hJ q (Cf hm h) (fun C=>hts fp s2 H2 C) own (fun C=>hg fp s2 H2 C) (fun C=>he fp s2 H2 C) ?_;intro acc C s' H' θ' vs m IX hnC fC g' na rd;refine⟨m,hnC,fun h' sb=>?_⟩;have I3:L2.Inv X ah σ (cR H' acc (.lst vs)) {s' with heap:=h',toks:=s'.toks}:=IX.turned (it:=C) (fun b o hb e=>(sb.2 b hb).trans e) fC.1 fC.2.1 fC.2.2.2.1 fC.2.2.2.2.1 fC.2.2.2.2.2;exact⟨.ref acc,_,I3,rfl,(Hx hm X θ' H' Q es Mend vs (bh.go (g1.trans g') h) g'.wr rd).2 acc na⟩
theorem qD {j:Nat}{py spos:Pos}(hS:dF scope X.env.kindOf xs R X.N=true)(hc:X.calm=true)(hm:mk=aZ∨mk=fq)(hi:PI X tg iter (tI X gi))(own:xp xs.length sg)(hg:∀fp s H C,PG (aU X scope xs R fp s H C) tg (tG (aU X scope xs R fp s H C) sg))(hts:lL X scope xs R ifs gc)
  (he:∀fp s H C,PE (aU X scope xs R fp s H C) elt (tE (aU X scope xs R fp s H C) ge))
  (hN:X.N.Nodup) (hj:X.N[j]?=some y) (hy:X.env.scope.names.lookup y=some .local)
  (hsw:swapsWith (.ListComp elt [⟨tg,iter,ifs,0⟩] scope pos) (some (.Name y py)) spos.line X.env=pure true)
  (hs:∀x,foldedSetIterable iter X.env x=pure x:=by intro _;rfl):PS X (.Assign [.Name y py] (.ListComp elt [⟨tg,iter,ifs,0⟩] scope pos) spos) (tS X (aH j (cP gi xs.length sg gc ge mk))):=by
 have S:=df.of hS;intro ah s σ H Q I h;obtain⟨ρ,θ,M,hd,hw,h⟩:=h;rw[exec_Assign_Name_used _ _ _ _ hsw];refine wpAny_bind (wpAny_standAt (wpAny_bind ?_));show wpAny _ X.A (do let _ ←comprehension (.ListComp elt [⟨tg,iter,ifs,0⟩] scope pos) scope X.env _ (newList []) false (eval iter X.env) (some (assign (.Name y py) X.env))) _ _ s;refine wpAny_bind (wpAny_mono (wpAny_comprehension_free (use:=some (assign (.Name y py) X.env)) (Q:=fun _ s'=>SP X ah Q .next s') rfl hs (oE (S.cells I)) S.kind S.lnames ?_) (fun _ s' hq=>wpAny_pure (wpAny_pure hq)) fun _ _ e=>e);refine cZ (hi ah s σ H (fun J H2=>∃t M1 θ1,gi ρ M=.ok t M1∧Go X.K θ H θ1 H2 M1∧GL X.K J θ1 H2 t) I ⟨ρ,θ,M,hd,hw,?_⟩) fun v s1 h1=>cZ h1 fun itv s2 h2=>?_
 ·cases q:gi ρ M with
  | ok t M1=>exact fun J θ1 H1 g1 hJ=>⟨t,M1,θ1,rfl,g1,hJ⟩
  | err c M1=>unfold aH cP at h;rw[q] at h;exact h
  | bad=>unfold aH cP at h;rw[q] at h;exact h
 obtain⟨it,fp,tn,J,H2,rfl,I2,T,st2,f2,t,M1,θ1,eg,g1,hJ⟩:=h2;unfold aH cP at h;rw[eg] at h;have h:cT X θ H Q (((bN t xs.length sg gc ge t.ds ρ M1).bind mk).bind fun d M2=>.ok (.nx (ρ.set j (some d))) M2):=h;cases q:bN t xs.length sg gc ge t.ds ρ M1 with
 | bad=>rw[q] at h;exact h.elim
 | err c Mx=>exact(lT _ _ q).elim
 | ok es Mend=>
  rw[q] at h;have h:cT X θ H Q ((mk es Mend).bind fun d M2=>.ok (.nx (ρ.set j (some d))) M2):=h;have hE:bh X θ H (fun v H'=>∃θ' M',Go X.K θ H θ' H' M'∧∃d,mk es Mend=.ok d M'∧fA X.K θ' H' d v) (mk es Mend):=by
   cases qm:mk es Mend with
   | ok d M2=>exact fun v θ' H' g' r=>⟨θ',M2,g',d,rfl,r⟩
   | err c M2=>rw[qm] at h;exact h
   | bad=>rw[qm] at h;exact h
  refine sj (RR:=fun acc C=>compPost (model X.prog X.w) X.A X.xe (some (assign (.Name y py) X.env)) (fun _ s'=>SP X ah Q .next s') acc C) S hc I2 T st2 f2 g1.wr (hd.go g1) hJ q (Cf hm hE) (fun C=>hts fp s2 H2 C) own (fun C=>hg fp s2 H2 C) (fun C=>he fp s2 H2 C) ?_;intro acc C s' H' θ' vs m IX hnC fC g' na rd;obtain⟨θe,Me,ge',d,ed,rde⟩:=(Hx hm X θ' H' _ es Mend vs (bh.go (g1.trans g') hE) g'.wr rd).2 acc na;show wpAny _ X.A (assign (.Name y py) X.env (.ref acc)) _ _ s';refine wpAny_assign_Name (uL IX hN hj (.inl hy) (v:=.ref acc) rfl (fun s3 I3 ⟨a,sa,ha⟩=>?_) (.inr hy));have hCa:C≠a:=by
   rcases ha with e|e
   ·rw[e];exact fC.2.1
   ·exact fun z=>fC.2.2.2.2.1 y a e z.symm
  refine⟨m,hnC.sameBut sa hCa,fun h' sb=>?_⟩;have I4:L2.Inv X ah (σ.set j (some (.ref acc))) (cR H' acc (.lst vs)) {s3 with heap:=h',toks:=s3.toks}:=I3.turned (it:=C) (fun b o hb e=>(sb.2 b hb).trans e) fC.1 fC.2.1 fC.2.2.2.1 fC.2.2.2.2.1 fC.2.2.2.2.2;rw[ed] at h;exact⟨_,_,I4,h _ θe _ ge' ((hd.go ge').set rde j)⟩
theorem Ao {px:Pos}(hS:dF scope X.env.kindOf [x] R X.N=true)(fp:List Addr)(s:Shared)(H:Hp)(C:Addr):PG (aU X scope [x] R fp s H C) (.Name x px) (tG (aU X scope [x] R fp s H C) (dM 0)):=
 have S:=df.of hS
 vN (X:=aU X scope [x] R fp s H C) S.nd rfl (.inl (lookup_relabel_local (S.own x (by simp)))) (.inr (lookup_relabel_local (S.own x (by simp))))
theorem Ad (mk:List D→aB→bj D):br gi gc ge mk=cP gi 1 (dM 0) gc ge mk:=by
 funext ρ M;unfold br cP;simp only[yk]
theorem G3 (hS:dF scope X.env.kindOf [x] R X.N=true)(hc:X.calm=true)(hm:mk=aZ∨mk=fq)(hi:PI X (.Name x px) iter (tI X gi))(hts:lL X scope [x] R ifs gc)
  (he:∀fp s H C,PE (aU X scope [x] R fp s H C) elt (tE (aU X scope [x] R fp s H C) ge))
  (hs:∀x,foldedSetIterable iter X.env x=pure x:=by intro _;rfl):PE X (.ListComp elt [⟨.Name x px,iter,ifs,0⟩] scope pos) (tE X (br gi gc ge mk)):=by
 rw[Ad];exact xY (xs:=[x]) hS hc hm hi (Aq (Nat.zero_lt_one)) (Ao hS) hts he hs
theorem yY {j:Nat}{py spos:Pos}(hS:dF scope X.env.kindOf [x] R X.N=true)(hc:X.calm=true)(hm:mk=aZ∨mk=fq)(hi:PI X (.Name x px) iter (tI X gi))(hts:lL X scope [x] R ifs gc)
  (he:∀fp s H C,PE (aU X scope [x] R fp s H C) elt (tE (aU X scope [x] R fp s H C) ge))
  (hN:X.N.Nodup) (hj:X.N[j]?=some y) (hy:X.env.scope.names.lookup y=some .local)
  (hsw:swapsWith (.ListComp elt [⟨.Name x px,iter,ifs,0⟩] scope pos) (some (.Name y py)) spos.line X.env=pure true)
  (hs:∀x,foldedSetIterable iter X.env x=pure x:=by intro _;rfl):PS X (.Assign [.Name y py] (.ListComp elt [⟨.Name x px,iter,ifs,0⟩] scope pos) spos) (tS X (aH j (br gi gc ge mk))):=by
 rw[Ad];exact qD (xs:=[x]) hS hc hm hi (Aq (Nat.zero_lt_one)) (Ao hS) hts he hN hj hy hsw hs
end
def dN:List D→Option (List Bool)
 | []=>some []
 | .bl b::r=>(dN r).map (b::·)
 | _=>none
def iY:FD:=fun ds M=>match ds with
 | [d]=>match bW d M with
  | some xs=>match dN xs with
   | some bs=>.ok (.bl (bs.all id)) M
   | none=>.bad
  | none=>.bad
 | _=>.bad
theorem nK {K:W.Frag}{θ:List Addr}{H:Hp}:∀{ds:List D} {vs:List V} {us:List Value} {bs:List Bool},bO K θ H ds vs→bu vs us→dN ds=some bs→us=bs.map Value.bool
 | [],vs,us,bs,r,q,e=>by
  have e1:vs=[]:=r;subst e1;cases q;cases e;rfl
 | d::ds,vs,us,bs,r,q,e=>by
  obtain⟨v,rr,e1,h1,h2⟩:=r;subst e1;cases d with
  | bl b=>
   cases qb:dN ds with
   | none=>simp[dN,qb] at e
   | some bs'=>
    simp[dN,qb] at e;subst e;have e2:v=.bl b:=h1;subst e2;cases q with
    | cons q1 q2=>
     cases q1;rw[map_cons,nK h2 q2 qb]
  | _=>simp[dN] at e
theorem BQ (bs:List Bool):(List.range bs.length).all (fun i=>bs.getD i false)=bs.all id:=by
 rw[Bool.eq_iff_iff];simp only[all_eq_true,mem_range,id];constructor
 ·intro h b hb;obtain⟨i,hi,e⟩:=mem_iff_getElem.mp hb;have:=h i hi;rw[getD_eq_getElem?_getD,getElem?_eq_getElem hi] at this;rw[←e];exact this
 ·intro h i hi;rw[getD_eq_getElem?_getD,getElem?_eq_getElem hi];exact h _ (getElem_mem hi)
section
variable {X:Cx}
theorem qG {prog:Program}(bs:List Bool):TruthOf prog w A (fun i v=>((bs.map Value.bool).toArray)[i]?=some v) (fun i=>bs.getD i false):=fun i v s Q E hP hQ=>by
 have hP:(bs.map Value.bool)[i]?=some v:=by simpa using hP
 rw[getElem?_map] at hP;cases q:bs[i]? with
 | none=>rw[q] at hP;cases hP
 | some b=>
  rw[q] at hP;cases hP;have e:bs.getD i false=b:=by rw[getD_eq_getElem?_getD,q];rfl
  dsimp only at hQ;rw[e] at hQ;exact wpAny_truthy_bool hQ
theorem zS {xs:List D}{bs:List Bool}(hc:X.calm=true)(I:L2.Inv X ah σ H s)(hw:Wr X.K θ H M)(rv:fA X.K θ H d v)(ru:bC v u)(q:bW d M=some xs)(qb:dN xs=some bs){Q:Bool→Hp→Prop}{f:(Nat→Bool)→Nat→Bool}{E:Value→Shared→Prop}
  (h:∀h' tk,L2.Inv X ah σ H {s with heap:=h',toks:=tk}→Q (f (fun i=>bs.getD i false) bs.length) H) :
  wpAny (model X.prog X.w) X.A.in1 (pyIter u) (fun it s₂=>∃I fp wr n P St tr,it=.ref I∧Walks X.prog X.w X.A.in1 I fp wr n P St∧St 0 s₂.heap∧TruthOf X.prog X.w X.A.in1 P tr∧
   ∀h' tk,(∀b o,b∉wr→s₂.heap.get? b=some o→h'.get? b=some o)→EP X ah σ (fun v H=>∃b,v=.bl b∧Q b H) (.bool (f tr n)) {s₂ with heap:=h',toks:=tk}) E s:=by
 have hh:X.A.in1.handled=none:=I.ok.hd hc;obtain⟨a,vs,ea,sq,ra⟩:=qj hw rv q;subst ea;cases ru;rcases sq with sq|sq
 ·obtain⟨its,r1,p,hz⟩:=I.list sq;have e:=nK ra r1 qb;subst e;have hlt:a<s.heap.objs.size:=by obtain⟨o,n,e,_⟩:=p;exact Heap.lt_size e
  refine wpAny_pyIter_list p.isList ⟨s.heap.objs.size,_,_,_,_,_,_,rfl,Walks.list hh s.heap.objs.size a (Nat.ne_of_lt hlt) _,⟨⟨_,Heap.get?_push_size _ rfl,rfl,rfl⟩,p.isList.push _⟩,qG bs,fun h' tk k=>?_⟩;have I':L2.Inv X ah σ H {s with heap:=h',toks:=tk}:=I.kept fun b o e=>k b o (by have:=Heap.lt_size e;simp;exact Nat.ne_of_lt this) (Heap.get?_push_of_some _ e)
  refine⟨.bl _,H,I',rfl,_,rfl,?_⟩;have:=h h' tk I';simpa using this
 ·obtain⟨its,r1,p,hz⟩:=I.tuple sq;have e:=nK ra r1 qb;subst e;have hlt:a<s.heap.objs.size:=by obtain⟨o,e,_⟩:=p;exact Heap.lt_size e
  have pt:s.heap.IsTuple a (bs.map Value.bool).toArray:=p;refine wpAny_pyIter_tuple pt ⟨s.heap.objs.size,_,_,_,_,_,_,rfl,Walks.tuple hh s.heap.objs.size a (Nat.ne_of_lt hlt) _,⟨⟨_,Heap.get?_push_size _ rfl,rfl,rfl⟩,?_⟩,qG bs,fun h' tk k=>?_⟩
  ·obtain⟨o,e,r⟩:=p;exact⟨o,Heap.get?_push_of_some _ e,r⟩
  have I':L2.Inv X ah σ H {s with heap:=h',toks:=tk}:=I.kept fun b o e=>k b o (by have:=Heap.lt_size e;simp;exact Nat.ne_of_lt this) (Heap.get?_push_of_some _ e)
  refine⟨.bl _,H,I',rfl,_,rfl,?_⟩;have:=h h' tk I';simpa using this
theorem JM (hc:X.calm=true):eO X (.builtin "all") (rC X iY):=by
 intro ah s σ H xs us Q I r h;obtain⟨θ,M,ds,hw,rd,h⟩:=h;unfold iY at h;split at h
 ·rename_i d;obtain⟨v,e,rv⟩:=lF rd;subst e;obtain⟨u,rfl,ru⟩:=oK r;split at h
  ·rename_i ys q;split at h
   ·rename_i bs qb;refine cZ (call_all_walk (zS hc I hw rv ru q qb (Q:=fun b H=>Q (.bl b) H) (f:=fun tr n=>(List.range n).all tr) (fun h' tk I'=>?_))) fun u' s' ⟨v',H',I',r',b,eb,q'⟩=>⟨v',H',I',r',by rw[eb];exact q'⟩
    rw[BQ];exact h _ θ H (.refl hw) rfl
   ·exact h.elim
  ·exact h.elim
 ·exact h.elim
def Lj:D→Option String
 | .non=>some "NoneType"
 | .bl _=>some "bool"
 | .int _=>some "int"
 | .str _=>some "str"
 | .tup _=>some "tuple"
 | .lst _=>some "list"
 | .ro _=>some "list"
 | _=>none
def EQ (d:D)(M:aB):Option String:=match d with
 | .mr k=>match M[k]? with
  | some (.lst _)=>some "list"
  | _=>none
 | d=>Lj d
def ya (t T:String):Bool:=t==T||(t=="bool"&&T=="int")
def ej (T:String)(g:GE):GE:=fun ρ M=>(g ρ M).bind fun d M1=>match EQ d M1 with
 | some t=>.ok (.bl (ya t T)) M1
 | none=>.bad
def oQ (T:String):Prop:=T="int"∨T="bool"∨T="str"∨T="tuple"∨T="list"
theorem gJ (K:W.Frag)(hT:oQ T):∀t∈["NoneType","bool","int","str","tuple","list"],W.kitOne K (.type t) (.type T)=some (ya t T):=by
 intro t ht;simp only[mem_cons,mem_nil_iff,or_false] at ht;rcases hT with rfl|rfl|rfl|rfl|rfl <;> rcases ht with rfl|rfl|rfl|rfl|rfl|rfl <;> rfl
theorem JZ (hT:oQ T):eO X (.builtin "isinstance") (fun xs H Q=>∃θ M d v,Wr X.K θ H M∧fA X.K θ H d v∧xs=[v,.ty T]∧bh X θ H Q (match EQ d M with|some t=>.ok (.bl (ya t T)) M|none=>.bad)):=by
 intro ah s σ H xs us Q I r h;obtain⟨θ,M,d,v,hw,rv,e,h⟩:=h;subst e;obtain⟨u,c,rfl,ru,rc⟩:=AI r;cases rc;have fin:∀t tk,EQ d M=some t→EP X ah σ Q (.bool (ya t T)) {s with toks:=tk}:=fun t tk e=>by
  rw[e] at h;exact⟨.bl _,H,I.tok _,rfl,h _ θ H (.refl hw) rfl⟩
 cases d with
 | non=>have e:v=.non:=rv;subst e;cases ru;exact W.kia_one W.kitx_none I.kIn True.intro (gJ X.K hT "NoneType" (by simp)) (fun z=>nomatch z) fun tk=>fin _ tk rfl
 | bl b=>have e:v=.bl b:=rv;subst e;cases ru;exact W.kia_one W.kitx_bool I.kIn True.intro (gJ X.K hT "bool" (by simp)) (fun z=>nomatch z) fun tk=>fin _ tk rfl
 | int i=>have e:v=.int i:=rv;subst e;obtain⟨t,rfl⟩:=ru;exact W.kia_one W.kitx_int I.kIn True.intro (gJ X.K hT "int" (by simp)) (fun z=>nomatch z) fun tk=>fin _ tk rfl
 | str i=>have e:v=.str i:=rv;subst e;obtain⟨t,rfl⟩:=ru;exact W.kia_one W.kitx_str I.kIn True.intro (gJ X.K hT "str" (by simp)) (fun z=>nomatch z) fun tk=>fin _ tk rfl
 | tup ds=>
  obtain⟨a,vs,e,ta,ra⟩:=rv;subst e;cases ru;obtain⟨its,_,⟨o,h1,h2,_⟩,_⟩:=I.tuple ta.sq;exact W.kia_one W.kitx_tuple I.kIn ⟨o,h1,h2⟩ (gJ X.K hT "tuple" (by simp)) (fun z=>nomatch z) fun tk=>fin _ tk rfl
 | lst ds=>
  obtain⟨a,vs,e,ta,ra⟩:=rv;subst e;cases ru;obtain⟨its,_,⟨o,n,h1,h2,_⟩,_⟩:=I.list (ta.sq (K:=X.K));exact W.kia_one W.kitx_list I.kIn ⟨o,h1,h2⟩ (gJ X.K hT "list" (by simp)) (fun z=>nomatch z) fun tk=>fin _ tk rfl
 | ro ds=>
  obtain⟨a,vs,e,ta,ra⟩:=rv;subst e;cases ru;obtain⟨its,_,⟨o,n,h1,h2,_⟩,_⟩:=I.list ta.sq;exact W.kia_one W.kitx_list I.kIn ⟨o,h1,h2⟩ (gJ X.K hT "list" (by simp)) (fun z=>nomatch z) fun tk=>fin _ tk rfl
 | mr k=>
  obtain⟨a,e,ta⟩:=rv;subst e;cases ru;cases qm:M[k]? with
  | none=>simp only[EQ,qm] at h;exact h.elim
  | some m=>
   cases m with
   | lst ys=>
    obtain⟨vs,hv,_⟩:=hw.at_ k a _ ta qm;obtain⟨its,_,⟨o,n,h1,h2,_⟩,_⟩:=I.list (X:=X) (xs:=vs) (.inl (.inl hv));exact W.kia_one W.kitx_list I.kIn ⟨o,h1,h2⟩ (gJ X.K hT "list" (by simp)) (fun z=>nomatch z) fun tk=>fin _ tk (by simp only[EQ,qm])
   | _=>simp only[EQ,qm] at h;exact h.elim
 | exc c=>exact h.elim
 | any=>exact h.elim
theorem Lc {p p2 pos:Pos}(hT:oQ T)(hv:bootBuiltins x=some (.type T))(hg:Gl X x)(hm:X.mg x=none)(hgi:Gl X "isinstance")(hmi:X.mg "isinstance"=none)(he:PE X e (tE X g))
  (hn:x≠"__name__":=by decide) (hd:(x==("__debug__":Str))=false:=by decide) (hbi:bootBuiltins "isinstance"=some (.builtin "isinstance"):=by kernel_rfl) (hs:starEach [e,.Name x p2] X.env=(false,eval e X.env)::starEach [.Name x p2] X.env:=by rfl)
  (hs2:starEach [.Name x p2] X.env=(false,eval (.Name x p2) X.env)::starEach [] X.env:=by rfl) (hpl:(backTo pos (starEach [.Name x p2] X.env)).any (·.1)=false:=by rfl) :
  PE X (.Call (.Name "isinstance" p) [e,.Name x p2] [] pos) (tE X (ej T g)):=
 (xQ (JZ hT) hgi hmi hbi (m7 he (m7 (Fi hg hm hv (v:=.ty T) rfl hn hd) tj hs2) hs) (by decide) (by decide) hs hpl).of fun σ H Q ⟨ρ,θ,M,hd,hw,h⟩=>by
  refine bZ hd hw (bh X θ H Q) (fun c M' h=>h) (fun h=>h) h fun d M1 v θ1 H1 g1 r1 h1=>?_
  exact⟨θ1,M1,d,v,g1.wr,r1,rfl,bh.go g1 h1⟩
end
def e7:D→Bool
 | .non=>true
 | .bl _=>true
 | .int _=>true
 | .str _=>true
 | _=>false
def JG:D→V
 | .non=>.non
 | .bl b=>.bl b
 | .int i=>.int i
 | .str x=>.str x
 | _=>.non
theorem v8 (r:fA K θ H d v)(f:e7 d=true):v=JG d∧nF v=true:=by
 cases d with
 | non=>have e:v=.non:=r;subst e;exact⟨rfl,rfl⟩
 | bl b=>have e:v=.bl b:=r;subst e;exact⟨rfl,rfl⟩
 | int b=>have e:v=.int b:=r;subst e;exact⟨rfl,rfl⟩
 | str b=>have e:v=.str b:=r;subst e;exact⟨rfl,rfl⟩
 | _=>cases f
theorem tm {K:W.Frag}{θ:List Addr}{H:Hp}:∀{ds:List D} {vs:List V},bO K θ H ds vs→ds.all e7=true→vs=ds.map JG∧vs.all nF=true
 | [],vs,r,f=>by have e:vs=[]:=r;subst e;exact⟨rfl,rfl⟩
 | d::ds,vs,r,f=>by
  obtain⟨v,rr,e,h1,h2⟩:=r;subst e;rw[all_cons,Bool.and_eq_true] at f;obtain⟨e1,f1⟩:=v8 h1 f.1;obtain⟨e2,f2⟩:=tm h2 f.2;exact⟨by rw[map_cons,←e1,←e2],by rw[all_cons,f1,f2];rfl⟩
theorem FH {x y:D}(fx:e7 x=true)(fy:e7 y=true):ES (JG x) (JG y)=gk x y:=by
 cases x <;> cases y <;> simp_all [e7,JG,ES,gk]
theorem vF {x:D}:∀{ds:List D},e7 x=true→ds.all e7=true→Od (JG x) (ds.map JG)=ds.any fun y=>gk y x
 | [],fx,fs=>rfl
 | d::ds,fx,fs=>by
  rw[all_cons,Bool.and_eq_true] at fs;have ih:=vF (x:=x) (ds:=ds) fx fs.2;unfold Od at ih ⊢;rw[map_cons,any_cons,any_cons,ih,FH fs.1 fx]
def iD (neg:Bool):F2:=fun x y M=>match bW y M with
 | some xs=>if e7 x&&xs.all e7 then .ok (.bl ((xs.any fun y=>gk y x) != neg)) M else .bad
 | none=>.bad
section
variable {X:Cx}
theorem NO:jB X (compareOp .In) (rD X (iD false)):=by
 intro ah s σ H x y v u Q I rx ry h;obtain⟨θ,M,dx,dy,hw,r1,r2,h⟩:=h;unfold iD at h;split at h
 ·rename_i xs q;split at h
  ·rename_i hc;rw[Bool.and_eq_true] at hc;obtain⟨a,vs,ea,sq,ra⟩:=qj hw r2 q;obtain⟨e1,f1⟩:=v8 r1 hc.1;obtain⟨e2,f2⟩:=tm ra hc.2;refine Bi ah s σ H x y v u Q I rx ry ⟨a,vs,ea,sq,f1,f2,?_⟩;have:=h _ θ H (.refl hw) rfl;rw[Bool.bne_false] at this;rw[if_neg (by decide),e1,e2,vF hc.1 hc.2];exact this
  ·exact h.elim
 ·exact h.elim
theorem CY:jB X (compareOp .NotIn) (rD X (iD true)):=by
 intro ah s σ H x y v u Q I rx ry h;obtain⟨θ,M,dx,dy,hw,r1,r2,h⟩:=h;unfold iD at h;split at h
 ·rename_i xs q;split at h
  ·rename_i hc;rw[Bool.and_eq_true] at hc;obtain⟨a,vs,ea,sq,ra⟩:=qj hw r2 q;obtain⟨e1,f1⟩:=v8 r1 hc.1;obtain⟨e2,f2⟩:=tm ra hc.2;refine vH ah s σ H x y v u Q I rx ry ⟨a,vs,ea,sq,f1,f2,?_⟩;have:=h _ θ H (.refl hw) rfl;rw[Bool.bne_true] at this;rw[if_pos rfl,e1,e2,vF hc.1 hc.2];exact this
  ·exact h.elim
 ·exact h.elim
end
section
variable {prog:Program}{w:World}{A:Around}{E:Value→Shared→Prop}{s:Shared}
theorem nH {α β:Type}{f:α→Option β}{g:α→β}:∀(l:List α),(∀k∈l,f k=some (g k))→l.filterMap f=l.map g
 | [],_=>rfl
 | k::l,h=>by rw[filterMap_cons,h k mem_cons_self,map_cons,nH l fun k' hk=>h k' (mem_cons_of_mem _ hk)]
theorem DO (xs:Array Value):((List.range xs.size).filterMap fun(k:Nat)=>xs[(((xs.size:Int)-1)+(k:Int)*(-1)).toNat]?).toArray=xs.toList.reverse.toArray:=by
 congr 1;have e:∀k∈List.range xs.size,xs[(((xs.size:Int)-1)+(k:Int)*(-1)).toNat]?=some (xs.toList.reverse.getD k .none):=fun k hk=>by
  have hk:=mem_range.mp hk;have e1:(((xs.size:Int)-1)+(k:Int)*(-1)).toNat=xs.size-1-k:=by omega
  rw[e1,getD_eq_getElem?_getD,getElem?_reverse (by simpa using hk)];simp;rw[Array.getElem?_eq_getElem (by omega)];rfl
 rw[nH _ e];apply ext_getElem
 ·simp
 ·intro i h1 h2;simp at h1 h2 ⊢;rw[getElem?_eq_getElem (by simpa using h2)];simp
theorem pj {t sl:Addr}{tk:Tok}{Q:Value→Shared→Prop}(ht:IsTup s.heap t items)(hs:s.heap.IsSliceOf sl .none .none (.int (-1) tk))
  (h:Q (.ref s.heap.objs.size) {s with heap:=s.heap.push {cls:=.type "tuple",data:=.seq items.toList.reverse.toArray}}) (hsz:items.size≤sizeLine):wpAny (model prog w) A (getItem (.ref t) (.ref sl)) Q E s:=by
 have hrev:sizeOk (.seq items.toList.reverse.toArray):=by
  show items.toList.reverse.toArray.size≤sizeLine;simpa using hsz
 obtain⟨os,hos,hcs,hds⟩:=id hs;have hTs:s.TypeIs (.ref sl) "slice":=⟨os,hos,hcs⟩;unfold getItem
 try with_reducible refine wpAny_holding ?_
 first|refine wpAny_bind (wpAny_pure ?_)|skip
 refine wpAny_bind (wpAny_sequenceKey ht.typeIs (by decide) ?_);refine wpAny_bind (wpAny_callSpecial?_slot (name:=Str.ofString "__getitem__") ht.typeIs PyProof.Rows.slot_tuple_getitem
  (wpAny_call_entry PyProof.Rows.slot_tuple_getitem ht.typeIs entry_tuple_getitem ?_ (args_tuple_getitem _ _)))
 show wpAny _ _ (Builtin.Tuple.tupleItemsOf (.ref t) >>= _) _ _ s;refine wpAny_bind (tupleItemsOf_ ht ?_);refine wpAny_bind (wpAny_typeOf hTs ?_);rw[if_pos (by decide)];refine wpAny_bind ?_;unfold Builtin.Slice.sliceApplied Builtin.Slice.sliceFields;refine wpAny_bind (wpAny_bind (wpAny_field hos hds (x:=.none) rfl (wpAny_bind (wpAny_field hos hds (x:=.none) rfl (wpAny_bind (wpAny_field hos hds (x:=.int (-1) tk) rfl (wpAny_pure ?_)))))));refine wpAny_bind (slicePart_int ?_);show wpAny _ _ (if((-1:Int)==0)=true then _ else _) _ _ s;rw[if_neg (by decide)];refine wpAny_bind (slicePart_none (wpAny_bind (slicePart_none (wpAny_bind (wpAny_pure ?_)))));have ea:Builtin.Slice.sliceAdjust none none (-1) (items.size:Int)=((items.size:Int)-1,-1):=by
  unfold Builtin.Slice.sliceAdjust;simp
 have ep:Builtin.Slice.slicePlaces ((items.size:Int)-1) (-1) (-1)=items.size:=by
  unfold Builtin.Slice.slicePlaces;simp only[show¬((-1:Int)>0) by decide,if_false]
  by_cases hz:items.size=0
  ·rw[hz];decide
  ·rw[if_pos (by omega)];simp
 show wpAny _ _ (match Builtin.Slice.sliceAdjust none none (-1) (items.size:Int) with|(lo,hi)=>pure (lo,(-1:Int),Builtin.Slice.slicePlaces lo hi (-1))) _ _ s;rw[ea];show wpAny _ _ (pure ((items.size:Int)-1,(-1:Int),Builtin.Slice.slicePlaces ((items.size:Int)-1) (-1) (-1))) _ _ s;rw[ep];refine wpAny_pure ?_;have hno:¬((((items.size:Int)-1)==0&&(-1:Int)==1&&items.size==items.size)=true):=by
  intro q;rw[Bool.and_eq_true,Bool.and_eq_true] at q;exact absurd q.1.2 (by decide)
 show wpAny _ _ (if((((items.size:Int)-1)==0&&(-1:Int)==1&&items.size==items.size))=true then _ else _) _ _ s;rw[if_neg hno,DO]
 first
  | exact wpAny_bind (m:=Builtin.Tuple.tupleExact _) (wpAny_newObj_type (wpAny_pure ⟨_,rfl,wpAny_pure h⟩) hrev)
  | exact wpAny_bind (m:=Builtin.Tuple.tupleExact _) (wpAny_newObj_type (wpAny_bind (wpAny_pure (wpAny_pure ⟨_,rfl,wpAny_pure h⟩))) hrev)
  | exact wpAny_bind (wpAny_bind (m:=Builtin.Tuple.tupleExact _) (wpAny_newObj_type (wpAny_pure (wpAny_pure ⟨_,rfl,wpAny_pure h⟩)) hrev))
  | exact wpAny_bind (wpAny_bind (m:=Builtin.Tuple.tupleExact _) (wpAny_newObj_type (wpAny_pure ⟨_,rfl,wpAny_pure h⟩) hrev))
end
def zZ (g:GE):GE:=fun ρ M=>(g ρ M).bind fun x M1=>match x with
 | .tup xs=>.ok (.tup xs.reverse) M1
 | _=>.bad
theorem o0 {K:W.Frag}{θ:List Addr}{H:Hp}:∀{ds:List D} {vs:List V},bO K θ H ds vs→bO K θ H ds.reverse vs.reverse
 | [],vs,r=>by have e:vs=[]:=r;subst e;exact rfl
 | d::ds,vs,r=>by
  obtain⟨v,rr,e,h1,h2⟩:=r;subst e;rw[reverse_cons,reverse_cons];exact fh (o0 h2) ⟨v,[],rfl,h1,rfl⟩
section
variable {X:Cx}
theorem JO {i j p1 p2 p3 pos}(hi:i=1)(he:PE X e (tE X g)):PE X (.Subscript e (.Slice none none (some (.UnaryOp .USub (.Constant (.int i) j p1) p2)) p3) pos) (tE X (zZ g)):=by
 subst hi;intro ah s σ H Q I h;obtain⟨ρ,θ,M,hd,hw,h⟩:=h;have h2:tE X g σ H (fun x H1=>∃a vs,x=.ref a∧qW X.K H1 a vs∧∀p,H1 p=none→Q (.ref p) (cR H1 p (.tup vs.reverse))):=by
  refine bZ hd hw (bh X θ H Q) (fun c M' h=>h) (fun h=>h) h fun d M1 v θ1 H1 g1 r1 h1=>?_
  split at h1
  ·rename_i xs;obtain⟨a,vs,e1,ta,ra⟩:=r1;exact⟨a,vs,e1,ta.sq,fun p hp=>h1 _ θ1 _ (g1.trans (fm g1.wr hp)) (je g1.wr hp (o0 ra))⟩
  ·exact h1.elim
 refine Subscript_ (cZ (he ah s σ H _ I h2) fun v s1 ⟨x,H1,I1,r1,a,vs,ex,sq,q1⟩=>?_);subst ex;cases r1;refine wpAny_Slice ?_;rw[evalPart_none];refine wpAny_pure (wpAny_pure ?_);rw[evalPart_some];refine cZ ((HP En Et) ah s1 σ H1 (fun y H'=>y=.int (-1)∧H'=H1) I1 ⟨1,rfl,rfl,rfl⟩) fun vst s3 ⟨y,H3,I3,r3,ey,eH⟩=>?_
 subst ey;subst eH;obtain⟨tk,rfl⟩:=r3;have I4:L2.Inv X ah σ H3 {s3 with heap:=s3.heap.push {cls:=.type "slice",data:=.fields #[.none,.none,.int (-1) tk]}}:=I3.kept (t':=s3.toks) fun b ob q=>Heap.get?_push_of_some _ q
 obtain⟨its,rv,ht,hz⟩:=I4.tuple sq;have hlen:its.toArray.size=vs.length:=by rw[size_toArray];exact rv.length.symm
 refine tail_any (ops:=[.ref a,.ref s3.heap.objs.size]) ht.typeIs PyProof.Rows.slot_tuple_getitem.lookup (pj ht (Heap.IsSliceOf.new ..) ?_ (by rw[hlen];exact hz)) (by with_unfolding_all rfl);refine⟨.ref _,_,I4.laid (t':=s3.toks) (o:=.tup vs.reverse) (fun b ob q=>Heap.get?_push_of_some _ q) (Nat.le_refl _) ?_,rfl,q1 _ (I4.hok.fresh (Nat.le_refl _))⟩;exact⟨by rw[length_reverse];exact hz,_,rv.reverse,IsTup.new _ _⟩
def xD (k:Nat)(x:D)(M:aB):bj D:=match M[k]? with
 | some (.lst xs)=>if xs.length<sizeLine then .ok .non (M.set k (.lst (xs++[x]))) else .bad
 | _=>.bad
def jW (go ge:GE):GE:=fun ρ M=>(go ρ M).bind fun o M1=>match o with
 | .mr k=>match M1[k]? with
  | some (.lst _)=>(ge ρ M1).bind (xD k)
  | _=>.bad
 | _=>.bad
theorem Bl {o:Expr}{go ge:GE}{apos cpos:Pos}(ho:PE X o (tE X go))(he:PE X e (tE X ge))
  (hbase:attributeBase o "append" X.env (eval o X.env)=eval o X.env:=by rfl)
  (hfew:((backTo cpos (starEach [e] X.env)).all (fun x=>!x.1)&&(backToKw cpos (keywordEach [] X.env)).all (fun x=>x.1.isSome)
   && decide ([e].length+([]:List Keyword).length+(if([]:List Keyword).isEmpty then 0 else 1)<30))=true:=by rfl)
  (hline:(apos.endLine==cpos.line)=true:=by rfl) (hs:starEach [e] X.env=(false,eval e X.env)::starEach [] X.env:=by rfl) (hplain:(backTo cpos (starEach [] X.env)).any (·.1)=false:=by rfl) :
  PE X (.Call (.Attribute o "append" apos) [e] [] cpos) (tE X (jW go ge)):=
 (NT PySem.F.plainAttrs_list PySem.F.slot_list_append PySem.F.type_list_append BB ho (m7 he tj hs) hbase hfew hline hs hplain).of fun σ H Q ⟨ρ,θ,M,hd,hw,h⟩=>by
  refine bZ hd hw (bh X θ H Q) (fun c M' h=>h) (fun h=>h) h fun d M1 v θ1 H1 g1 r1 h1=>?_
  have h2:=bh.go g1 h1;cases d with
  | mr k=>
   have h2:bh X θ1 H1 Q (match M1[k]? with|some (.lst _)=>(ge ρ M1).bind (xD k)|_=>.bad):=h2;cases qm1:M1[k]? with
   | none=>rw[qm1] at h2;exact h2.elim
   | some m1=>
    cases m1 with
    | obj _ _=>rw[qm1] at h2;exact h2.elim
    | dK _=>rw[qm1] at h2;exact h2.elim
    | dT _=>rw[qm1] at h2;exact h2.elim
    | lst ys1=>
     rw[qm1] at h2;obtain⟨a1,ea1,ta1⟩:=id r1;obtain⟨vs1,hv1,_⟩:=g1.wr.at_ k a1 _ ta1 qm1;refine⟨by rw[ea1];exact .inl ⟨rfl,vs1,.inl (.inl hv1)⟩,?_⟩;refine bZ (hd.go g1) g1.wr (bh X θ1 H1 Q) (fun c M' h=>h) (fun h=>h) h2 fun dx M2 vx θ2 H2 g2 r2 h3=>?_
     have h3:bh X θ1 H1 Q (match M2[k]? with|some (.lst xs)=>if xs.length<sizeLine then .ok .non (M2.set k (.lst (xs++[dx]))) else .bad|_=>.bad):=h3;obtain⟨a,ea,ta⟩:=r1.go g2;cases qm:M2[k]? with
     | none=>rw[qm] at h3;exact h3.elim
     | some m=>
      cases m with
      | obj _ _=>rw[qm] at h3;exact h3.elim
      | dK _=>rw[qm] at h3;exact h3.elim
      | dT _=>rw[qm] at h3;exact h3.elim
      | lst ys=>
       rw[qm] at h3;obtain⟨vs,hv,ra⟩:=g2.wr.at_ k a _ ta qm;have h3:bh X θ1 H1 Q (if ys.length<sizeLine then .ok .non (M2.set k (.lst (ys++[dx]))) else .bad):=h3;split at h3
       ·rename_i hl;have gs:=zr (ds:=ys) g2.wr ta (fh ra (show bO X.K θ2 H2 [dx] [vx] from⟨vx,[],rfl,r2,rfl⟩));exact⟨a,vs,vx,ea,rfl,hv,by rw[←aJ ra];exact hl,h3 _ θ2 _ (g2.trans gs) rfl⟩
       ·exact h3.elim
  | _=>exact h2.elim
end
def bH (f:D→Option D):List D→Option (List D)
 | []=>some []
 | d::ds=>match f d,bH f ds with
  | some x,some xs=>some (x::xs)
  | _,_=>none
def frz (n:Nat)(M:aB):Nat→D→Option D
 | 0,_=>none
 | f+1,d=>match d with
  | .mr k=>if k<n then some (.mr k) else match M[k]? with
   | some (.lst xs)=>(bH (frz n M f) xs).map .lst
   | _=>none
  | .tup xs=>(bH (frz n M f) xs).map .tup
  | .lst xs=>(bH (frz n M f) xs).map .lst
  | .ro xs=>(bH (frz n M f) xs).map .ro
  | d=>some d
def yn (f:D→Option D):List (Str×D)→Option (List (Str×D))
 | []=>some []
 | (x,d)::r=>match f d,yn f r with
  | some e,some r'=>some ((x,e)::r')
  | _,_=>none
def tM {κ:Type}(f:D→Option D):List (κ×D)→Option (List (κ×D))
 | []=>some []
 | (x,d)::r=>match f d,tM f r with
  | some e,some r'=>some ((x,e)::r')
  | _,_=>none
def gG (n:Nat)(M:aB):List MO→Option (List MO)
 | []=>some []
 | .lst xs::r=>match bH (frz n M 30) xs,gG n M r with
  | some ys,some r'=>some (.lst ys::r')
  | _,_=>none
 | .obj c fs::r=>match yn (frz n M 30) fs,gG n M r with
  | some gs,some r'=>some (.obj c gs::r')
  | _,_=>none
 | .dK fs::r=>match tM (frz n M 30) fs,gG n M r with
  | some gs,some r'=>some (.dK gs::r')
  | _,_=>none
 | .dT fs::r=>match tM (frz n M 30) fs,gG n M r with
  | some gs,some r'=>some (.dT gs::r')
  | _,_=>none
def jV (n:Nat)(o:bj D):bj D:=match o with
 | .ok d M=>if M.length=n then .ok d M else match frz n M 30 d,gG n M (M.take n) with
  | some d',some M'=>.ok d' M'
  | _,_=>.bad
 | .err c M=>if M.length=n then .err c M else match gG n M (M.take n) with
  | some M'=>.err c M'
  | none=>.bad
 | .bad=>.bad
section
variable {K:W.Frag}{θ more:List Addr}{H:Hp}{M:aB}{n:Nat}
theorem jD {f:D→Option D}{θ':List Addr}:∀{ds es:List D} {vs:List V},bH f ds=some es→bO K θ' H ds vs→(∀d∈ds,∀e v,f d=some e→fA K θ' H d v→fA K θ H e v)→bO K θ H es vs
 | [],es,vs,h,r,k=>by cases h;exact r
 | d::ds,es,vs,h,r,k=>by
  obtain⟨v,rr,e,h1,h2⟩:=r;unfold bH at h;cases q1:f d with
  | none=>rw[q1] at h;cases h
  | some x=>
   cases q2:bH f ds with
   | none=>rw[q1,q2] at h;cases h
   | some xs=>
    rw[q1,q2] at h;cases h;exact⟨v,rr,e,k d mem_cons_self x v q1 h1,jD q2 h2 fun d' hd=>k d' (mem_cons_of_mem _ hd)⟩
theorem pT (hw:Wr K (θ++more) H M)(hn:θ.length=n):∀(f:Nat) (d e:D) (v:V),frz n M f d=some e→fA K (θ++more) H d v→fA K θ H e v
 | 0,d,e,v,h,r=>by cases h
 | f+1,d,e,v,h,r=>by
  have ih:=pT hw hn f;have sub:∀{a:Addr},a∉θ++more→a∉θ:=fun {a} z y=>z (mem_append_left _ y)
  cases d with
  | mr k=>
   obtain⟨a,ea,ta⟩:=r
   by_cases hk:k<n
   ·have h:(if k<n then some (D.mr k) else _)=some e:=h;rw[if_pos hk] at h;cases h;exact⟨a,ea,by rw[getElem?_append_left (by rw[hn];exact hk)] at ta;exact ta⟩
   ·have h:(if k<n then some (D.mr k) else match M[k]? with|some (.lst xs)=>(bH (frz n M f) xs).map .lst|_=>none)=some e:=h;rw[if_neg hk] at h;cases qm:M[k]? with
    | none=>rw[qm] at h;cases h
    | some m=>
     cases m with
     | lst xs=>
      rw[qm] at h;have h:(bH (frz n M f) xs).map D.lst=some e:=h;obtain⟨vs,hv,ra⟩:=hw.at_ k a _ ta qm;cases qo:bH (frz n M f) xs with
      | none=>rw[qo] at h;cases h
      | some ys=>
       rw[qo] at h;cases h;refine⟨a,vs,ea,⟨hv,fun z=>?_⟩,jD qo ra fun d _ e v=>ih d e v⟩;rw[getElem?_append_right (by omega)] at ta;have hm:=mem_of_getElem? ta;exact(nodup_append.mp hw.nd).2.2 a z a hm rfl
     | _=>rw[qm] at h;cases h
  | tup xs=>
   have h:(bH (frz n M f) xs).map D.tup=some e:=h;cases qo:bH (frz n M f) xs with
   | none=>rw[qo] at h;cases h
   | some ys=>
    rw[qo] at h;cases h;obtain⟨a,vs,ea,ta,ra⟩:=r;exact⟨a,vs,ea,⟨ta.1,sub ta.2⟩,jD qo ra fun d _ e v=>ih d e v⟩
  | lst xs=>
   have h:(bH (frz n M f) xs).map D.lst=some e:=h;cases qo:bH (frz n M f) xs with
   | none=>rw[qo] at h;cases h
   | some ys=>
    rw[qo] at h;cases h;obtain⟨a,vs,ea,ta,ra⟩:=r;exact⟨a,vs,ea,⟨ta.1,sub ta.2⟩,jD qo ra fun d _ e v=>ih d e v⟩
  | ro xs=>
   have h:(bH (frz n M f) xs).map D.ro=some e:=h;cases qo:bH (frz n M f) xs with
   | none=>rw[qo] at h;cases h
   | some ys=>
    rw[qo] at h;cases h;obtain⟨a,vs,ea,ta,ra⟩:=r;refine⟨a,vs,ea,?_,jD qo ra fun d _ e v=>ih d e v⟩;rcases ta with⟨t1,t2⟩|t
    ·exact .inl ⟨t1,sub t2⟩
    ·exact .inr t
  | non=>cases h;exact r
  | bl b=>cases h;exact r
  | int b=>cases h;exact r
  | str b=>cases h;exact r
  | exc c=>
   cases h;obtain⟨a,C,ea,kc,t1,t2⟩:=r;exact⟨a,C,ea,kc,t1,sub t2⟩
  | any=>cases h;exact r
theorem AD {f:D→Option D}{θ':List Addr}:∀{fs gs:List (Str×D)} {vs:List (Str×V)},yn f fs=some gs→oW K θ' H fs vs→(∀d e v,f d=some e→fA K θ' H d v→fA K θ H e v)→oW K θ H gs vs
 | [],gs,vs,h,r,k=>by cases h;exact r
 | (x,d)::fs,gs,vs,h,r,k=>by
  obtain⟨v,rr,e,h1,h2⟩:=r;unfold yn at h;cases q1:f d with
  | none=>rw[q1] at h;cases h
  | some y=>
   cases q2:yn f fs with
   | none=>rw[q1,q2] at h;cases h
   | some ys=>
    rw[q1,q2] at h;cases h;exact⟨v,rr,e,k d y v q1 h1,AD q2 h2 k⟩
theorem wA {κ:Type}{f:D→Option D}{θ':List Addr}:∀{fs gs:List (κ×D)} {vs:List (κ×V)},tM f fs=some gs→sX K θ' H fs vs→(∀d e v,f d=some e→fA K θ' H d v→fA K θ H e v)→sX K θ H gs vs
 | [],gs,vs,h,r,k=>by cases h;exact r
 | (x,d)::fs,gs,vs,h,r,k=>by
  obtain⟨v,rr,e,h1,h2⟩:=r;unfold tM at h;cases q1:f d with
  | none=>rw[q1] at h;cases h
  | some y=>
   cases q2:tM f fs with
   | none=>rw[q1,q2] at h;cases h
   | some ys=>
    rw[q1,q2] at h;cases h;exact⟨v,rr,e,k d y v q1 h1,wA q2 h2 k⟩
theorem oM (hw:Wr K (θ++more) H M)(hn:θ.length=n):∀(l l':List MO),gG n M l=some l'→l'.length=l.length∧∀(i:Nat) m m' a,l[i]?=some m→l'[i]?=some m'→tX K (θ++more) H m a→tX K θ H m' a
 | [],l',h=>by cases h;exact⟨rfl,fun i m m' a e=>by simp at e⟩
 | .lst xs::r,l',h=>by
  unfold gG at h;cases q1:bH (frz n M 30) xs with
  | none=>rw[q1] at h;cases h
  | some ys=>
   cases q2:gG n M r with
   | none=>rw[q1,q2] at h;cases h
   | some r'=>
    rw[q1,q2] at h;cases h;obtain⟨hl,hr⟩:=oM hw hn r r' q2;refine⟨by rw[length_cons,length_cons,hl],fun i m m' a e1 e2 ok=>?_⟩;cases i with
    | zero=>
     have e1:some (MO.lst xs)=some m:=e1;have e2:some (MO.lst ys)=some m':=e2;cases e1;cases e2;obtain⟨vs,hv,ra⟩:=ok;exact⟨vs,hv,jD q1 ra fun d _ e v=>pT hw hn 30 d e v⟩
    | succ i=>exact hr i m m' a e1 e2 ok
 | .obj c fs::r,l',h=>by
  unfold gG at h;cases q1:yn (frz n M 30) fs with
  | none=>rw[q1] at h;cases h
  | some gs=>
   cases q2:gG n M r with
   | none=>rw[q1,q2] at h;cases h
   | some r'=>
    rw[q1,q2] at h;cases h;obtain⟨hl,hr⟩:=oM hw hn r r' q2;refine⟨by rw[length_cons,length_cons,hl],fun i m m' a e1 e2 ok=>?_⟩;cases i with
    | zero=>
     have e1:some (MO.obj c fs)=some m:=e1;have e2:some (MO.obj c gs)=some m':=e2;cases e1;cases e2;obtain⟨C,dx,vs,kC,hv,ra⟩:=ok;exact⟨C,dx,vs,kC,hv,AD q1 ra fun d e v=>pT hw hn 30 d e v⟩
    | succ i=>exact hr i m m' a e1 e2 ok
 | .dK fs::r,l',h=>by
  unfold gG at h;cases q1:tM (frz n M 30) fs with
  | none=>rw[q1] at h;cases h
  | some gs=>
   cases q2:gG n M r with
   | none=>rw[q1,q2] at h;cases h
   | some r'=>
    rw[q1,q2] at h;cases h;obtain⟨hl,hr⟩:=oM hw hn r r' q2;refine⟨by rw[length_cons,length_cons,hl],fun i m m' a e1 e2 ok=>?_⟩;cases i with
    | zero=>
     have e1:some (MO.dK fs)=some m:=e1;have e2:some (MO.dK gs)=some m':=e2;cases e1;cases e2;obtain⟨vs,hv,ra⟩:=ok;exact⟨vs,hv,wA q1 ra fun d e v=>pT hw hn 30 d e v⟩
    | succ i=>exact hr i m m' a e1 e2 ok
 | .dT fs::r,l',h=>by
  unfold gG at h;cases q1:tM (frz n M 30) fs with
  | none=>rw[q1] at h;cases h
  | some gs=>
   cases q2:gG n M r with
   | none=>rw[q1,q2] at h;cases h
   | some r'=>
    rw[q1,q2] at h;cases h;obtain⟨hl,hr⟩:=oM hw hn r r' q2;refine⟨by rw[length_cons,length_cons,hl],fun i m m' a e1 e2 ok=>?_⟩;cases i with
    | zero=>
     have e1:some (MO.dT fs)=some m:=e1;have e2:some (MO.dT gs)=some m':=e2;cases e1;cases e2;obtain⟨vs,hv,ra⟩:=ok;exact⟨vs,hv,wA q1 ra fun d e v=>pT hw hn 30 d e v⟩
    | succ i=>exact hr i m m' a e1 e2 ok
theorem DR {θ0:List Addr}{H0:Hp}{θ':List Addr}{H':Hp}{M' M2:aB}{n:Nat}(hn:θ0.length=n)(g:Go K θ0 H0 θ' H' M')(h:gG n M' (M'.take n)=some M2):Go K θ0 H0 θ0 H' M2:=by
 obtain⟨m,em,hm⟩:=g.ext;have hw:=g.wr;rw[em] at hw;obtain⟨hl,hr⟩:=oM hw hn _ _ h;have hlen:n≤M'.length:=by rw[←g.wr.len,em,length_append];omega
 refine⟨⟨⟨[],by simp,fun _ z=>by cases z⟩,g.keep,g.tkeep⟩,by rw[hl,length_take];omega,(nodup_append.mp hw.nd).1,fun i a mo e1 e2=>?_,g.wr.tb⟩;have hi:i<n:=by rw[←hn];exact(List.getElem?_eq_some_iff.mp e1).1
 have hiM:i<M'.length:=by omega
 refine hr i M'[i] mo a (by rw[getElem?_take_of_lt hi];exact getElem?_eq_getElem hiM) e2 (hw.at_ i a _ ?_ (getElem?_eq_getElem hiM));rw[getElem?_append_left (by rw[hn];exact hi)];exact e1
end
theorem J6 {k:Nat}{CX:B8}(h:eX P w K mg base CX k f fd ps (oy K n F)) :
  eX P w K mg base CX k f fd ps (oy K n fun ds M=>jV M.length (F ds M)):=h.imp fun vs H Q E ⟨θ,M,ds,hl,r,hw,q⟩=>by
 refine⟨θ,M,ds,hl,r,hw,?_⟩;have q:yD K θ H Q E (jV M.length (F ds M)):=q;cases e:F ds M with
 | bad=>rw[e] at q;exact q
 | err c M1=>
  rw[e] at q;have q:yD K θ H Q E (if M1.length=M.length then .err c M1 else match gG M.length M1 (M1.take M.length) with|some M'=>.err c M'|none=>.bad):=q;split at q
  ·exact q
  ·split at q
   ·rename_i M2 e2;exact fun C θ' H' a kC g=>q C θ H' a kC (DR hw.len g e2)
   ·exact q.elim
 | ok d M1=>
  rw[e] at q;have q:yD K θ H Q E (if M1.length=M.length then .ok d M1 else match frz M.length M1 30 d,gG M.length M1 (M1.take M.length) with|some d',some M'=>.ok d' M'|_,_=>.bad):=q;split at q
  ·exact q
  ·split at q
   ·rename_i d' M2 e1 e2;intro v θ' H' g rd;refine q v θ H' (DR hw.len g e2) ?_;obtain⟨m,em,_⟩:=g.ext;have hw':=g.wr;rw[em] at hw' rd;exact pT hw' hw.len 30 d d' v e1 rd
   ·exact q.elim
structure Fn (K:W.Frag)(mg:Str→Option Value)(x:Str)(st:Stmt)(f:Addr)(fd:FuncData)(ps:List Str):Prop where
 F:Fh K x x st f fd
 m:mg x=some (.ref f)
 b:fL K fd ps []
section
variable {X:Cx}
theorem vv (i:Nat){pos:Pos}(hN:X.N[i]?=some x:=by rfl)(hv:Lm X.env.scope x:=by first|exact Or.inl rfl|exact Or.inr (Or.inl rfl)|exact Or.inr (Or.inr rfl))(hd:(x==("__debug__":Str))=false:=by decide)
  (hcd:(x==("__classdict__":Str))=false:=by decide):PE X (.Name x pos) (tE X (ae i)):=Ic (Jx hN hv hd hcd)
theorem ss (i:Nat){pos pos':Pos}(hN:X.N.Nodup)(he:PE X e (tE X g))(hi:X.N[i]?=some x:=by rfl)(hx:yL X.env.scope x:=by first|exact Or.inl rfl|exact Or.inr rfl)
  (hs:swapsWith e (some (.Name x pos')) pos.line X.env=pure false:=by rfl) (hf:X.fn x=true∨X.env.scope.names.lookup x=some .local:=by first|exact .inl rfl|exact .inr rfl) :
  PS X (.Assign [.Name x pos'] e pos) (tS X (aH i g)):=J8 hN hi hx he hs hf
theorem gg (i:Nat){pos:Pos}(hN:X.N.Nodup)(hi:X.N[i]?=some x:=by rfl)(hx:yL X.env.scope x:=by first|exact Or.inl rfl|exact Or.inr rfl)(hf:X.fn x=true∨X.env.scope.names.lookup x=some .local:=by first|exact .inl rfl|exact .inr rfl):PG X (.Name x pos) (tG X (dM i)):=vN hN hi hx hf
end
theorem Im {ns:List Int}(tb:nQ K H)(hS:pc K H a (ns.map V.int))(h:∃M',F [.ro (ns.map D.int)] []=.ok (.bl true) M'):oy K 1 F [.ref a] H (fun v _=>v=.bl true) E:=by
 obtain⟨M',e⟩:=h;refine⟨[],[],[.ro (ns.map D.int)],rfl,⟨_,[],rfl,⟨a,ns.map V.int,rfl,?_,?_⟩,rfl⟩,⟨rfl,nodup_nil,fun i a m e=>by simp at e,tb⟩,?_⟩
 ·rcases hS with h|h
  ·exact .inl ⟨h,by simp⟩
  ·exact .inr h
 ·clear e
  induction ns with
  | nil=>exact rfl
  | cons n ns ih=>
   refine⟨.int n,ns.map V.int,rfl,rfl,?_⟩;have gen:∀l:List Int,bO K [] H (l.map D.int) (l.map V.int):=by
    intro l
    induction l with
    | nil=>exact rfl
    | cons m l ih=>exact⟨_,_,rfl,rfl,ih⟩
   exact gen ns
 ·rw[e];exact fun v θ' H' g r=>r
def cG (t:GT)(b:GS):Nat→cC→aB→bj Fl
 | 0,_,_=>.bad
 | n+1,ρ,M=>(t ρ M).bind fun c M1=>if c then(b ρ M1).bind fun f M2=>match f with
   | .nx ρ2=>cG t b n ρ2 M2
   | .ct ρ2=>cG t b n ρ2 M2
   | .bk ρ2=>.ok (.nx ρ2) M2
   | .rt d=>.ok (.rt d) M2
  else .ok (.nx ρ) M1
def mH (n:Nat)(t:GT)(b:GS):GS:=cG t b n
theorem CT {X:Cx}{tc:GT}{gb:GS}(hp:PassesOwn (model X.prog X.w) X.A X.env X.xe)(hc:PT X c (tT X tc))(hb:PSs X body (tS X gb)):PS X (.While c body [] pos) (tS X (mH n tc gb)):=
 (Dy hp hc hb).of fun D σ H ⟨ρ,θ,M,hd,hw,h⟩=>by
  refine⟨fun m σ' H'=>∃ρ' θ' M',l9 X.K θ' H' σ' ρ'∧Wr X.K θ' H' M'∧cT X θ' H' D (cG tc gb m ρ' M'),⟨n,ρ,θ,M,hd,hw,h⟩,?_⟩;rintro m σ' H' ⟨ρ',θ',M',hd',hw',h'⟩;cases m with
  | zero=>exact h'.elim
  | succ m=>
   have h':cT X θ' H' D ((tc ρ' M').bind _):=h';refine uG hd' hw' (cT X θ' H' D) (fun c M' h=>h) (fun h=>h) h' fun c M1 θ1 H1 g1 h1=>?_
   cases c with
   | false=>
    rw[if_neg Bool.false_ne_true];exact h1 σ' θ1 H1 g1 (hd'.go g1)
   | true=>
    rw[if_pos rfl];refine⟨fun σ2 H2=>∃ρ2 θ2 M2,l9 X.K θ2 H2 σ2 ρ2∧Wr X.K θ2 H2 M2∧cT X θ2 H2 D (cG tc gb m ρ2 M2),fun σ2 H2 q=>⟨m,Nat.lt_succ_self _,q⟩,ρ',θ1,M1,hd'.go g1,g1.wr,?_⟩;have h2:=cT.go g1 h1;have h2:cT X θ1 H1 D ((gb ρ' M1).bind _):=h2;cases q:gb ρ' M1 with
    | bad=>rw[q] at h2;exact h2
    | err c M2=>rw[q] at h2;exact h2
    | ok f M2=>
     rw[q] at h2;cases f with
     | nx ρ2=>exact fun σ2 θ2 H2 g2 d2=>⟨ρ2,θ2,M2,d2,g2.wr,cT.go g2 h2⟩
     | ct ρ2=>exact fun σ2 θ2 H2 g2 d2=>⟨ρ2,θ2,M2,d2,g2.wr,cT.go g2 h2⟩
     | bk ρ2=>exact h2
     | rt d=>exact h2
def bS:Expr→Bool
 | .Starred _ _=>false
 | _=>true
def dg (es:List Expr):Bool:=es.all bS
theorem sE {env:Env}(h:bS e=true):starEach (e::es) env=(false,eval e env)::starEach es env:=by
 cases e <;> first|rfl|(simp[bS] at h)
theorem sS {pos:Pos}{env:Env}:∀{es:List Expr},dg es=true→(backTo pos (starEach es env)).any (·.1)=false
 | [],_=>rfl
 | e::es,h=>by
  unfold dg at h;rw[all_cons,Bool.and_eq_true] at h;have ih:=sS (pos:=pos) (env:=env) (es:=es) h.2;rw[sE h.1];unfold backTo at ih ⊢;rw[map_cons,any_cons,ih];rfl
section
variable {X:Cx}{e:Expr}{es:List Expr}{x:Str}{p pos:Pos}{k n:Nat}{f:Addr}{fd:FuncData}{ps:List Str}{F:FD}{ga:GA}{g:GE}{tg:Expr}
theorem Qc {gr:GA}(ha:PE X e (tE X g))(hr:PA X es (tA X gr))(h:bS e=true:=by rfl):PA X (e::es) (tA X (aa g gr)):=E9 ha hr (sE h)
theorem Mu (Fn:eX X.prog X.w X.K X.mg X.base (iZ X.prog X.w) k f fd ps (oy X.K n F))(hr:bR k X.A)(hg:Gl X x)(hm:X.mg x=some (.ref f))(hk:W.keepIn X.K (.ref f)=true)(hb:fL X.K fd ps [])
  (ha:PA X (e::es) (tA X ga)) (hdb:(x==("__debug__":Str))=false:=by decide) (h1:bS e=true:=by rfl) (h2:dg es=true:=by rfl) :
  PE X (.Call (.Name x p) (e::es) [] pos) (tE X (aj n F ga)):=FR Fn hr hg hm hk hb ha hdb (sE h1) (sS h2)
theorem LY {id:String}(hc:eO X (.builtin id) (rC X F))(hg:Gl X x)(hm:X.mg x=none)(hv:bootBuiltins x=some (.builtin id))(ha:PA X (e::es) (tA X ga))(hn:x≠"__name__":=by decide)(hdb:(x==("__debug__":Str))=false:=by decide)
  (h1:bS e=true:=by rfl) (h2:dg es=true:=by rfl):PE X (.Call (.Name x p) (e::es) [] pos) (tE X (aC F ga)):=Dv hc hg hm hv ha hn hdb (sE h1) (sS h2)
theorem MR (hc:eO X (.type T) (rC X F))(hg:Gl X x)(hm:X.mg x=none)(hv:bootBuiltins x=some (.type T))(ha:PA X (e::es) (tA X ga))(hn:x≠"__name__":=by decide)(hdb:(x==("__debug__":Str))=false:=by decide)
  (h1:bS e=true:=by rfl) (h2:dg es=true:=by rfl):PE X (.Call (.Name x p) (e::es) [] pos) (tE X (aC F ga)):=BD hc hg hm hv ha hn hdb (sE h1) (sS h2)
theorem ML {p2:Pos}(hT:oQ T)(hv:bootBuiltins x=some (.type T))(hg:Gl X x)(hm:X.mg x=none)(hgi:Gl X "isinstance")(hmi:X.mg "isinstance"=none)(he:PE X e (tE X g))
  (h1:bS e=true:=by rfl) (hn:x≠"__name__":=by decide) (hd:(x==("__debug__":Str))=false:=by decide):PE X (.Call (.Name "isinstance" p) [e,.Name x p2] [] pos) (tE X (ej T g)):=
 Lc hT hv hg hm hgi hmi he hn hd boot_isinstance (sE h1) (sE rfl) (sS rfl)
theorem Ny {a:Expr}(hg:Gl X "range")(hm:X.mg "range"=none)(ha:PA X [a] (tA X ga))(h1:bS a=true:=by rfl):PI X tg (.Call (.Name "range" p) [a] [] pos) (tI X (gK ga)):=BX hg hm ha (sE h1)
end
end DL
namespace DL
open PySem L2
theorem rg {j:Int}(h:-(2 ^ 62)≤j∧j<2 ^ 62)(M:aB):Eh [.int j] M=.ok ⟨bq 0 j.toNat,none⟩ M:=by
 unfold Eh;exact if_pos h
variable{n:Nat}
theorem DN (h:n≤1000000)(M:aB):Eh [.int (n:Int)] M=.ok ⟨bq 0 n,none⟩ M:=by
 have:=rg (j:=(n:Int)) (by omega) M;rw[this];rfl
variable{ds:List D}
theorem vn {M:aB}:tK.ok ⟨ds,none⟩ M=true:=rfl
theorem kP {ds0:List D}{ge:GE}{ρ:cC}{P:aB→Prop}{Q:D→Prop}:∀(ds:List D),(∀d∈ds,∀M,P M→∃e M',P M'∧Q e∧ge (some d::ρ) M=.ok e M')→∀M,P M→
  ∃es M',P M'∧es.length=ds.length∧(∀e∈es,Q e)∧fT ⟨ds0,none⟩ cL ge ds ρ M=.ok es M'
 | [],h,M,hM=>⟨[],M,hM,rfl,(fun e he=>by cases he),rfl⟩
 | d::ds,h,M,hM=>by
  obtain⟨e,M1,h1,q1,e1⟩:=h d List.mem_cons_self M hM;obtain⟨es,M2,h2,l2,q2,e2⟩:=kP (ds0:=ds0) ds (fun d' hd=>h d' (List.mem_cons_of_mem _ hd)) M1 h1;refine⟨e::es,M2,h2,by simp[l2],fun x hx=>?_,?_⟩
  ·rcases List.mem_cons.mp hx with z|z
   ·subst z;exact q1
   ·exact q2 x z
  ·simp[fT,vn,cL,e1,e2]
theorem jP {ds0:List D}{ge:GE}{ρ:cC}{f:D→D}{M:aB}:∀(ds:List D),(∀d∈ds,ge (some d::ρ) M=.ok (f d) M)→fT ⟨ds0,none⟩ cL ge ds ρ M=.ok (ds.map f) M
 | [],h=>rfl
 | d::ds,h=>by
  have e1:=h d List.mem_cons_self;have e2:=jP (ds0:=ds0) ds fun d' hd=>h d' (List.mem_cons_of_mem _ hd)
  simp[fT,vn,cL,e1,e2]
theorem zN {d:D}{lo:Int}(h:d∈bq lo n):∃k:Int,d=.int k∧lo≤k∧k<lo+n:=by
 unfold bq at h;obtain⟨k,hk,e⟩:=List.mem_map.mp h;have:=List.mem_range.mp hk;exact⟨lo+k,e.symm,by omega,by omega⟩
theorem cy (lo:Int)(n:Nat):(bq lo n).length=n:=by simp[bq]
theorem E7 {Q:Int→Prop}(h:∀d∈ds,∃k,d=.int k∧Q k):∃ks:List Int,ds=ks.map D.int∧∀k∈ks,Q k:=by
 induction ds with
 | nil=>exact⟨[],rfl,fun k hk=>by cases hk⟩
 | cons d ds ih=>
  obtain⟨k,e,q⟩:=h d List.mem_cons_self;obtain⟨ks,e2,q2⟩:=ih fun d' hd=>h d' (List.mem_cons_of_mem _ hd)
  refine⟨k::ks,by rw[e,e2];rfl,fun x hx=>?_⟩;rcases List.mem_cons.mp hx with z|z
  ·subst z;exact q
  ·exact q2 x z
theorem Gj {Q:List Int→Prop}(h:∀d∈ds,∃ks:List Int,d=.tup (ks.map D.int)∧Q ks):∃rs:List (List Int),ds=rs.map (fun r=>D.tup (r.map D.int))∧∀r∈rs,Q r:=by
 induction ds with
 | nil=>exact⟨[],rfl,fun k hk=>by cases hk⟩
 | cons d ds ih=>
  obtain⟨k,e,q⟩:=h d List.mem_cons_self;obtain⟨ks,e2,q2⟩:=ih fun d' hd=>h d' (List.mem_cons_of_mem _ hd)
  refine⟨k::ks,by rw[e,e2];rfl,fun x hx=>?_⟩;rcases List.mem_cons.mp hx with z|z
  ·subst z;exact q
  ·exact q2 x z
theorem ba (h:n≤1000000):n≤sizeLine:=Nat.le_trans h (by rw[sizeLine_eq];decide)
end DL
namespace DL
@[simp] theorem PL (i j:Int):gk (.int i) (.int j)=(i==j):=by simp[gk]
@[simp] theorem OY (i j:Bool):gk (.bl i) (.bl j)=(i==j):=by simp[gk]
@[simp] theorem Oy (i j:PySem.Str):gk (.str i) (.str j)=(i==j):=by simp[gk]
@[simp] theorem O1:gk .non .non=true:=by simp[gk]
@[simp] theorem Oz (i:Int):gk (.int i) .non=false:=by simp[gk]
@[simp] theorem O2 (i:Int):gk .non (.int i)=false:=by simp[gk]
@[simp] theorem Qd (xs ys:List D):gk (.tup xs) (.tup ys)=im xs ys:=by simp[gk]
@[simp] theorem OL (xs ys:List D):gk (.lst xs) (.lst ys)=im xs ys:=by simp[gk]
@[simp] theorem Mo:im [] []=true:=by simp[im]
@[simp] theorem Ow (y:D) (ys:List D):im [] (y::ys)=false:=by simp[im]
@[simp] theorem Oq (y:D) (ys:List D):im (y::ys) []=false:=by simp[im]
@[simp] theorem Og (x y:D) (xs ys:List D):im (x::xs) (y::ys)=(gk x y&&im xs ys):=by simp[im]
@[simp] theorem Lk (n:Nat) (i:Int):aG n (.int i)=true:=by cases n <;> simp[aG]
@[simp] theorem NS (n:Nat) (i:Bool):aG n (.bl i)=true:=by cases n <;> simp[aG]
@[simp] theorem Lf (n:Nat):aG n .non=true:=by cases n <;> simp[aG]
@[simp] theorem Lg (n:Nat) (x:PySem.Str):aG n (.str x)=PySem.PyData.strOk x:=by cases n <;> simp[aG]
@[simp] theorem Bh (n:Nat) (xs:List D):aG (n+1) (.tup xs)=cr n xs:=by simp[aG]
@[simp] theorem Bp (n:Nat) (xs:List D):aG (n+1) (.lst xs)=cr n xs:=by simp[aG]
@[simp] theorem HE (xs:List D):aG 40 (.tup xs)=cr 39 xs:=Bh 39 xs
@[simp] theorem HU (xs:List D):aG 40 (.lst xs)=cr 39 xs:=Bp 39 xs
@[simp] theorem HY (n:Nat):cr n []=true:=by cases n <;> simp[cr]
@[simp] theorem HG (n:Nat) (x:D) (xs:List D):cr n (x::xs)=(aG n x&&cr n xs):=by cases n <;> simp[cr]
@[simp] theorem Ov (i:Int) (M:aB):ox (.int i) M=.int i:=rfl
@[simp] theorem PK (i:Bool) (M:aB):ox (.bl i) M=.bl i:=rfl
@[simp] theorem Ou (M:aB):ox .non M=.non:=rfl
@[simp] theorem Oc (x:PySem.Str) (M:aB):ox (.str x) M=.str x:=rfl
@[simp] theorem N9 (xs:List D) (M:aB):ox (.tup xs) M=.tup xs:=rfl
@[simp] theorem Oe (xs:List D) (M:aB):ox (.lst xs) M=.lst xs:=rfl
end DL
namespace DL
open PySem PySem.Spec PyProof.Rows L2 PySem.W PySem.Builtin PySem.Builtin.ObjectAttr PySem.Builtin.Getset_descriptor List
structure P7 (K:Frag)(C:Addr):Prop where
 cl:(clsIn K C).isSome=true
 ca:findIn K (.ref C) "__class__"=some (some (.builtin "object.__class__"))
 sp:specialIn K (.builtin "object.__class__") "__get__"=some (some (.builtin "getset_descriptor.__get__"))
 tk:takesIn K (.builtin "object.__class__")=some true
 ob:mroIn K C (.type "object")=some true
 ga:findIn K (.ref C) "__getattribute__"=some (some (.builtin "BaseException.__getattribute__"))
 gh:findIn K (.ref C) "__getattr__"=some none
 be:mroIn K C (.type "BaseException")=some true
end DL
namespace DL
open PySem PySem.Spec PyProof.Rows L2 List
abbrev Nm:List Value:=[.type "ValueError",.type "Exception",.type "BaseException",.type "object"]
structure Ec (K:W.Frag)(mg:Str→Option Value)(c:Str)(C:Addr):Prop where
 at_:jH K c C
 m:mg c=some (.ref C)
 k:P7 K C
 ex:W.excIn K C Nm "ValueError.__new__"=true
 ty:W.typeIn K (.ref C)=some (.type "type")
 sf:W.mroIn K C (.ref C)=some true
theorem IJ {K:W.Frag}{h:Heap}{C:Addr}{bmB:List Value}{newId:String}(X:K.In h)(q:W.excIn K C bmB newId=true) :
  ∃bm N nm qn bs hdct sn sub ab col dd k0 k1 k2 k3 k5 mN,h.get? C=some (excClassObj nm qn C N bs bm hdct sn sub ab col dd k0 k1 k2 k3 k5 newId)∧h.Ns N mN∧mN "__init__"=none∧OwnTail h bmB bm:=by
 unfold W.excIn at q;split at q
 ·rename_i d1 cd s1 at1;split at q
  ·rename_i C2 rest j0 j1 j2 j3 nn j5 e1 e2;simp only[Bool.and_eq_true,beq_iff_eq,Bool.not_eq_true'] at q;obtain⟨⟨⟨⟨⟨r1,r2⟩,r3⟩,r4⟩,r5⟩,r6⟩:=q;subst r1;subst r2;cases cd with
   | mk c1 c2 c3 c4 c5 c6 c7 c8 c9 c10 c11=>
    dsimp only at e1 r3 r5 r6;subst e1;subst r3;have e3:s1=#[j0,j1,j2,j3,some (.builtin nn),j5]:=by
     cases s1 with
     | mk l=>
      have e4:l=_:=e2;rw[e4]
    subst e3;refine⟨rest,c4,c1,c5,c2,c6,c7,c8,c9,c10,d1,j0,j1,j2,j3,j5,h.nsMap c4,X _ _ at1,?_,W.nsMap_none_of_in X r5 r6,W.tail_of_in X r4⟩;exact Heap.Ns.of_isNs (W.isNs_of_in X r5)
  ·cases q
 ·cases q
def fQ (c:Str)(g:GE):GS:=fun ρ M=>(g ρ M).bind fun _ M1=>.err c M1
theorem Ew {X:Cx}{c:Str}{C:Addr}{e:Expr}{g:GE}{np cpos pos:Pos}(k:Ec X.K X.mg c C)(hc:X.calm=true)(hg:Gl X c)(he:PE X e (tE X g))(h1:bS e=true:=by rfl)(hd:(c==("__debug__":Str))=false:=by decide) :
  PS X (.Raise (some (.Call (.Name c np) [e] [] cpos)) none pos) (tS X (fQ c g)):=by
 intro ah s σ H D I h;obtain⟨ρ,θ,M,hdn,hw,h⟩:=h;obtain⟨bm,N,nm,qn,bs,hdct,sn,sub,ab,col,dd,k0,k1,k2,k3,k5,mN,hC,hN,hni,T⟩:=IJ I.ok.mod.kin k.ex;have hs:starEach [e] X.env=(false,eval e X.env)::starEach [] X.env:=sE h1;have hplain:(backTo cpos (starEach [e] X.env)).any (·.1)=false:=sS (by unfold dg;simp[h1]);refine wpAny_Raise_call_subT (C:=C) (nm:=nm) (q:=qn) (N:=N) (bs:=bs) (bm:=bm) (hdct:=hdct) (sn:=sn) (sub:=sub) (ab:=ab) (col:=col) (dd:=dd) (k0:=k0) (k1:=k1) (k2:=k2) (k3:=k3) (k5:=k5)
  PySem.F.excBase_ValueError (mN:=mN) (T.hasType PySem.F.excBase_ValueError.hasBase) (I.ok.hd hc) hplain hni (rh I hg k.m ⟨rfl,?_⟩ hd)
 have hv:=m7 he tj hs cpos ah s σ H (fun vs H1=>vs.length=1∧∃θ1 M1,Go X.K θ H θ1 H1 M1∧fW X θ1 H1 c M1) I (by
  refine bZ hdn hw (cT X θ H D) (fun c M' h=>h) (fun h=>h) h fun d M1 v θ1 H1 g1 r1 h2=>?_
  exact⟨rfl,θ1,M1,g1,fW.go g1 h2⟩)
 rw[hs] at hv ⊢;refine Calls.evalArgs_plain (wpAny_mono hv (fun us s2 hq=>⟨rfl,?_⟩) fun _ _ y=>y);obtain⟨vs,H1,I1,rv,hl,θ1,M1,g1,ok⟩:=hq;refine⟨by show us.length≤sizeLine;rw[←rv.length,hl];exact Nat.le_trans (by decide:1≤1000000) (by rw[sizeLine_eq];decide),I1.bk _ _ hC,hN.keeps I1.bk,T.keeps I1.bk,fun h' e' hm=>?_⟩;exact ok C θ1 H1 e' _ k.at_ (.refl g1.wr) ⟨ah,σ,.inl ⟨s2.heap,us,I1,hm⟩⟩
def CA (i:Nat):Fl→Fl
 | .nx ρ=>.nx (ρ.set i none)
 | .bk ρ=>.bk (ρ.set i none)
 | .ct ρ=>.ct (ρ.set i none)
 | .rt d=>.rt d
variable{es:List Expr}{gs:List GE}
section
variable {X:Cx}
def rX:FD:=fun ds M=>match ds with
 | [.int i,.int j]=>if 0<j∧j.natAbs.log2<9000 then .ok (.tup [.int (i / j),.int (i % j)]) M else .bad
 | _=>.bad
theorem BE:eO X (.builtin "divmod") (rC X rX):=by
 intro ah s σ H xs us Q I r h;obtain⟨θ,M,ds,hw,rd,h⟩:=h;unfold rX at h;split at h
 ·rename_i i j;obtain⟨v,v',e,r1,r2⟩:=zp rd;have e1:v=.int i:=r1;have e2:v'=.int j:=r2;subst e;subst e1;subst e2;obtain⟨u,u',rfl,⟨t,rfl⟩,⟨t',rfl⟩⟩:=AI r;split at h
  ·rename_i hc;have h1:(0:Int)<j:=hc.1;refine divmod_int (by omega) ?_ (.inl (PyProof.noPylong_of_log2 hc.2));rw[Int.fdiv_eq_ediv_of_nonneg i (by omega),Int.fmod_eq_emod_of_nonneg i (by omega)];have hp:H s.heap.objs.size=none:=I.hok.fresh (Nat.le_refl _);refine⟨.ref s.heap.objs.size,_,I.laid (t':=s.toks+1+1) (fun b o e=>Heap.get?_push_of_some _ e) (Nat.le_refl _) (show dq X.prog X.w _ _ _ (.tup [.int (i / j),.int (i % j)]) from⟨Nat.le_trans (by decide:2≤1000000) (by rw[sizeLine_eq];decide),[.int (i / j) s.toks,.int (i % j) (s.toks+1)],.cons ⟨_,rfl⟩ (.cons ⟨_,rfl⟩ .nil),IsTup.new _ _⟩),rfl,?_⟩;exact h _ θ _ (fm hw hp) (je hw hp (show bO X.K θ H [.int (i / j),.int (i % j)] [.int (i / j),.int (i % j)] from⟨_,_,rfl,rfl,_,_,rfl,rfl,rfl⟩))
  ·exact h.elim
 ·exact h.elim
def yF:D→Option Str
 | .int a=>if a.natAbs.log2<1920 then some (toString a) else none
 | .str x=>if x.length≤sizeLine then some x else none
 | _=>none
def zn (g:GE):GE:=fun ρ M=>(g ρ M).bind fun d M1=>match yF d with
 | some x=>.ok (.str x) M1
 | none=>.bad
theorem Kq {e:Expr}{g:GE}{pos:Pos}{i:Int}(he:PE X e (tE X g))(hi:i=-1:=by rfl):PE X (.FormattedValue e i none pos) (tE X (zn g)):=by
 subst hi;intro ah s σ H Q I h;obtain⟨ρ,θ,M,hd,hw,h⟩:=h;refine FormattedValue_plain (wpAny_mono (he ah s σ H (fun v H1=>∃d M1 θ1,Go X.K θ H θ1 H1 M1∧fA X.K θ1 H1 d v∧bh X θ1 H1 Q (match yF d with|some x=>.ok (.str x) M1|none=>.bad)) I ?_) (fun u s1 hq=>?_) fun _ _ y=>y)
 ·exact bZ hd hw (bh X θ H Q) (fun c M' h=>h) (fun h=>h) h fun d M1 v θ1 H1 g1 r1 h1=>⟨d,M1,θ1,g1,r1,bh.go g1 h1⟩
 ·obtain⟨v,H1,I1,rv,d,M1,θ1,g1,r1,h1⟩:=hq;cases d with
  | int a=>
   have e:v=.int a:=r1;subst e;obtain⟨t,rfl⟩:=rv;unfold yF at h1
   by_cases hc:a.natAbs.log2<1920
   ·simp only[if_pos hc] at h1;exact formatField_int_small hc ⟨.str (toString a),H1,I1.tok _,⟨_,rfl⟩,h1 _ θ1 H1 (.refl g1.wr) rfl⟩
   ·simp only[if_neg hc] at h1;exact h1.elim
  | str x=>
   have e:v=.str x:=r1;subst e;obtain⟨t,rfl⟩:=rv;unfold yF at h1
   by_cases hc:x.length≤sizeLine
   ·simp only[if_pos hc] at h1;exact formatField_str (fun t' tk=>⟨.str x,H1,I1.tok _,⟨_,rfl⟩,h1 _ θ1 H1 (.refl g1.wr) rfl⟩) hc
   ·simp only[if_neg hc] at h1;exact h1.elim
  | _=>exact h1.elim
inductive Ll (X:Cx):List Expr→List GE→Prop where
 | nil:Ll X [] []
 | cons {e:Expr} {es:List Expr} {g:GE} {gs:List GE}:PE X e (tE X g)→Ll X es gs→Ll X (e::es) (g::gs)
def nA:List GE→Str→GE
 | [],acc=>fun _ M=>.ok (.str acc) M
 | g::gs,acc=>fun ρ M=>(g ρ M).bind fun d M1=>match d with
  | .str y=>if(acc++y).length≤sizeLine then nA gs (acc++y) ρ M1 else .bad
  | _=>.bad
theorem Ha (h:Ll X es gs):∀(acc:Str) (ah:List (Addr×Obj)) (s:Shared) (σ:L2.St) (H:Hp) (Q:VK),acc.length≤sizeLine→L2.Inv X ah σ H s→tE X (nA gs acc) σ H Q→wpAny (model X.prog X.w) X.A (joinParts acc (evalEach es X.env)) (EP X ah σ Q) X.xe s:=by
 induction h with
 | nil=>
  intro acc ah s σ H Q hl I h;obtain⟨ρ,θ,M,hd,hw,h⟩:=h;exact joinParts_nil ⟨.str acc,H,I.tok _,⟨_,rfl⟩,h _ θ H (.refl hw) rfl⟩ hl
 | @cons e es g gs he hes ih=>
  intro acc ah s σ H Q hl I h;obtain⟨ρ,θ,M,hd,hw,h⟩:=h;show wpAny _ _ (joinParts acc (eval e X.env::evalEach es X.env)) _ _ _;refine joinParts_cons (wpAny_mono (he ah s σ H (fun v H1=>∃d M1 θ1,Go X.K θ H θ1 H1 M1∧fA X.K θ1 H1 d v∧bh X θ1 H1 Q (match d with | .str y=>if(acc++y).length≤sizeLine then nA gs (acc++y) ρ M1 else .bad|_=>.bad)) I ?_) (fun u s1 hq=>?_) fun _ _ y=>y)
  ·exact bZ hd hw (bh X θ H Q) (fun c M' h=>h) (fun h=>h) h fun d M1 v θ1 H1 g1 r1 h1=>⟨d,M1,θ1,g1,r1,bh.go g1 h1⟩
  ·obtain⟨v,H1,I1,rv,d,M1,θ1,g1,r1,h1⟩:=hq;cases d with
   | str y=>
    have e:v=.str y:=r1;subst e;obtain⟨t,rfl⟩:=rv
    by_cases hc:(acc++y).length≤sizeLine
    ·simp only[if_pos hc] at h1;exact⟨hc,ih (acc++y) ah s1 σ H1 Q hc I1 ⟨ρ,θ1,M1,hd.go g1,g1.wr,h1⟩⟩
    ·simp only[if_neg hc] at h1;exact h1.elim
   | _=>exact h1.elim
theorem Fc {e1 e2:Expr}{pos:Pos}(h:Ll X (e1::e2::es) gs):PE X (.JoinedStr (e1::e2::es) pos) (tE X (nA gs Str.empty)):=by
 intro ah s σ H Q I q;exact JoinedStr_many (Ha h Str.empty ah s σ H Q (Nat.zero_le _) I q)
section
variable {o e:Expr}{go ge:GE}{apos cpos:Pos}
theorem J3 {env:Env}(h:bS e=true):((backTo cpos (starEach [e] env)).all (fun x=>!x.1)&&(backToKw cpos (keywordEach [] env)).all (fun x=>x.1.isSome)
   && decide ([e].length+([]:List Keyword).length+(if([]:List Keyword).isEmpty then 0 else 1)<30))=true:=by
 rw[sE h];rfl
end
end
end DL
namespace DL
open PySem L2
theorem Nw {P:Program}{w:World}{H:Hp}{s:Shared}{e:Value}{s':Shared}(z:iZ P w [] H s (fun _ _ _=>False) e s'):False:=by
 obtain⟨_,_,_,_,_,_,_,_,_,_,_,_,_,_,h⟩:=z;exact h
end DL
namespace DL
open PySem PySem.Spec PyProof.Rows L2 List
variable{fs:List (Str×D)}
section
variable {K:W.Frag}{θ:List Addr}{H:Hp}{M:aB}
def fU (f:Str)(d:D):List (Str×D)→List (Str×D)
 | []=>[(f,d)]
 | (g,x)::r=>if g=f then(g,d)::r else(g,x)::fU f d r
theorem zm {f:Str}{d:D}:∀{fs:List (Str×D)} {vs:List (Str×V)},oW K θ H fs vs→fs.lookup f=some d→∃v,vs.lookup f=some v∧fA K θ H d v
 | [],vs,h,e=>by cases e
 | (g,x)::fs,vs,h,e=>by
  obtain⟨v,r,rfl,h1,h2⟩:=h;rw[lookup_cons] at e ⊢;cases q:f==g with
  | true=>rw[q] at e;cases e;exact⟨v,rfl,h1⟩
  | false=>rw[q] at e;exact zm h2 e
theorem Ap {f:Str}:∀{fs:List (Str×D)} {vs:List (Str×V)},oW K θ H fs vs→fs.lookup f=none→vs.lookup f=none
 | [],vs,h,e=>by cases (show vs=[] from h);rfl
 | (g,x)::fs,vs,h,e=>by
  obtain⟨v,r,rfl,h1,h2⟩:=h;rw[lookup_cons] at e ⊢;cases q:f==g with
  | true=>rw[q] at e;cases e
  | false=>rw[q] at e;exact Ap h2 e
theorem yQ:∀{fs:List (Str×D)} {vs:List (Str×V)},oW K θ H fs vs→fs.length=vs.length
 | [],vs,h=>by cases (show vs=[] from h);rfl
 | (g,x)::fs,vs,h=>by
  obtain⟨v,r,rfl,h1,h2⟩:=h;rw[length_cons,length_cons,yQ h2]
theorem Cc {f:Str}{d:D}{v:V}(hd:fA K θ H d v):∀{fs:List (Str×D)} {vs:List (Str×V)},oW K θ H fs vs→oW K θ H (fU f d fs) (kS f v vs)
 | [],vs,h=>by cases (show vs=[] from h);exact⟨v,[],rfl,hd,rfl⟩
 | (g,x)::fs,vs,h=>by
  obtain⟨u,r,rfl,h1,h2⟩:=h;show oW K θ H (if g=f then(g,d)::fs else(g,x)::fU f d fs) (if g=f then(g,v)::r else(g,u)::kS f v r)
  by_cases q:g=f
  ·rw[if_pos q,if_pos q];exact⟨v,r,rfl,hd,h2⟩
  ·rw[if_neg q,if_neg q];exact⟨u,_,rfl,h1,Cc hd h2⟩
theorem AF {i:Nat}{a C dx:Addr}{c f:Str}{vs:List (Str×V)}{d:D}{v:V}(w:Wr K θ H M)(hi:θ[i]?=some a)(k:jH K c C)(r:oW K θ H fs vs)(hd:fA K θ H d v) :
  Go K θ H θ (cR H a (.ins C dx (kS f v vs))) (M.set i (.obj c (fU f d fs))):=
 rm w hi ⟨C,dx,_,k,bX,pq (oY w hi) (Cc hd r)⟩
theorem F1 {x dx C:Addr}{c:Str}(w:Wr K θ H M)(hx:H x=none)(hdx:H dx=none)(ne:dx≠x)(k:jH K c C):Go K θ H (θ++[x]) (cR (cR H dx (.own x)) x (.ins C dx [])) (M++[.obj c []]):=by
 have np:=w.fresh hx;have hx':∀b u,H b=some u→b≠x∧b≠dx:=fun b u h=>⟨cj h hx,cj h hdx⟩
 have g:Grow θ H (θ++[x]) (cR (cR H dx (.own x)) x (.ins C dx [])):=⟨⟨[x],rfl,fun a ha=>by rw[mem_singleton.mp ha];exact hx⟩,fun b u h _ _=>by rw[aQ (hx' b u h).1,aQ (hx' b u h).2];exact h,fun b ps h=>⟨ps,by rw[aQ (hx' b _ h).1,aQ (hx' b _ h).2];exact h⟩⟩;refine⟨g,by rw[length_append,length_append,w.len];rfl,?_,fun i a m h1 h2=>?_,(w.tb.new hdx).new (by rw[aQ (Ne.symm ne)];exact hx)⟩
 ·rw[nodup_append];exact⟨w.nd,by simp,fun y hy z hz e=>np (by rw[mem_singleton.mp hz] at e;rw[←e];exact hy)⟩
 ·by_cases hi:i<θ.length
  ·rw[getElem?_append_left hi] at h1;rw[getElem?_append_left (by rw[←w.len];exact hi)] at h2;have hm:=mem_of_getElem? h1;have ha:a≠x:=fun e=>np (by rw[←e];exact hm)
   have ha2:a≠dx:=fun e=>w.fresh hdx (by rw[←e];exact hm)
   exact(w.at_ i a m h1 h2).grow g (by rw[aQ ha,aQ ha2])
  ·have hi':i=θ.length:=by
    have:=(List.getElem?_eq_some_iff.mp h1).1;rw[length_append,length_singleton] at this;omega
   subst hi';rw[getElem?_append_right (Nat.le_refl _)] at h1;rw[getElem?_append_right (by rw[w.len];exact Nat.le_refl _)] at h2;simp only[Nat.sub_self,w.len,getElem?_cons_zero,Option.some.injEq] at h1 h2;subst h1;subst h2;exact⟨C,dx,[],k,bX,rfl⟩
end
structure Kc (K:W.Frag)(mg:Str→Option Value)(c:Str)(C:Addr):Prop where
 at_:jH K c C
 m:mg c=some (.ref C)
 cl:DE K C
def jU (c:Str)(o:D)(M:aB):Option (Nat×List (Str×D)):=match o with
 | .mr k=>match M[k]? with
  | some (.obj c' fs)=>if c'=c then some (k,fs) else none
  | _=>none
 | _=>none
variable{H:Hp}
theorem rF {K:W.Frag}{θ:List Addr}{M:aB}{c:Str}{C:Addr}{o:D}{v:V}{k:Nat}(hw:Wr K θ H M)(kC:jH K c C)(r:fA K θ H o v)(e:jU c o M=some (k,fs)) :
  ∃a dx vs,v=.ref a∧θ[k]?=some a∧H a=some (.ins C dx vs)∧oW K θ H fs vs∧M[k]?=some (.obj c fs):=by
 cases o with
 | mr j=>
  obtain⟨a,ea,ta⟩:=r;have e:(match M[j]? with|some (.obj c' fs)=>if c'=c then some (j,fs) else none|_=>none)=some (k,fs):=e;cases q:M[j]? with
  | none=>rw[q] at e;cases e
  | some m=>
   cases m with
   | lst ys=>rw[q] at e;cases e
   | dK _=>rw[q] at e;cases e
   | dT _=>rw[q] at e;cases e
   | obj c' gs=>
    rw[q] at e;have e:(if c'=c then some (j,gs) else none)=some (k,fs):=e
    by_cases hc:c'=c
    ·rw[if_pos hc] at e;cases e;subst hc;obtain⟨C',dx,vs,kC',hv,rf⟩:=hw.at_ _ a _ ta q;have:=kC'.inj kC;subst this;exact⟨a,dx,vs,ea,ta,hv,rf,q⟩
    ·rw[if_neg hc] at e;cases e
 | _=>cases e
variable{σ:L2.St}
section
variable {X:Cx}{c f:Str}{C:Addr}{o e value:Expr}{g go gv:GE}{pos pos' apos p:Pos}
def dX (c f:Str)(g:GE):GE:=fun ρ M=>(g ρ M).bind fun o M1=>match jU c o M1 with
 | some (_,fs)=>match fs.lookup f with
  | some d=>.ok d M1
  | none=>.bad
 | none=>.bad
theorem JX (k:Kc X.K X.mg c C)(n:gV X.K C f)(he:PE X e (tE X g))(hb:attributeBase e f X.env (eval e X.env)=eval e X.env:=by rfl):PE X (.Attribute e f pos) (tE X (dX c f g)):=
 (Ii he hb).of fun σ H Q ⟨ρ,θ,M,hd,hw,h⟩=>by
  refine bZ hd hw (bh X θ H Q) (fun c M' h=>h) (fun h=>h) h fun d M1 v θ1 H1 g1 r1 h1=>?_
  have h2:=bh.go g1 h1;cases q:jU c d M1 with
  | none=>simp only[q] at h2;exact h2.elim
  | some p=>
   obtain⟨j,fs⟩:=p;simp only[q] at h2;obtain⟨a,dx,vs,ea,ta,hv,rf,_⟩:=rF g1.wr k.at_ r1 q;cases ql:fs.lookup f with
   | none=>simp only[ql] at h2;exact h2.elim
   | some y=>
    simp only[ql] at h2;obtain⟨u,eu,ru⟩:=zm rf ql;exact⟨a,C,dx,vs,u,ea,hv,k.cl,n,eu,h2 u θ1 H1 (.refl g1.wr) ru⟩
def ww (c f:Str)(o y:D)(M:aB):bj Unit:=match jU c o M with
 | some (k,fs)=>if fs.length<1000 then .ok () (M.set k (.obj c (fU f y fs))) else .bad
 | none=>.bad
def gQ (c f:Str)(go gv:GE):GS:=fun ρ M=>(gv ρ M).bind fun y M1=>(go ρ M1).bind fun o M2=>(ww c f o y M2).bind fun _ M3=>.ok (.nx ρ) M3
theorem IU (k:Kc X.K X.mg c C)(n:gV X.K C f)(ho:PE X o (tE X go))(hv:PE X value (tE X gv))(hs:swapsWith value (some (.Attribute o f pos')) pos.line X.env=pure false:=by rfl):PS X (.Assign [.Attribute o f pos'] value pos) (tS X (gQ c f go gv)):=
 (JQ ho hv hs).of fun D σ H ⟨ρ,θ,M,hd,hw,h⟩=>by
  refine bZ hd hw (cT X θ H D) (fun c M' h=>h) (fun h=>h) h fun y M1 vy θ1 H1 g1 r1 h1=>?_
  refine bZ (hd.go g1) g1.wr (cT X θ1 H1 D) (fun c M' h=>h) (fun h=>h) (h1.go g1) fun d M2 v θ2 H2 g2 r2 h2=>?_
  have h3:=h2.go g2;unfold ww at h3;cases q:jU c d M2 with
  | none=>simp only[q] at h3;exact h3.elim
  | some p=>
   obtain⟨j,fs⟩:=p;simp only[q] at h3
   by_cases hl:fs.length<1000
   ·simp only[if_pos hl] at h3;obtain⟨a,dx,vs,ea,ta,hv,rf,_⟩:=rF g2.wr k.at_ r2 q;have gs:=AF (f:=f) (dx:=dx) g2.wr ta k.at_ rf (r1.go g2);exact⟨a,C,dx,vs,ea,hv,k.cl,n,by rw[←yQ rf];exact hl,h3 σ θ2 _ gs (((hd.go g1).go g2).go gs)⟩
   ·simp only[if_neg hl] at h3;exact h3.elim
def gT (c m:Str)(n:Nat)(F:FD)(go:GE)(ga:GA):GE:=fun ρ M=>(go ρ M).bind fun o M1=>match jU c o M1 with
 | some (_,fs)=>if fs.lookup m=none then(ga ρ M1).bind fun ds M2=>if ds.length+1=n then F (o::ds) M2 else .bad else .bad
 | none=>.bad
theorem Dj {m:Str}{n:Nat}{F:FD}{ga:GA}{Q:VK}(k:Kc X.K X.mg c C)(h:tE X (gT c m n F go ga) σ H Q):ED C m (oy X.K n F) [] (Ho X) (tE X go) (tA X ga) σ H Q:=by
 obtain⟨ρ,θ,M,hd,hw,h⟩:=h;refine bZ hd hw (bh X θ H Q) (fun c M' h=>h) (fun h=>h) h fun d M1 v θ1 H1 g1 r1 h1=>?_
 have h2:=bh.go g1 h1;cases q:jU c d M1 with
 | none=>simp only[q] at h2;exact h2.elim
 | some p=>
  obtain⟨j,fs⟩:=p;simp only[q] at h2;obtain⟨a,dx,vs,ea,ta,hv,rf,_⟩:=rF g1.wr k.at_ r1 q
  by_cases hl:fs.lookup m=none
  ·simp only[if_pos hl] at h2;refine⟨a,dx,vs,ea,hv,Ap rf hl,?_⟩;refine mQ (hd.go g1) g1.wr (bh X θ1 H1 Q) (fun c M' h=>h) (fun h=>h) h2 fun ds M2 us θ2 H2 g2 r2 h3=>?_
   by_cases hn:ds.length+1=n
   ·rw[if_pos hn] at h3;have h4:=bh.go g2 h3;refine⟨θ2,M2,d::ds,hn,⟨v,us++[],rfl,r1.go g2,by rw[append_nil];exact r2⟩,g2.wr,?_⟩;cases qf:F (d::ds) M2 with
    | ok d2 M3=>rw[qf] at h4;exact h4
    | err c2 M3=>rw[qf] at h4;exact wo h4
    | bad=>rw[qf] at h4;exact h4
   ·rw[if_neg hn] at h3;exact h3.elim
  ·simp only[if_neg hl] at h2;exact h2.elim
section
variable {m:Str}{k n:Nat}{fa:Addr}{fd:FuncData}{ps:List Str}{F:FD}{ga:GA}{es:List Expr}{pl:Sem Bool}
theorem Jp (kc:Kc X.K X.mg c C)(hm:wM X.K C m fa)(Fn:eX X.prog X.w X.K X.mg X.base (iZ X.prog X.w) k fa fd ps (oy X.K n F))(hr:bR k X.A)(hb:fL X.K fd ps [])(ho:PE X o (tE X go))(ha:PA X (e::es) (tA X ga))
  (h1:bS e=true:=by rfl) (h2:dg es=true:=by rfl)
  (ht:eval (.Call (.Attribute o m apos) (e::es) [] pos) X.env=(do
   let ov ←eval o X.env
   standAt apos.atName
   let (f,first) ←holding [ov] (getMethod ov m pl)
   callWith pos f first (backTo pos (starEach (e::es) X.env)) (backToKw pos (keywordEach [] X.env))):=by rfl) :
  PE X (.Call (.Attribute o m apos) (e::es) [] pos) (tE X (gT c m n F go ga)):=
 (F0 (pl:=pl) ho kc.cl hm Fn hr hb .nil ky ha (sE h1) (sS h2) ht).of fun σ H Q h=>Dj kc h
theorem Fs (kc:Kc X.K X.mg c C)(hm:wM X.K C m fa)(Fn:eX X.prog X.w X.K X.mg X.base (iZ X.prog X.w) k fa fd ps (oy X.K n F))(hr:bR k X.A)(hb:fL X.K fd ps [])(ho:PE X o (tE X go))
  (ht:eval (.Call (.Attribute o m apos) [] [] pos) X.env=(do
   let ov ←eval o X.env
   standAt apos.atName
   let (f,first) ←holding [ov] (getMethod ov m pl)
   callWith pos f first (backTo pos (starEach [] X.env)) (backToKw pos (keywordEach [] X.env))):=by rfl) :
  PE X (.Call (.Attribute o m apos) [] [] pos) (tE X (gT c m n F go ag)):=
 (DH (pl:=pl) ho kc.cl hm Fn hr hb .nil ky ht).of fun σ H Q h=>by
  obtain⟨ρ,θ,M,hd,hw,h⟩:=Dj kc h;refine⟨ρ,θ,M,hd,hw,?_⟩;cases q:go ρ M with
  | ok d M1=>
   rw[q] at h;intro v θ1 H1 g1 r1;obtain⟨a,dx,fs,e1,e2,e3,h⟩:=h v θ1 H1 g1 r1;refine⟨a,dx,fs,e1,e2,e3,?_⟩;obtain⟨ρ',θ',M',hd',hw',h'⟩:=h;exact h' [] θ' H1 (.refl hw') rfl
  | err c2 M1=>rw[q] at h;exact h
  | bad=>rw[q] at h;exact h
end
def l8 (c:Str)(n:Nat)(F:FD)(ga:GA):GE:=fun ρ M=>(ga ρ M).bind fun ds M1=>if ds.length+1=n then(F (.mr M1.length::ds) (M1++[.obj c []])).bind fun d M2=>match d with
  | .non=>.ok (.mr M1.length) M2
  | _=>.bad
 else .bad
theorem F3 {n:Nat}{F:FD}{ga:GA}{Q:VK}(k:jH X.K c C)(h:tE X (l8 c n F ga) σ H Q):Hu C (oy X.K n F) [] (Ho X) (tA X ga) σ H Q:=by
 obtain⟨ρ,θ,M,hd,hw,h⟩:=h;refine mQ hd hw (bh X θ H Q) (fun c M' h=>h) (fun h=>h) h fun ds M1 us θ1 H1 g1 r1 h1=>?_
 intro x dx hx hdx ne;have h2:=bh.go g1 h1
 by_cases hn:ds.length+1=n
 ·simp only[if_pos hn] at h2;have gm:=F1 (C:=C) g1.wr hx hdx ne k;have rx:fA X.K (θ1++[x]) (cR (cR H1 dx (.own x)) x (.ins C dx [])) (.mr M1.length) (.ref x):=tz g1.wr;refine⟨θ1++[x],M1++[.obj c []],.mr M1.length::ds,hn,⟨.ref x,us++[],rfl,rx,by rw[append_nil];exact r1.go gm⟩,gm.wr,?_⟩;have h3:=bh.go gm h2;cases qf:F (.mr M1.length::ds) (M1++[.obj c []]) with
  | bad=>rw[qf] at h3;exact h3
  | err c2 M3=>rw[qf] at h3;exact wo h3
  | ok d2 M3=>
   rw[qf] at h3;intro v θ2 H2 g2 r2;cases d2 with
   | non=>exact⟨r2,h3 _ θ2 H2 g2 (rx.go g2)⟩
   | _=>exact h3.elim
 ·simp only[if_neg hn] at h2;exact h2.elim
section
variable {x:Str}{k n:Nat}{fa:Addr}{fd:FuncData}{ps:List Str}{F:FD}{ga:GA}{es:List Expr}
theorem Hh (kc:Kc X.K X.mg x C)(Mc:Mk X.K C fa)(Fn:eX X.prog X.w X.K X.mg X.base (iZ X.prog X.w) k fa fd ps (oy X.K n F))(hr:bR (k+1) X.A)(hg:Gl X x)(hb:fL X.K fd ps [])(ha:PA X (e::es) (tA X ga))
  (hdb:(x==("__debug__":Str))=false:=by decide) (h1:bS e=true:=by rfl) (h2:dg es=true:=by rfl):PE X (.Call (.Name x p) (e::es) [] pos) (tE X (l8 x n F ga)):=
 (Gc Mc Fn hr hg kc.m hb .nil ky ha hdb (sE h1) (sS h2)).of fun σ H Q h=>F3 kc.at_ h
end
def CV (add:Bool)(x y:D)(M:aB):bj D:=match x,y with
 | .int i,.int j=>.ok (.int (if add then i+j else i-j)) M
 | _,_=>.bad
def tQ (i:Nat)(add:Bool)(g:GE):GS:=fun ρ M=>(ae i ρ M).bind fun x M0=>(g ρ M0).bind fun y M1=>(CV add x y M1).bind fun z M2=>.ok (.nx (ρ.set i (some z))) M2
theorem Km {i:Nat}{x:Str}{add:Bool}{op:Operator}(hop:op=if add then .Add else .Sub)(hN:X.N.Nodup)(hi:X.N[i]?=some x)(hx:yL X.env.scope x)(he:PE X e (tE X g))(hf:X.fn x=true∨X.env.scope.names.lookup x=some .local:=by first|exact .inl rfl|exact .inr rfl|assumption) :
  PS X (.AugAssign (.Name x pos') op e pos) (tS X (tQ i add g)):=by
 have ip:Oi X op (Pl fun i j=>if add then i+j else i-j):=by
  subst hop;cases add with
  | true=>exact JH
  | false=>exact Ij
 refine(C0 hN hi hx he ip hf).of fun D σ H ⟨ρ,θ,M,hd,hw,h⟩=>?_
 unfold tQ ae at h;split at h
 ·rename_i d q;obtain⟨v,e1,r⟩:=hd.at_ i d q;refine⟨v,e1,?_⟩;have h:cT X θ H D ((g ρ M).bind fun y M1=>(CV add d y M1).bind fun z M2=>.ok (.nx (ρ.set i (some z))) M2):=h;refine bZ hd hw (cT X θ H D) (fun c M' h=>h) (fun h=>h) h fun y M1 vy θ1 H1 g1 r1 h1=>?_
  cases d with
  | int a=>
   cases y with
   | int b=>exact⟨a,b,r,r1,h1 _ θ1 H1 g1 ((hd.go g1).set (d:=.int (if add then a+b else a-b)) rfl i)⟩
   | _=>exact h1.elim
  | _=>exact h1.elim
 ·exact h.elim
end
end DL
namespace DL
open PySem PySem.Spec PyProof.Rows L2 List
variable{a:Addr}{its:Array Value}{Q:Value→Shared→Prop}
section
variable {prog:Program}{w:World}{A:Around}{E:Value→Shared→Prop}{s:Shared}
theorem yU {I:Addr}{k:Nat}{x:Value}(st:s.heap.IsTupleIter I a k)(ta:s.heap.IsTuple a its)(hx:its[k]?=some x)
  (q:∀h',h'.IsTupleIter I a (k+1)→Heap.SameBut I s.heap h'→Q x {s with heap:=h'}):wpAny (model prog w) A (Builtin.SmallTypes.nextOf (.ref I)) Q E s:=by
 obtain⟨u,hu,uc,ud⟩:=id st;obtain⟨oa,hoa,_,na,da⟩:=ta;unfold Builtin.SmallTypes.nextOf;refine wpAny_bind (wpAny_callSpecial?_slot (name:=Str.ofString "__next__") st.typeIs F.slot_tuple_iterator_next (wpAny_call_entry F.slot_tuple_iterator_next st.typeIs F.entry_tuple_iterator_next ?_ (F.args_tuple_iterator_next_1 _)));show wpAny _ _ (field (.ref I) 0 >>= _) _ _ s;refine wpAny_bind (wpAny_field hu ud (x:=.ref a) rfl ?_);show wpAny _ _ (if(Value.ref a==Value.none)=true then _ else _) _ _ s;rw[if_neg (show¬((Value.ref a==Value.none)=true) from Bool.false_ne_true)];show wpAny _ _ (field (.ref I) 1 >>= _) _ _ s;refine wpAny_bind (wpAny_field hu ud (x:=.int k 0) rfl ?_);show wpAny _ _ (seqItems? (.ref a) >>= _) _ _ s;refine wpAny_bind (wpAny_seqItems hoa da ?_);simp only[Int.toNat_natCast,hx];refine wpAny_bind (wpAny_setField hu ud (by simp) (wpAny_pure ⟨x,rfl,wpAny_pure (q _ ?_ (Heap.SameBut.update ..))⟩));exact⟨_,Heap.get?_update_self _ hu (Obj.isFreed_of_fields (Obj.data_mapFields ud _)),(Obj.cls_mapFields ..).trans uc,by rw[Obj.data_mapFields ud];simp[rawInt]⟩
theorem mE {I:Addr}{k:Nat}{Q:Value→Shared→Prop}(hh:A.handled=none)(st:s.heap.IsTupleIter I a k)(ta:s.heap.IsTuple a its)(hx:its[k]?=none)
  (q:∀h' e,Heap.ExtBut I s.heap h'→(∃o,h'.get? e=some o∧o.cls=.type "StopIteration")→E (.ref e) {s with heap:=h'}):wpAny (model prog w) A (Builtin.SmallTypes.nextOf (.ref I)) Q E s:=by
 obtain⟨u,hu,uc,ud⟩:=id st;obtain⟨oa,hoa,_,na,da⟩:=ta;unfold Builtin.SmallTypes.nextOf;refine wpAny_bind (wpAny_callSpecial?_slot (name:=Str.ofString "__next__") st.typeIs F.slot_tuple_iterator_next (wpAny_call_entry F.slot_tuple_iterator_next st.typeIs F.entry_tuple_iterator_next ?_ (F.args_tuple_iterator_next_1 _)));show wpAny _ _ (field (.ref I) 0 >>= _) _ _ s;refine wpAny_bind (wpAny_field hu ud (x:=.ref a) rfl ?_);show wpAny _ _ (if(Value.ref a==Value.none)=true then _ else _) _ _ s;rw[if_neg (show¬((Value.ref a==Value.none)=true) from Bool.false_ne_true)];show wpAny _ _ (field (.ref I) 1 >>= _) _ _ s;refine wpAny_bind (wpAny_field hu ud (x:=.int k 0) rfl ?_);show wpAny _ _ (seqItems? (.ref a) >>= _) _ _ s;refine wpAny_bind (wpAny_seqItems hoa da ?_);simp only[Int.toNat_natCast,hx];refine wpAny_bind (wpAny_rule (wpAny_bind (wpAny_setField hu ud (by simp) ?_)));show wpAny _ _ (newExc (.type "StopIteration") [] >>= _) _ _ _;refine wpAny_bind ?_;simp only[newExc,newTuple];refine wpAny_bind (wpAny_newObj_type ?_ (by size_fits));refine wpAny_bind (m:=firstArgMember _ _) (wpAny_of_eq (a:=Value.none) (by first|rfl|(simp only[firstArgMember];rfl)) ?_);refine wpAny_newObj_type ?_ (by size_fits);simp only[raiseNew];refine wpAny_bind (wpAny_handled ?_)
 first|rw[show A.in1.handled=none from hh]|rw[hh]
 exact wpAny_bind (wpAny_pure (wpAny_throw (q _ _ (((Heap.SameBut.update ..).extBut.push _).push _) ⟨_,Heap.get?_push_size _ rfl,rfl⟩)))
end
theorem AZ {prog:Program}{w:World}{A:Around}(hh:A.handled=none)(I a:Addr)(hne:a≠I)(its:Array Value) :
  Draws prog w A I [I,a] its.size (fun i v=>its[i]?=some v) (fun i h=>h.IsTupleIter I a i∧h.IsTuple a its) where
 live:=fun _ _ st=>let ⟨o,ho,_⟩:=st.1;⟨o,ho⟩
 frame:=fun _ _ _ st hk=>⟨st.1.at fun o e=>hk I (by simp) o e,let ⟨o,ho,r⟩:=st.2;⟨o,hk a (by simp) o ho,r⟩⟩
 item:=fun i s Q E hi st hQ=>yU st.1 st.2 (x:=its[i]) (by simp[hi]) fun h' hit' hs'=>hQ _ h' s.toks (by simp[hi]) ⟨hit',st.2.extBut hs'.extBut hne⟩ hs'
 done:=fun s Q E st hE=>mE hh st.1 st.2 (by simp) hE
open AutoSeq1 (wpAny_loadPart') in
theorem vT (a:Addr)(its:Array Value)(n:Nat)(dct:Option Addr)(sl:Array (Option Value)) :
  Meets (Builtin.«enumerate.__new__» ⟨[.type "enumerate",.ref a],[]⟩) (fun _ R s=>s.heap.get? a=some {cls:=.type "tuple",dict:=dct,data:=.seq its n,slots:=sl}∧
   R (.ok (.ret (.ref (s.heap.push {cls:=.type "tuple_iterator",data:=.fields #[.ref a,.int 0 0]}).objs.size)))
    {s with heap:=(s.heap.push {cls:=.type "tuple_iterator",data:=.fields #[.ref a,.int 0 0]}).push {cls:=.type "enumerate",data:=.fields #[.none,.bool false,.ref s.heap.objs.size,rawInt 0,.none,.none]}}):=
 .of_wp fun prog w A R s hh=>by
  obtain⟨hp,g,d,tk,os⟩:=s;obtain⟨ha,hr⟩:=hh;have hsub:=sub_enumerate;have hT:Heap.IsTuple (Shared.heap ⟨hp,g,d,tk,os⟩) a its:=⟨_,ha,rfl,n,rfl⟩
  wp_walk using wpAny_loadPart' ha
  refine wpAny_stack_any fun st=>wpAny_pure ?_
  split
  ·rename_i c _ _ _ _ _;cases (c==Value.type "enumerate")
   all_goals
    wp_walk using wpAny_loadPart' ha,wpAny_pyIter_tuple hT
    exact⟨_,rfl,hr⟩
  ·wp_walk using wpAny_loadPart' ha,wpAny_pyIter_tuple hT
   exact⟨_,rfl,hr⟩
theorem ul {prog:Program}{w:World}{A:Around}{E:Value→Shared→Prop}{s:Shared}(hT:s.heap.IsTuple a its)
  (q:∀h',IsEnum h' (s.heap.objs.size+1) s.heap.objs.size 0 .none→h'.IsTupleIter s.heap.objs.size a 0→h'.objs.size=s.heap.objs.size+2→
   (∀b o,s.heap.get? b=some o→h'.get? b=some o)→Q (.ref (s.heap.objs.size+1)) {s with heap:=h'}):wpAny (model prog w) A (call (.type "enumerate") [.ref a]) Q E s:=by
 obtain⟨⟨c,dct,dt,sl⟩,ha,hc,n,hd⟩:=hT;have hc:c=.type "tuple":=hc;have hd:dt=.seq its n:=hd;subst hc hd;refine callType_new F.called_enumerate (by decide) (F.typeCall_enumerate_1 _) (F.newCall_enumerate_1 _) (fun obj=>F.args_object_init_2 obj _) F.entry_enumerate_new (vT a its n dct sl) ⟨ha,?_⟩;have hz:(s.heap.push {cls:=.type "tuple_iterator",data:=.fields #[.ref a,.int 0 0]}).objs.size=s.heap.objs.size+1:=Heap.size_push ..;show _∧_;rw[hz];have he:IsEnum ((s.heap.push {cls:=.type "tuple_iterator",data:=.fields #[.ref a,.int 0 0]}).push {cls:=.type "enumerate",data:=.fields #[.none,.bool false,.ref s.heap.objs.size,rawInt 0,.none,.none]}) (s.heap.objs.size+1) s.heap.objs.size 0 .none:=by
  have z:=Heap.get?_push_size (s.heap.push {cls:=.type "tuple_iterator",data:=.fields #[.ref a,.int 0 0]}) (o:={cls:=.type "enumerate",data:=.fields #[.none,.bool false,.ref s.heap.objs.size,rawInt 0,.none,.none]}) rfl;rw[hz] at z;exact z
 exact⟨⟨_,he,rfl⟩,q _ he ⟨_,Heap.get?_push_of_some _ (Heap.get?_push_size _ rfl),rfl,rfl⟩ (by rw[Heap.size_push,hz]) fun b o z=>Heap.get?_push_of_some _ (Heap.get?_push_of_some _ z)⟩
variable{ch:List Addr}{h':Heap}
section
variable {X:Cx}{ah:List (Addr×Obj)}{σ:L2.St}{H:Hp}{s:Shared}
theorem vq {o:HO}{t':Nat}(I:L2.Inv X ah σ H s)(hf:∀b∈ch,kQ X ah H b)(k:∀b u,b∉ch→s.heap.get? b=some u→h'.get? b=some u)
  (hp:s.heap.objs.size≤a) (new:dq X.prog X.w (cR H a o) h' a o):L2.Inv X ah σ (cR H a o) {s with heap:=h',toks:=t'}:=by
 have hn:H a=none:=I.hok.fresh hp;have ne:∀{b:Addr} {u:HO},H b=some u→b≠a:=fun {b u} e z=>by rw[z,hn] at e;cases e
 have nch:∀b u,H b=some u→b∉ch:=fun b u e z=>by rw[(hf b z).1] at e;cases e
 refine I.step (g':=s.gens) (d':=s.drawn) (ch:=ch) (fun b hb=>⟨(hf b hb).2.2.2.1,(hf b hb).2.1,(hf b hb).2.2.2.2.1,(hf b hb).2.2.2.2.2⟩) (fun b u _ _ hc e _=>k b u hc e) (fun b u _ _ hc e _=>⟨u.slots,k b u hc e⟩)
  (fun b u _ e n=>by rw[aQ (Nat.ne_of_lt (Nat.lt_of_lt_of_le (Heap.lt_size e) hp))];exact n) (fun b u hc e=>⟨u,k b u hc e⟩) (fun b xs e=>by rw[aQ (ne e)];exact e) (fun b u v e=>by rw[aQ (ne e)];exact e)
  (fun b ps e=>⟨#[],by rw[aQ (ne e),e];simp⟩) (fun m hm=>?_) (fun b u e=>?_) I.bare
 ·obtain⟨u,es,ep,ho,r⟩:=hm;exact⟨u,es,ep,k _ u (fun z=>(hf _ z).2.1 rfl) ho,r⟩
 ·by_cases hb:b=a
  ·subst hb;rw[bX] at e;cases e;exact new
  ·rw[aQ hb] at e;refine(I.hok b u e).stay (fun c v hc q=>k c v ?_ q) (fun c q=>by rw[aQ (ne q)];exact q) fun c xs q=>by rw[aQ (ne q)];exact q
   rcases hc with z|z
   ·rw[z];exact nch b u e
   ·exact nch c _ z
theorem Bb {t':Nat}(I:L2.Inv X ah σ H s)(hf:∀b∈ch,kQ X ah H b)(k:∀b u,b∉ch→s.heap.get? b=some u→h'.get? b=some u):L2.Inv X ah σ H {s with heap:=h',toks:=t'}:=by
 have nch:∀b u,H b=some u→b∉ch:=fun b u e z=>by rw[(hf b z).1] at e;cases e
 refine I.step (g':=s.gens) (d':=s.drawn) (ch:=ch) (fun b hb=>⟨(hf b hb).2.2.2.1,(hf b hb).2.1,(hf b hb).2.2.2.2.1,(hf b hb).2.2.2.2.2⟩) (fun b u _ _ hc e _=>k b u hc e) (fun b u _ _ hc e _=>⟨u.slots,k b u hc e⟩)
  (fun b u _ e n=>n) (fun b u hc e=>⟨u,k b u hc e⟩) (fun b xs e=>e) (fun b u v e=>e) (fun b ps e=>⟨#[],by rw[e];simp⟩) (fun m hm=>?_) (fun b u e=>?_) I.bare
 ·obtain⟨u,es,ep,ho,r⟩:=hm;exact⟨u,es,ep,k _ u (fun z=>(hf _ z).2.1 rfl) ho,r⟩
 ·refine(I.hok b u e).stay (fun c v hc q=>k c v ?_ q) (fun c q=>q) fun c xs q=>q
  rcases hc with z|z
  ·rw[z];exact nch b u e
  ·exact nch c _ z
end
def Lx (K:W.Frag)(b:Bool)(H:Hp)(a:Addr)(xs:List V):Prop:=match b with
 | true=>qW K H a xs
 | false=>pc K H a xs
def B6 (K:W.Frag)(b:Bool)(a:Addr):It:=
 ⟨fun i H=>∃xs x,Lx K b H a xs∧xs[i]?=some x,fun i H x H'=>∃p y,H p=none∧H'=cR H p (.tup [.int (i:Int),y])∧x=.ref p∧∀xs,Lx K b H a xs→xs[i]?=some y,fun i H=>∃xs,Lx K b H a xs∧xs.length≤i⟩
def ji (b:Bool)(h:Heap)(it a:Addr)(i:Nat):Prop:=match b with
 | true=>h.IsTupleIter it a i
 | false=>h.IsListIter it a i
variable{b:Bool}{i:Nat}
theorem ji.at {h:Heap}{it:Addr}(x:ji b h it a i)(e:∀o,h.get? it=some o→h'.get? it=some o):ji b h' it a i:=by
 cases b with
 | true=>exact Heap.IsTupleIter.at x e
 | false=>exact Heap.IsListIter.at x e
theorem ji.obj {h:Heap}{it:Addr}(x:ji b h it a i):∃o,h.get? it=some o∧(o.cls=.type "tuple_iterator"∨o.cls=.type "list_iterator")∧∃vs,o.data=.fields vs:=by
 cases b with
 | true=>obtain⟨o,e,c,d⟩:=x;exact⟨o,e,.inl c,_,d⟩
 | false=>obtain⟨o,e,c,d⟩:=x;exact⟨o,e,.inr c,_,d⟩
variable{K:W.Frag}
theorem Bn {P:Program}{w:World}{es:List Expr}{kt:Nat}{pos:Pos}(b:Bool)(a e it:Addr):BN P w K (.Tuple es kt pos) (B6 K b a) [e,it] e (fun i h=>(∃old,IsEnum h e it (i:Int) old)∧ji b h it a i) where
 mem:=by simp
 obj:=fun i h st c hc=>by
  obtain⟨⟨old,he⟩,hs⟩:=st;obtain⟨o,ho,_,vs,hd⟩:=hs.obj;rcases mem_cons.mp hc with q|q
  ·subst q;exact⟨_,he,fun v z=>by cases z⟩
  ·rw[mem_singleton.mp q];exact⟨o,ho,fun v z=>by rw[hd] at z;cases z⟩
 keep:=fun i h h' st k=>⟨st.1.imp fun old he=>k e (by simp) _ he,st.2.at fun o q=>k it (by simp) o q⟩
 item:=by
  intro X hP hw hK hc i ah s σ H E I hf st hg;subst hP hw hK;obtain⟨⟨old,he⟩,hs⟩:=st;obtain⟨xs,x,hq,hx⟩:=hg;have hei:e≠it:=fun z=>by
   obtain⟨o,ho,hcl,_⟩:=hs.obj;rw[←z,he] at ho;cases ho;rcases hcl with q|q <;> simp at q
  have main:∀(its:List Value) (fp:List Addr) (St:Nat→Heap→Prop),bu xs its→Draws X.prog X.w X.A.in1 it fp its.length (fun i v=>its[i]?=some v) St→e∉fp→St i s.heap→(∀h,St (i+1) h→ji b h it a (i+1))→
    wpAny (model X.prog X.w) X.A (pyNext (.ref e)) (fun r s1=>∃u,r=some u∧
     wpAny (model X.prog X.w) X.A (letOwnedTupleGo (.Tuple es kt pos) (.ref e) u) (fun _ s2=>∃x H',L2.Inv X ah σ H' s2∧bC x u∧(B6 X.K b a).yld i H x H'∧((∃old,IsEnum s2.heap e it ((i+1:Nat):Int) old)∧ji b s2.heap it a (i+1))∧∀b∈[e,it],H' b=none) E s1) E s:=by
   intro its fp St rv D hef hst hback;have hil:i<its.length:=by rw[←rv.length];exact(List.getElem?_eq_some_iff.mp hx).1
   obtain⟨u,hu,ru⟩:=rv.get hx;refine wpAny_pyNext_enum_itemD D he hst hil hei hef fun y h' tk hP ho hs' hT hsz hk=>?_
   have ey:y=u:=by
    have hP:its[i]?=some y:=hP;rw[hu] at hP;exact(Option.some.inj hP).symm
   subst ey;have helt:e<s.heap.objs.size:=Heap.lt_size he;refine⟨_,rfl,wpAny_letOwnedTupleGo_enum ho fun h2 he2 hs2=>?_⟩;have hs2:Heap.SameBut e h' h2:=hs2;have hT2:h2.get? s.heap.objs.size=some {cls:=.type "tuple",data:=.seq #[.int i tk,y]}:=(hs2.2 _ (Nat.ne_of_gt helt)).trans hT;have fr:H s.heap.objs.size=none:=I.hok.fresh (Nat.le_refl _);have new:dq X.prog X.w (cR H s.heap.objs.size (.tup [.int (i:Int),x])) h2 s.heap.objs.size (.tup [.int (i:Int),x]):=
    ⟨Nat.le_trans (by decide:2≤1000) (by rw[sizeLine_eq];decide),[.int i tk,y],.cons ⟨tk,rfl⟩ (.cons ru .nil),⟨_,hT2,rfl,_,rfl⟩⟩
   have I2:=vq (t':=tk+1) I hf (fun c o hc q=>(hs2.2 c (fun z=>hc (by simp[z]))).trans (hk c o (fun z=>hc (by simp[z])) (fun z=>hc (by simp[z])) q)) (Nat.le_refl _) new;have inj:∀ys,Lx X.K b H a ys→ys[i]?=some x:=fun ys hy=>by
    cases b with
    | true=>rw[I.tuple_inj hy hq];exact hx
    | false=>rw[I.list_inj hy hq];exact hx
   refine⟨.ref s.heap.objs.size,_,I2,rfl,⟨_,x,fr,rfl,rfl,inj⟩,⟨⟨y,by simpa using he2⟩,(hback h' hs').at fun o q=>(hs2.2 it (Ne.symm hei)).trans q⟩,fun c hc=>?_⟩;have:c≠s.heap.objs.size:=by
    obtain⟨o,ho2,_⟩:=hs.obj;rcases mem_cons.mp hc with q|q
    ·rw[q];exact Nat.ne_of_lt helt
    ·rw[mem_singleton.mp q];exact Nat.ne_of_lt (Heap.lt_size ho2)
   rw[aQ this];exact(hf c hc).1
  cases b with
  | false=>
   obtain⟨its,rv,p,hz⟩:=I.list (show pc X.K H a xs from hq);have hli:a≠it:=fun z=>by
    obtain⟨o,ho,hcl,_⟩:=hs.obj;obtain⟨ol,hol,hlc,_⟩:=p.isList;rw[z,ho] at hol;cases hol;rw[hlc] at hcl;rcases hcl with q|q <;> simp at q
   have hle:e≠a:=fun z=>by
    obtain⟨ol,hol,hlc,_⟩:=p.isList;rw[←z,he] at hol;cases hol;simp at hlc
   have D:=Draws.list (prog:=X.prog) (w:=X.w) (A:=X.A.in1) (show X.A.in1.handled=none from I.ok.hd hc) it a hli its.toArray;rw[size_toArray] at D;exact main its [it,a] (fun i h=>h.IsListIter it a i∧h.IsList a its.toArray) rv (by simpa using D) (by simp[hei,hle]) (show s.heap.IsListIter it a i∧s.heap.IsList a its.toArray from⟨hs,p.isList⟩) fun h q=>q.1
  | true=>
   obtain⟨its,rv,p,hz⟩:=I.tuple (show qW X.K H a xs from hq);have p:s.heap.IsTuple a its.toArray:=p;have hli:a≠it:=fun z=>by
    obtain⟨o,ho,hcl,_⟩:=hs.obj;obtain⟨ol,hol,hlc,_⟩:=id p;rw[z,ho] at hol;cases hol;rw[hlc] at hcl;rcases hcl with q|q <;> simp at q
   have hle:e≠a:=fun z=>by
    obtain⟨ol,hol,hlc,_⟩:=id p;rw[←z,he] at hol;cases hol;simp at hlc
   have D:=AZ (prog:=X.prog) (w:=X.w) (A:=X.A.in1) (show X.A.in1.handled=none from I.ok.hd hc) it a hli its.toArray;rw[size_toArray] at D;exact main its [it,a] (fun i h=>h.IsTupleIter it a i∧h.IsTuple a its.toArray) rv (by simpa using D) (by simp[hei,hle]) (show s.heap.IsTupleIter it a i∧s.heap.IsTuple a its.toArray from⟨hs,p⟩) fun h q=>q.1
 done:=by
  intro X hP hw hK hc i ah s σ H E I hf st hg;subst hP hw hK;obtain⟨⟨old,he⟩,hs⟩:=st;obtain⟨xs,hq,hx⟩:=hg;have hnx:∀h',Heap.ExtBut it s.heap h'→(none:Option Value)=none∧L2.Inv X ah σ H {s with heap:=h'}:=fun h' hb=>
   ⟨rfl,Bb (t':=s.toks) I hf fun c o hc q=>hb c o (fun z=>hc (by simp[z])) q⟩
  have hT:s.TypeIs (.ref e) "enumerate":=⟨_,he,rfl⟩;unfold pyNext;refine wpAny_bind (wpAny_attempt (wpAny_callSpecial?_slot (name:=Str.ofString "__next__") hT F.slot_enumerate_next (wpAny_call_entry F.slot_enumerate_next hT F.entry_enumerate_next ?_ (F.args_enumerate_next_1 _))));show wpAny _ _ (field (.ref e) 2 >>= _) _ _ _;refine wpAny_bind (wpAny_field he rfl (x:=.ref it) rfl (wpAny_bind ?_));have stp:∀h' x,Heap.ExtBut it s.heap h'→(∃o,h'.get? x=some o∧o.cls=.type "StopIteration")→wpAny (model X.prog X.w) X.A (isInstance (.ref x) (.type "StopIteration") >>= fun b=>if b=true then pure none else throw (Value.ref x)) (fun(r:Option Value) s1=>r=none∧L2.Inv X ah σ H s1) E {s with heap:=h'}:=fun h' x hb hx'=>by
   obtain⟨o,ho,hcl⟩:=hx';refine wpAny_bind (wpAny_isInstance (T:="StopIteration") (b:=true) ⟨o,ho,hcl⟩ isSubtype_stop ?_);exact wpAny_pure (hnx _ hb)
  cases b with
  | false=>
   obtain⟨its,rv,p,hz⟩:=I.list (show pc X.K H a xs from hq);have hl:=rv.length;exact wpAny_nextOf_list_end (show X.A.in1.handled=none from I.ok.hd hc) hs p.isList (by simp;omega) stp
  | true=>
   obtain⟨its,rv,p,hz⟩:=I.tuple (show qW X.K H a xs from hq);have p:s.heap.IsTuple a its.toArray:=p;have hl:=rv.length;exact mE (show X.A.in1.handled=none from I.ok.hd hc) hs p (by simp;omega) stp
 self:=fun _ _ _ _ _ st h=>by
  obtain⟨⟨old,he⟩,_⟩:=st;exact wpAny_pyIter_enum he h
theorem F6 {X:Cx}{es:List Expr}{kt:Nat}{tp:Pos}{l:Expr}{tl:TA}{p pos:Pos}(hg:Gl X "enumerate")(hm:X.mg "enumerate"=none)(hv:bootBuiltins "enumerate"=some (.type "enumerate"))(hl:PA X [l] tl)(hs:starEach [l] X.env=[(false,eval l X.env)]:=by rfl) :
  PI X (.Tuple es kt tp) (.Call (.Name "enumerate" p) [l] [] pos) (fun σ H R=>tl σ H fun xs H1=>∃a,xs=[.ref a]∧(((∃xs,pc X.K H1 a xs)∧R (B6 X.K false a) H1)∨((∃xs,qW X.K H1 a xs)∧R (B6 X.K true a) H1))):=by
 intro ah s σ H R I h;refine Call_ (pP I hg hm hv (PyProof.Rows.callWith_type1 (cZ (hl pos ah s σ H _ I h) fun us s1 ⟨vs,H1,I1,r1,q1⟩=>?_) hs rfl));obtain⟨a,e,q1⟩:=q1;subst e;cases r1 with
 | cons r rr=>
  cases rr;have r:_=Value.ref a:=r;subst r;have fin:∀(b:Bool) (h':Heap),IsEnum h' (s1.heap.objs.size+1) s1.heap.objs.size 0 .none→ji b h' s1.heap.objs.size a 0→h'.objs.size=s1.heap.objs.size+2→(∀c o,s1.heap.get? c=some o→h'.get? c=some o)→R (B6 X.K b a) H1→
    wpAny (model X.prog X.w) X.A (pyIter (.ref (s1.heap.objs.size+1))) (OX X ah σ (.Tuple es kt tp) R) X.xe {s1 with heap:=h'}:=fun b h' he hi hz hk q=>by
   refine wpAny_pyIter_enum he ⟨_,[s1.heap.objs.size+1,s1.heap.objs.size],_,_,H1,rfl,I1.kept (t':=s1.toks) hk,Bn b a _ _,⟨⟨_,he⟩,hi⟩,fun c hc=>?_,q⟩;have hb:s1.heap.objs.size≤c:=by
    rcases mem_cons.mp hc with z|z
    ·rw[z];exact Nat.le_succ _
    ·rw[mem_singleton.mp z];exact Nat.le_refl _
   exact I1.fpOk hb (I1.hok.fresh hb)
  rcases q1 with⟨⟨xs,hq⟩,q⟩|⟨⟨xs,hq⟩,q⟩
  ·obtain⟨its,rv,p,hz⟩:=I1.list hq;exact call_enumerate_list p.isList fun h' he hi hz hk=>fin false h' he hi hz hk q
  ·obtain⟨its,rv,p,hz⟩:=I1.tuple hq;exact ul (show s1.heap.IsTuple a its.toArray from p) fun h' he hi hz hk=>fin true h' he hi hz hk q
def gR (ds:List D):List D:=(List.range ds.length).zipWith (fun(k:Nat) d=>D.tup [.int (k:Int),d]) ds
variable{ds:List D}
theorem qw {d:D}(h:(gR ds)[i]?=some d):∃x,ds[i]?=some x∧d=.tup [.int (i:Int),x]:=by
 unfold gR at h;rw[getElem?_zipWith] at h;cases q:ds[i]? with
 | none=>rw[q] at h;simp at h
 | some x=>
  have hi:=(List.getElem?_eq_some_iff.mp q).1;rw[q,getElem?_range hi] at h;exact⟨x,rfl,(Option.some.inj h).symm⟩
theorem lq (ds:List D):(gR ds).length=ds.length:=by simp[gR]
def DX (ds:List D)(M:aB):bj tK:=match ds with
 | [.lst xs]=>.ok ⟨gR xs,none⟩ M
 | [.ro xs]=>.ok ⟨gR xs,none⟩ M
 | [.tup xs]=>.ok ⟨gR xs,none⟩ M
 | _=>.bad
def lZ (g:GA):GI:=fun ρ M=>(g ρ M).bind DX
theorem rL {θ:List Addr}{H:Hp}{vs:List V}(ta:∀θ1 H1,Grow θ H θ1 H1→Lx K b H1 a vs)(r:bO K θ H ds vs):GL K (B6 K b a) θ H ⟨gR ds,none⟩:=by
 intro θ1 H1 M1 g _ i;have t1:=ta θ1 H1 g.toGrow;have r1:=r.go g;refine⟨fun d e=>?_,fun hl=>⟨vs,t1,by rw[←aJ r1];rw[lq] at hl;exact hl⟩⟩;obtain⟨x,ex,ed⟩:=qw e;subst ed;obtain⟨v,e1,rv⟩:=gZ r1 ex;refine⟨⟨vs,v,t1,e1⟩,fun x' H2 y=>?_⟩;obtain⟨p,y',np,eH,exr,hy⟩:=y;have e2:=hy vs t1;rw[e1] at e2;cases e2;subst eH exr;exact⟨fm g.wr np,je (ds:=[.int (i:Int),x]) g.wr np ⟨_,_,rfl,rfl,_,_,rfl,rv,rfl⟩⟩
theorem GK {X:Cx}{es:List Expr}{kt:Nat}{tp:Pos}{l:Expr}{g:GA}{p pos:Pos}(hg:Gl X "enumerate")(hm:X.mg "enumerate"=none)(hv:bootBuiltins "enumerate"=some (.type "enumerate"))(hl:PA X [l] (tA X g))(hs:starEach [l] X.env=[(false,eval l X.env)]:=by rfl) :
  PI X (.Tuple es kt tp) (.Call (.Name "enumerate" p) [l] [] pos) (tI X (lZ g)):=by
 intro ah s σ H R I h;refine F6 hg hm hv hl hs ah s σ H R I ?_;obtain⟨ρ,θ,M,hd,hw,h⟩:=h;refine mQ hd hw (Dx X θ H R) (fun c M' h=>h) (fun h=>h) h fun ds M1 vs θ1 H1 g1 r1 h1=>?_
 unfold DX at h1;split at h1
 ·obtain⟨v,r,e,⟨a,us,e2,ta,rs⟩,rr⟩:=r1;have rr:r=[]:=rr;subst rr e2;exact⟨a,e,.inl ⟨⟨us,ta.sq⟩,h1 _ θ1 H1 g1 (rL (b:=false) (fun θ2 H2 g2=>(ta.grow g2).sq) rs)⟩⟩
 ·obtain⟨v,r,e,⟨a,us,e2,ta,rs⟩,rr⟩:=r1;have rr:r=[]:=rr;subst rr e2;exact⟨a,e,.inl ⟨⟨us,ta.sq⟩,h1 _ θ1 H1 g1 (rL (b:=false) (fun θ2 H2 g2=>(ta.grow g2).sq) rs)⟩⟩
 ·obtain⟨v,r,e,⟨a,us,e2,ta,rs⟩,rr⟩:=r1;have rr:r=[]:=rr;subst rr e2;exact⟨a,e,.inr ⟨⟨us,ta.sq⟩,h1 _ θ1 H1 g1 (rL (b:=true) (fun θ2 H2 g2=>(ta.grow g2).sq) rs)⟩⟩
 ·exact h1.elim
end DL
namespace DL
open PySem PySem.Spec PyProof.Rows L2 List
variable{x:Str}
section
variable {X:Cx}{e o lo hi:Expr}{g go gl gh:GE}{pos ip sp:Pos}
def qX (i j:Nat)(ga:GA):GS:=fun ρ M=>(ga ρ M).bind fun ds M1=>match ds with
 | [d,e]=>.ok (.nx ((ρ.set i (some d)).set j (some e))) M1
 | _=>.bad
theorem Kx {i j:Nat}{y:Str}{a b:Expr}{ga:GA}{px py pt:Pos}{kt k2 pt2}(hc:X.calm=true)(hN:X.N.Nodup)(hi:X.N[i]?=some x)(hj:X.N[j]?=some y)(hij:i≠j)
  (hx:X.env.scope.names.lookup x=some .local) (hy:X.env.scope.names.lookup y=some .local) (ha:PA X [a,b] (tA X ga))
  (hw:swappedStores [.Tuple [.Name x px,.Name y py] kt pt] (.Tuple [a,b] k2 pt2) X.env=pure (some [x,y]))
  (hs:swapsWithSole [.Tuple [.Name x px,.Name y py] kt pt] (.Tuple [a,b] k2 pt2) pos.line X.env=pure false:=by rfl) :
  PS X (.Assign [.Tuple [.Name x px,.Name y py] kt pt] (.Tuple [a,b] k2 pt2) pos) (tS X (qX i j ga)):=(Ik hc hN hi hj hij hx hy ha hw hs).of fun D σ H ⟨ρ,θ,M,hd,hwr,h⟩=>by
 refine mQ hd hwr (cT X θ H D) (fun c M' h=>h) (fun h=>h) h fun ds M1 vs θ1 H1 g1 r1 h1=>?_
 match ds,r1,h1 with
 | [d,e],⟨v,r,e1,rv,v2,r2,e2,rv2,e3⟩,h1=>
  have e3:r2=[]:=e3;subst e3 e2;exact⟨v,v2,e1,h1 _ θ1 H1 g1 (((hd.go g1).set rv i).set rv2 j)⟩
 | [],_,h1=>exact False.elim h1
 | [_],_,h1=>exact False.elim h1
 | _::_::_::_,_,h1=>exact False.elim h1
end
def H0 (K:W.Frag)(a:Addr)(so:Obj)(xs:List V)(ts:List Addr)(bm:Addr)(ob:Obj):Hp:=fun b=>
 if b=a then(if K.lookup a=none then some (.frz so (.lst xs)) else none) else if b∈ts then some (.tbl #[]) else if b=bm then some (Qg ob) else none
structure OD (K:W.Frag)(h:Heap)(ts:List Addr)(bm:Addr)(ob:Obj):Prop where
 tab:∀P∈ts,h.get? P=some (W.tabObj #[])∧isCodeTable h P∧K.lookup P=none
 names:∀x,x∈cW→∀c P,W.tabIn K x=some (c,P)→P∈ts
 bmk:W.nsIn K mainGlobals "__builtins__"=some (some (.ref bm))
 bmh:h.get? bm=some ob
 bmc:ob.cls=.type "module"∧ob.dict=some builtinsNs∧ob.data=.plain
 bmn:bm≠builtinsNs∧bm≠mainGlobals
 bml:K.lookup bm=none
variable{K:W.Frag}{h:Heap}{a:Addr}
theorem DK {so:Obj}{xs:List V}{ts:List Addr}{bm:Addr}{ob:Obj}(L:OD K h ts bm ob)(ha:h.get? a=some so)(sc:so.cls=.type "list"):nQ K (H0 K a so xs ts bm ob):=by
 have neT:∀P∈ts,P≠a:=fun P hP e=>by
  have:=(L.tab P hP).1;rw[e,ha] at this;cases this;cases sc
 have neB:bm≠a:=fun e=>by
  have:=L.bmh;rw[e,ha] at this;cases this;have:=L.bmc.1;rw[sc] at this;simp at this
 have nBT:bm∉ts:=fun hb=>by
  have:=(L.tab bm hb).1;rw[L.bmh] at this;cases this;have:=L.bmc.1;simp at this
 refine⟨fun x hx c P e=>?_,fun x hx c P e=>⟨bm,ob,L.bmk,?_,L.bmc.1,L.bmc.2.1,L.bmc.2.2,L.bmn⟩⟩
 ·have hP:=L.names x hx c P e;refine⟨#[],?_,by simp[TriplesOk],fun pos cv q=>by simp[codeAmong] at q⟩;unfold H0;rw[if_neg (neT P hP),if_pos hP]
 ·unfold H0;rw[if_neg neB,if_neg nBT,if_pos rfl]
variable{mg:Str→Option Value}
theorem By {P:Program}{w:World}{mb:Str→Option Value}{CX:B8}{k:Nat}{fa:Addr}{fd:FuncData}{sp:Sp}{s₁:Shared}{vs:List Value}{ns:List Int}{ts:List Addr}{bm:Addr}{ob:Obj}
  (KX:K.In s₁.heap) (hns:s₁.heap.Ns mainGlobals mg) (hb:s₁.heap.Ns builtinsNs mb) (hbb:∀x:Str,x≠"__name__"→mb x=bootBuiltins x) (hlim:s₁.heap.NoLimit) (hg:s₁.gens=#[])
  (ha:s₁.heap.get? a=some {cls:=.type "list",data:=.seq vs.toArray}) (hi:IntsAre vs ns) (hl:ns.length≤sizeLine) (hr:bR k callerA) (L:OD K s₁.heap ts bm ob)
  (F:∀base:Heap,K.In base→base.Ns mainGlobals mg→eX P w K mg base CX k fa fd [x] sp) (hbind:∀(s:Shared) (u:Value),BindsTo s fd ⟨[u],[]⟩ [(x,u)])
  (hsp:∀H:Hp,nQ K H→pc K H a (ns.map V.int)→sp [.ref a] H (fun v _=>v=.bl true) fun _ _ _=>False)
  (hCX:∀H e s',CX [] H s₁ (fun _ _ _=>False) e s'→False) :
  codeAny (model P w) callerA (.call (.ref fa) ⟨[.ref a],[]⟩) (fun r s'=>r=.ok (.ret (.bool true))∧OldK s₁.heap s'.heap∧s'.os=s₁.os∧AllBare s'.gens) s₁:=by
 have rv:=uY hi;have lenV:=hi.length;have hH:∃H:Hp,H=H0 K a {cls:=.type "list",data:=.seq vs.toArray} (ns.map V.int) ts bm ob:=⟨_,rfl⟩;obtain⟨H,eH⟩:=hH;have tb:nQ K H:=by rw[eH];exact DK L ha rfl
 have at_:∀b u,H b=some u→(b=a∧K.lookup a=none∧u=.frz {cls:=.type "list",data:=.seq vs.toArray} (.lst (ns.map V.int)))∨(b≠a∧b∈ts∧u=.tbl #[])∨(b=bm∧u=Qg ob):=fun b u e=>by
  rw[eH] at e;unfold H0 at e
  by_cases h1:b=a
  ·rw[if_pos h1] at e
   by_cases h2:K.lookup a=none
   ·rw[if_pos h2] at e;cases e;exact .inl ⟨h1,h2,rfl⟩
   ·rw[if_neg h2] at e;cases e
  ·rw[if_neg h1] at e
   by_cases h2:b∈ts
   ·rw[if_pos h2] at e;cases e;exact .inr (.inl ⟨h1,h2,rfl⟩)
   ·rw[if_neg h2] at e
    by_cases h3:b=bm
    ·rw[if_pos h3] at e;cases e;exact .inr (.inr ⟨h3,rfl⟩)
    ·rw[if_neg h3] at e;cases e
 have hok:mU P w H s₁.heap:=fun b u e=>by
  rcases at_ b u e with⟨h1,_,h3⟩|⟨_,h2,h3⟩|⟨h1,h3⟩
  ·subst h1 h3;exact⟨ha,by rw[length_map];exact hl,vs,_,rv,ha⟩
  ·subst h3;exact(L.tab b h2).1
  ·subst h1 h3;exact⟨L.bmh,trivial,⟨_,L.bmh⟩,fun _ _ _ _=>trivial⟩
 have hS:pc K H a (ns.map V.int):=by
  cases hk:K.lookup a with
  | some o=>
   have e:=KX a o hk;rw[ha] at e;cases e;exact .inr ⟨_,vs.toArray,_,hk,rfl,rfl,rfl,by rw[size_toArray,lenV];exact hl,by simpa using rv⟩
  | none=>exact .inl (.inr ⟨{cls:=.type "list",data:=.seq vs.toArray},by rw[eH];unfold H0;rw[if_pos rfl,if_pos hk]⟩)
 have base_of:∀{b:Addr} {o:Obj},s₁.heap.get? b=some o→H b=none→(wu s₁.heap H).get? b=some o:=fun e n=>Cq e n
 have noA:∀{b:Addr} {o:Obj} {es:Array DictEntry} {ep:Nat},s₁.heap.get? b=some o→o.data=.dict es ep→H b=none:=fun {b o es ep} e d=>by
  cases q:H b with
  | none=>rfl
  | some u=>
   exfalso;rcases at_ b u q with⟨h1,_,_⟩|⟨_,h2,_⟩|⟨h1,_⟩
   ·subst h1;rw[ha] at e;cases e;have d':Data.seq vs.toArray _=Data.dict es ep:=d;cases d'
   ·rw[(L.tab b h2).1] at e;cases e;cases d
   ·subst h1;rw[L.bmh] at e;cases e;rw[L.bmc.2.2] at d;cases d
 have nsK:∀{b:Addr} {m:Str→Option Value},s₁.heap.Ns b m→(wu s₁.heap H).Ns b m:=fun {b m} ⟨o,es,ep,e,d,r⟩=>⟨o,es,ep,base_of e (noA e d),d,r⟩
 have hKb:K.In (wu s₁.heap H):=fun b o e=>base_of (KX b o e) (by
  cases q:H b with
  | none=>rfl
  | some u=>
   exfalso;rcases at_ b u q with⟨h1,h2,_⟩|⟨_,h2,_⟩|⟨h1,_⟩
   ·subst h1;rw[h2] at e;cases e
   ·rw[(L.tab b h2).2.2] at e;cases e
   ·subst h1;rw[L.bml] at e;cases e)
 have hM:Mod K mg (wu s₁.heap H):=⟨hKb,nsK hns,⟨mb,nsK hb,hbb⟩,let ⟨mc,h1,h2⟩:=hlim;⟨mc,nsK h1,h2⟩⟩;have e0:tD P w K mg (wu s₁.heap H) callerA [] s₁ H:=⟨rfl,hM,fun b o e=>GU e,Nat.le_of_eq (Bo _ _),trivial,fun b hb=>absurd (show b∈([]:List Addr) from hb) (by simp),hok,.of_eq hg⟩;refine codeAny_mono ((F _ hKb (nsK hns)).run callerA [] s₁ H ⟨[.ref a],[]⟩ [.ref a] [.ref a] _ _ hr e0 (hbind s₁ (.ref a)) (.cons rfl .nil) (hsp H tb hS)) fun r s' h=>?_
 cases r with
 | error e=>exact(hCX H e s' h).elim
 | ok fl=>
  cases fl with
  | next=>exact False.elim h
  | brk=>exact False.elim h
  | cont=>exact False.elim h
  | ret u=>
   obtain⟨v,H',os,bare,un,hok',r',q⟩:=h;have q':v=.bl true:=q;subst q';obtain rfl:u=Value.bool true:=r';refine⟨rfl,⟨fun b o e=>?_,fun b o e=>?_⟩,os,bare⟩
   ·cases q:H b with
    | none=>exact .inl (un.keep b o e q (by intro z;exact absurd (show b∈([]:List Addr) from z) (by simp)) (by simp))
    | some u=>
     rcases at_ b u q with⟨h1,_,h3⟩|⟨_,h2,h3⟩|⟨h1,h3⟩
     ·subst h3;have z2:=un.frzs b _ _ q;obtain⟨e1,_⟩:=hok b _ q;obtain⟨e2,_⟩:=hok' b _ z2;rw[e] at e1;cases e1;exact .inl e2
     ·subst h3;obtain⟨more,z2⟩:=un.tbls b _ q;have e1:s₁.heap.get? b=some {cls:=.none,data:=.fields #[]}:=hok b _ q;have e2:s'.heap.get? b=some {cls:=.none,data:=.fields (#[]++more)}:=hok' b _ z2;rw[e] at e1;cases e1;exact .inr (.inl ⟨(L.tab b h2).2.1,rfl,#[],more,rfl,e2⟩)
     ·subst h3;have z2:=un.frzs b _ _ q;obtain⟨e1,_⟩:=hok b _ q;obtain⟨e2,_⟩:=hok' b _ z2;rw[e] at e1;cases e1;exact .inl e2
   ·exact un.there b o e (by simp)
theorem KY {l:W.OpenLaw}{n k:Nat}{q:Program}{loose:List Str}{XP:(Str→Option Value)→Heap→Prop}{YP:World→Heap→Prop}{d:DefRec}{K:Params→W.Frag}{CX:World→B8}{sp:World→Sp}
  (hn:l.most=some n) (hn2:n≤sizeLine) (hdf:d.params.defaults=[]) (hr:bR k callerA)
  (hY:∀(w:World) (h:Heap),YP w h→(K w.params).In h)
  (F:∀(w:World) (mg:Str→Option Value) (fa:Addr) (h:Heap),(K w.params).In h→h.Ns mainGlobals mg→mg d.name=some (.ref fa)→
   ∃fd:FuncData,(∀(s:Shared) (u:Value),BindsTo s fd ⟨[u],[]⟩ [(x,u)])∧
    ∀base:Heap,(K w.params).In base→base.Ns mainGlobals mg→eX l.prog w (K w.params) mg base (CX w) k fa fd [x] (sp w))
  (tabs:∀w:World,∃(ls:List (Str×DefRec×Addr×Addr)) (bm:Addr),(∀p∈ls,(recsOf q).find? (fun e=>e.name==p.1)=some p.2.1∧W.tabIn (K w.params) p.1=some (p.2.2.1,p.2.2.2)∧(K w.params).lookup p.2.2.2=none)∧
   (∀y,y∈cW→W.nsIn (K w.params) mainGlobals y=some none∨∃p∈ls,p.1=y)∧W.nsIn (K w.params) mainGlobals "__builtins__"=some (some (.ref bm))∧(K w.params).lookup bm=none)
  (hsp:∀(w:World) (H:Hp) (a:Addr) (ns:List Int),ns.length≤n→nQ (K w.params) H→pc (K w.params) H a (ns.map V.int)→sp w [.ref a] H (fun v _=>v=.bl true) fun _ _ _=>False)
  (hCX:∀(w:World) (H:Hp) (s:Shared) (e:Value) (s':Shared),CX w [] H s (fun _ _ _=>False) e s'→False) :
  W.WalkO q loose XP YP l.row.toRowW d [] (fun f vs=>PySem.call f vs):=by
 refine Att.attach_call hn hdf fun w s₀ s₁ mg mb fa o pm cd doc a vs ns G Y ho hd hcd hmg hobj hints hlen hg=>?_
 have KX:=hY w _ Y;obtain⟨fd,hb,hF⟩:=F w mg fa _ KX G.T.g hmg;obtain⟨ls,bm,hls,hnm,hbm,hbl⟩:=tabs w;obtain⟨bm',ob,b1,b2,b3,b4,b5,b6⟩:=G.T.bmain;have eb:bm'=bm:=by
  have:=W.mg_of KX G.T.g hbm;rw[b1] at this;cases this;rfl
 subst eb;have L:OD (K w.params) s₁.heap (ls.map (·.2.2.2)) bm' ob:=by
  refine⟨fun P hP=>?_,fun y hy c P e=>?_,hbm,?_,?_,?_,hbl⟩
  ·obtain⟨p,hp,rfl⟩:=mem_map.mp hP;obtain⟨h1,h2,h3⟩:=hls p hp;obtain⟨c1,c2⟩:=W.tab_of G.T KX h1 h2;exact⟨c2,(c1.tab c2).isCodeTable,h3⟩
  ·rcases hnm y hy with q|⟨p,hp,q⟩
   ·unfold W.tabIn at e;rw[q] at e;cases e
   ·subst q;obtain⟨h1,h2,h3⟩:=hls p hp;rw[h2] at e;cases e;exact mem_map.mpr ⟨p,hp,rfl⟩
  ·exact b3
  ·exact⟨b4,b5,b6⟩
  ·refine⟨b2,fun z=>?_⟩;obtain⟨o',es,ep,e1,e2,_⟩:=G.T.g;rw[←z,b3] at e1;cases e1;rw[b6] at e2;cases e2
 exact By KX G.T.g G.T.b G.T.builtins G.T.nolimit hg hobj hints (Nat.le_trans hlen hn2) hr L hF hb (fun H hT hS=>hsp w H a ns hlen hT hS) fun H e s'=>hCX w H s₁ e s'
def Aw (q:Addr)(fd:FuncData):HO:=.ext fun h=>h.get? q=some {cls:=.type "function",data:=.func fd}
abbrev uQ (qual:Str)(params:Arguments)(body:Expr)(scope:Scope)(pm cv ctv:Value):FuncData:=W.kla_fn "<lambda>" qual params body scope [] pm cv ctv
variable{P:Program}{w:World}{H:Hp}
theorem FN {c:Addr}{q:Str}(ok:mU P w H h)(e:H c=some (ka c q)):h.CodeRec (.ref c) q:=(ok c _ e).1
variable{fd:FuncData}
theorem MV {q:Addr}(ok:mU P w H h)(e:H q=some (Aw q fd)):h.get? q=some {cls:=.type "function",data:=.func fd}:=(ok q _ e).1
def yJ (k:Nat)(g:GE):FD:=fun ds M=>g (kJ k ds) M
variable{base:Heap}{params:Arguments}{body:Expr}{scope:Scope}
theorem KI {qual:Str}{pm ctv:Value}{q c:Addr}{N ps:List Str}{k n:Nat}{g:GE}
  (S:fF N ps scope) (hn:ps.length=n)
  (hbody:∀(A:Around) (outer:List Env) (s:Shared) (H:Hp) (E:XK),bR k (A.deeper (envOfC qual scope s.heap.objs.size q (.ref c)))→
   PE (iX (iZ P w) P w K mg base N qual scope q (.ref c) A outer s H E) body (tE (iX (iZ P w) P w K mg base N qual scope q (.ref c) A outer s H E) g)) :
  eX P w K mg base (iZ P w) (k+1) q (uQ qual params body scope pm (.ref c) ctv) ps (fun vs H Q E=>H q=some (Aw q (uQ qual params body scope pm (.ref c) ctv))∧H c=some (ka c qual)∧oy K n (yJ (N.length-n) g) vs H Q E):=by
 refine⟨fun vs H Q E h=>qY hn vs H Q E h.2.2,fun A outer s H args us vs Q E hr e0 hb r hsp=>?_⟩;obtain⟨hq,hc,hsp⟩:=hsp;have hl:vs.length=ps.length:=qY hn vs H Q E hsp;have lim:s.heap.NoLimit:=e0.mod.nolimit.keeps fun b o e=>(e0.bs b o e).1
 have hkind:∀y∈ps.zip us,scope.names.lookup y.1=some .local∨(scope.names.lookup y.1=some .cell∧((cellsFrom (s.heap.objs.size+1) scope.names []).lookup y.1).isSome=true):=fun⟨m,v⟩ hy=>by
  rcases S.par m (of_mem_zip hy).1 with z|z
  ·exact .inl z
  ·exact .inr ⟨z,W.cellsFrom_some _ _ _ (.inl z)⟩
 refine W.kla_callFunE hr.depth (MV e0.hok hq) rfl S.co S.gen rfl (FN e0.hok hc) (hb _ _ _ _ ?_);refine wpAny_newFunctionEnv_cells S.kind hkind fun env he s1 x=>?_
 subst he;refine⟨lim.keeps x.toInCall.keep,W.kla_codeExpr ?_⟩;have I:L2.Inv (iX (iZ P w) P w K mg base N qual scope q (.ref c) A outer s H E) [] (L2.start N vs) H s1:=uX S hr.hd e0 hl r x;obtain⟨θ,M,ds,hld,rd,hw,h⟩:=hsp;have hv:vs.length=n:=by rw[←aJ rd];exact hld
 refine wpAny_mono (hbody A outer s H E (hr.deeper _) [] s1 (L2.start N vs) H Q I ⟨kJ (N.length-n) ds,θ,M,by rw[←hv];exact IN rd N,hw,?_⟩) (fun u s' hs=>?_) fun e s' hs=>hs
 ·have h:yD K θ H Q E (g (kJ (N.length-n) ds) M):=h;cases q:g (kJ (N.length-n) ds) M with
  | bad=>rw[q] at h;exact h
  | err c M1=>
   rw[q] at h;have h:Ep K θ H E c M1:=h;exact fun C θ' H' a s' kC g1 fl=>nY fl (h C θ' H' a kC g1)
  | ok d M1=>rw[q] at h;exact h
 ·obtain⟨v,H',J,rv,q⟩:=hs;exact⟨v,H',J.os,J.bare,J.base,J.hok,rv,q⟩
structure xU (K:W.Frag)(x:Str)(c P:Addr):Prop where
 mem:x∈cW
 tab:W.tabIn K x=some (c,P)
 uniq:∀y,y∈cW→y≠x→∀c2,W.tabIn K y≠some (c2,P)
 hd:∃o vs file tf flags tg inF text tt,K.lookup c=some o∧o.cls=.type "code"∧o.data=.fields vs∧vs[11]?=some (.ref P)∧vs.getD 11 .none=.ref P∧vs.getD 18 .none=.str file tf∧
  vs.getD 7 .none=.int flags tg∧vs.getD 9 .none=.bool inF∧vs.getD 10 .none=.int text tt∧c≠P
variable{pos:Pos}
theorem zj {a b:Int}{c cv:Value}(l:List Value)(h:TriplesOk l)(e:codeAmong pos (l++[rawInt a,rawInt b,c])=some cv):codeAmong pos l=some cv∨cv=c:=by
 fun_induction TriplesOk l with
 | case1=>
  simp only[nil_append,codeAmong,rawInt] at e;split at e
  ·exact .inr (Option.some.inj e).symm
  ·cases e
 | case2 a' t b' u x rest ih=>
  simp only[cons_append,codeAmong] at e ⊢;split at e
  ·rename_i hc;rw[if_pos hc];exact .inl e
  ·rename_i hc;rw[if_neg hc];exact ih h e
 | case3 l h1 h2=>exact h.elim
structure Po (X:Cx)(θ:List Addr)(H:Hp)(M:aB)(qual:Str)(params:Arguments)(body:Expr)(scope:Scope)(u:Value)(H':Hp):Prop where
 ex:∃q c pm ctv,u=.ref q∧H q=none∧H' q=some (Aw q (uQ qual params body scope pm (.ref c) ctv))∧H' c=some (ka c qual)
 go:Go X.K θ H θ H' M
theorem Ab {φ:Heap→Prop}(h1:φ h)(h2:∃o,h.get? a=some o)(h3:∀h1 h2:Heap,φ h1→(∀o,h1.get? a=some o→h2.get? a=some o)→φ h2):dq P w H h a (.ext φ):=⟨h1,h2,h3⟩
variable{s:Shared}{θ:List Addr}
theorem Ez {X:Cx}{ah:List (Addr×Obj)}{σ:L2.St}{M:aB}{c P:Addr}
  (I:L2.Inv X ah σ H s) (hw:Wr X.K θ H M) (T:xU X.K x c P) (hcode:X.env.code=.ref c) (hglob:X.env.globals=mainGlobals) (hq:X.env.qual++("<lambda>":Str)=cM x)
  (hcl:closureFor scope X.env=pure []) (hd:defaultsOf params X.env=([],[])) :
  wpAny (model X.prog X.w) X.A (eval (.Lambda params body scope pos) X.env) (fun u s'=>∃H',L2.Inv X ah σ H' s'∧Po X θ H M (cM x) params body scope u H') X.xe s:=by
 obtain⟨ps,hP,hT,hC⟩:=hw.tb.tab x T.mem c P T.tab;obtain⟨bm,ob,b1,b2,b3,b4,b5,b6,b7⟩:=hw.tb.bm x T.mem c P T.tab;have hPo:s.heap.get? P=some (W.tabObj ps):=I.hok P _ hP;have CH:W.CodeHd s.heap c P:=by
  obtain⟨o,vs,file,tf,flags,tg,inF,text,tt,e,r⟩:=T.hd;exact⟨o,vs,file,tf,flags,tg,inF,text,tt,I.kIn _ _ e,r⟩
 have hbo:s.heap.get? bm=some ob:=(I.hok bm _ b2).1;have hg:s.heap.Ns mainGlobals X.mg:=I.mod.glob.keeps I.bk;have hmgb:X.mg "__builtins__"=some (.ref bm):=W.mg_of I.kIn hg b1;have nbP:bm≠P:=fun z=>by rw[z,hP] at b2;cases b2
 have hb:s.heap.BuiltinsAt X.mg P:=⟨bm,ob,hmgb,b6,b7,nbP,hbo,b3,b4,b5⟩;have hgP:mainGlobals≠P:=fun z=>by
  obtain⟨o,es,ep,e1,e2,_⟩:=hg;rw[z,hPo] at e1;cases e1;cases e2
 rw[arm_eval_Lambda,hd];refine wpAny_bind (wpAny_evalAll_nil ?_);refine wpAny_bind (wpAny_holding (wpAny_pure ?_));rw[hq];have neP:∀b u,H b=some u→(∀ps,u≠.tbl ps)→b≠P:=fun b u e n z=>by rw[z,hP] at e;cases e;exact n _ rfl
 cases hf:codeAmong pos ps.toList with
 | some cv=>
  obtain⟨c',rfl,hc'⟩:=hC pos cv hf;refine W.kla_makeFunctionHit hcl hglob hg hcode CH hPo hT hf hb fun ctv h' tk hk hz=>?_
  have nq:H h'.objs.size=none:=I.hok.fresh hz;have nec:c'≠h'.objs.size:=fun z=>by rw[←z,hc'] at nq;cases nq
  refine⟨cR H h'.objs.size (Aw h'.objs.size _),I.laid (t':=tk) (fun b o e=>Heap.get?_push_of_some _ (hk b o e)) hz (Ab (Heap.get?_push_size _ rfl) ⟨_,Heap.get?_push_size _ rfl⟩ fun h1 h2 e k=>k _ e),⟨_,c',_,ctv,rfl,nq,bX,by rw[aQ nec];exact hc'⟩,fm hw nq⟩
 | none=>
  refine W.kla_makeFunction hcl hglob hg hcode CH hPo hT hf hgP hb fun c' ctv h' tk hx hge hlt hrec htab=>?_
  have szle:s.heap.objs.size≤h'.objs.size:=Nat.le_of_lt (Nat.lt_of_le_of_lt hge hlt);have nq:H h'.objs.size=none:=I.hok.fresh szle;have nc:H c'=none:=I.hok.fresh hge;have ncq:c'≠h'.objs.size:=Nat.ne_of_lt hlt;have nPc:P≠c':=fun z=>by rw[←z,hP] at nc;cases nc
  have nPq:P≠h'.objs.size:=fun z=>by rw[←z,hP] at nq;cases nq
  let fd:FuncData:=uQ (cM x) params body scope ((X.mg "__name__").getD .none) (.ref c') ctv
  let H':Hp:=cR (cR (cR H P (.tbl (ps++#[rawInt pos.line,rawInt pos.col,.ref c']))) c' (ka c' (cM x))) h'.objs.size (Aw h'.objs.size fd)
  have atq:H' h'.objs.size=some (Aw h'.objs.size fd):=bX;have atc:H' c'=some (ka c' (cM x)):=by show cR _ _ _ c'=_;rw[aQ ncq,bX]
  have atP:H' P=some (.tbl (ps++#[rawInt pos.line,rawInt pos.col,.ref c'])):=by show cR _ _ _ P=_;rw[aQ nPq,aQ nPc,bX]
  have atb:∀b u,H b=some u→b≠P→H' b=some u:=fun b u e n=>by
   have n1:b≠h'.objs.size:=fun z=>by rw[z,nq] at e;cases e
   have n2:b≠c':=fun z=>by rw[z,nc] at e;cases e
   show cR _ _ _ b=_;rw[aQ n1,aQ n2,aQ n];exact e
  have kp:∀b o,b≠P→s.heap.get? b=some o→(h'.push (W.kla_obj "<lambda>" (cM x) params body scope [] ((X.mg "__name__").getD .none) c' ctv)).get? b=some o:=fun b o n e=>Heap.get?_push_of_some _ (hx b o n e)
  have un:Un X.fs [] H H' s.heap (h'.push (W.kla_obj "<lambda>" (cM x) params body scope [] ((X.mg "__name__").getD .none) c' ctv)):=by
   have ne:∀b o,s.heap.get? b=some o→H b=none→b≠P:=fun b o _ n z=>by rw[z,hP] at n;cases n
   refine⟨fun b o e n _ _=>kp b o (ne b o e n) e,fun b o e n _ _=>⟨o.slots,kp b o (ne b o e n) e⟩,fun b o e n _=>?_,fun b o e _=>?_,fun b xs e=>atb b _ e (neP b _ e (by intro _ z;cases z)),fun b o u e=>atb b _ e (neP b _ e (by intro _ z;cases z)),fun b qs e=>?_⟩
   ·have n1:b≠h'.objs.size:=Nat.ne_of_lt (Nat.lt_of_lt_of_le (Heap.lt_size e) szle);have n2:b≠c':=Nat.ne_of_lt (Nat.lt_of_lt_of_le (Heap.lt_size e) hge);show cR _ _ _ b=_;rw[aQ n1,aQ n2,aQ (ne b o e n)];exact n
   ·by_cases hb:b=P
    ·exact⟨_,by rw[hb];exact Heap.get?_push_of_some _ htab⟩
    ·exact⟨o,kp b o hb e⟩
   ·by_cases hb:b=P
    ·subst hb;rw[hP] at e;cases e;exact⟨_,atP⟩
    ·exact⟨#[],by rw[atb b _ e hb];simp⟩
  have hok:mU X.prog X.w H' (h'.push (W.kla_obj "<lambda>" (cM x) params body scope [] ((X.mg "__name__").getD .none) c' ctv)):=fun b u e=>by
   by_cases h1:b=h'.objs.size
   ·subst h1;rw[atq] at e;cases e;exact Ab (Heap.get?_push_size _ rfl) ⟨_,Heap.get?_push_size _ rfl⟩ fun h1 h2 e k=>k _ e
   ·by_cases h2:b=c'
    ·subst h2;rw[atc] at e;cases e;refine Ab (hrec.keeps fun b o e=>Heap.get?_push_of_some _ e) ?_ fun h1 h2 e k=>e.at k
     obtain⟨c2,o,vs,t,e1,e2,_⟩:=hrec;cases e1;exact⟨o,Heap.get?_push_of_some _ e2⟩
    ·by_cases h3:b=P
     ·subst h3;rw[atP] at e;cases e;exact Heap.get?_push_of_some _ htab
     ·have e:cR (cR (cR H P _) c' _) h'.objs.size _ b=some u:=e;rw[aQ h1,aQ h2,aQ h3] at e;refine(I.hok b u e).stay (fun b' v hb' z=>kp b' v ?_ z) (fun b' z=>atb b' _ z (neP b' _ z (by intro _ y;cases y))) fun b' xs z=>atb b' _ z (neP b' _ z (by intro _ y;cases y))
      rcases hb' with z|z
      ·rw[z];exact h3
      ·exact neP b' _ z (by intro _ y;cases y)
  refine⟨H',I.un (t':=tk) un hok,⟨h'.objs.size,c',_,ctv,rfl,nq,atq,atc⟩,?_⟩;have gr:Grow θ H θ H':=⟨⟨[],by simp,fun _ z=>by cases z⟩,fun b u e _ n=>atb b u e (neP b u e n),fun b qs e=>by
   by_cases hb:b=P
   ·rw[hb];exact⟨_,atP⟩
   ·exact⟨qs,atb b _ e hb⟩⟩
  refine⟨gr,hw.len,hw.nd,fun i a m h1 h2=>?_,?_,?_⟩
  ·have ok:=hw.at_ i a m h1 h2;obtain⟨o,eo,po⟩:=ok.plain;have e:H' a=H a:=by
    rw[eo];exact atb a o eo (neP a o eo (by intro qs z;subst z;cases po))
   exact ok.grow gr e
  ·intro y hy c2 P2 e2;obtain⟨qs,q1,q2,q3⟩:=hw.tb.tab y hy c2 P2 e2
   by_cases hPP:P2=P
   ·have hyx:y=x:=by
     refine Classical.byContradiction fun z=>?_
     rw[hPP] at e2;exact T.uniq y hy z c2 e2
    subst hyx hPP;rw[hP] at q1;cases q1;refine⟨_,atP,?_,fun pos' cv z=>?_⟩
    ·rw[Array.toList_append];exact TriplesOk_snoc _ _ _ _ q2
    ·rw[Array.toList_append] at z;rcases zj _ q2 z with z|z
     ·obtain⟨c3,e3,e4⟩:=q3 pos' cv z;exact⟨c3,e3,atb c3 _ e4 (neP c3 _ e4 (by intro _ y;cases y))⟩
     ·exact⟨c',z,atc⟩
   ·refine⟨qs,atb P2 _ q1 hPP,q2,fun pos' cv z=>?_⟩;obtain⟨c3,e3,e4⟩:=q3 pos' cv z;exact⟨c3,e3,atb c3 _ e4 (neP c3 _ e4 (by intro _ y;cases y))⟩
  ·intro y hy c2 P2 e2;obtain⟨bm2,ob2,z1,z2,r⟩:=hw.tb.bm y hy c2 P2 e2;exact⟨bm2,ob2,z1,atb bm2 _ z2 (neP bm2 _ z2 (by intro _ y;cases y)),r⟩
def sK:List D→Option (List Int)
 | []=>some []
 | .int i::r=>(sK r).map (i::·)
 | _=>none
def uJ:D→Option (List Int)
 | .tup ds=>sK ds
 | _=>none
theorem xx {K:W.Frag}{θ:List Addr}{H:Hp}:∀{ds:List D} {ks:List Int} {vs:List V},sK ds=some ks→bO K θ H ds vs→vs=ks.map V.int
 | [],ks,vs,h,r=>by cases h;exact r
 | d::ds,ks,vs,h,r=>by
  obtain⟨v,rr,e,h1,h2⟩:=r;cases d with
  | int i=>
   cases q:sK ds with
   | none=>simp[sK,q] at h
   | some l=>
    simp[sK,q] at h;subst h;have h1:v=.int i:=h1;rw[e,h1,xx q h2];rfl
  | _=>cases h
theorem wV {d:D}{ks:List Int}{v:V}(h:uJ d=some ks)(r:fA K θ H d v):∃a,v=.ref a∧oV K θ H a (ks.map V.int):=by
 cases d with
 | tup ds=>
  obtain⟨a,vs,e,t,rs⟩:=r;have:=xx (show sK ds=some ks from h) rs;subst this;exact⟨a,e,t⟩
 | _=>cases h
def qE (F:FD):List D→D→List Int→aB→bj D
 | [],b,_,M=>.ok b M
 | d::r,b,kb,M=>match F [d] M with
  | .ok k M1=>match uJ k with
   | some ks=>if HT.lexLt ks kb then qE F r d ks M1 else qE F r b kb M1
   | none=>.bad
  | _=>.bad
def pR (F:FD)(ds:List D)(M:aB):bj D:=match ds with
 | []=>.bad
 | d::r=>match F [d] M with
  | .ok k M1=>match uJ k with
   | some ks=>qE F r d ks M1
   | none=>.bad
  | _=>.bad
variable{Q:VK}{ds0:List D}
section
variable {X:Cx}{ah:List (Addr×Obj)}{σ:L2.St}{q c:Addr}{fd:FuncData}{px qual:Str}{k:Nat}{F:FD}
theorem xi {u:Value}{v:V}{E:Value→Shared→Prop}{M M1:aB}{d kd:D}
  (Fn:eX X.prog X.w X.K X.mg X.base (iZ X.prog X.w) k q fd [px] (fun vs H Q E=>H q=some (Aw q fd)∧H c=some (ka c qual)∧oy X.K 1 F vs H Q E)) (hr:bR k X.A.in1) (hb:∀(s:Shared) (u:Value),BindsTo s fd ⟨[u],[]⟩ [(px,u)])
  (I:L2.Inv X ah σ H s) (hq:H q=some (Aw q fd)) (hc:H c=some (ka c qual)) (hw:Wr X.K θ H M) (rv:bC v u) (rd:fA X.K θ H d v) (e:F [d] M=.ok kd M1)
  (hQ:∀v' θ' H',Go X.K θ H θ' H' M1→fA X.K θ' H' kd v'→Q v' H'):wpAny (model X.prog X.w) X.A.in1 (call (.ref q) [u]) (EP X ah σ Q) E s:=by
 refine wpAny_call (codeAny_mono (Fn.run X.A.in1 X.stack s H ⟨[u],[]⟩ [u] [v] Q (fun _ _ _=>False) hr I.env0.in1 (hb s u) (.cons rv .nil) ⟨hq,hc,θ,M,[d],rfl,⟨v,[],rfl,rd,rfl⟩,hw,by rw[e];exact hQ⟩) fun r s' hq=>?_);cases r with
 | error e=>
  have hq:iZ X.prog X.w X.stack H s (fun _ _ _=>False) e s':=hq;obtain⟨_,_,_,_,_,_,_,_,_,_,_,_,_,_,z⟩:=hq;exact z.elim
 | ok fl=>
  cases fl with
  | ret u=>exact I.after hq
  | next=>exact False.elim hq
  | brk=>exact False.elim hq
  | cont=>exact False.elim hq
theorem AG {H':Hp}{b:Addr}(h:kQ X ah H b)(n:H' b=none):kQ X ah H' b:=⟨n,h.2⟩
theorem NE {b:Addr}{oa ob:Obj}(I:L2.Inv X ah σ H s)(fa:kQ X ah H a)(fb:kQ X ah H b)(ea:s.heap.get? a=some oa)(eb:s.heap.get? b=some ob)(da:∀v,oa.data≠.cell v)(db:∀v,ob.data≠.cell v) :
  L2.Inv X (ah++[(a,oa),(b,ob)]) σ H s:=I.pins_of fun p hp=>by
 rcases mem_append.mp hp with z|z
 ·exact I.pin p (mem_append_right _ z)
 ·simp only[mem_cons,mem_nil_iff,or_false] at z;rcases z with z|z <;> subst z
  ·exact⟨ea,fa.1,fa.2.1,fa.2.2.1,da⟩
  ·exact⟨eb,fb.1,fb.2.1,fb.2.2.1,db⟩
theorem Dr {b:Addr}{oa ob:Obj}(I:L2.Inv X (ah++[(a,oa),(b,ob)]) σ H s):L2.Inv X ah σ H s∧(s.heap.get? a=some oa∧H a=none)∧(s.heap.get? b=some ob∧H b=none):=by
 have p1:=I.pin (a,oa) (mem_append_right _ (mem_append_right _ (by simp)));have p2:=I.pin (b,ob) (mem_append_right _ (mem_append_right _ (by simp)));exact⟨I.unpinned,⟨p1.1,p1.2.1⟩,p2.1,p2.2.1⟩
theorem Ct {l it S:Addr}{R:Result→Shared→Prop}
  (Fn:eX X.prog X.w X.K X.mg X.base (iZ X.prog X.w) k q fd [px] (fun vs H Q E=>H q=some (Aw q fd)∧H c=some (ka c qual)∧oy X.K 1 F vs H Q E)) (hr:bR (k+1) X.A) (hb:∀(s:Shared) (u:Value),BindsTo s fd ⟨[u],[]⟩ [(px,u)]) (hcalm:X.calm=true)
  (hnI:S≠it) (hR:∀u s',EP X ah σ Q u s'→R (.ok (.ret u)) s') :
  ∀(rest:List D) (j:Nat) (s:Shared) (H:Hp) (θ:List Addr) (M:aB) (b:D) (kb:List Int) (vb ukb:V) (ub ukv:Value) (n:Nat) (vs:List V),ds0.drop j=rest→L2.Inv X ah σ H s→kQ X ah H it→kQ X ah H S→s.heap.IsListIter it l j→s.heap.get? S=some (seqObj "list" #[ub,ukv] n)→
   Wr X.K θ H M→uf X.K θ H l vs→bO X.K θ H ds0 vs→H q=some (Aw q fd)→H c=some (ka c qual)→fA X.K θ H b vb→bC vb ub→(∃a,ukb=.ref a∧oV X.K θ H a (kb.map V.int))→bC ukb ukv→bh X θ H Q (qE F rest b kb M)→
   codeAny (model X.prog X.w) X.A (.builtin "min.loop" ⟨[.ref it,.ref q,.ref S],[]⟩) R s:=by
 have hname:(toString "min"++toString ".loop":String)="min.loop":=by decide
 have hr1:bR k X.A.in1:=hr.in1;intro rest
 induction rest with
 | nil=>
  intro j s H θ M b kb vb ukb ub ukv n vs hd I fi fS st eS hw ta r hq hc rb rvb rk rvk h;refine codeAny_builtin PySem.F.entry_min_loop ?_;rw[Around.under_plainId PySem.F.plain_min_loop _];show wpAny _ X.A.in1 (seqItems? (.ref S) >>= _) _ _ _;refine wpAny_bind (wpAny_seqItems eS rfl ?_);obtain⟨its,rv,p,hz⟩:=I.list ta.sq;have hlen:vs.length≤j:=by rw[←aJ r];exact drop_eq_nil_iff.mp hd
  have hl:=rv.length;show wpAny _ X.A.in1 (tryCatch (pyNext (.ref it)) _ >>= _) _ _ _;refine wpAny_bind (wpAny_tryCatch (wpAny_pyNext_list_end (show X.A.in1.handled=none from I.ok.hd hcalm) st p.isList (by simp;omega) fun h' eb=>?_));have I1:L2.Inv X ah σ H {s with heap:=h'}:=I.turned (t':=s.toks) (fun b o hb e=>eb b o hb e) fi.1 fi.2.1 fi.2.2.2.1 fi.2.2.2.2.1 fi.2.2.2.2.2;have eS':h'.get? S=some (seqObj "list" #[ub,ukv] n):=eb S _ hnI eS;show wpAny _ X.A.in1 (updateSeq S (fun _=>#[]) >>= _) _ _ _;refine wpAny_bind (wpAny_updateSeq eS' rfl (wpAny_bind (wpAny_letGo (wpAny_pure ?_))));have I2:L2.Inv X ah σ H {s with heap:=h'.update S (Obj.mapSeq fun _=>#[])}:=I1.turned (t':=s.toks) (fun b o hb e=>(Heap.get?_update_other h' _ (Ne.symm hb)).trans e) fS.1 fS.2.1 fS.2.2.2.1 fS.2.2.2.2.1 fS.2.2.2.2.2;exact hR ub _ ⟨vb,H,I2,rvb,h vb θ H (.refl hw) rb⟩
 | cons d rest ih=>
  intro j s H θ M b kb vb ukb ub ukv n vs hd I fi fS st eS hw ta r hq hc rb rvb rk rvk h;have hj:ds0[j]?=some d:=by
   have:=congrArg (·[0]?) hd;simpa using this
  have hd':ds0.drop (j+1)=rest:=by
   rw[←drop_drop,hd];rfl
  obtain⟨v,ev,rdv⟩:=gZ r hj;refine codeAny_builtin PySem.F.entry_min_loop ?_;rw[Around.under_plainId PySem.F.plain_min_loop _];show wpAny _ X.A.in1 (seqItems? (.ref S) >>= _) _ _ _;refine wpAny_bind (wpAny_seqItems eS rfl ?_);obtain⟨its,rv,p,hz⟩:=I.list ta.sq;obtain⟨u,eu,ru⟩:=rv.get ev;show wpAny _ X.A.in1 (tryCatch (pyNext (.ref it)) _ >>= _) _ _ _;refine wpAny_bind (wpAny_tryCatch (wpAny_pyNext_list_item st p.isList (x:=u) (by simpa using eu) fun h' st' sb=>?_));have I1:L2.Inv X ah σ H {s with heap:=h'}:=I.turned (t':=s.toks) (fun b o hb e=>(sb.2 b hb).trans e) fi.1 fi.2.1 fi.2.2.2.1 fi.2.2.2.2.1 fi.2.2.2.2.2;have eS1:h'.get? S=some (seqObj "list" #[ub,ukv] n):=(sb.2 S hnI).trans eS;obtain⟨oI,hoI,cI,dI⟩:=id st';have I1p:=NE I1 fS fi eS1 hoI (by intro v z;cases z) (by intro v z;rw[dI] at z;cases z);unfold qE at h;cases eF:F [d] M with
  | bad=>rw[eF] at h;exact h.elim
  | err _ _=>rw[eF] at h;exact h.elim
  | ok kd M1=>
   rw[eF] at h;dsimp only at h;cases eK:uJ kd with
   | none=>rw[eK] at h;exact h.elim
   | some ks=>
    rw[eK] at h;dsimp only at h;show wpAny _ X.A.in1 (tryCatch (holding [u] (call (.ref q) [u])) _ >>= _) _ _ _;refine wpAny_bind (wpAny_tryCatch (wpAny_holding (cZ (xi (Q:=fun v' H'=>∃θ',Go X.K θ H θ' H' M1∧fA X.K θ' H' kd v') Fn hr1 hb I1p hq hc hw ru rdv eF fun v' θ' H' g rd=>⟨θ',g,rd⟩) fun uk s2 ⟨vk,H2,I2p,rvk2,θ2,g2,rk2⟩=>?_)));obtain⟨I2,⟨eS2,nS2⟩,eI2,nI2⟩:=Dr I2p;have fS2:=AG fS nS2;have fi2:=AG fi nI2;have st2:s2.heap.IsListIter it l (j+1):=⟨oI,eI2,cI,dI⟩;obtain⟨ak,eak,tk2⟩:=wV eK rk2;obtain⟨ab,eab,tb2⟩:=rk;have tb2:=tb2.grow g2.toGrow;subst eak eab;have ek:uk=.ref ak:=rvk2;have eb':ukv=.ref ab:=rvk;subst ek eb';obtain⟨i1,r1,p1,_⟩:=I2.tuple tk2.sq;obtain⟨i2,r2,p2,_⟩:=I2.tuple tb2.sq;have hq2:H2 q=some (Aw q fd):=g2.keep q _ hq (fun z=>by
     obtain⟨i,hi,e⟩:=mem_iff_getElem.mp z;obtain⟨o,eo,po⟩:=hw.plain (i:=i) (by rw[getElem?_eq_getElem hi,e]);rw[hq] at eo;cases eo;cases po) (by intro _ z;cases z)
    have hc2:H2 c=some (ka c qual):=g2.keep c _ hc (fun z=>by
     obtain⟨i,hi,e⟩:=mem_iff_getElem.mp z;obtain⟨o,eo,po⟩:=hw.plain (i:=i) (by rw[getElem?_eq_getElem hi,e]);rw[hc] at eo;cases eo;cases po) (by intro _ z;cases z)
    have h2:=bh.go g2 h;show wpAny _ X.A.in1 (tryCatch (holding [u,.ref ak] (richCompare .Lt (.ref ak) (.ref ab) >>= _)) _ >>= _) _ _ _;refine wpAny_bind (wpAny_tryCatch (wpAny_holding (wpAny_bind (HT.lt_tupInts p1 p2 (sT r1) (sT r2) hr1.units0 ?_))));refine wpAny_bind (wpAny_holding (wpAny_truthy_bool ?_));refine wpAny_bind (wpAny_letGo (wpAny_pure ?_))
    by_cases hlt:HT.lexLt ks kb=true
    ·rw[if_pos hlt] at h2;simp only[hlt,if_true];refine wpAny_bind (wpAny_updateSeq eS2 rfl (wpAny_bind (wpAny_letGo ?_)));rw[hname];obtain⟨n3,eS3⟩:∃n3,(s2.heap.update S (Obj.mapSeq fun _=>#[u,.ref ak])).get? S=some (seqObj "list" #[u,.ref ak] n3):=⟨_,get?_update_seq eS2 fun _=>#[u,.ref ak]⟩;have kp:∀b o,b≠S→s2.heap.get? b=some o→(s2.heap.update S (Obj.mapSeq fun _=>#[u,.ref ak])).get? b=some o:=fun b o hb e=>(Heap.get?_update_other s2.heap _ (Ne.symm hb)).trans e
     have I3:L2.Inv X ah σ H2 {s2 with heap:=s2.heap.update S (Obj.mapSeq fun _=>#[u,.ref ak])}:=I2.turned (t':=s2.toks) kp fS2.1 fS2.2.1 fS2.2.2.2.1 fS2.2.2.2.2.1 fS2.2.2.2.2.2;exact wpAny_pure ⟨plainId_quiet PySem.F.plain_min_loop _,ih (j+1) _ H2 θ2 M1 d ks v _ u (.ref ak) n3 vs hd' I3 fi2 fS2 ⟨oI,kp it oI (Ne.symm hnI) eI2,cI,dI⟩ eS3 g2.wr (ta.grow g2.toGrow) (r.go g2) hq2 hc2 (rdv.go g2) ru ⟨ak,rfl,tk2⟩ rfl h2⟩
    ·have hlt':HT.lexLt ks kb=false:=by simpa using hlt
     rw[if_neg hlt] at h2;simp only[hlt',Bool.false_eq_true,if_false];refine wpAny_bind (wpAny_letGo ?_);rw[hname];exact wpAny_pure ⟨plainId_quiet PySem.F.plain_min_loop _,ih (j+1) s2 H2 θ2 M1 b kb vb _ ub (.ref ab) n vs hd' I2 fi2 fS2 st2 eS2 g2.wr (ta.grow g2.toGrow) (r.go g2) hq2 hc2 (rb.go g2) rvb ⟨ab,rfl,tb2⟩ rfl h2⟩
end
section
variable {X:Cx}{ah:List (Addr×Obj)}{σ:L2.St}{q c:Addr}{fd:FuncData}{px qual:Str}{k:Nat}{F:FD}
theorem CI {l:Addr}{M:aB}{vs:List V}
  (Fn:eX X.prog X.w X.K X.mg X.base (iZ X.prog X.w) k q fd [px] (fun vs H Q E=>H q=some (Aw q fd)∧H c=some (ka c qual)∧oy X.K 1 F vs H Q E)) (hr:bR (k+1) X.A) (hb:∀(s:Shared) (u:Value),BindsTo s fd ⟨[u],[]⟩ [(px,u)]) (hcalm:X.calm=true)
  (I:L2.Inv X ah σ H s) (hw:Wr X.K θ H M) (ta:uf X.K θ H l vs) (r:bO X.K θ H ds0 vs) (hq:H q=some (Aw q fd)) (hc:H c=some (ka c qual)) (h:bh X θ H Q (pR F ds0 M)) :
  wpAny (model X.prog X.w) X.A (call (.builtin "min") [.ref l] [(Str.ofString "key",.ref q)]) (EP X ah σ Q) X.xe s:=by
 have hname:(toString "min"++toString ".loop":String)="min.loop":=by decide
 have hr1:bR k X.A.in1:=hr.in1;cases ds0 with
 | nil=>exact h.elim
 | cons d rest=>
  unfold pR at h;dsimp only at h;cases eF:F [d] M with
  | bad=>rw[eF] at h;exact h.elim
  | err _ _=>rw[eF] at h;exact h.elim
  | ok kd M1=>
   rw[eF] at h;dsimp only at h;cases eK:uJ kd with
   | none=>rw[eK] at h;exact h.elim
   | some ks=>
    rw[eK] at h;dsimp only at h;obtain⟨v,ev,rdv⟩:=gZ (i:=0) r rfl;obtain⟨its,rv,p,hz⟩:=I.list ta.sq;obtain⟨u,eu,ru⟩:=rv.get ev;refine kmk_tree PySem.F.kind_min PySem.F.plain_min PySem.F.entry_min (kmk_min_key _ _) ?_;show wpAny _ X.A.in1 (Builtin.Builtins.bindParams "min" ["key","default"] 0 ⟨[],[(Str.ofString "key",.ref q)]⟩ >>= _) _ _ s;refine wpAny_bind (wpAny_of_eq (show Builtin.Builtins.bindParams "min" ["key","default"] 0 ⟨[],[(Str.ofString "key",.ref q)]⟩=pure [some (.ref q),none] from rfl) ?_);refine wpAny_bind (wpAny_pure ?_);refine wpAny_bind (wpAny_pyIter_list p.isList ?_);refine wpAny_bind (wpAny_newList ?_ (Nat.zero_le _));rw[hname];have hS:(s.heap.push {cls:=.type "list_iterator",data:=.fields #[.ref l,.int 0 0]}).objs.size=s.heap.objs.size+1:=size_push' ..;have fi:kQ X ah H s.heap.objs.size:=I.fpOk (Nat.le_refl _) (I.hok.fresh (Nat.le_refl _));have leS:s.heap.objs.size≤(s.heap.push {cls:=.type "list_iterator",data:=.fields #[.ref l,.int 0 0]}).objs.size:=by rw[hS];exact Nat.le_succ _
    have fS:kQ X ah H (s.heap.push {cls:=.type "list_iterator",data:=.fields #[.ref l,.int 0 0]}).objs.size:=I.fpOk leS (I.hok.fresh leS);have hnI:(s.heap.push {cls:=.type "list_iterator",data:=.fields #[.ref l,.int 0 0]}).objs.size≠s.heap.objs.size:=by rw[hS];exact Nat.ne_of_gt (Nat.lt_succ_self _)
    have gI:((s.heap.push {cls:=.type "list_iterator",data:=.fields #[.ref l,.int 0 0]}).push (seqObj "list" #[] 0)).get? s.heap.objs.size=some {cls:=.type "list_iterator",data:=.fields #[.ref l,.int 0 0]}:=Heap.get?_push_of_some _ (Heap.get?_push_size _ rfl);have gS:((s.heap.push {cls:=.type "list_iterator",data:=.fields #[.ref l,.int 0 0]}).push (seqObj "list" #[] 0)).get? (s.heap.push {cls:=.type "list_iterator",data:=.fields #[.ref l,.int 0 0]}).objs.size=some (seqObj "list" #[] 0):=Heap.get?_push_size _ rfl;have I0:L2.Inv X ah σ H {s with heap:=(s.heap.push {cls:=.type "list_iterator",data:=.fields #[.ref l,.int 0 0]}).push (seqObj "list" #[] 0)}:=I.kept (t':=s.toks) fun b o e=>Heap.get?_push_of_some _ (Heap.get?_push_of_some _ e)
    generalize (s.heap.push {cls:=.type "list_iterator",data:=.fields #[.ref l,.int 0 0]}).objs.size=S at *;generalize hit:s.heap.objs.size=it at *;refine wpAny_pure ⟨plainId_quiet PySem.F.plain_min_loop _,?_⟩;refine codeAny_builtin PySem.F.entry_min_loop ?_;rw[Around.under_plainId PySem.F.plain_min_loop _];show wpAny _ X.A.in1 (seqItems? (.ref S) >>= _) _ _ _;refine wpAny_bind (wpAny_seqItems gS rfl ?_);obtain⟨its',rv',p',hz'⟩:=I0.list ta.sq;obtain⟨u',eu',ru'⟩:=rv'.get ev;show wpAny _ X.A.in1 (tryCatch (pyNext (.ref it)) _ >>= _) _ _ _;refine wpAny_bind (wpAny_tryCatch (wpAny_pyNext_list_item (i:=0) ⟨_,gI,rfl,rfl⟩ p'.isList (x:=u') (by simpa using eu') fun h' st' sb=>?_));have I1:L2.Inv X ah σ H {s with heap:=h'}:=I0.turned (t':=s.toks) (fun b o hb e=>(sb.2 b hb).trans e) fi.1 fi.2.1 fi.2.2.2.1 fi.2.2.2.2.1 fi.2.2.2.2.2;have eS1:h'.get? S=some (seqObj "list" #[] 0):=(sb.2 S hnI).trans gS;obtain⟨oI,hoI,cI,dI⟩:=id st';have I1p:=NE I1 fS fi eS1 hoI (by intro v z;cases z) (by intro v z;rw[dI] at z;cases z);show wpAny _ X.A.in1 (tryCatch (holding [u'] (call (.ref q) [u'])) _ >>= _) _ _ _;refine wpAny_bind (wpAny_tryCatch (wpAny_holding (cZ (xi (Q:=fun v' H'=>∃θ',Go X.K θ H θ' H' M1∧fA X.K θ' H' kd v') Fn hr1 hb I1p hq hc hw ru' rdv eF fun v' θ' H' g rd=>⟨θ',g,rd⟩) fun uk s2 ⟨vk,H2,I2p,rvk2,θ2,g2,rk2⟩=>?_)));obtain⟨I2,⟨eS2,nS2⟩,eI2,nI2⟩:=Dr I2p;have fS2:=AG fS nS2;have fi2:=AG fi nI2;obtain⟨ak,eak,tk2⟩:=wV eK rk2;have notin:∀(a:Addr) (φ:Heap→Prop),H a=some (.ext φ)→a∉θ:=fun a φ e z=>by
     obtain⟨i,hi,e'⟩:=mem_iff_getElem.mp z;obtain⟨o,eo,po⟩:=hw.plain (i:=i) (by rw[getElem?_eq_getElem hi,e']);rw[e] at eo;cases eo;cases po
    have hq2:H2 q=some (Aw q fd):=g2.keep q _ hq (notin q _ hq) (by intro _ z;cases z);have hc2:H2 c=some (ka c qual):=g2.keep c _ hc (notin c _ hc) (by intro _ z;cases z);have h2:=bh.go g2 h;refine wpAny_bind ?_;show wpAny _ X.A.in1 (updateSeq S (fun _=>#[u',uk])) _ _ _;refine wpAny_updateSeq eS2 rfl ?_;rw[hname];obtain⟨n3,eS3⟩:∃n3,(s2.heap.update S (Obj.mapSeq fun _=>#[u',uk])).get? S=some (seqObj "list" #[u',uk] n3):=⟨_,get?_update_seq eS2 fun _=>#[u',uk]⟩;have kp:∀b o,b≠S→s2.heap.get? b=some o→(s2.heap.update S (Obj.mapSeq fun _=>#[u',uk])).get? b=some o:=fun b o hb e=>(Heap.get?_update_other s2.heap _ (Ne.symm hb)).trans e
    have I3:L2.Inv X ah σ H2 {s2 with heap:=s2.heap.update S (Obj.mapSeq fun _=>#[u',uk])}:=I2.turned (t':=s2.toks) kp fS2.1 fS2.2.1 fS2.2.2.2.1 fS2.2.2.2.2.1 fS2.2.2.2.2.2;exact wpAny_pure ⟨plainId_quiet PySem.F.plain_min_loop _,Ct (ds0:=d::rest) Fn hr hb hcalm hnI (fun u s' e=>e) rest 1 _ H2 θ2 M1 d ks v vk u' uk n3 vs rfl I3 fi2 fS2 ⟨oI,kp it oI (Ne.symm hnI) eI2,cI,dI⟩ eS3 g2.wr (ta.grow g2.toGrow) (r.go g2) hq2 hc2 (rdv.go g2) ru' ⟨ak,eak,tk2⟩ rvk2 h2⟩
end
def qz (F:FD)(g:GE):GE:=fun ρ M=>(g ρ M).bind fun d M1=>match d with
 | .lst ds=>pR F ds M1
 | .ro ds=>pR F ds M1
 | _=>.bad
theorem FQ {X:Cx}{px:Str}{c P:Addr}{e:Expr}{g gb:GE}{p lpos kpos:Pos}{k:Nat}{N:List Str}
  (T:xU X.K x c P) (hr:bR (k+2) X.A) (hg:Gl X "min") (hm:X.mg "min"=none) (hv:bootBuiltins "min"=some (.builtin "min")) (he:PE X e (tE X g)) (hcode:X.env.code=.ref c) (hglob:X.env.globals=mainGlobals) (hq:X.env.qual++("<lambda>":Str)=cM x)
  (hcl:closureFor scope X.env=pure []) (hd:defaultsOf params X.env=([],[])) (hcalm:X.calm=true) (S:fF N [px] scope)
  (hbody:∀(q c':Addr) (A:Around) (outer:List Env) (s:Shared) (H:Hp) (E:XK),bR k (A.deeper (envOfC (cM x) scope s.heap.objs.size q (.ref c')))→
   PE (iX (iZ X.prog X.w) X.prog X.w X.K X.mg X.base N (cM x) scope q (.ref c') A outer s H E) body (tE (iX (iZ X.prog X.w) X.prog X.w X.K X.mg X.base N (cM x) scope q (.ref c') A outer s H E) gb))
  (hb:∀(pm cv ctv:Value) (s:Shared) (u:Value),BindsTo s (uQ (cM x) params body scope pm cv ctv) ⟨[u],[]⟩ [(px,u)]) (h1:bS e=true) :
  PE X (.Call (.Name "min" p) [e] [⟨some "key",.Lambda params body scope lpos,kpos⟩] pos) (tE X (qz (yJ (N.length-1) gb) g)):=by
 intro ah s σ H Q I h;obtain⟨ρ,θ,M,hden,hw,h⟩:=h;have hs:starEach [e] X.env=[(false,eval e X.env)]:=by rw[sE h1];rfl
 refine wpAny_Call_Name_kw (pP I hg hm hv ?_);refine callWith_kw (e:=e) (rest:=[]) (cZ ((m7 he tj hs) pos ah s σ H _ I (show HS (tE X g) II σ H (fun xs H1=>∃v d θ1 M1,xs=[v]∧Go X.K θ H θ1 H1 M1∧fA X.K θ1 H1 d v∧bh X θ H Q (match d with | .lst ds=>pR (yJ (N.length-1) gb) ds M1 | .ro ds=>pR (yJ (N.length-1) gb) ds M1|_=>.bad)) from
  bZ hden hw (bh X θ H Q) (fun c M' h=>h) (fun h=>h) h fun d M1 v θ1 H1 g1 r1 h1=>⟨v,d,θ1,M1,rfl,g1,r1,h1⟩)) fun us s1 ⟨xs,H1,I1,rx,v,d,θ1,M1,ex,g1,r1,h1⟩=>?_) (by rw[hs];rfl) (by rw[hs];rfl)
 subst ex;obtain⟨u,rfl,ru⟩:=oK rx;refine kws_cons (cZ (Ez I1 g1.wr T hcode hglob hq hcl hd) fun uq s2 ⟨H2,I2,Md⟩=>kws_nil ?_);obtain⟨⟨q,c',pm,ctv,rfl,nq,hfq,hfc⟩,g2⟩:=Md;have h2:=bh.go (g1.trans g2) h1;have Fn:=KI (P:=X.prog) (w:=X.w) (K:=X.K) (mg:=X.mg) (base:=X.base) (qual:=cM x) (params:=params) (body:=body) (scope:=scope) (pm:=pm) (ctv:=ctv) (q:=q) (c:=c') (n:=1) S rfl (fun A outer s H E hr=>hbody q c' A outer s H E hr);have run:∀(l:Addr) (ds:List D) (vs:List V),u=.ref l→uf X.K θ1 H2 l vs→bO X.K θ1 H2 ds vs→bh X θ1 H2 Q (pR (yJ (N.length-1) gb) ds M1)→wpAny (model X.prog X.w) X.A (call (.builtin "min") [u] [(Str.ofString "key",.ref q)]) (EP X ah σ Q) X.xe s2:=fun l ds vs eu ta r hh=>by
  rw[eu];exact CI Fn hr (hb pm _ ctv) hcalm I2 g2.wr ta r hfq hfc hh
 show wpAny _ X.A (call (.builtin "min") [u] [(Str.ofString "key",.ref q)]) _ _ s2;cases d with
 | lst ds=>
  obtain⟨a,vs,ea,ta,rs⟩:=r1.go g2;subst ea;exact run a ds vs ru (.inl ⟨.inl ta.1,ta.2⟩) rs h2
 | ro ds=>
  obtain⟨a,vs,ea,ta,rs⟩:=r1.go g2;subst ea;exact run a ds vs ru ta rs h2
 | _=>exact h2.elim
theorem N0 {st:Stmt}{f c Pt:Addr}{N ps:List Str}{k n:Nat}{g:GS}(F:Fh K x x st f fd)(hns:W.nsIn K mainGlobals x=some (some (.ref f)))(T:xU K x c Pt)(S:fF N ps (a7 st))(hn:ps.length=n)
  (hbody:∀(A:Around) (outer:List Env) (s:Shared) (H:Hp) (E:XK),bR k (A.deeper (envOfC x (a7 st) s.heap.objs.size f (.ref c)))→PSs (iX (iZ P w) P w K mg base N x (a7 st) f (.ref c) A outer s H E) (cY st) (tS (iX (iZ P w) P w K mg base N x (a7 st) f (.ref c) A outer s H E) g)) :
  eX P w K mg base (iZ P w) (k+1) f fd ps (oy K n (bi (N.length-n) g)):=by
 obtain⟨oc,od,kV,doc,pm,an,cdv,ct,osl,rfl,lk,hcd⟩:=F.ex;have ec:cdv=.ref c:=by
  have t:=T.tab;unfold W.tabIn at t;rw[hns] at t;dsimp only at t;rw[lk] at t;dsimp only at t;cases cdv with
  | ref c'=>
   dsimp only at t;split at t
   ·split at t
    ·cases t;rfl
    ·cases t
   ·cases t
  | _=>cases t
 subst ec;refine Hr lk hcd S (qY hn) fun A outer s H vs Q E hr h=>⟨_,hbody A outer s H E hr,?_⟩
 obtain⟨θ,M,ds,hl,r,hw,h⟩:=h;have hv:vs.length=n:=by rw[←aJ r];exact hl
 refine⟨kJ (N.length-n) ds,θ,M,by rw[←hv];exact IN r N,hw,?_⟩;have h:yD K θ H Q E (aP (g (kJ (N.length-n) ds) M)):=h;unfold aP at h;cases q:g (kJ (N.length-n) ds) M with
 | bad=>rw[q] at h;exact h
 | err c M1=>
  rw[q] at h;have h:Ep K θ H E c M1:=h;exact fun C θ' H' a s' kC g1 fl=>nY fl (h C θ' H' a kC g1)
 | ok fl M1=>
  rw[q] at h;cases fl with
  | rt d=>exact h
  | nx ρ1=>exact fun σ1 θ1 H1 g1 _=>h .non θ1 H1 g1 rfl
  | bk ρ1=>exact h.elim
  | ct ρ1=>exact h.elim
end DL
namespace DL
open PySem PySem.Spec PyProof.Rows L2 List
section
open PySem.SeqAt
open PySem.AutoSeq1 (wpAny_loadPart')
open PySem.MeetsSeq PySem.MeetsSeq2 PySem.MeetsSeq3
end
theorem Gy {K:W.Frag}{x:Str}{f c P:Addr}{oc occ:Value}{od odc:Option Addr}{fd:FuncData}{sl slc:Array (Option Value)}{vs:Array Value}{file:Str}{tf tg tt:Tok}{flags text:Int}{inF:Bool}
  (hm:x∈cW) (a:W.nsIn K mainGlobals x=some (some (.ref f))) (l:K.lookup f=some ⟨oc,od,.func fd,sl⟩) (ec:fd.code=.ref c) (lc:K.lookup c=some ⟨occ,odc,.fields vs,slc⟩) (hcc:occ=.type "code")
  (h11:vs[11]?=some (.ref P)) (h18:vs.getD 18 .none=.str file tf) (h7:vs.getD 7 .none=.int flags tg) (h9:vs.getD 9 .none=.bool inF) (h10:vs.getD 10 .none=.int text tt) (ne:c≠P)
  (un:∀y,y∈cW→y≠x→W.nsIn K mainGlobals y=some none∨∃c' P',W.tabIn K y=some (c',P')∧P'≠P):xU K x c P:=by
 have g11:vs.getD 11 .none=.ref P:=by rw[Array.getD_eq_getD_getElem?,h11];rfl
 refine⟨hm,?_,fun y hy nx c2 e=>?_,_,vs,file,tf,flags,tg,inF,text,tt,lc,hcc,rfl,h11,g11,h18,h7,h9,h10,ne⟩
 ·unfold W.tabIn;rw[a];dsimp only;rw[l];dsimp only;rw[ec];dsimp only;rw[lc];dsimp only;rw[h11]
 ·rcases un y hy nx with q|⟨c',P',q,n⟩
  ·unfold W.tabIn at e;rw[q] at e;cases e
  ·rw[q] at e;cases e;exact n rfl
end DL
namespace DL
open PySem PySem.Spec PyProof.Rows L2 List
end DL
namespace DL
open PySem PySem.Spec PyProof.Rows L2 List
section
open Builtin Builtin.Str
end
end DL
namespace DL
open PySem PySem.Spec PyProof.Rows L2 List
structure QE (X:Cx)(e:Expr)(g:GE):Prop where
 h:PE X e (tE X g)
structure QT (X:Cx)(e:Expr)(g:GT):Prop where
 h:PT X e (tT X g)
structure QW (X:Cx)(e:Expr)(g:GT):Prop where
 h:PW X e (tT X g)
structure QA (X:Cx)(es:List Expr)(g:GA):Prop where
 h:PA X es (tA X g)
structure QS (X:Cx)(st:Stmt)(g:GS):Prop where
 h:PS X st (tS X g)
structure QB (X:Cx)(st:List Stmt)(g:GS):Prop where
 h:PSs X st (tS X g)
structure QI (X:Cx)(tg e:Expr)(g:GI):Prop where
 h:PI X tg e (tI X g)
structure QG (X:Cx)(tg:Expr)(s:GG):Prop where
 h:PG X tg (tG X s)
structure LB (X:Cx)(tgs:List Expr)(is:List Nat):Prop where
 h:Ay X tgs (MT X is)
structure QP (X:Cx)(e:Option Expr)(g:GO):Prop where
 h:PO X e (tO X g)
structure Q2 (X:Cx)(f:Value→Value→Sem Value)(F:F2):Prop where
 h:jB X f (rD X F)
structure QC (X:Cx)(f:Value)(F:FD):Prop where
 h:eO X f (rC X F)
structure CF (X:Cx)(scope:Scope)(xs:List Str)(R:List Str)(ifs:List Expr)(gc:GT):Prop where
 h:lL X scope xs R ifs gc
structure MH (X:Cx)(tgs:List Expr)(ss:List GG):Prop where
 h:Ay X tgs (Cy X ss)
structure QO (n:Nat)(sg:GG):Prop where
 h:xp n sg
structure QF (X:Cx)(es:List Expr)(gs:List GE):Prop where
 h:Ll X es gs
variable{k:Nat}{op:CmpOp}{f:F2}{gs:List GE}{tg:Expr}{xs:List Str}{is:List Nat}{sg:GG}{ss:List GG}{body:List Stmt}
section
variable {X:Cx}{e a b c o i:Expr}{es rest:List Expr}{x:Str}{p p2 pos pos':Pos}{g ga gb gc go gi ge:GE}{ta tb:GT}{gA:GA}
theorem NH:Q2 X (binaryOp .Add) a9:=⟨J4⟩
theorem LW:Q2 X (binaryOp .Sub) eE:=⟨J2⟩
theorem Nq:Q2 X (binaryOp .Mult) cz:=⟨HX⟩
theorem Ke:Q2 X (binaryOp .FloorDiv) e9:=⟨Hj⟩
theorem LG:Q2 X (binaryOp .Mod) iV:=⟨ID⟩
theorem Nz:Q2 X (binaryOp .Pow) tH:=⟨Kd⟩
theorem O9:Q2 X (compareOp .Lt) jo:=⟨Lv⟩
theorem Pu:Q2 X (compareOp .LtE) mT:=⟨NI⟩
theorem ON:Q2 X (compareOp .Gt) mj:=⟨Np⟩
theorem OI:Q2 X (compareOp .GtE) rY:=⟨LH⟩
theorem OR (hr:bR k X.A):Q2 X (compareOp .Eq) (aF false):=⟨LU hr.units⟩
theorem P6 (hr:bR k X.A):Q2 X (compareOp .NotEq) (aF true):=⟨My hr.units⟩
theorem OT:Q2 X (compareOp .Is) (kW false):=⟨NM⟩
theorem Fx:Q2 X (compareOp .IsNot) (kW true):=⟨Ex⟩
theorem Qf:Q2 X (compareOp .In) (iD false):=⟨NO⟩
theorem Gs:Q2 X (compareOp .NotIn) (iD true):=⟨CY⟩
theorem LK:QC X (.builtin "len") aV:=⟨IR⟩
theorem NK (hc:X.calm=true:=by rfl):QC X (.builtin "min") zI:=⟨Js hc⟩
theorem N6 (hc:X.calm=true:=by rfl):QC X (.builtin "max") xu:=⟨IG hc⟩
theorem LJ (hc:X.calm=true:=by rfl):QC X (.builtin "all") iY:=⟨JM hc⟩
theorem DF:QC X (.builtin "divmod") rX:=⟨BE⟩
theorem MC:QC X (.type "int") wc:=⟨JR⟩
theorem Iy:QC X (.type "list") gO:=⟨GX⟩
theorem GC:QC X (.type "tuple") fN:=⟨Dw⟩
theorem qv (i:Nat){x:Str}{pos:Pos}(hN:X.N[i]?=some x:=by rfl)(hv:Lm X.env.scope x:=by first|exact Or.inl rfl|exact Or.inr (Or.inl rfl)|exact Or.inr (Or.inr rfl))(hd:(x==("__debug__":Str))=false:=by decide)
  (hcd:(x==("__classdict__":Str))=false:=by decide):QE X (.Name x pos) (ae i):=⟨vv i hN hv hd hcd⟩
theorem Jh {i:Int}{j pos}:QE X (.Constant (.int i) j pos) (gC (.int i)):=⟨KZ⟩
theorem MK {b j pos}:QE X (.Constant (.bool b) j pos) (gC (.bl b)):=⟨NW⟩
theorem Ju {j pos}:QE X (.Constant .none j pos) (gC .non):=⟨Jz⟩
theorem Jv {x j pos}:QE X (.Constant (.str x) j pos) (gC (.str x)):=⟨IK⟩
theorem Kg (h:QE X a g):QE X (.UnaryOp .USub a pos) (mI g):=⟨K7 h.h⟩
theorem Jo (h:QE X a g):QE X (.UnaryOp .Not a pos) (wf (az g)):=⟨Kv h.h⟩
theorem NX {op:Operator}(ho:Q2 X (binaryOp op) f)(ha:QE X a ga)(hb:QE X b gb):QE X (.BinOp a op b pos) (g2 f ga gb):=⟨ME ho.h ha.h hb.h⟩
def Ib:CmpOp→Bool
 | .In=>false
 | .NotIn=>false
 | _=>true
theorem uB {b:Expr}(h:Ib op=true):behindInMarks op b=false:=by
 cases op <;> first|exact IS _|(cases h)
theorem JF (ho:Q2 X (compareOp op) f)(ha:QE X a ga)(hb:QE X b gb)(hm:Ib op=true:=by rfl):QE X (.Compare a [op] [b] pos) (g2 f ga gb):=⟨JU ho.h ha.h hb.h (uB hm)⟩
theorem Iv (ho:Q2 X (compareOp op) f)(ha:QE X a ga)(hb:QE X b gb)(hm:Ib op=true:=by rfl):QT X (.Compare a [op] [b] pos) (az (g2 f ga gb)):=⟨Ej ho.h ha.h hb.h (uB hm)⟩
theorem G4 (ho:Q2 X (compareOp op) f)(ha:QE X a ga)(hb:QE X b gb)(hm:behindInMarks op b=false:=by with_unfolding_all rfl):QT X (.Compare a [op] [b] pos) (az (g2 f ga gb)):=⟨Ej ho.h ha.h hb.h hm⟩
theorem Ey {op':CmpOp}{f':F2}(ho:Q2 X (compareOp op) f)(ho':Q2 X (compareOp op') f')(ha:QE X a ga)(hb:QE X b gb)(hc:QE X c gc)(hm:lastMarks [op,op'] [b,c]=false:=by with_unfolding_all rfl):QE X (.Compare a [op,op'] [b,c] pos) (qH f f' ga gb gc):=⟨Ca ho.h ho'.h ha.h hb.h hc.h hm⟩
theorem C1 {op':CmpOp}{f':F2}(ho:Q2 X (compareOp op) f)(ho':Q2 X (compareOp op') f')(ha:QE X a ga)(hb:QE X b gb)(hc:QE X c gc)(hm:lastMarks [op,op'] [b,c]=false:=by with_unfolding_all rfl):QT X (.Compare a [op,op'] [b,c] pos) (az (qH f f' ga gb gc)):=⟨D8 ho.h ho'.h ha.h hb.h hc.h hm⟩
theorem Je {op}(h:QE X a g):QE X (.BoolOp op [a] pos) g:=⟨Ko h.h⟩
theorem KA (ha:QE X a ga)(hb:QE X (.BoolOp .And (b::rest) pos) gb):QE X (.BoolOp .And (a::b::rest) pos) (cV ga gb):=⟨Ky ha.h hb.h⟩
theorem Mw (ha:QE X a ga)(hb:QE X (.BoolOp .Or (b::rest) pos) gb):QE X (.BoolOp .Or (a::b::rest) pos) (EN ga gb):=⟨L7 ha.h hb.h⟩
theorem LV (hc:QT X c ta)(ha:QE X a ga)(hb:QE X b gb):QE X (.IfExp c a b pos) (yw ta ga gb):=⟨L9 hc.h ha.h hb.h⟩
theorem Gk (ha:QT X a ta):QW X (.BoolOp .And [a] pos) ta:=⟨FA ha.h⟩
theorem K1 (ha:QT X a ta):QW X (.BoolOp .Or [a] pos) ta:=⟨HV ha.h⟩
theorem JJ (ha:QT X a ta)(hb:QW X (.BoolOp .And (b::rest) pos) tb):QW X (.BoolOp .And (a::b::rest) pos) (dL ta tb):=⟨Kj ha.h hb.h⟩
theorem Lw (ha:QT X a ta)(hb:QW X (.BoolOp .Or (b::rest) pos) tb):QW X (.BoolOp .Or (a::b::rest) pos) (cx ta tb):=⟨Nn ha.h hb.h⟩
theorem NU (h:QW X a ta):QT X a ta:=⟨PW.pt h.h⟩
theorem Ir (h:QT X a ta):QT X (.UnaryOp .Not a pos) (bI ta):=⟨Jm h.h⟩
theorem KR (h:QE X a g)(he:∀whole,isTrue a X.env whole=(do let v ←whole;standAt a.pos;holding [v] (truthy v)):=by intro _;rfl):QT X a (cn g):=⟨H9 h.h he⟩
theorem Jd:QA X [] ag:=⟨KQ⟩
theorem P1 {gr:GA}(ha:QE X e g)(hr:QA X es gr)(h:bS e=true:=by rfl):QA X (e::es) (aa g gr):=⟨Qc ha.h hr.h h⟩
theorem Ld {x1}(h:QA X es gA):QE X (.Tuple es x1 pos) (bb gA):=⟨Ia h.h⟩
theorem Jj (h:QA X es gA):QE X (.List es pos) (dD gA):=⟨Jl h.h⟩
theorem Kz (h:QA X es gA):QE X (.List es pos) (iC gA):=⟨Jc h.h⟩
theorem Kf:QF X [] []:=⟨.nil⟩
theorem Pr (h:QE X e g)(t:QF X es gs):QF X (e::es) (g::gs):=⟨.cons h.h t.h⟩
theorem Io {i:Int}(h:QE X e g)(hi:i=-1:=by rfl):QE X (.FormattedValue e i none pos) (zn g):=⟨Kq h.h hi⟩
theorem G7 (h:QF X (a::b::es) gs):QE X (.JoinedStr (a::b::es) pos) (nA gs Str.empty):=⟨Fc h.h⟩
theorem JS {i:Int}{j p1 p2 p3 pos}(hi:i=1)(he:QE X e g):QE X (.Subscript e (.Slice none none (some (.UnaryOp .USub (.Constant (.int i) j p1) p2)) p3) pos) (zZ g):=⟨JO hi he.h⟩
theorem F4:QP X none bG:=⟨Ga⟩
theorem Fa (h:QE X e g):QP X (some e) (dh g):=⟨Hn h.h⟩
theorem DV {lo hi:Option Expr}{gl gh:GO}(he:QE X e g)(hl:QP X lo gl)(hh:QP X hi gh):QE X (.Subscript e (.Slice lo hi none p2) pos) (oA g gl gh):=⟨Ds he.h hl.h hh.h⟩
theorem NQ (ha:QE X a ga)(hb:QE X b gb)(hs:wm b:=by intro _ _;rfl):QE X (.Subscript a b pos) (g2 aI ga gb):=⟨Ma ha.h hb.h hs⟩
section
variable {apos cpos:Pos}{k n:Nat}{f:Addr}{fd:FuncData}{ps:List Str}{F:FD}{T:String}{id:String}
theorem Bw (ho:QE X o go)(he:QE X e ge)(h1:bS e=true:=by rfl)(hbase:attributeBase o "append" X.env (eval o X.env)=eval o X.env:=by rfl)(hline:(apos.endLine==cpos.line)=true:=by rfl):QE X (.Call (.Attribute o "append" apos) [e] [] cpos) (jW go ge):=⟨Bl ho.h he.h hbase (J3 h1) hline (sE h1) rfl⟩
theorem LN (Fn:eX X.prog X.w X.K X.mg X.base (iZ X.prog X.w) k f fd ps (oy X.K n F))(hr:bR k X.A)(hg:Gl X x)(hm:X.mg x=some (.ref f))(hk:W.keepIn X.K (.ref f)=true)(hb:fL X.K fd ps [])(ha:QA X (e::es) gA)
  (hdb:(x==("__debug__":Str))=false:=by decide) (h1:bS e=true:=by rfl) (h2:dg es=true:=by rfl):QE X (.Call (.Name x p) (e::es) [] pos) (aj n F gA):=⟨Mu Fn hr hg hm hk hb ha.h hdb h1 h2⟩
theorem Nk (hc:QC X (.builtin id) F)(hg:Gl X x)(hm:X.mg x=none)(hv:bootBuiltins x=some (.builtin id))(ha:QA X (e::es) gA)(hn:x≠"__name__":=by decide)(hdb:(x==("__debug__":Str))=false:=by decide)
  (h1:bS e=true:=by rfl) (h2:dg es=true:=by rfl):QE X (.Call (.Name x p) (e::es) [] pos) (aC F gA):=⟨LY hc.h hg hm hv ha.h hn hdb h1 h2⟩
theorem N7 (hc:QC X (.type T) F)(hg:Gl X x)(hm:X.mg x=none)(hv:bootBuiltins x=some (.type T))(ha:QA X (e::es) gA)(hn:x≠"__name__":=by decide)(hdb:(x==("__debug__":Str))=false:=by decide)
  (h1:bS e=true:=by rfl) (h2:dg es=true:=by rfl):QE X (.Call (.Name x p) (e::es) [] pos) (aC F gA):=⟨MR hc.h hg hm hv ha.h hn hdb h1 h2⟩
theorem MJ (hT:oQ T)(hv:bootBuiltins x=some (.type T))(hg:Gl X x)(hm:X.mg x=none)(hgi:Gl X "isinstance")(hmi:X.mg "isinstance"=none)(he:QE X e g)
  (h1:bS e=true:=by rfl) (hn:x≠"__name__":=by decide) (hd:(x==("__debug__":Str))=false:=by decide):QE X (.Call (.Name "isinstance" p) [e,.Name x p2] [] pos) (ej T g):=⟨ML hT hv hg hm hgi hmi he.h h1 hn hd⟩
end
theorem L6 {tg:Expr}(hg:Gl X "range")(hm:X.mg "range"=none)(ha:QA X [a] gA)(h1:bS a=true:=by rfl):QI X tg (.Call (.Name "range" p) [a] [] pos) (gK gA):=⟨Ny hg hm ha.h h1⟩
theorem IT (h:QE X e g):QI X tg e (bY g):=⟨Jb h.h⟩
theorem He {es:List Expr}{kt:Nat}{tp:Pos}(hg:Gl X "enumerate")(hm:X.mg "enumerate"=none)(hv:bootBuiltins "enumerate"=some (.type "enumerate"))(ha:QA X [a] gA)(h1:bS a=true:=by rfl):QI X (.Tuple es kt tp) (.Call (.Name "enumerate" p) [a] [] pos) (lZ gA):=⟨GK hg hm hv ha.h (sE h1)⟩
section
variable {scope:Scope}{R:List Str}{iter elt:Expr}{ifs:List Expr}{gI:GI}{gC:GT}{px:Pos}{mk:List D→aB→bj D}
theorem Bx :CF X scope xs R [] cL:=⟨DT⟩
theorem Bt (h:∀fp s2 H2 C,QT (aU X scope xs R fp s2 H2 C) c ta):CF X scope xs R [c] ta:=⟨Cu fun fp s2 H2 C=>(h fp s2 H2 C).h⟩
theorem FW (hS:dF scope X.env.kindOf [x] R X.N=true)(hm:mk=aZ∨mk=fq)(hi:QI X (.Name x px) iter gI)(hts:CF X scope [x] R ifs gC)(he:∀fp s H C,QE (aU X scope [x] R fp s H C) elt ge)
  (hc:X.calm=true:=by rfl) (hs:∀x,foldedSetIterable iter X.env x=pure x:=by intro _;rfl):QE X (.ListComp elt [⟨.Name x px,iter,ifs,0⟩] scope pos) (br gI gC ge mk):=⟨G3 hS hc hm hi.h hts.h (fun fp s H C=>(he fp s H C).h) hs⟩
theorem yA {j:Nat}{y:Str}{py spos:Pos}(hS:dF scope X.env.kindOf [x] R X.N=true)(hm:mk=aZ∨mk=fq)(hN:X.N.Nodup)(hi:QI X (.Name x px) iter gI)(hts:CF X scope [x] R ifs gC)(he:∀fp s H C,QE (aU X scope [x] R fp s H C) elt ge)
  (hc:X.calm=true:=by rfl) (hj:X.N[j]?=some y:=by rfl) (hy:X.env.scope.names.lookup y=some .local:=by rfl) (hsw:swapsWith (.ListComp elt [⟨.Name x px,iter,ifs,0⟩] scope pos) (some (.Name y py)) spos.line X.env=pure true:=by rfl)
  (hs:∀x,foldedSetIterable iter X.env x=pure x:=by intro _;rfl):QS X (.Assign [.Name y py] (.ListComp elt [⟨.Name x px,iter,ifs,0⟩] scope pos) spos) (aH j (br gI gC ge mk)):=⟨yY hS hc hm hi.h hts.h (fun fp s H C=>(he fp s H C).h) hN hj hy hsw hs⟩
theorem JI (n:Nat)(h:is.all (fun i=>decide (i<n))=true:=by rfl):QO n (bJ is):=⟨G1 h⟩
theorem vd {fp:List Addr}{s:Shared}{H:Hp}{C:Addr}{y:Str}(hS:dF scope X.env.kindOf xs R X.N=true)(h:y∈xs):(aU X scope xs R fp s H C).env.scope.names.lookup y=some .local:=lookup_relabel_local ((df.of hS).own y h)
theorem QL {fp:List Addr}{s:Shared}{H:Hp}{C:Addr}{y:Str}(i:Nat)(hS:dF scope X.env.kindOf xs R X.N=true)(hi:(xs++R)[i]?=some y:=by rfl)(hx:y∈xs:=by simp):QG (aU X scope xs R fp s H C) (.Name y pos) (dM i):=
 ⟨vN (X:=aU X scope xs R fp s H C) (df.of hS).nd hi (.inl (vd hS hx)) (.inr (vd hS hx))⟩
theorem Du (xs:List Str)(hS:dF scope X.env.kindOf xs R X.N=true)(hm:mk=aZ∨mk=fq)(own:QO xs.length sg)(hi:QI X tg iter gI)(hg:∀fp s H C,QG (aU X scope xs R fp s H C) tg sg)(hts:CF X scope xs R ifs gC)(he:∀fp s H C,QE (aU X scope xs R fp s H C) elt ge)
  (hc:X.calm=true:=by rfl) (hs:∀x,foldedSetIterable iter X.env x=pure x:=by intro _;rfl):QE X (.ListComp elt [⟨tg,iter,ifs,0⟩] scope pos) (cP gI xs.length sg gC ge mk):=⟨xY hS hc hm hi.h own.h (fun fp s H C=>(hg fp s H C).h) hts.h (fun fp s H C=>(he fp s H C).h) hs⟩
theorem xI (xs:List Str){j:Nat}{y:Str}{py spos:Pos}(hS:dF scope X.env.kindOf xs R X.N=true)(hm:mk=aZ∨mk=fq)(own:QO xs.length sg)(hN:X.N.Nodup)(hi:QI X tg iter gI)(hg:∀fp s H C,QG (aU X scope xs R fp s H C) tg sg)(hts:CF X scope xs R ifs gC)(he:∀fp s H C,QE (aU X scope xs R fp s H C) elt ge)
  (hc:X.calm=true:=by rfl) (hj:X.N[j]?=some y:=by rfl) (hy:X.env.scope.names.lookup y=some .local:=by rfl) (hsw:swapsWith (.ListComp elt [⟨tg,iter,ifs,0⟩] scope pos) (some (.Name y py)) spos.line X.env=pure true:=by rfl)
  (hs:∀x,foldedSetIterable iter X.env x=pure x:=by intro _;rfl):QS X (.Assign [.Name y py] (.ListComp elt [⟨tg,iter,ifs,0⟩] scope pos) spos) (aH j (cP gI xs.length sg gC ge mk)):=⟨qD hS hc hm hi.h own.h (fun fp s H C=>(hg fp s H C).h) hts.h (fun fp s H C=>(he fp s H C).h) hN hj hy hsw hs⟩
end
def kD:Expr→Bool
 | .ListComp ..=>false
 | .SetComp ..=>false
 | .DictComp ..=>false
 | _=>true
theorem mK {t:Option Expr}{l:Nat}{env:Env}(h:kD e=true):swapsWith e t l env=pure false:=by
 cases e <;> first|rfl|(simp[kD] at h)
section
variable {st:Stmt}{stmts:List Stmt}{t u:GS}
theorem K4:QB X [] aA:=⟨K8⟩
theorem EU (h1:QS X st t)(h2:QB X stmts u):QB X (st::stmts) (ar t u):=⟨Gi h1.h h2.h⟩
theorem JP (h1:QS X st t):QB X [st] t:=⟨KD h1.h⟩
theorem JK (i:Nat){x:Str}(hN:X.N.Nodup)(he:QE X e g)(hi:X.N[i]?=some x:=by rfl)(hx:yL X.env.scope x:=by first|exact Or.inl rfl|exact Or.inr rfl)(hs:kD e=true:=by rfl)(hf:X.fn x=true∨X.env.scope.names.lookup x=some .local:=by first|exact .inl rfl|exact .inr rfl) :
  QS X (.Assign [.Name x pos'] e pos) (aH i g):=⟨ss i hN he.h hi hx (mK hs) hf⟩
theorem J5 (he:QE X e g):QS X (.Return (some e) pos) (aD g):=⟨Ji he.h⟩
theorem FG (he:QE X e g)(hs:kD e=true:=by rfl):QS X (.Expr e pos) (cK g):=⟨FO he.h (mK hs)⟩
theorem Lz {a b:List Stmt}{tc:GT}(hc:QT X c tc)(ha:QB X a t)(hb:QB X b u):QS X (.If c a b pos) (bL tc t u):=⟨L3 hc.h ha.h hb.h⟩
theorem qn (i:Nat){x:Str}(hN:X.N.Nodup)(hi:X.N[i]?=some x:=by rfl)(hx:yL X.env.scope x:=by first|exact Or.inl rfl|exact Or.inr rfl)(hf:X.fn x=true∨X.env.scope.names.lookup x=some .local:=by first|exact .inl rfl|exact .inr rfl):QG X (.Name x pos) (dM i):=⟨gg i hN hi hx hf⟩
theorem Gx:LB X [] []:=⟨Hm⟩
theorem LS {i:Nat}(h1:QG X e (dM i))(h2:LB X es is)(hs:(assignEach (e::es) X.env).map (·.2)=assign e X.env::(assignEach es X.env).map (·.2):=by rfl):LB X (e::es) (i::is):=⟨DU h1.h h2.h hs⟩
theorem K0 {k n:Nat}(h:LB X es is)(hc:X.calm=true:=by rfl)(hl:is.length=n:=by rfl)(hn:(assignEach es X.env).length=n:=by rfl)(hst:(assignEach es X.env).findIdx? (·.1)=none:=by rfl):QG X (.Tuple es k pos) (bJ is):=⟨IH hc h.h hl hn hst⟩
theorem G5:MH X [] []:=⟨EM⟩
theorem LA (h1:QG X e sg)(h2:MH X es ss)(hs:(assignEach (e::es) X.env).map (·.2)=assign e X.env::(assignEach es X.env).map (·.2):=by rfl):MH X (e::es) (sg::ss):=⟨B0 h1.h h2.h hs⟩
theorem FL {k n:Nat}(h:MH X es ss)(hc:X.calm=true:=by rfl)(hl:ss.length=n:=by rfl)(hn:(assignEach es X.env).length=n:=by rfl)(hst:(assignEach es X.env).findIdx? (·.1)=none:=by rfl):QG X (.Tuple es k pos) (oS ss):=⟨GV hc h.h hl hn hst⟩
theorem Kl {s:GG}(he:QE X e g)(hg:QG X tg s)(hs:kD e=true:=by rfl)(hw:swappedStores [tg] e X.env=pure none:=by rfl)(h1:(assignEach [tg] X.env).map (·.2)=[assign tg X.env]:=by rfl):QS X (.Assign [tg] e pos) (dC s g):=⟨Ks he.h hg.h (mK hs) hw h1⟩
theorem KH {ip:Pos}(he:QE X e g)(ho:QE X o go)(hi:QE X i gi)
  (ha:∀v,assign (.Subscript o i ip) X.env v=(do
   let ov ←holding [v] (eval o X.env)
   let iv ←holding [v,ov] (eval i X.env)
   standAt ip
   holding [v,ov,iv] (setItem ov iv v)
   release [v,ov,iv] []):=by intro _;rfl)
  (hs:kD e=true:=by rfl) (hw:swappedStores [.Subscript o i ip] e X.env=pure none:=by rfl):QS X (.Assign [.Subscript o i ip] e pos) (nr go gi g):=⟨IV he.h ho.h hi.h ha (by unfold swapsWithSole;exact mK hs) hw rfl⟩
theorem JW {iter:Expr}{gI:GI}{gB:GS}(hp:PassesOwn (model X.prog X.w) X.A X.env X.xe)(hi:QI X tg iter gI)(hg:QG X tg sg)(hb:QB X body gB)(hc:X.calm=true:=by rfl)(hs:∀x,foldedSetIterable iter X.env x=pure x:=by intro _;rfl) :
  QS X (.For tg iter body [] pos) (js gI sg gB):=⟨IM hp hc hi.h hg.h hb.h hs⟩
theorem EK {tc:GT}{gB:GS}{n:Nat}(hp:PassesOwn (model X.prog X.w) X.A X.env X.xe)(hc:QT X c tc)(hb:QB X body gB):QS X (.While c body [] pos) (mH n tc gB):=⟨CT hp hc.h hb.h⟩
theorem DW {x:Str}{C:Addr}{np cpos:Pos}(k:Ec X.K X.mg x C)(hg:Gl X x)(he:QE X e g)(hc:X.calm=true:=by rfl)(h1:bS e=true:=by rfl)(hd:(x==("__debug__":Str))=false:=by decide):QS X (.Raise (some (.Call (.Name x np) [e] [] cpos)) none pos) (fQ x g):=⟨Ew k hc hg he.h h1 hd⟩
end
end
variable{x:Str}
section
variable {X:Cx}{c f m:Str}{C:Addr}{o e value:Expr}{es:List Expr}{g go gv:GE}{gA:GA}{pos pos' apos p:Pos}{k n:Nat}{fa:Addr}{fd:FuncData}{ps:List Str}{F:FD}{pl:Sem Bool}
theorem IL (kc:Kc X.K X.mg c C)(na:gV X.K C f)(he:QE X e g)(hb:attributeBase e f X.env (eval e X.env)=eval e X.env:=by rfl):QE X (.Attribute e f pos) (dX c f g):=⟨JX kc na he.h hb⟩
theorem Jk (kc:Kc X.K X.mg c C)(na:gV X.K C f)(ho:QE X o go)(hv:QE X value gv)(hs:kD value=true:=by rfl):QS X (.Assign [.Attribute o f pos'] value pos) (gQ c f go gv):=⟨IU kc na ho.h hv.h (mK hs)⟩
theorem KN (kc:Kc X.K X.mg c C)(hm:wM X.K C m fa)(Fn:eX X.prog X.w X.K X.mg X.base (iZ X.prog X.w) k fa fd ps (oy X.K n F))(hr:bR k X.A)(hb:fL X.K fd ps [])(ho:QE X o go)(ha:QA X (e::es) gA)
  (h1:bS e=true:=by rfl) (h2:dg es=true:=by rfl)
  (ht:eval (.Call (.Attribute o m apos) (e::es) [] pos) X.env=(do
   let ov ←eval o X.env
   standAt apos.atName
   let (f,first) ←holding [ov] (getMethod ov m pl)
   callWith pos f first (backTo pos (starEach (e::es) X.env)) (backToKw pos (keywordEach [] X.env))):=by rfl):QE X (.Call (.Attribute o m apos) (e::es) [] pos) (gT c m n F go gA):=⟨Jp (pl:=pl) kc hm Fn hr hb ho.h ha.h h1 h2 ht⟩
theorem EZ (kc:Kc X.K X.mg c C)(hm:wM X.K C m fa)(Fn:eX X.prog X.w X.K X.mg X.base (iZ X.prog X.w) k fa fd ps (oy X.K n F))(hr:bR k X.A)(hb:fL X.K fd ps [])(ho:QE X o go)
  (ht:eval (.Call (.Attribute o m apos) [] [] pos) X.env=(do
   let ov ←eval o X.env
   standAt apos.atName
   let (f,first) ←holding [ov] (getMethod ov m pl)
   callWith pos f first (backTo pos (starEach [] X.env)) (backToKw pos (keywordEach [] X.env))):=by rfl):QE X (.Call (.Attribute o m apos) [] [] pos) (gT c m n F go ag):=⟨Fs (pl:=pl) kc hm Fn hr hb ho.h ht⟩
theorem Hg (kc:Kc X.K X.mg c C)(Mc:Mk X.K C fa)(Fn:eX X.prog X.w X.K X.mg X.base (iZ X.prog X.w) k fa fd ps (oy X.K n F))(hr:bR (k+1) X.A)(hg:Gl X c)(hb:fL X.K fd ps [])(ha:QA X (e::es) gA)
  (hdb:(c==("__debug__":Str))=false:=by decide) (h1:bS e=true:=by rfl) (h2:dg es=true:=by rfl):QE X (.Call (.Name c p) (e::es) [] pos) (l8 c n F gA):=⟨Hh kc Mc Fn hr hg hb ha.h hdb h1 h2⟩
theorem J0 {add:Bool}{op:Operator}(i:Nat)(hN:X.N.Nodup)(hop:op=if add then .Add else .Sub)(he:QE X e g)(hi:X.N[i]?=some x:=by rfl)(hx:yL X.env.scope x:=by first|exact Or.inl rfl|exact Or.inr rfl)(hf:X.fn x=true∨X.env.scope.names.lookup x=some .local:=by first|exact .inl rfl|exact .inr rfl) :
  QS X (.AugAssign (.Name x pos') op e pos) (tQ i add g):=⟨Km hop hN hi hx he.h hf⟩
end
section
variable {X:Cx}{e o lo hi i:Expr}{g go gl gh:GE}{pos ip sp dpos p1 p2:Pos}{keys:List (Option Expr)}{values:List Expr}{tab:List (Str×Int)}
theorem Jw {i j:Nat}{x y:Str}{a b:Expr}{ga:GA}{px py pt:Pos}{kt k2 pt2}(hN:X.N.Nodup)(ha:QA X [a,b] ga)(hc:X.calm=true:=by rfl)(hi:X.N[i]?=some x:=by rfl)(hj:X.N[j]?=some y:=by rfl)(hij:i≠j:=by decide)
  (hx:X.env.scope.names.lookup x=some .local:=by rfl) (hy:X.env.scope.names.lookup y=some .local:=by rfl)
  (hw:swappedStores [.Tuple [.Name x px,.Name y py] kt pt] (.Tuple [a,b] k2 pt2) X.env=pure (some [x,y]):=by rfl) :
  QS X (.Assign [.Tuple [.Name x px,.Name y py] kt pt] (.Tuple [a,b] k2 pt2) pos) (qX i j ga):=⟨Kx hc hN hi hj hij hx hy ha.h hw rfl⟩
end
structure Mf (K:W.Frag)(C:Addr)(x qual:Str)(st:Stmt)(f:Addr)(fd:FuncData)(ps:List Str):Prop where
 F:Fh K x qual st f fd
 me:wM K C x f
 b:fL K fd ps []
variable{P:Program}{K:W.Frag}{mg:Str→Option Value}{base:Heap}{fd:FuncData}
theorem KP {w:World}{qual:Str}{st:Stmt}{f:Addr}{N ps:List Str}{n:Nat}{g:GS}(F:Fh K x qual st f fd)(S:fF N ps (a7 st))(hn:ps.length=n)
  (hbody:∀(cdv:Value) (A:Around) (outer:List Env) (s:Shared) (H:Hp) (E:XK),bR k (A.deeper (envOfC qual (a7 st) s.heap.objs.size f cdv))→QB (iX (iZ P w) P w K mg base N qual (a7 st) f cdv A outer s H E) (cY st) g) :
  eX P w K mg base (iZ P w) (k+1) f fd ps (oy K n (bi (N.length-n) g)):=P5 F S hn fun cdv A outer s H E hr=>(hbody cdv A outer s H E hr).h
theorem IC {w:World}{st:Stmt}{f c Pt:Addr}{N ps:List Str}{n:Nat}{g:GS}(F:Fh K x x st f fd)(hns:W.nsIn K mainGlobals x=some (some (.ref f)))(T:xU K x c Pt)(S:fF N ps (a7 st))(hn:ps.length=n)
  (hbody:∀(A:Around) (outer:List Env) (s:Shared) (H:Hp) (E:XK),bR k (A.deeper (envOfC x (a7 st) s.heap.objs.size f (.ref c)))→QB (iX (iZ P w) P w K mg base N x (a7 st) f (.ref c) A outer s H E) (cY st) g) :
  eX P w K mg base (iZ P w) (k+1) f fd ps (oy K n (bi (N.length-n) g)):=N0 F hns T S hn fun A outer s H E hr=>(hbody A outer s H E hr).h
theorem GN {X:Cx}{px:Str}{c P:Addr}{params:Arguments}{body:Expr}{scope:Scope}{e:Expr}{g gb:GE}{p pos lpos kpos:Pos}{N:List Str}
  (T:xU X.K x c P) (hr:bR (k+2) X.A) (hg:Gl X "min") (hm:X.mg "min"=none) (hv:bootBuiltins "min"=some (.builtin "min")) (S:fF N [px] scope) (he:QE X e g)
  (hbody:∀(q c':Addr) (A:Around) (outer:List Env) (s:Shared) (H:Hp) (E:XK),bR k (A.deeper (envOfC (cM x) scope s.heap.objs.size q (.ref c')))→
   QE (iX (iZ X.prog X.w) X.prog X.w X.K X.mg X.base N (cM x) scope q (.ref c') A outer s H E) body gb)
  (hb:∀(pm cv ctv:Value) (s:Shared) (u:Value),BindsTo s (uQ (cM x) params body scope pm cv ctv) ⟨[u],[]⟩ [(px,u)]:=by intros;exact .of_eq rfl)
  (hcode:X.env.code=.ref c:=by rfl) (hglob:X.env.globals=mainGlobals:=by rfl) (hq:X.env.qual++("<lambda>":Str)=cM x:=by rfl)
  (hcl:closureFor scope X.env=pure []:=by rfl) (hd:defaultsOf params X.env=([],[]):=by rfl) (hcalm:X.calm=true:=by rfl) (h1:bS e=true:=by rfl) :
  QE X (.Call (.Name "min" p) [e] [⟨some "key",.Lambda params body scope lpos,kpos⟩] pos) (qz (yJ (N.length-1) gb) g):=⟨FQ T hr hg hm hv he.h hcode hglob hq hcl hd hcalm S (fun q c' A outer s H E hr=>(hbody q c' A outer s H E hr).h) hb h1⟩
variable{q:Program}{d:DefRec}
theorem Gu {l:W.OpenLaw}{n:Nat}{loose:List Str}{XP:(Str→Option Value)→Heap→Prop}{YP:World→Heap→Prop}{K:Params→W.Frag}{F:FD}
  (hn:l.most=some n) (hn2:n≤sizeLine) (hdf:d.params.defaults=[]) (hr:bR k callerA) (hY:∀(w:World) (h:Heap),YP w h→(K w.params).In h)
  (hF:∀(w:World) (mg:Str→Option Value) (fa:Addr) (h:Heap),(K w.params).In h→h.Ns mainGlobals mg→mg d.name=some (.ref fa)→
   ∃fd:FuncData,(∀(s:Shared) (u:Value),BindsTo s fd ⟨[u],[]⟩ [(x,u)])∧∀base:Heap,(K w.params).In base→base.Ns mainGlobals mg→eX l.prog w (K w.params) mg base (iZ l.prog w) k fa fd [x] (oy (K w.params) 1 F))
  (tabs:∀w:World,∃(ls:List (Str×DefRec×Addr×Addr)) (bm:Addr),(∀p∈ls,(recsOf q).find? (fun e=>e.name==p.1)=some p.2.1∧W.tabIn (K w.params) p.1=some (p.2.2.1,p.2.2.2)∧(K w.params).lookup p.2.2.2=none)∧
   (∀y,y∈cW→W.nsIn (K w.params) mainGlobals y=some none∨∃p∈ls,p.1=y)∧W.nsIn (K w.params) mainGlobals "__builtins__"=some (some (.ref bm))∧(K w.params).lookup bm=none)
  (ht:∀ns:List Int,ns.length≤n→∃M',F [.ro (ns.map D.int)] []=.ok (.bl true) M') :
  W.WalkO q loose XP YP l.row.toRowW d [] (fun f vs=>PySem.call f vs):=
 KY (CX:=fun w=>iZ l.prog w) (sp:=fun w=>oy (K w.params) 1 F) hn hn2 hdf hr hY hF tabs (fun w H a ns hl tb hS=>Im tb hS (ht ns hl)) fun w H s e s' z=>Nw z
theorem CM :∀p∈([]:List (Str×DefRec×Addr×Addr)),(recsOf q).find? (fun e=>e.name==p.1)=some p.2.1∧W.tabIn K p.1=some (p.2.2.1,p.2.2.2)∧K.lookup p.2.2.2=none:=fun _ h=>by cases h
variable{ls:List (Str×DefRec×Addr×Addr)}
theorem A5 {c P:Addr}(h1:(recsOf q).find? (fun e=>e.name==x)=some d)(h2:W.tabIn K x=some (c,P))(h3:K.lookup P=none)
  (h:∀p∈ls,(recsOf q).find? (fun e=>e.name==p.1)=some p.2.1∧W.tabIn K p.1=some (p.2.2.1,p.2.2.2)∧K.lookup p.2.2.2=none) :
  ∀p∈(x,d,c,P)::ls,(recsOf q).find? (fun e=>e.name==p.1)=some p.2.1∧W.tabIn K p.1=some (p.2.2.1,p.2.2.2)∧K.lookup p.2.2.2=none:=fun p hp=>by
 rcases mem_cons.mp hp with rfl|hp
 ·exact⟨h1,h2,h3⟩
 ·exact h p hp
theorem yd {φ:Str→Prop}(h1:φ "ink_shown")(h2:φ "table_within")(h3:φ "slots_given")(h4:φ "cast_on_slots"):∀y,y∈cW→φ y:=fun y hy=>by
 simp only[cW,mem_cons,not_mem_nil,or_false] at hy;rcases hy with rfl|rfl|rfl|rfl <;> assumption
theorem GD {bm:Addr}(h:∀p∈ls,(recsOf q).find? (fun e=>e.name==p.1)=some p.2.1∧W.tabIn K p.1=some (p.2.2.1,p.2.2.2)∧K.lookup p.2.2.2=none)
  (h2:∀y,y∈cW→W.nsIn K mainGlobals y=some none∨∃p∈ls,p.1=y) (h3:W.nsIn K mainGlobals "__builtins__"=some (some (.ref bm))) (h4:K.lookup bm=none) :
  ∃(ls:List (Str×DefRec×Addr×Addr)) (bm:Addr),(∀p∈ls,(recsOf q).find? (fun e=>e.name==p.1)=some p.2.1∧W.tabIn K p.1=some (p.2.2.1,p.2.2.2)∧K.lookup p.2.2.2=none)∧
   (∀y,y∈cW→W.nsIn K mainGlobals y=some none∨∃p∈ls,p.1=y)∧W.nsIn K mainGlobals "__builtins__"=some (some (.ref bm))∧K.lookup bm=none:=⟨ls,bm,h,h2,h3,h4⟩
theorem Ig {f c P:Addr}{oc occ:Value}{od odc:Option Addr}{sl slc:Array (Option Value)}{vs:Array Value}
  (a:W.nsIn K mainGlobals x=some (some (.ref f))) (l:K.lookup f=some ⟨oc,od,.func fd,sl⟩) (ec:fd.code=.ref c) (lc:K.lookup c=some ⟨occ,odc,.fields vs,slc⟩) (h11:vs[11]?=some (.ref P)):W.tabIn K x=some (c,P):=by
 unfold W.tabIn;rw[a];dsimp only;rw[l];dsimp only;rw[ec];dsimp only;rw[lc];dsimp only;rw[h11]
section
variable {X:Cx}{x:Str}{z:Int}{pos:Pos}
theorem E8 {tk:Tok}(hg:Gl X x)(hm:X.mg x=some (.int z tk))(hd:(x==("__debug__":Str))=false:=by decide):PE X (.Name x pos) (tE X (gC (.int z))):=
 (FC hg hm (v:=.int z) ⟨tk,rfl⟩ hd).of fun σ H Q h=>by
  obtain⟨ρ,θ,M,_,hw,h⟩:=h;exact h _ θ H (.refl hw) rfl
theorem Ge (hm:∃tk,X.mg x=some (.int z tk))(hg:Gl X x:=by rfl)(hd:(x==("__debug__":Str))=false:=by decide):QE X (.Name x pos) (gC (.int z)):=by
 obtain⟨tk,hm⟩:=hm;exact⟨E8 hg hm hd⟩
end
end DL
namespace PySem
section
variable {prog:Program}{w:World}{K:Type}[DecidableEq K]{knd:HeapKind prog w K}{A:Around}{E:Value→Shared→Prop}{s:Shared}
theorem hk_setDefault {d a:Addr}{xs:List (K×Addr×Value)}{k:K}{v:Value}{Q:Value→Shared→Prop}(hu:knd.room A)(hkey:knd.is s.heap k a)(hm:s.heap.DictOfH knd d xs)
  (h1:∀p,atKey xs k=some p→Q p.2 {s with toks:=s.toks+knd.draws k})
  (h2:atKey xs k=none→∀h',h'.DictOfH knd d (storedH xs k a v)→Heap.SameBut d s.heap h'→Q v {s with heap:=h',toks:=s.toks+knd.draws k})
  (hsz:xs.length≤sizeLine):wpAny (model prog w) A (dictSetDefault d (.ref a) v) Q E s:=by
 obtain⟨o,es,ep,ho,hc,hd,he,his,hn⟩:=hm;unfold dictSetDefault
 try with_reducible refine wpAny_holding ?_
 refine wpAny_bind (knd.pyHash hu hkey ?_);refine wpAny_bind (wpAny_dictFind_heap (s:={s with toks:=s.toks+knd.draws k}) hu hkey ho hd he his hn ?_ ?_)
 ·intro hno;have hnot:k∉xs.map (·.1):=not_mem_keys_of_get hno;have none_:=atKey_none_of_get hno;refine wpAny_bind (wpAny_rule ?_);refine wpAny_bind (wpAny_updateDictKeys (hz:=by have e:=size_of_entries he;omega) (s:={s with toks:=s.toks+knd.draws k}) ho hd (wpAny_pure (h2 none_ _ ⟨_,_,ep+1,Heap.get?_update_self _ ho (Obj.isFreed_of_dict (Obj.data_mapDictKeys hd _)),
   hc.mapDictKeys _,Obj.data_mapDictKeys hd _,?_,?_,?_⟩ (Heap.SameBut.update ..))))
  ·rw[storedH_new none_];simp[he,entryOfKey]
  ·rw[storedH_new none_];intro x hx;rcases List.mem_append.mp hx with hx|hx
   ·exact knd.keeps (his x hx) ho hd (Heap.SameBut.update ..)
   ·simp only[List.mem_singleton] at hx;subst hx;exact knd.keeps hkey ho hd (Heap.SameBut.update ..)
  ·rw[storedH_new none_];rw[List.map_append,List.nodup_append];refine⟨hn,by simp,?_⟩;intro x hx y hy;simp only[List.map_cons,List.map_nil,List.mem_singleton] at hy;subst hy;exact fun e=>hnot (e▸hx)
 ·intro j p hj;have at_:=atKey_of_get hn hj;refine wpAny_bind (wpAny_dictEntries (s:={s with toks:=s.toks+knd.draws k}) ho hd ?_);rw[entry_at he j,hj];exact wpAny_bind (wpAny_rule (wpAny_pure (h1 _ at_)))
theorem hk_meets_setdefault (knd:HeapKind prog w K)(d a:Addr)(hd:(d==sysModules)=false)(dflt:Value) :
  MeetsIn prog w (Builtin.«dict.setdefault» ⟨[.ref d,.ref a,dflt],[]⟩) (fun A R s=>knd.room A.in1∧∃k xs,knd.is s.heap k a∧s.heap.DictOfH knd d xs∧xs.length≤sizeLine∧
   (∀p,atKey xs k=some p→R (.ok (.ret p.2)) {s with toks:=s.toks+knd.draws k})∧
   (atKey xs k=none→∀h',h'.DictOfH knd d (storedH xs k a dflt)→Heap.SameBut d s.heap h'→R (.ok (.ret dflt)) {s with heap:=h',toks:=s.toks+knd.draws k})):=
 .of_wp fun A R s ⟨hu,k,xs,hkey,hm,hz,h1,h2⟩=>by
  unfold Builtin.«dict.setdefault»;refine wpAny_bind ?_;unfold Builtin.Dict.keyAndDefault;refine wpAny_bind (wpAny_notOrdered_dict hm.typeIs ?_);show wpAny _ _ (pure (d,Value.ref a,some dflt)) _ _ s;refine wpAny_pure ?_;show wpAny _ _ (if(d==sysModules)=true then _ else(dictSetDefault d (.ref a) dflt >>= _)) _ _ s;rw[if_neg (by rw[hd];exact Bool.false_ne_true)];exact wpAny_bind (hk_setDefault (hsz:=hz) hu hkey hm (fun p hp=>wpAny_pure ⟨p.2,rfl,h1 p hp⟩) fun hn h' hm' hs'=>wpAny_pure ⟨dflt,rfl,h2 hn h' hm' hs'⟩)
end
end PySem
namespace L2
open PySem PySem.Spec PyProof.Rows List
def Qn (H:Hp)(a:Addr)(y z r:V)(H':Hp):Prop:=
 (OJ H a y (some r)∧H'=H)∨(∃kvs k,H a=some (.dK kvs)∧y=kV k∧n5 kvs k=none∧kvs.length<sizeLine∧r=z∧H'=cR H a (.dK (qT kvs k z)))∨
 ∃kvs k b,H a=some (.dT kvs)∧y=.ref b∧H b=some (.tup (k.map kV))∧n5 kvs k=none∧kvs.length<sizeLine∧r=z∧H'=cR H a (.dT (qT kvs k z))
section
variable {X:Cx}{ah:List (Addr×Obj)}{σ:St}{H H':Hp}{s:Shared}{a:Addr}{y z r:V}{u d:Value}{A:Around}{E:Value→Shared→Prop}
theorem CJ {Q:Value→Shared→Prop}(hu:A.units+1<cLine)(I:Inv X ah σ H s)(g:Qn H a y z r H')(ry:bC y u)(rz:bC z d)(h:∀w' s',Inv X ah σ H' s'→bC r w'→Q w' s') :
  wpAny (model X.prog X.w) A (call (.builtin "dict.setdefault") [.ref a,u,d]) Q E s:=by
 rcases g with⟨g,rfl⟩|⟨kvs,k,e,ey,l,hl,er,rfl⟩|⟨kvs,k,b,e,ey,eb,l,hl,er,rfl⟩
 ·rcases g with⟨kvs,k,e,ey,l⟩|⟨kvs,k,b,e,ey,eb,l⟩
  ·subst ey;obtain⟨z',hd,vs,rel,dd⟩:=D1 I.hok e;obtain⟨w',hw,rw'⟩:=ma.some_of (v:=r) (o:=valueAt vs k) (by rw[l];exact rel.val k);refine call_meetsIn PySem.F.slot_dict_setdefault dd.typeIs PySem.F.entry_dict_setdefault (PySem.F.args_dict_setdefault_3 _ _ _) (kt_meets_setdefault (c0 X.prog X.w) a (DZ ry) hd d) ⟨vs,dd,by rw[←rel.length];exact z',fun v hv=>?_,fun hn=>?_⟩
   ·rw[hw] at hv;cases hv;exact h _ _ (I.tok _) rw'
   ·rw[hw] at hn;cases hn
  ·subst ey;cases (show u=Value.ref b from ry);obtain⟨z',hd,xs,rel,dd⟩:=Cs I.hok e;obtain⟨w',hw,rw'⟩:=ma.some_of (v:=r) (o:=(atKey xs k).map (·.2)) (by rw[l];exact rel.val k);obtain⟨p,hp,hp2⟩:=Option.map_eq_some_iff.mp hw;refine call_meetsIn PySem.F.slot_dict_setdefault dd.typeIs PySem.F.entry_dict_setdefault (PySem.F.args_dict_setdefault_3 _ _ _) (hk_meets_setdefault (tupleKind (c0 X.prog X.w)) a b hd d) ⟨tupleKind_room_in1 hu,k,xs,zL I.hok eb,dd,by rw[←Paired.length rel];exact z',fun q hq=>?_,fun hn=>?_⟩
   ·rw[hp] at hq;cases hq;rw[hp2];exact h _ _ (I.tok _) rw'
   ·rw[hp] at hn;cases hn
 ·subst ey er;obtain⟨z',hd,vs,rel,dd⟩:=Ly I.hok e;have hn:valueAt vs k=none:=ma.none_of (by rw[←l];exact rel.val k);have hl':(qT kvs k r).length≤sizeLine:=by have:=qB kvs k r;omega
  refine call_meetsIn PySem.F.slot_dict_setdefault dd.typeIs PySem.F.entry_dict_setdefault (PySem.F.args_dict_setdefault_3 _ _ _) (kt_meets_setdefault (c0 X.prog X.w) a (DZ ry) hd d) ⟨vs,dd,by rw[←rel.length];exact z',fun v hv=>?_,fun _ h' dd' hs=>h _ _ ?_ rz⟩
  ·rw[hn] at hv;cases hv
  ·have he:∃q,h'.get? a=some q:=let ⟨q,_,_,hq,_⟩:=dd';⟨q,hq⟩
   exact AL I (by rw[e];exact True.intro) hs he (K2 hl' hd (rel.put k rz) dd')
 ·subst ey er;cases (show u=Value.ref b from ry);obtain⟨z',hd,xs,rel,dd⟩:=ND I.hok e;have hn:(atKey xs k).map (·.2)=none:=ma.none_of (by rw[←l];exact rel.val k);have hl':(qT kvs k r).length≤sizeLine:=by have:=qB kvs k r;omega
  refine call_meetsIn PySem.F.slot_dict_setdefault dd.typeIs PySem.F.entry_dict_setdefault (PySem.F.args_dict_setdefault_3 _ _ _) (hk_meets_setdefault (tupleKind (c0 X.prog X.w)) a b hd d) ⟨tupleKind_room_in1 hu,k,xs,zL I.hok eb,dd,by rw[←Paired.length rel];exact z',fun q hq=>?_,fun _ h' dd' hs=>h _ _ ?_ rz⟩
  ·rw[hq] at hn;cases hn
  ·obtain⟨q,es,ep,hq,h2,h3,h4,_,h5⟩:=dd';refine AL I (by rw[e];exact True.intro) hs ⟨q,hq⟩ ⟨hl',hd,_,(rel.put k eb rz).keeps fun c ys ec=>?_,q,es,ep,hq,h2,h3,h4,h5⟩;rw[aQ (xN ec e (fun z=>nomatch z))];exact ec
end
section
variable {X:Cx}{o e f:Expr}{td ty tx:TE}{apos cpos:Pos}
def LO (td ty tx:TE):TE:=fun σ H Q=>td σ H fun x H1=>∃a,x=.ref a∧OM H1 a∧ty σ H1 fun y H2=>tx σ H2 fun z H3=>∃r H4,Qn H3 a y z r H4∧Q r H4
theorem zP (hu:X.A.units+1<cLine)(ho:PE X o td)(he:PE X e ty)(hf:PE X f tx)(m:M2 X o "setdefault" apos e f cpos):PE X (.Call (.Attribute o "setdefault" apos) [e,f] [] cpos) (LO td ty tx):=by
 intro ah s σ H Q I h;refine wpAny_Call_method m.base m.few m.line PySem.F.plainAttrs_dict PySem.F.slot_dict_setdefault PySem.F.type_dict_setdefault (cZ (ho ah s σ H _ I h) fun u s1 ⟨x,H1,I1,rx,a,ex,d,q1⟩=>?_);subst ex;obtain rfl:u=Value.ref a:=rx;obtain⟨t1,t2,_⟩:=K6 I1 d;refine⟨t1,t2,?_⟩;rw[m.trees];refine Calls.callWith_builtin rfl (Calls.evalArgs_plain (Calls.spliced_cons (cZ (he ah s1 σ H1 _ I1 q1) fun iv s2 ⟨y,H2,I2,ry,q2⟩=>
  Calls.spliced_cons (cZ (hf ah s2 σ H2 _ I2 q2) fun fv s3 ⟨z,H3,I3,rz,r,H4,g,q3⟩=>Calls.spliced_nil ?_))))
 exact CJ hu I3 g ry rz fun w' s4 I4 rw'=>⟨_,H4,I4,rw',q3⟩
end
def kR (ns:List Int):List Int:=ns.mergeSort fun a b=>decide (a≤b)
theorem ow (ns:List Int):(kR ns).Perm ns:=mergeSort_perm ns _
theorem wQ (ns:List Int):(kR ns).Pairwise (·≤·):=by
 have h:(kR ns).Pairwise (fun a b=>decide (a≤b)=true):=pairwise_mergeSort (le:=fun a b=>decide (a≤b)) (fun a b c h1 h2=>by simp at *;omega) (fun a b=>by simp;omega) ns;exact h.imp fun h=>by simpa using h
theorem qq:∀{a b:List Int},a.Perm b→a.Pairwise (·≤·)→b.Pairwise (·≤·)→a=b
 | [],b,p,_,_=>(List.Perm.nil_eq p)
 | x::a,[],p,_,_=>absurd p.symm.nil_eq (by simp)
 | x::a,y::b,p,ha,hb=>by
  have h1:x≤y:=by
   rcases mem_cons.mp (p.symm.subset (mem_cons_self ..):y∈x::a) with e|e
   ·omega
   ·exact(pairwise_cons.mp ha).1 y e
  have h2:y≤x:=by
   rcases mem_cons.mp (p.subset (mem_cons_self ..):x∈y::b) with e|e
   ·omega
   ·exact(pairwise_cons.mp hb).1 x e
  have e:x=y:=by omega
  subst e;rw[qq (perm_cons x |>.mp p) (pairwise_cons.mp ha).2 (pairwise_cons.mp hb).2]
theorem uw:∀{ns:List Int} {us:List Value},bu (ns.map V.int) us→IntsAre us ns
 | [],us,r=>by cases r;exact .nil
 | n::ns,us,r=>by
  cases r with
  | cons h t=>
   obtain⟨tk,e⟩:=(show∃t,_=Value.int n t from h);subst e;exact .cons n tk (uw t)
theorem tu:∀{us:List Value} {ns:List Int},IntsAre us ns→bu (ns.map V.int) us
 | _,_,.nil=>.nil
 | _,_,.cons n t r=>.cons ⟨t,rfl⟩ (tu r)
section
variable {X:Cx}
theorem ye:eO X (.builtin "sorted") (fun xs H Q=>∃p ns,xs=[.ref p]∧pc X.K H p (ns.map V.int)∧ns.length<64∧∀l,H l=none→Q (.ref l) (cR H l (.lst ((kR ns).map V.int)))):=by
 intro ah s σ H xs us Q I r h;obtain⟨p,ns,rfl,hq,h64,q⟩:=h;obtain⟨u,rfl,rx⟩:=oK r;cases rx;obtain⟨its,r',pl,hz⟩:=I.list hq;have hlen:=r'.length;rw[length_map] at hlen;refine sorted_ints pl.isList (uw r') (by omega) fun out ns' a1 a2 a3=>?_
 have e:ns'=kR ns:=qq (a2.trans (ow ns).symm) a3 (wQ ns);subst e;obtain⟨c,he⟩:=sortedAll_at s.heap its out;have hl2:(kR ns).length≤sizeLine:=by rw[(ow ns).length_eq,sizeLine_eq];omega
 exact⟨.ref (s.heap.objs.size+1),_,I.laid (t':=s.toks) (fun _ _=>sortedAll_old) (Nat.le_succ _) (show dq X.prog X.w _ _ _ (.lst ((kR ns).map V.int)) from⟨by rw[length_map];exact hl2,out.toList,c,tu a1,by simpa using he⟩),rfl,q _ (I.hok.fresh (Nat.le_succ _))⟩
end
end L2
namespace DL
open PySem PySem.Spec PyProof.Rows L2 List
def oX:D→Option eQ
 | .int i=>some (.inl i)
 | .str x=>some (.inr x)
 | _=>none
def Bz:List D→Option (List eQ)
 | []=>some []
 | d::ds=>match oX d,Bz ds with
  | some k,some ks=>some (k::ks)
  | _,_=>none
def qt:D→Option (List eQ)
 | .tup ds=>Bz ds
 | _=>none
def mh {κ:Type}[DecidableEq κ](kvs:List (κ×D))(k:κ):Option D:=(kvs.find? fun kv=>decide (kv.1=k)).map (·.2)
section
variable {K:W.Frag}{θ:List Addr}{H:Hp}
theorem HM {d:D}{k:eQ}{v:V}(e:oX d=some k)(r:fA K θ H d v):v=kV k:=by
 cases d <;> simp only[oX,Option.some.injEq,reduceCtorEq] at e
 ·subst e;exact r
 ·subst e;exact r
theorem Dh:∀{ds:List D} {ks:List eQ} {vs:List V},Bz ds=some ks→bO K θ H ds vs→vs=ks.map kV
 | [],ks,vs,e,r=>by
  simp only[Bz,Option.some.injEq] at e;subst e;exact r
 | d::ds,ks,vs,e,r=>by
  obtain⟨v,us,e1,r1,r2⟩:=r;simp only[Bz] at e;cases q1:oX d with
  | none=>rw[q1] at e;cases e
  | some k=>
   cases q2:Bz ds with
   | none=>rw[q1,q2] at e;cases e
   | some ks'=>
    rw[q1,q2] at e;cases e;rw[e1,HM q1 r1,Dh q2 r2];rfl
theorem Iz {d:D}{ks:List eQ}{v:V}(e:qt d=some ks)(r:fA K θ H d v):∃b,v=.ref b∧H b=some (.tup (ks.map kV))∧b∉θ:=by
 cases d with
 | tup ds=>
  obtain⟨a,vs,e1,t,r1⟩:=r;rw[Dh e r1] at t;exact⟨a,e1,t.1,t.2⟩
 | _=>cases e
section
variable {κ:Type}[DecidableEq κ]
theorem B9 {p:κ×D}{r:List (κ×D)}{k:κ}(e:p.1=k):mh (p::r) k=some p.2:=by simp[mh,find?_cons,e]
theorem Co {p:κ×D}{r:List (κ×D)}{k:κ}(e:¬p.1=k):mh (p::r) k=mh r k:=by simp[mh,find?_cons,e]
theorem sQ:∀{fs:List (κ×D)} {vs:List (κ×V)} (k:κ),sX K θ H fs vs→(∀d,mh fs k=some d→∃v,n5 vs k=some v∧fA K θ H d v)∧(mh fs k=none→n5 vs k=none)
 | [],vs,k,r=>by
  have e:vs=[]:=r;subst e;exact⟨fun d h=>(by cases h),fun _=>rfl⟩
 | p::fs,vs,k,r=>by
  obtain⟨k0,d0⟩:=p;obtain⟨v,us,e,h1,h2⟩:=r;subst e
  by_cases q:k0=k
  ·rw[B9 (p:=(k0,d0)) q,oF (p:=(k0,v)) q];exact⟨fun d h=>(by cases h;exact⟨v,rfl,h1⟩),fun h=>(by cases h)⟩
  ·rw[Co (p:=(k0,d0)) q,oC (p:=(k0,v)) q];exact sQ k h2
theorem pp {k:κ}{d:D}{v:V}(h:fA K θ H d v):∀{fs:List (κ×D)} {vs:List (κ×V)},sX K θ H fs vs→sX K θ H (fs++[(k,d)]) (vs++[(k,v)])
 | [],vs,r=>by
  have e:vs=[]:=r;subst e;exact⟨v,[],rfl,h,rfl⟩
 | (k0,d0)::fs,vs,r=>by
  obtain⟨u,us,e,h1,h2⟩:=r;subst e;exact⟨u,us++[(k,v)],rfl,h1,pp h h2⟩
theorem mW:∀{fs:List (κ×D)} {vs:List (κ×V)},sX K θ H fs vs→fs.length=vs.length
 | [],vs,r=>by
  have e:vs=[]:=r;subst e;rfl
 | (k0,d0)::fs,vs,r=>by
  obtain⟨u,us,e,h1,h2⟩:=r;subst e;rw[length_cons,length_cons,mW h2]
end
end
section
variable {X:Cx}{pos apos cpos:Pos}{o e f:Expr}
def xG:GE:=fun _ M=>.ok (.mr M.length) (M++[.dK []])
def xm:GE:=fun _ M=>.ok (.mr M.length) (M++[.dT []])
theorem Hb:PE X (.Dict [] [] pos) (tE X xG):=CB.of fun σ H Q ⟨ρ,θ,M,hd,hw,h⟩ p hp=>by
 have h:bh X θ H Q (.ok (.mr M.length) (M++[.dK []])):=h;exact h _ _ _ (wy hw hp ⟨[],bX,rfl⟩) (tz hw)
theorem EW:PE X (.Dict [] [] pos) (tE X xm):=EF.of fun σ H Q ⟨ρ,θ,M,hd,hw,h⟩ p hp=>by
 have h:bh X θ H Q (.ok (.mr M.length) (M++[.dT []])):=h;exact h _ _ _ (wy hw hp ⟨[],bX,rfl⟩) (tz hw)
def v6:Option MO→Bool
 | some (.dK _)=>true
 | some (.dT _)=>true
 | _=>false
def ie (i:Nat)(y z:D)(M:aB):bj D:=match M[i]? with
 | some (.dK kvs)=>match oX y with
  | some k=>match mh kvs k with
   | some r=>.ok r M
   | none=>if kvs.length<sizeLine then .ok z (M.set i (.dK (kvs++[(k,z)]))) else .bad
  | none=>.bad
 | some (.dT kvs)=>match qt y with
  | some k=>match mh kvs k with
   | some r=>.ok r M
   | none=>if kvs.length<sizeLine then .ok z (M.set i (.dT (kvs++[(k,z)]))) else .bad
  | none=>.bad
 | _=>.bad
def lD (go gy gz:GE):GE:=fun ρ M=>(go ρ M).bind fun o M1=>match o with
 | .mr i=>if v6 M1[i]?=true then(gy ρ M1).bind fun y M2=>(gz ρ M2).bind fun z M3=>ie i y z M3 else .bad
 | _=>.bad
theorem BR {K:W.Frag}{θ:List Addr}{H:Hp}{M:aB}{i:Nat}{a:Addr}(hw:Wr K θ H M)(ta:θ[i]?=some a)(h:v6 M[i]?=true):OM H a:=by
 cases q:M[i]? with
 | none=>rw[q] at h;cases h
 | some m=>
  cases m with
  | lst _=>rw[q] at h;cases h
  | obj _ _=>rw[q] at h;cases h
  | dK kvs=>obtain⟨vs,e,_⟩:=hw.at_ i a _ ta q;exact .inl ⟨vs,.inl e⟩
  | dT kvs=>obtain⟨vs,e,_⟩:=hw.at_ i a _ ta q;exact .inr ⟨vs,.inl e⟩
theorem Be {go gy gz:GE}(hu:X.A.units+1<cLine)(ho:PE X o (tE X go))(he:PE X e (tE X gy))(hf:PE X f (tE X gz))(m:M2 X o "setdefault" apos e f cpos) :
  PE X (.Call (.Attribute o "setdefault" apos) [e,f] [] cpos) (tE X (lD go gy gz)):=(zP hu ho he hf m).of fun σ H Q ⟨ρ,θ,M,hd,hw,h⟩=>by
 refine bZ hd hw (bh X θ H Q) (fun c M' h=>h) (fun h=>h) h fun d M1 v θ1 H1 g1 r1 h1=>?_
 have h2:=bh.go g1 h1;cases d with
 | mr i=>
  have h2:bh X θ1 H1 Q (if v6 M1[i]?=true then(gy ρ M1).bind fun y M2=>(gz ρ M2).bind fun z M3=>ie i y z M3 else .bad):=h2;obtain⟨a,ea,ta⟩:=id r1;split at h2
  ·rename_i hD;refine⟨a,ea,BR g1.wr ta hD,?_⟩;refine bZ (hd.go g1) g1.wr (bh X θ1 H1 Q) (fun c M' h=>h) (fun h=>h) h2 fun dy M2 vy θ2 H2 g2 r2 h3=>?_
   refine bZ ((hd.go g1).go g2) g2.wr (bh X θ2 H2 Q) (fun c M' h=>h) (fun h=>h) (bh.go g2 h3) fun dz M3 vz θ3 H3 g3 r3 h4=>?_
   have h4:=bh.go g3 h4;have ry:fA X.K θ3 H3 dy vy:=r2.go g3;obtain⟨a',ea',ta3⟩:fA X.K θ3 H3 (.mr i) v:=r1.go (g2.trans g3);obtain rfl:a=a':=by rw[ea] at ea';injection ea'
   unfold ie at h4;cases q:M3[i]? with
   | none=>rw[q] at h4;exact h4.elim
   | some mo=>
    cases mo with
    | lst _=>rw[q] at h4;exact h4.elim
    | obj _ _=>rw[q] at h4;exact h4.elim
    | dK kvs=>
     rw[q] at h4;dsimp only at h4;obtain⟨vs,hv,ra⟩:=g3.wr.at_ i a _ ta3 q;cases qk:oX dy with
     | none=>rw[qk] at h4;exact h4.elim
     | some k=>
      rw[qk] at h4;dsimp only at h4;have ek:=HM qk ry;obtain⟨i1,i2⟩:=sQ k ra;cases qg:mh kvs k with
      | some r=>
       rw[qg] at h4;obtain⟨vr,hvr,rr⟩:=i1 r qg;exact⟨vr,H3,.inl ⟨.inl ⟨vs,k,.inl hv,ek,hvr.symm⟩,rfl⟩,h4 _ _ _ (.refl g3.wr) rr⟩
      | none=>
       rw[qg] at h4;dsimp only at h4;split at h4
       ·rename_i hl;have nv:=i2 qg;refine⟨vz,_,.inr (.inl ⟨vs,k,hv,ek,nv,by rw[←mW ra];exact hl,rfl,rfl⟩),?_⟩;rw[yt vz nv];have gs:=rm (m:=.dK (kvs++[(k,dz)])) (o:=.dK (vs++[(k,vz)])) g3.wr ta3 ⟨_,bX,kU (oY g3.wr ta3) (pp r3 ra)⟩;exact h4 _ _ _ gs (r3.go gs)
       ·exact h4.elim
    | dT kvs=>
     rw[q] at h4;dsimp only at h4;obtain⟨vs,hv,ra⟩:=g3.wr.at_ i a _ ta3 q;cases qk:qt dy with
     | none=>rw[qk] at h4;exact h4.elim
     | some k=>
      rw[qk] at h4;dsimp only at h4;obtain⟨b,eb,hb,_⟩:=Iz qk ry;obtain⟨i1,i2⟩:=sQ k ra;cases qg:mh kvs k with
      | some r=>
       rw[qg] at h4;obtain⟨vr,hvr,rr⟩:=i1 r qg;exact⟨vr,H3,.inl ⟨.inr ⟨vs,k,b,.inl hv,eb,hb,hvr.symm⟩,rfl⟩,h4 _ _ _ (.refl g3.wr) rr⟩
      | none=>
       rw[qg] at h4;dsimp only at h4;split at h4
       ·rename_i hl;have nv:=i2 qg;refine⟨vz,_,.inr (.inr ⟨vs,k,b,hv,eb,hb,nv,by rw[←mW ra];exact hl,rfl,rfl⟩),?_⟩;rw[yt vz nv];have gs:=rm (m:=.dT (kvs++[(k,dz)])) (o:=.dT (vs++[(k,vz)])) g3.wr ta3 ⟨_,bX,kU (oY g3.wr ta3) (pp r3 ra)⟩;exact h4 _ _ _ gs (r3.go gs)
       ·exact h4.elim
  ·exact h2.elim
 | _=>exact h2.elim
def yl:List D→Option (List Int)
 | []=>some []
 | .int i::ds=>(yl ds).map (i::·)
 | _::_=>none
theorem EE {K:W.Frag}{θ:List Addr}{H:Hp}:∀{ds:List D} {ns:List Int} {vs:List V},yl ds=some ns→bO K θ H ds vs→vs=ns.map V.int
 | [],ns,vs,e,r=>by
  simp only[yl,Option.some.injEq] at e;subst e;exact r
 | d::ds,ns,vs,e,r=>by
  obtain⟨v,us,e1,r1,r2⟩:=r;cases d with
  | int i=>
   simp only[yl] at e;obtain⟨ms,e2,e3⟩:=Option.map_eq_some_iff.mp e;subst e3;rw[e1,EE e2 r2,show v=V.int i from r1];rfl
  | _=>cases e
theorem vf {K:W.Frag}{θ:List Addr}{H:Hp}:∀ns:List Int,bO K θ H (ns.map D.int) (ns.map V.int)
 | []=>rfl
 | n::ns=>⟨_,_,rfl,rfl,vf ns⟩
def uC:FD:=fun ds M=>match ds with
 | [d]=>match sv d M with
  | some xs=>match yl xs with
   | some ns=>if ns.length<64 then .ok (.lst ((kR ns).map D.int)) M else .bad
   | none=>.bad
  | none=>.bad
 | _=>.bad
theorem Bg:eO X (.builtin "sorted") (rC X uC):=by
 intro ah s σ H xs us Q I r h;obtain⟨θ,M,ds,hw,rd,h⟩:=h;unfold uC at h;split at h
 ·rename_i d;split at h
  ·rename_i ys q;split at h
   ·rename_i ns qn;split at h
    ·rename_i hl;obtain⟨v,e,rv⟩:=lF rd;obtain⟨a,vs,ea,ta,ra⟩:=AU hw rv q;have ev:=EE qn ra;subst ev;exact ye ah s σ H xs us Q I r ⟨a,ns,by rw[e,ea],.inl (.inl ta),hl,fun l hp=>h _ θ _ (fm hw hp) (lR hw hp (vf _))⟩
    ·exact h.elim
   ·exact h.elim
  ·exact h.elim
 ·exact h.elim
end
section
variable {X:Cx}{pos apos cpos:Pos}{o e f:Expr}{go gy gz:GE}
theorem EY:QE X (.Dict [] [] pos) xG:=⟨Hb⟩
theorem E4:QE X (.Dict [] [] pos) xm:=⟨EW⟩
theorem C6:QC X (.builtin "sorted") uC:=⟨Bg⟩
theorem AX {k:Nat}(hr:bR k X.A)(ho:QE X o go)(he:QE X e gy)(hf:QE X f gz)
  (base:attributeBase o "setdefault" X.env (eval o X.env)=eval o X.env:=by rfl)
  (few:((backTo cpos (starEach [e,f] X.env)).all (fun x=>!x.1)&&(backToKw cpos (keywordEach [] X.env)).all (fun x=>x.1.isSome)
   && decide (([e,f]:List Expr).length+([]:List Keyword).length+(if([]:List Keyword).isEmpty then 0 else 1)<30))=true:=by rfl)
  (line:(apos.endLine==cpos.line)=true:=by rfl) (trees:backTo cpos (starEach [e,f] X.env)=[(false,eval e X.env),(false,eval f X.env)]:=by rfl) :
  QE X (.Call (.Attribute o "setdefault" apos) [e,f] [] cpos) (lD go gy gz):=⟨Be (Mp hr) ho.h he.h hf.h ⟨base,few,line,trees⟩⟩
end
end DL
namespace L2
open PySem PySem.Spec PyProof.Rows List
theorem tN:seqSlot? (.type "list") (dunderI "add")=pure (some (.builtin "list.__iadd__")):=PySem.seqSlot_of PySem.F.slot_list_iadd.lookup (by decide +kernel)
theorem pS:fillsInplaceSlot (.type "list") "add" (Operator.Add==.Add)=pure false:=by
 unfold fillsInplaceSlot;show(typeLookup (.type "list") (dunderI "add") >>= fun fi=>pure (fi.isSome&&!isSeqSlot fi))=pure false;have e:isSeqSlot (some (Value.builtin "list.__iadd__"))=true:=by decide +kernel
 rw[PySem.F.slot_list_iadd.lookup,pure_bind,e];rfl
section
variable {X:Cx}
theorem vM {M:Model}{A:Around}{E:Value→Shared→Prop}{s:Shared}{a b:Value}{Q:Value→Shared→Prop}(ha:s.TypeIs a "list")(hb:s.TypeIs b "list")
  (hc:wpAny M A (call (.builtin "list.__iadd__") [a,b]) Q E s):wpAny M A (inplaceOp .Add a b) Q E s:=by
 unfold inplaceOp;refine wpAny_holding ?_;refine wpAny_bind (wpAny_typeOf ha (wpAny_bind (wpAny_of_eq pS ?_)));show wpAny M A (if false=true then _ else _) Q E s;rw[if_neg Bool.false_ne_true];refine wpAny_bind (wpAny_binaryOp1_none (nm:="add") ha hb PySem.noFill_list_add ?_);refine wpAny_bind (wpAny_of_eq tN ?_);exact wpAny_bind (wpAny_rule hc)
def Nh:V→V→Hp→VK→Prop:=fun x y H Q=>(∃i j,x=.int i∧y=.int j∧Q (.int (i+j)) H)∨
 ∃l b xs zs,x=.ref l∧y=.ref b∧H l=some (.lst xs)∧H b=some (.lst zs)∧xs.length+zs.length≤sizeLine∧Q (.ref l) (cR H l (.lst (xs++zs)))
theorem Au:GJ X .Add Nh:=by
 intro ah s σ H x y u v Q I rx ry h;rcases h with⟨i,j,e1,e2,q⟩|⟨l,b,xs,zs,rfl,rfl,hH,hB,hz,q⟩
 ·exact JA ah s σ H x y u v Q I rx ry ⟨i,j,e1,e2,q⟩
 ·cases rx;cases ry;obtain⟨z,its,n,r,hl,e⟩:=I.lstM hH;obtain⟨z2,its2,n2,r2,hl2,e2⟩:=I.lstM hB;have hsz:its.toArray.size+its2.toArray.size≤sizeLine:=by rw[size_toArray,size_toArray];omega
  have hlong:¬(!its.toArray.isEmpty&&Builtin.List.listTooLong (its.toArray.size+its2.toArray.size))=true:=by
   rw[De hsz,Bool.and_false];exact Bool.false_ne_true
  refine vM ⟨_,e,rfl⟩ ⟨_,e2,rfl⟩ (call_meets PySem.F.slot_list_iadd ⟨_,e,rfl⟩ PySem.F.entry_list_iadd (PySem.F.args_list_iadd_2 _ _)
   (AutoSeq1.list___iadd___list_list_0 l its.toArray n b its2.toArray n2 hlong (by rw[size_toArray];omega) (by omega)) ⟨e,e2,?_⟩)
  refine⟨.ref l,_,I.lset (its':=its++its2) hH e (by simp) (r.append r2) ?_,rfl,q⟩;rw[length_append];omega
end
end L2
namespace DL
open PySem PySem.Spec PyProof.Rows L2 List
section
variable {X:Cx}{c f:Str}{C:Addr}{o value:Expr}{go gv:GE}{pos pos' tpos:Pos}
def qP (x y:D)(M:aB):bj D:=match x with
 | .int i=>match y with
  | .int j=>.ok (.int (i+j)) M
  | _=>.bad
 | .mr k=>match M[k]? with
  | some (.lst xs)=>match sv y M with
   | some ys=>if xs.length+ys.length≤sizeLine then .ok (.mr k) (M.set k (.lst (xs++ys))) else .bad
   | none=>.bad
  | _=>.bad
 | _=>.bad
def PD (X:Cx):V→V→Hp→VK→Prop:=fun x y H Q=>∃θ M dx dy,Wr X.K θ H M∧fA X.K θ H dx x∧fA X.K θ H dy y∧bh X θ H Q (qP dx dy M)
theorem EL:GJ X .Add (PD X):=by
 intro ah s σ H x y u v Q I rx ry ⟨θ,M,dx,dy,hw,r1,r2,h⟩;unfold qP at h;cases dx with
 | int i=>
  cases dy with
  | int j=>exact Au ah s σ H x y u v Q I rx ry (.inl ⟨i,j,r1,r2,h _ θ H (.refl hw) rfl⟩)
  | _=>exact h.elim
 | mr k=>
  dsimp only at h;cases q:M[k]? with
  | none=>rw[q] at h;exact h.elim
  | some m=>
   cases m with
   | obj _ _=>rw[q] at h;exact h.elim
   | dK _=>rw[q] at h;exact h.elim
   | dT _=>rw[q] at h;exact h.elim
   | lst xs=>
    rw[q] at h;dsimp only at h;cases q2:sv dy M with
    | none=>rw[q2] at h;exact h.elim
    | some ys=>
     rw[q2] at h;dsimp only at h;split at h
     ·rename_i hl;obtain⟨a,ea,ta⟩:=r1;obtain⟨vs,hv,ra⟩:=hw.at_ k a _ ta q;obtain⟨b,ws,eb,tb,rb⟩:=AU hw r2 q2;have gs:=zr (ds:=xs) hw ta (fh ra rb);exact Au ah s σ H x y u v Q I rx ry (.inr ⟨a,b,vs,ws,ea,eb,hv,tb,by rw[←aJ ra,←aJ rb];exact hl,h _ _ _ gs ⟨a,rfl,ta⟩⟩)
     ·exact h.elim
 | _=>exact h.elim
def Fy (c f:Str)(go gv:GE):GS:=fun ρ M=>(go ρ M).bind fun o M1=>match jU c o M1 with
 | some (_,fs)=>match fs.lookup f with
  | some v=>(gv ρ M1).bind fun y M2=>(qP v y M2).bind fun z M3=>(ww c f o z M3).bind fun _ M4=>.ok (.nx ρ) M4
  | none=>.bad
 | none=>.bad
theorem Mq (k:Kc X.K X.mg c C)(n:gV X.K C f)(ho:PE X o (tE X go))(hv:PE X value (tE X gv)):PS X (.AugAssign (.Attribute o f tpos) .Add value pos) (tS X (Fy c f go gv)):=
 (A8 ho hv EL).of fun D σ H ⟨ρ,θ,M,hd,hw,h⟩=>by
  refine bZ hd hw (cT X θ H D) (fun c M' h=>h) (fun h=>h) h fun d M1 v θ1 H1 g1 r1 h1=>?_
  have h2:=cT.go g1 h1;cases q:jU c d M1 with
  | none=>simp only[q] at h2;exact h2.elim
  | some p=>
   obtain⟨j,fs⟩:=p;simp only[q] at h2;obtain⟨a,dx,vs,ea,ta,hv,rf,_⟩:=rF g1.wr k.at_ r1 q;cases ql:fs.lookup f with
   | none=>simp only[ql] at h2;exact h2.elim
   | some y=>
    simp only[ql] at h2;obtain⟨u,eu,ru⟩:=zm rf ql;refine⟨a,C,dx,vs,u,ea,hv,k.cl,n,eu,?_⟩;refine bZ (hd.go g1) g1.wr (cT X θ1 H1 D) (fun c M' h=>h) (fun h=>h) h2 fun w M2 vw θ2 H2 g2 r2 h3=>?_
    have h3:=cT.go g2 h3;refine⟨θ2,M2,y,w,g2.wr,ru.go g2,r2,?_⟩;cases qa:qP y w M2 with
    | bad=>rw[qa] at h3;exact h3.elim
    | err c2 M3=>rw[qa] at h3;exact h3
    | ok z M3=>
     rw[qa] at h3;rw[aq] at h3;intro vz θ3 H3 g3 rz;have h4:=cT.go g3 h3;have r3:=r1.go (g2.trans g3);unfold ww at h4;cases q4:jU c d M3 with
     | none=>simp only[q4] at h4;exact h4.elim
     | some p4=>
      obtain⟨j4,fs4⟩:=p4;simp only[q4] at h4
      by_cases hl:fs4.length<1000
      ·simp only[if_pos hl] at h4;obtain⟨a4,dx4,vs4,ea4,ta4,hv4,rf4,_⟩:=rF g3.wr k.at_ r3 q4;obtain rfl:a=a4:=by rw[ea] at ea4;injection ea4
       have gs:=AF (f:=f) (dx:=dx4) g3.wr ta4 k.at_ rf4 rz;exact⟨dx4,vs4,hv4,by rw[←yQ rf4];exact hl,h4 σ θ3 _ gs ((((hd.go g1).go g2).go g3).go gs)⟩
      ·simp only[if_neg hl] at h4;exact h4.elim
theorem MP (kc:Kc X.K X.mg c C)(na:gV X.K C f)(ho:QE X o go)(hv:QE X value gv):QS X (.AugAssign (.Attribute o f tpos) .Add value pos) (Fy c f go gv):=⟨Mq kc na ho.h hv.h⟩
end
end DL
namespace L2
open PySem PySem.Spec PyProof.Rows List
end L2
namespace DL
open PySem PySem.Spec PyProof.Rows L2 List
theorem aW {N ps:List Str}{sc:Scope}(h1:sc.kind=.function:=by rfl)(h2:sc.isCoroutine=false:=by rfl)(h3:sc.isGenerator=false:=by rfl)(h4:N.Nodup:=by decide +kernel)(h5:N.take ps.length=ps:=by rfl)
  (h6:∀x∈ps,sc.names.lookup x=some .local∨sc.names.lookup x=some .cell:=by decide +kernel) (h7:∀y∈sc.names,y.2≠.free:=by decide +kernel):fF N ps sc:=⟨h1,h2,h3,h4,h5,h6,h7⟩
section
variable {X:Cx}{e:Expr}{es:List Expr}{x:Str}{p pos:Pos}{gA:GA}{k k' n:Nat}{f:Addr}{fd:FuncData}{ps:List Str}{F:FD}{st:Stmt}{id:String}{T:String}
theorem MM (hc:QC X (.builtin id) F)(hm:X.mg x=none)(hv:bootBuiltins x=some (.builtin id))(ha:QA X (e::es) gA)(hg:Gl X x:=by rfl)(hn:x≠"__name__":=by decide)(hdb:(x==("__debug__":Str))=false:=by decide)
  (h1:bS e=true:=by rfl) (h2:dg es=true:=by rfl):QE X (.Call (.Name x p) (e::es) [] pos) (aC F gA):=Nk hc hg hm hv ha hn hdb h1 h2
end
def FF (K:W.Frag)(mg:Str→Option Value)(x:Str)(st:Stmt)(ps:List Str):Prop:=∃f fd,Fn K mg x st f fd ps
def KC (K:W.Frag)(mg:Str→Option Value)(c:Str)(C:Addr):Prop:=Kc K mg c C∧W.makesIn K C=true∧W.keepIn K (.ref C)=true
def MF (K:W.Frag)(mg:Str→Option Value)(c m q:Str)(st:Stmt)(ps:List Str):Prop:=∃C f fd,KC K mg c C∧Mf K C m q st f fd ps
def LF (K:W.Frag)(mg:Str→Option Value)(x:Str)(st:Stmt)(ps:List Str):Prop:=∃f fd c P,Fn K mg x st f fd ps∧W.nsIn K mainGlobals x=some (some (.ref f))∧xU K x c P
def NA (K:W.Frag)(mg:Str→Option Value)(c f:Str):Prop:=∃C,KC K mg c C∧gV K C f
def EX (K:W.Frag)(mg:Str→Option Value)(x:Str):Prop:=∃C,Ec K mg x C
def IX (K:W.Frag)(mg:Str→Option Value)(x:Str)(tab:List (Str×Bool)):Prop:=∃G,Ec K mg x G∧∀p∈tab,∃C,Ec K mg p.1 C∧W.mroIn K C (.ref G)=some p.2
def IB (K:W.Frag)(mg:Str→Option Value)(x:String)(tab:List (Str×Bool)):Prop:=∀p∈tab,∃C,Ec K mg p.1 C∧W.mroIn K C (.type x)=some p.2
def Ls {α:Type}(P:α→Prop)(l:List α):Prop:=∀t∈l,P t
section
variable {α β γ:Type}{P:α→Prop}{l:List α}{a:α}
theorem Ls.nil:Ls P []:=fun _ h=>by cases h
theorem Ls.cons (h:P a)(t:Ls P l):Ls P (a::l):=fun x hx=>by
 rcases mem_cons.mp hx with e|e
 ·rw[e];exact h
 ·exact t x e
end
structure RN (l c:Nat)(xs R:List Str):Prop
theorem rn (l c:Nat)(xs R:List Str):RN l c xs R:=⟨⟩
def Ok (P:Program)(w:World)(K:W.Frag)(mg:Str→Option Value)(base:Heap)(x:Str)(k n:Nat)(F:FD):Prop:=
 ∃f fd ps,eX P w K mg base (iZ P w) k f fd ps (oy K n F)∧mg x=some (.ref f)∧W.keepIn K (.ref f)=true∧fL K fd ps []
def Om (P:Program)(w:World)(K:W.Frag)(mg:Str→Option Value)(base:Heap)(c m:Str)(k n:Nat)(F:FD):Prop:=
 ∃C f fd ps,eX P w K mg base (iZ P w) k f fd ps (oy K n F)∧KC K mg c C∧wM K C m f∧fL K fd ps []
section
variable {P:Program}{w:World}{K:W.Frag}{mg:Str→Option Value}{base:Heap}{x c m q:Str}{st:Stmt}{N ps:List Str}{k n:Nat}{g:GS}{F:FD}
theorem nL (h:Ok P w K mg base x k n F):Ok P w K mg base x k n fun ds M=>jV M.length (F ds M):=by
 obtain⟨f,fd,ps,h1,h2,h3,h4⟩:=h;exact⟨f,fd,ps,J6 h1,h2,h3,h4⟩
theorem bU (T:FF K mg x st ps)(N:List Str)(S:fF N ps (a7 st))(hn:ps.length=n)
  (hb:∀(f:Addr) (cdv:Value) (A:Around) (outer:List Env) (s:Shared) (H:Hp) (E:XK),N.Nodup→bR k (A.deeper (envOfC x (a7 st) s.heap.objs.size f cdv))→QB (iX (iZ P w) P w K mg base N x (a7 st) f cdv A outer s H E) (cY st) g) :
  Ok P w K mg base x (k+1) n (bi (N.length-n) g):=by
 obtain⟨f,fd,T⟩:=T;exact⟨f,fd,ps,KP T.F S hn fun cdv A outer s H E hr=>hb f cdv A outer s H E S.nd hr,T.m,T.F.kp,T.b⟩
theorem sD (T:MF K mg c m q st ps)(N:List Str)(S:fF N ps (a7 st))(hn:ps.length=n)
  (hb:∀(f:Addr) (cdv:Value) (A:Around) (outer:List Env) (s:Shared) (H:Hp) (E:XK),N.Nodup→bR k (A.deeper (envOfC q (a7 st) s.heap.objs.size f cdv))→QB (iX (iZ P w) P w K mg base N q (a7 st) f cdv A outer s H E) (cY st) g) :
  Om P w K mg base c m (k+1) n (bi (N.length-n) g):=by
 obtain⟨C,f,fd,kC,T⟩:=T;exact⟨C,f,fd,ps,KP T.F S hn fun cdv A outer s H E hr=>hb f cdv A outer s H E S.nd hr,kC,T.me,T.b⟩
theorem PB (T:LF K mg x st ps)(N:List Str)(S:fF N ps (a7 st))(hn:ps.length=n)
  (hb:∀(f c Pt:Addr) (A:Around) (outer:List Env) (s:Shared) (H:Hp) (E:XK),N.Nodup→xU K x c Pt→bR k (A.deeper (envOfC x (a7 st) s.heap.objs.size f (.ref c)))→QB (iX (iZ P w) P w K mg base N x (a7 st) f (.ref c) A outer s H E) (cY st) g) :
  Ok P w K mg base x (k+1) n (bi (N.length-n) g):=by
 obtain⟨f,fd,c,Pt,T,hns,tb⟩:=T;exact⟨f,fd,ps,IC T.F hns tb S hn fun A outer s H E hr=>hb f c Pt A outer s H E S.nd tb hr,T.m,T.F.kp,T.b⟩
end
section
variable {X:Cx}{e a o value:Expr}{es:List Expr}{x c m f:Str}{p p2 pos apos pos':Pos}{gA:GA}{g go gv:GE}{k k' n:Nat}{F:FD}{tab:List (Str×Bool)}{bs:List Str}
theorem Mm (h:Ok X.prog X.w X.K X.mg X.base x k n F)(hr:bR k' X.A)(ha:QA X (e::es) gA)(hk:k≤k':=by first|decide|omega)(hg:Gl X x:=by rfl)
  (hdb:(x==("__debug__":Str))=false:=by decide) (h1:bS e=true:=by rfl) (h2:dg es=true:=by rfl):QE X (.Call (.Name x p) (e::es) [] pos) (aj n F gA):=by
 obtain⟨f,fd,ps,h1',h2',h3,h4⟩:=h;exact LN h1' (hr.mono hk) hg h2' h3 h4 ha hdb h1 h2
theorem Fq {pl:Sem Bool}(h:Om X.prog X.w X.K X.mg X.base c m k n F)(hr:bR k' X.A)(ho:QE X o go)(ha:QA X (e::es) gA)(hk:k≤k':=by first|decide|omega)(h1:bS e=true:=by rfl)(h2:dg es=true:=by rfl)
  (ht:eval (.Call (.Attribute o m apos) (e::es) [] pos) X.env=(do
   let ov ←eval o X.env
   standAt apos.atName
   let (f,first) ←holding [ov] (getMethod ov m pl)
   callWith pos f first (backTo pos (starEach (e::es) X.env)) (backToKw pos (keywordEach [] X.env))):=by rfl):QE X (.Call (.Attribute o m apos) (e::es) [] pos) (gT c m n F go gA):=by
 obtain⟨C,f,fd,ps,a1,a2,a3,a4⟩:=h;exact KN (pl:=pl) a2.1 a3 a1 (hr.mono hk) a4 ho ha h1 h2 ht
theorem Ek {pl:Sem Bool}(h:Om X.prog X.w X.K X.mg X.base c m k n F)(hr:bR k' X.A)(ho:QE X o go)(hk:k≤k':=by first|decide|omega)
  (ht:eval (.Call (.Attribute o m apos) [] [] pos) X.env=(do
   let ov ←eval o X.env
   standAt apos.atName
   let (f,first) ←holding [ov] (getMethod ov m pl)
   callWith pos f first (backTo pos (starEach [] X.env)) (backToKw pos (keywordEach [] X.env))):=by rfl):QE X (.Call (.Attribute o m apos) [] [] pos) (gT c m n F go ag):=by
 obtain⟨C,f,fd,ps,a1,a2,a3,a4⟩:=h;exact EZ (pl:=pl) a2.1 a3 a1 (hr.mono hk) a4 ho ht
theorem CZ (h:Om X.prog X.w X.K X.mg X.base c "__init__" k n F)(hr:bR k' X.A)(ha:QA X (e::es) gA)(hk:k+1≤k':=by first|decide|omega)(hg:Gl X c:=by rfl)
  (hdb:(c==("__debug__":Str))=false:=by decide) (h1:bS e=true:=by rfl) (h2:dg es=true:=by rfl):QE X (.Call (.Name c p) (e::es) [] pos) (l8 c n F gA):=by
 obtain⟨C,f,fd,ps,a1,a2,a3,a4⟩:=h;exact Hg a2.1 ⟨a2.2.1,a3.at_,a3.fn,a2.2.2⟩ a1 (hr.mono hk) hg a4 ha hdb h1 h2
theorem G6 (h:NA X.K X.mg c f)(he:QE X e g)(hb:attributeBase e f X.env (eval e X.env)=eval e X.env:=by rfl):QE X (.Attribute e f pos) (dX c f g):=by
 obtain⟨C,h1,h2⟩:=h;exact IL h1.1 h2 he hb
theorem GF (h:NA X.K X.mg c f)(ho:QE X o go)(hv:QE X value gv)(hs:kD value=true:=by rfl):QS X (.Assign [.Attribute o f pos'] value pos) (gQ c f go gv):=by
 obtain⟨C,h1,h2⟩:=h;exact Jk h1.1 h2 ho hv hs
theorem Jq {tpos:Pos}(h:NA X.K X.mg c f)(ho:QE X o go)(hv:QE X value gv):QS X (.AugAssign (.Attribute o f tpos) .Add value pos) (Fy c f go gv):=by
 obtain⟨C,h1,h2⟩:=h;exact MP h1.1 h2 ho hv
theorem BW {np cpos:Pos}(h:EX X.K X.mg x)(he:QE X e g)(hg:Gl X x:=by rfl)(hc:X.calm=true:=by rfl)(h1:bS e=true:=by rfl)(hd:(x==("__debug__":Str))=false:=by decide):QS X (.Raise (some (.Call (.Name x np) [e] [] cpos)) none pos) (fQ x g):=by
 obtain⟨C,h⟩:=h;exact DW h hg he hc h1 hd
end
section
variable {X:Cx}{x:Str}{pos px:Pos}{ge:GE}{scope:Scope}{xs R:List Str}{iter elt tg:Expr}{ifs:List Expr}{gI:GI}{gC:GT}{sg:GG}{mk:List D→aB→bj D}{j:Nat}{y:Str}{py spos:Pos}{n:Nat}
theorem Cv (hS:dF scope X.env.kindOf [x] X.N X.N=true)(hm:mk=aZ∨mk=fq)(hi:QI X (.Name x px) iter gI)(hts:CF X scope [x] X.N ifs gC)(he:∀fp s H C,QE (aU X scope [x] X.N fp s H C) elt ge)
  (hc:X.calm=true:=by rfl) (hs:∀x,foldedSetIterable iter X.env x=pure x:=by intro _;rfl):QE X (.ListComp elt [⟨.Name x px,iter,ifs,0⟩] scope pos) (br gI gC ge mk):=FW hS hm hi hts he hc hs
theorem yy (hS:dF scope X.env.kindOf [x] X.N X.N=true)(hm:mk=aZ∨mk=fq)(hN:X.N.Nodup)(hi:QI X (.Name x px) iter gI)(hts:CF X scope [x] X.N ifs gC)(he:∀fp s H C,QE (aU X scope [x] X.N fp s H C) elt ge)
  (hc:X.calm=true:=by rfl) (hj:X.N[j]?=some y:=by rfl) (hy:X.env.scope.names.lookup y=some .local:=by rfl) (hsw:swapsWith (.ListComp elt [⟨.Name x px,iter,ifs,0⟩] scope pos) (some (.Name y py)) spos.line X.env=pure true:=by rfl)
  (hs:∀x,foldedSetIterable iter X.env x=pure x:=by intro _;rfl):QS X (.Assign [.Name y py] (.ListComp elt [⟨.Name x px,iter,ifs,0⟩] scope pos) spos) (aH j (br gI gC ge mk)):=yA hS hm hN hi hts he hc hj hy hsw hs
theorem B4 (_:RN pos.line pos.col xs R)(hS:dF scope X.env.kindOf xs R X.N=true)(hm:mk=aZ∨mk=fq)(own:QO xs.length sg)(hi:QI X tg iter gI)(hg:∀fp s H C,QG (aU X scope xs R fp s H C) tg sg)(hts:CF X scope xs R ifs gC)(he:∀fp s H C,QE (aU X scope xs R fp s H C) elt ge)
  (hn:xs.length=n:=by rfl) (hc:X.calm=true:=by rfl) (hs:∀x,foldedSetIterable iter X.env x=pure x:=by intro _;rfl):QE X (.ListComp elt [⟨tg,iter,ifs,0⟩] scope pos) (cP gI n sg gC ge mk):=hn▸Du xs hS hm own hi hg hts he hc hs
theorem wD (_:RN pos.line pos.col xs R)(hS:dF scope X.env.kindOf xs R X.N=true)(hm:mk=aZ∨mk=fq)(own:QO xs.length sg)(hN:X.N.Nodup)(hi:QI X tg iter gI)(hg:∀fp s H C,QG (aU X scope xs R fp s H C) tg sg)(hts:CF X scope xs R ifs gC)(he:∀fp s H C,QE (aU X scope xs R fp s H C) elt ge)
  (hn:xs.length=n:=by rfl) (hc:X.calm=true:=by rfl) (hj:X.N[j]?=some y:=by rfl) (hy:X.env.scope.names.lookup y=some .local:=by rfl) (hsw:swapsWith (.ListComp elt [⟨tg,iter,ifs,0⟩] scope pos) (some (.Name y py)) spos.line X.env=pure true:=by rfl)
  (hs:∀x,foldedSetIterable iter X.env x=pure x:=by intro _;rfl):QS X (.Assign [.Name y py] (.ListComp elt [⟨tg,iter,ifs,0⟩] scope pos) spos) (aH j (cP gI n sg gC ge mk)):=hn▸xI xs hS hm own hN hi hg hts he hc hj hy hsw hs
end
structure Tx (tab:List (Str×Stmt×List Str))(mtab:List (Str×Str×Str×Stmt×List Str))(ls:List (Str×Stmt×List Str))(zs es:List Str)(rs:List (Str×List (Str×Bool)))(vt:List (Str×Bool))(nas:List (Str×Str))(cs:List (Str×Str))(ci:List (Str×Int))
  (P:Program) (w:World) (K:W.Frag) (mg:Str→Option Value) (base:Heap):Prop where
 f:Ls (fun t=>FF K mg t.1 t.2.1 t.2.2) tab
 m:Ls (fun t=>MF K mg t.1 t.2.1 t.2.2.1 t.2.2.2.1 t.2.2.2.2) mtab
 l:Ls (fun t=>LF K mg t.1 t.2.1 t.2.2) ls
 z:∀x∈zs,mg x=none
 e:∀x∈es,EX K mg x
 r:Ls (fun t=>IX K mg t.1 t.2) rs
 b:IB K mg "ValueError" vt
 a:∀t∈nas,NA K mg t.1 t.2
 s:Ls (fun t=>∃tk,mg t.1=some (.str t.2 tk)) cs
 i:Ls (fun t=>∃tk,mg t.1=some (.int t.2 tk)) ci
variable{K:W.Frag}{mg:Str→Option Value}
theorem Ak {l:List (Str×Str)}(h:∀t∈l,NA K mg t.1 t.2)(c f:Str)(e:(c,f)∈l:=by decide +kernel):NA K mg c f:=h (c,f) e
variable{x:Str}
theorem Aj {l:List (Str×List (Str×Bool))}{t:List (Str×Bool)}(h:Ls (fun t=>IX K mg t.1 t.2) l)(e:l.lookup x=some t):IX K mg x t:=by
 refine h (x,t) ?_
 induction l with
 | nil=>cases e
 | cons p l ih=>
  obtain⟨y,u⟩:=p;rw[lookup_cons] at e;split at e
  ·rename_i q;cases e;rw[eq_of_beq q];exact .head _
  ·exact .tail _ (ih (fun t ht=>h t (.tail _ ht)) e)
section
variable {K:W.Frag}{mg:Str→Option Value}{x c m q:Str}{st:Stmt}{ps:List Str}{l:List (Str×Stmt×List Str)}{l':List (Str×Str×Str×Stmt×List Str)}
theorem bT (h:Ls (fun t=>FF K mg t.1 t.2.1 t.2.2) l)(i:Nat)(e:l[i]?=some (x,st,ps):=by rfl):FF K mg x st ps:=h _ (mem_of_getElem? e)
theorem OA (h:Ls (fun t=>LF K mg t.1 t.2.1 t.2.2) l)(i:Nat)(e:l[i]?=some (x,st,ps):=by rfl):LF K mg x st ps:=h _ (mem_of_getElem? e)
theorem rJ (h:Ls (fun t=>MF K mg t.1 t.2.1 t.2.2.1 t.2.2.2.1 t.2.2.2.2) l')(i:Nat)(e:l'[i]?=some (c,m,q,st,ps):=by rfl):MF K mg c m q st ps:=h _ (mem_of_getElem? e)
theorem QJ {l:List (Str×Int)}{z:Int}(h:Ls (fun t=>∃tk,mg t.1=some (.int t.2 tk)) l)(i:Nat)(e:l[i]?=some (x,z):=by rfl):∃tk,mg x=some (.int z tk):=h _ (mem_of_getElem? e)
end
section
variable {K:W.Frag}{h:Heap}{mg:Str→Option Value}{x c m q f':Str}{st:Stmt}{ps:List Str}{f C G:Addr}{oc kV dc pm cd ct:Value}{od an:Option Addr}{sl:Array (Option Value)}
theorem Nc (X:K.In h)(Gm:h.Ns mainGlobals mg)(a:W.nsIn K mainGlobals x=some (some (.ref f)))(l:K.lookup f=some ⟨oc,od,.func (W.fnOf x x (hO st) (cY st) (a7 st) .none kV dc pm an cd ct),sl⟩)(c:W.codeIn K cd x=true)(k:W.keepIn K (.ref f)=true)
  (b:∀(kV doc pm:Value) (an:Option Addr) (cdv ct:Value) (us:List Value),us.length=ps.length→bindArgs (W.fnOf x x (hO st) (cY st) (a7 st) .none kV doc pm an cdv ct) ⟨us,[]⟩=pure (ps.zip us)):FF K mg x st ps:=
 ⟨f,_,pG (st:=st) l c k,W.mg_of X Gm a,(pG (st:=st) l c k).binds b⟩
theorem N4 (X:K.In h)(Gm:h.Ns mainGlobals mg)(q:W.nsIn K mainGlobals c=some (some (.ref C)))(pg:W.plainGet K C Str.empty=true)(hd:W.hasDictIn K C=true)(po:W.plainOver K C=true)(sa:W.findIn K (.ref C) "__setattr__"=some (some (.builtin "object.__setattr__")))
  (mi:W.makesIn K C=true) (kp:W.keepIn K (.ref C)=true):KC K mg c C:=⟨⟨q,W.mg_of X Gm q,pg,hd,po,sa⟩,mi,kp⟩
theorem Nr (kC:KC K mg c C)(a:W.findIn K (.ref C) m=some (some (.ref f)))(l:K.lookup f=some ⟨oc,od,.func (W.fnOf m q (hO st) (cY st) (a7 st) .none kV dc pm an cd ct),sl⟩)(cc:W.codeIn K cd q=true)(k:W.keepIn K (.ref f)=true)(n:W.isFn K (.ref f)=true)
  (b:∀(kV doc pm:Value) (an:Option Addr) (cdv ct:Value) (us:List Value),us.length=ps.length→bindArgs (W.fnOf m q (hO st) (cY st) (a7 st) .none kV doc pm an cdv ct) ⟨us,[]⟩=pure (ps.zip us)):MF K mg c m q st ps:=
 ⟨C,f,_,kC,pG (st:=st) l cc k,⟨a,n,k⟩,(pG (st:=st) l cc k).binds b⟩
theorem LI (kC:KC K mg c C)(a:W.findIn K (.ref C) f'=some none):NA K mg c f':=⟨C,kC,a⟩
theorem MA (X:K.In h)(Gm:h.Ns mainGlobals mg)(q:W.nsIn K mainGlobals x=some (some (.ref C)))(cl:W.isClsIn K C=true)(ca:W.findIn K (.ref C) "__class__"=some (some (.builtin "object.__class__")))(sp:W.specialIn K (.builtin "object.__class__") "__get__"=some (some (.builtin "getset_descriptor.__get__")))(tk:W.takesIn K (.builtin "object.__class__")=some true)
  (ob:W.mroIn K C (.type "object")=some true) (ga:W.findIn K (.ref C) "__getattribute__"=some (some (.builtin "BaseException.__getattribute__"))) (gh:W.findIn K (.ref C) "__getattr__"=some none) (be:W.mroIn K C (.type "BaseException")=some true)
  (ex:W.excIn K C Nm "ValueError.__new__"=true) (ty:W.typeIn K (.ref C)=some (.type "type")) (sf:W.mroIn K C (.ref C)=some true):Ec K mg x C:=⟨q,W.mg_of X Gm q,⟨cl,ca,sp,tk,ob,ga,gh,be⟩,ex,ty,sf⟩
theorem LZ (h:Ec K mg x C):EX K mg x:=⟨C,h⟩
theorem Nd {tab:List (Str×Bool)}(h:Ec K mg x G)(t:Ls (fun p=>∃C,Ec K mg p.1 C∧W.mroIn K C (.ref G)=some p.2) tab):IX K mg x tab:=⟨G,h,t⟩
theorem Pm (X:K.In h)(Gm:h.Ns mainGlobals mg)(e:W.nsIn K mainGlobals x=some none):mg x=none:=W.mg_none_of X Gm e
theorem Ms {u:Tok→Value}{tk:Tok}(X:K.In h)(Gm:h.Ns mainGlobals mg)(e:W.nsIn K mainGlobals x=some (some (u tk))):∃tk,mg x=some (u tk):=⟨tk,W.mg_of X Gm e⟩
end
theorem LC {h:Heap}{st:Stmt}{ps:List Str}{f c P:Addr}{oc occ kV dc pm ct:Value}{od odc an:Option Addr}{sl slc:Array (Option Value)}{vs:Array Value}{file:Str}{tf tg tt:Tok}{flags text:Int}{inF:Bool}
  (X:K.In h) (Gm:h.Ns mainGlobals mg) (a:W.nsIn K mainGlobals x=some (some (.ref f))) (l:K.lookup f=some ⟨oc,od,.func (W.fnOf x x (hO st) (cY st) (a7 st) .none kV dc pm an (.ref c) ct),sl⟩) (cc:W.codeIn K (.ref c) x=true) (k:W.keepIn K (.ref f)=true)
  (lc:K.lookup c=some ⟨occ,odc,.fields vs,slc⟩) (hcc:occ=.type "code") (h11:vs[11]?=some (.ref P)) (h18:vs.getD 18 .none=.str file tf) (h7:vs.getD 7 .none=.int flags tg) (h9:vs.getD 9 .none=.bool inF) (h10:vs.getD 10 .none=.int text tt) (ne:c≠P)
  (hm:x∈cW) (un:∀y,y∈cW→y≠x→W.nsIn K mainGlobals y=some none)
  (b:∀(kV doc pm:Value) (an:Option Addr) (cdv ct:Value) (us:List Value),us.length=ps.length→bindArgs (W.fnOf x x (hO st) (cY st) (a7 st) .none kV doc pm an cdv ct) ⟨us,[]⟩=pure (ps.zip us)):LF K mg x st ps:=
 ⟨f,_,c,P,⟨pG (st:=st) l cc k,W.mg_of X Gm a,(pG (st:=st) l cc k).binds b⟩,a,Gy hm a l rfl lc hcc h11 h18 h7 h9 h10 ne fun y hy n=>.inl (un y hy n)⟩
theorem HW {l:W.OpenLaw}{w:World}{fa:Addr}{st:Stmt}{k:Nat}{F:FD}(hfa:mg "law"=some (.ref fa))(L:FF K mg "law" st ["script"])
  (h:∀(base:Heap) (f:Addr) (fd:FuncData),Fn K mg "law" st f fd ["script"]→eX l.prog w K mg base (iZ l.prog w) k f fd ["script"] (oy K 1 F))
  (hb:∀(kV doc pm:Value) (an:Option Addr) (cdv ct:Value) (v:Value),bindArgs (W.fnOf "law" "law" (hO st) (cY st) (a7 st) .none kV doc pm an cdv ct) ⟨[v],[]⟩=pure [(("script":Str),v)]) :
  ∃fd:FuncData,(∀(s:Shared) (v:Value),BindsTo s fd ⟨[v],[]⟩ [("script",v)])∧∀base:Heap,K.In base→base.Ns mainGlobals mg→eX l.prog w K mg base (iZ l.prog w) k fa fd ["script"] (oy K 1 F):=by
 obtain⟨f,fd,L⟩:=L;have e:=hfa.symm.trans L.m;cases e;refine⟨fd,fun s v=>?_,fun base _ _=>h base _ fd L⟩;obtain⟨oc,od,kV,doc,pm,an,cdv,ct,osl,rfl,lk,hcd⟩:=L.F.ex;exact .of_eq (hb kV doc pm an cdv ct v)
section
variable {X:Cx}{e:Expr}{g:GE}{pos pos':Pos}
def sV (i:Nat)(g:GE):GS:=fun ρ M=>(ae i ρ M).bind fun x M0=>(g ρ M0).bind fun y M1=>(qP x y M1).bind fun z M2=>.ok (.nx (ρ.set i (some z))) M2
theorem FZ {i:Nat}(hN:X.N.Nodup)(hi:X.N[i]?=some x)(hx:yL X.env.scope x)(he:PE X e (tE X g))(hf:X.fn x=true∨X.env.scope.names.lookup x=some .local) :
  PS X (.AugAssign (.Name x pos') .Add e pos) (tS X (sV i g)):=
 (C0 hN hi hx he EL hf).of fun D σ H ⟨ρ,θ,M,hd,hw,h⟩=>by
  unfold sV ae at h;split at h
  ·rename_i d q;obtain⟨v,e1,r⟩:=hd.at_ i d q;refine⟨v,e1,?_⟩;have h:cT X θ H D ((g ρ M).bind fun y M1=>(qP d y M1).bind fun z M2=>.ok (.nx (ρ.set i (some z))) M2):=h;refine bZ hd hw (cT X θ H D) (fun c M' h=>h) (fun h=>h) h fun y M1 vy θ1 H1 g1 r1 h1=>?_
   have h1:=cT.go g1 h1;refine⟨θ1,M1,d,y,g1.wr,r.go g1,r1,?_⟩;cases qa:qP d y M1 with
   | bad=>rw[qa] at h1;exact h1.elim
   | err c2 M3=>rw[qa] at h1;exact h1
   | ok z M3=>
    rw[qa,aq] at h1;intro vz θ3 H3 g3 rz;exact h1 _ θ3 H3 g3 (((hd.go g1).go g3).set rz i)
  ·exact h.elim
theorem FV (i:Nat)(hN:X.N.Nodup)(he:QE X e g)(hi:X.N[i]?=some x:=by rfl)(hx:yL X.env.scope x:=by first|exact Or.inl rfl|exact Or.inr rfl)(hf:X.fn x=true∨X.env.scope.names.lookup x=some .local:=by first|exact .inl rfl|exact .inr rfl) :
  QS X (.AugAssign (.Name x pos') .Add e pos) (sV i g):=⟨FZ hN hi hx he.h hf⟩
end
end DL
namespace DL
open PySem PySem.Spec PyProof.Rows PySem.W L2 List
section
variable {key:Nat→Int}{N:Nat}{s:Shared}{cmp:Nat→Nat→(Bool→Shared→Prop)→Shared→Prop}
def kp (key:Nat→Int)(p:Array Nat)(k:Nat):Int:=key (p.getD k 0)
def up (key:Nat→Int)(p:Array Nat)(n:Nat):Prop:=∀k,k+1<n→kp key p k≤kp key p (k+1)
def down (key:Nat→Int)(p:Array Nat)(n:Nat):Prop:=∀k,k+1<n→kp key p (k+1)≤kp key p k
end
section
def rank (zs:List (List Int))(z:List Int):Int:=(zs.countP fun y=>HT.lexLt y z:Nat)
end
end DL
namespace DL
open PySem L2
def aX:Nat→D→Bool
 | 0,_=>false
 | f+1,d=>match d with
  | .mr _=>false
  | .tup xs=>xs.all (aX f)
  | .lst xs=>xs.all (aX f)
  | .ro xs=>xs.all (aX f)
  | _=>true
theorem cp {f:D→Option D}:∀{xs:List D},(∀x∈xs,f x=some x)→bH f xs=some xs
 | [],_=>rfl
 | x::xs,h=>by
  unfold bH;rw[h x List.mem_cons_self,cp fun y hy=>h y (List.mem_cons_of_mem _ hy)]
theorem fg {n:Nat}{M:aB}:∀(f:Nat) (d:D),aX f d=true→frz n M f d=some d
 | 0,d,h=>by cases h
 | f+1,d,h=>by
  cases d with
  | mr k=>cases h
  | tup xs=>
   have h:xs.all (aX f)=true:=h;show(bH (frz n M f) xs).map D.tup=_;rw[cp fun x hx=>fg f x (List.all_eq_true.mp h x hx)];rfl
  | lst xs=>
   have h:xs.all (aX f)=true:=h;show(bH (frz n M f) xs).map D.lst=_;rw[cp fun x hx=>fg f x (List.all_eq_true.mp h x hx)];rfl
  | ro xs=>
   have h:xs.all (aX f)=true:=h;show(bH (frz n M f) xs).map D.ro=_;rw[cp fun x hx=>fg f x (List.all_eq_true.mp h x hx)];rfl
  | _=>rfl
def m3:MO→Bool
 | .lst xs=>xs.all (aX 30)
 | .obj _ fs=>fs.all fun p=>aX 30 p.2
 | .dK fs=>fs.all fun p=>aX 30 p.2
 | .dT fs=>fs.all fun p=>aX 30 p.2
theorem kM {κ:Type}{f:D→Option D}:∀{fs:List (κ×D)},(∀p∈fs,f p.2=some p.2)→tM f fs=some fs
 | [],_=>rfl
 | (x,d)::fs,h=>by
  unfold tM;rw[h (x,d) List.mem_cons_self,kM fun y hy=>h y (List.mem_cons_of_mem _ hy)]
theorem pX {f:D→Option D}:∀{fs:List (Str×D)},(∀p∈fs,f p.2=some p.2)→yn f fs=some fs
 | [],_=>rfl
 | (x,d)::fs,h=>by
  unfold yn;rw[h (x,d) List.mem_cons_self,pX fun y hy=>h y (List.mem_cons_of_mem _ hy)]
theorem kY {n:Nat}{M:aB}:∀{l:List MO},l.all m3=true→gG n M l=some l
 | [],_=>rfl
 | .lst xs::r,h=>by
  rw[List.all_cons,Bool.and_eq_true] at h;unfold gG;rw[kY h.2];have h1:xs.all (aX 30)=true:=h.1;rw[cp fun x hx=>fg 30 x (List.all_eq_true.mp h1 x hx)]
 | .obj c fs::r,h=>by
  rw[List.all_cons,Bool.and_eq_true] at h;unfold gG;rw[kY h.2];have h1:(fs.all fun p=>aX 30 p.2)=true:=h.1;rw[pX fun p hp=>fg 30 p.2 (List.all_eq_true.mp h1 p hp)]
 | .dK fs::r,h=>by
  rw[List.all_cons,Bool.and_eq_true] at h;unfold gG;rw[kY h.2];have h1:(fs.all fun p=>aX 30 p.2)=true:=h.1;rw[kM fun p hp=>fg 30 p.2 (List.all_eq_true.mp h1 p hp)]
 | .dT fs::r,h=>by
  rw[List.all_cons,Bool.and_eq_true] at h;unfold gG;rw[kY h.2];have h1:(fs.all fun p=>aX 30 p.2)=true:=h.1;rw[kM fun p hp=>fg 30 p.2 (List.all_eq_true.mp h1 p hp)]
@[simp] theorem Lp (f:Nat) (i:Int):aX (f+1) (.int i)=true:=rfl
@[simp] theorem NV (f:Nat) (i:Bool):aX (f+1) (.bl i)=true:=rfl
@[simp] theorem Li (f:Nat):aX (f+1) .non=true:=rfl
@[simp] theorem Lo (f:Nat) (x:Str):aX (f+1) (.str x)=true:=rfl
theorem jA (f:Nat)(xs:List D):aX (f+1) (.tup xs)=xs.all (aX f):=rfl
theorem B5 (f:Nat)(xs:List D):aX (f+1) (.lst xs)=xs.all (aX f):=rfl
theorem iE (f:Nat)(l:List Int):(l.map D.int).all (aX (f+1))=true:=by
 rw[List.all_map];exact List.all_eq_true.mpr fun x _=>rfl
theorem Ff {α:Type}(xs:List α)(x:α):ny (xs++[x]) (-1)=some x:=by
 unfold ny EO;have h:-((xs++[x]).length:Int)≤-1:=by simp;omega
 rw[if_neg (by decide),if_pos h];have e:(-1+((xs++[x]).length:Int)).toNat=xs.length:=by simp;omega
 rw[e];simp
theorem D0 {t:GT}{b:GS}{n:Nat}{ρ ρ2:cC}{M M1 M2:aB}(h1:t ρ M=.ok true M1)(h2:b ρ M1=.ok (.nx ρ2) M2):cG t b (n+1) ρ M=cG t b n ρ2 M2:=by
 rw[cG,h1,aq,if_pos rfl,h2,aq]
theorem yI {t:GT}{b:GS}{n:Nat}{ρ:cC}{M M1:aB}(h1:t ρ M=.ok false M1):cG t b (n+1) ρ M=.ok (.nx ρ) M1:=by
 rw[cG,h1,aq,if_neg Bool.false_ne_true]
theorem AR {M:aB}{xs:List D}(hx:xs.all (aX 29)=true)(hM:M.all m3=true):jV M.length (.ok (.mr M.length) (M++[.lst xs]))=.ok (.lst xs) M:=by
 have f1:=kY (n:=M.length) (M:=M++[.lst xs]) hM;have f2:frz M.length (M++[.lst xs]) 30 (.mr M.length)=some (.lst xs):=by
  have o:bH (frz M.length (M++[.lst xs]) 29) xs=some xs:=cp fun x h=>fg 29 x (List.all_eq_true.mp hx x h)
  show(if M.length<M.length then some (D.mr M.length) else match (M++[MO.lst xs])[M.length]? with|some (MO.lst ys)=>(bH (frz M.length (M++[MO.lst xs]) 29) ys).map D.lst|_=>none)=_;rw[if_neg (Nat.lt_irrefl _)];simp;rw[o]
 show(if(M++[MO.lst xs]).length=M.length then bj.ok (D.mr M.length) (M++[MO.lst xs]) else match frz M.length (M++[MO.lst xs]) 30 (.mr M.length),gG M.length (M++[MO.lst xs]) ((M++[MO.lst xs]).take M.length) with|some d',some M'=>.ok d' M'|_,_=>.bad)=_;rw[if_neg (by simp),List.take_left,f1,f2]
end DL
namespace DL
open PySem L2
variable{b:GS}{ρ:cC}{M M1:aB}
theorem ao {a:GS}{ρ1:cC}(h:a ρ M=.ok (.nx ρ1) M1):ar a b ρ M=b ρ1 M1:=by
 unfold ar;rw[h];rfl
variable{d:D}
theorem bn {a:GS}(h:a ρ M=.ok (.rt d) M1):ar a b ρ M=.ok (.rt d) M1:=by
 unfold ar;rw[h];rfl
theorem NP {a c:GS}:ar a (ar b c) ρ M=ar (ar a b) c ρ M:=by
 unfold ar;cases a ρ M with
 | ok f M1=>cases f <;> rfl
 | err _ _=>rfl
 | bad=>rfl
theorem bK {t:GT}{a:GS}(h:t ρ M=.ok true M1):bL t a b ρ M=a ρ M1:=by
 unfold bL;rw[h,aq,if_pos rfl]
theorem aS {t:GT}{a:GS}(h:t ρ M=.ok false M1):bL t a b ρ M=b ρ M1:=by
 unfold bL;rw[h,aq,if_neg Bool.false_ne_true]
variable{i:Nat}{g:GE}
theorem aT (h:g ρ M=.ok d M1):aH i g ρ M=.ok (.nx (ρ.set i (some d))) M1:=by
 unfold aH;rw[h,aq]
theorem cB (h:g ρ M=.ok d M1):cK g ρ M=.ok (.nx ρ) M1:=by
 unfold cK;rw[h,aq]
theorem aR (h:g ρ M=.ok d M1):aD g ρ M=.ok (.rt d) M1:=by
 unfold aD;rw[h,aq]
variable{a:GE}{x:Bool}
theorem bP {b:GE}{y:Bool}(ha:a ρ M=.ok (.bl x) M)(hb:x=true→b ρ M=.ok (.bl y) M):cV a b ρ M=.ok (.bl (x&&y)) M:=by
 unfold cV;rw[ha,aq];cases x with
 | true=>exact hb rfl
 | false=>rfl
theorem HA {b:GE}{y:Bool}(ha:a ρ M=.ok (.bl x) M)(hb:x=false→b ρ M=.ok (.bl y) M):EN a b ρ M=.ok (.bl (x||y)) M:=by
 unfold EN;rw[ha,aq];cases x with
 | true=>rfl
 | false=>exact hb rfl
theorem cQ {a b:GT}{y:Bool}(ha:a ρ M=.ok x M)(hb:x=true→b ρ M=.ok y M):dL a b ρ M=.ok (x&&y) M:=by
 unfold dL;rw[ha,aq];cases x with
 | true=>exact hb rfl
 | false=>rfl
theorem bE {a b:GT}{y:Bool}(ha:a ρ M=.ok x M)(hb:x=false→b ρ M=.ok y M):cx a b ρ M=.ok (x||y) M:=by
 unfold cx;rw[ha,aq];cases x with
 | true=>rfl
 | false=>exact hb rfl
theorem bF {a:GT}(ha:a ρ M=.ok x M):bI a ρ M=.ok (!x) M:=by
 unfold bI;rw[ha,aq]
theorem bM (ha:a ρ M=.ok (.bl x) M1):cn a ρ M=.ok x M1:=by
 unfold cn;rw[ha,aq];rfl
theorem aE (ha:a ρ M=.ok (.bl x) M1):az a ρ M=.ok x M1:=by
 unfold az;rw[ha,aq];rfl
variable{o:bj D}
theorem av {f:F2}{b:GE}{M2:aB}{x y:D}(ha:a ρ M=.ok x M1)(hb:b ρ M1=.ok y M2)(h:f x y M2=o):g2 f a b ρ M=o:=by
 unfold g2;rw[ha,aq,hb,aq,h]
variable{F:FD}
theorem gF {x:D}(ha:a ρ M=.ok x M1)(h:F [x] M1=o):aC F (aa a ag) ρ M=o:=by
 unfold aC aa ag;rw[ha,aq,aq,aq,h]
theorem dJ {x:D}(ha:a ρ M=.ok x M1)(h:F [x] M1=o):aj 1 F (aa a ag) ρ M=o:=by
 unfold aj aa ag;rw[ha,aq,aq,aq,if_pos (show [x].length=1 from rfl),h]
theorem bp {b:GE}{M2:aB}{x y:D}(ha:a ρ M=.ok x M1)(hb:b ρ M1=.ok y M2)(h:F [x,y] M2=o):aj 2 F (aa a (aa b ag)) ρ M=o:=by
 unfold aj aa ag;rw[ha,aq,hb,aq,aq,aq,aq,if_pos (show [x,y].length=2 from rfl),h]
theorem ce {b c:GE}{M2 M3:aB}{x y z:D}(ha:a ρ M=.ok x M1)(hb:b ρ M1=.ok y M2)(hc:c ρ M2=.ok z M3)(h:F [x,y,z] M3=o):aj 3 F (aa a (aa b (aa c ag))) ρ M=o:=by
 unfold aj aa ag;rw[ha,aq,hb,aq,hc,aq,aq,aq,aq,aq,if_pos (show [x,y,z].length=3 from rfl),h]
theorem xy {b c d:GE}{M2 M3 M4:aB}{x y z u:D}(ha:a ρ M=.ok x M1)(hb:b ρ M1=.ok y M2)(hc:c ρ M2=.ok z M3)(hd:d ρ M3=.ok u M4)(h:F [x,y,z,u] M4=o):aj 4 F (aa a (aa b (aa c (aa d ag)))) ρ M=o:=by
 unfold aj aa ag;rw[ha,aq,hb,aq,hc,aq,hd,aq,aq,aq,aq,aq,aq,if_pos (show [x,y,z,u].length=4 from rfl),h]
theorem zX {p:D→Bool}:∀xs:List D,dN (xs.map fun d=>D.bl (p d))=some (xs.map p)
 | []=>rfl
 | x::xs=>by
  show(dN (xs.map fun d=>D.bl (p d))).map (p x::·)=_;rw[zX xs];rfl
variable{xs:List D}
theorem kE {gi:GI}{ge:GE}{p:D→Bool}(hi:gi ρ M=.ok ⟨xs,none⟩ M)(hl:xs.length≤100000)(h:∀x∈xs,ge (some x::ρ) M=.ok (.bl (p x)) M) :
  aC iY (aa (br gi cL ge aZ) ag) ρ M=.ok (.bl (xs.all p)) M:=by
 have c:=jP (ds0:=xs) (ge:=ge) (ρ:=ρ) (f:=fun d=>D.bl (p d)) (M:=M) xs h;have l1:(xs.map fun d=>D.bl (p d)).length≤sizeLine:=by rw[List.length_map];exact ba (by omega)
 refine gF (x:=.lst (xs.map fun d=>D.bl (p d))) (M1:=M) ?_ ?_
 ·unfold br;rw[hi,aq];dsimp only;rw[c,aq];unfold aZ;rw[if_pos l1]
 ·show(match bW (.lst (xs.map fun d=>D.bl (p d))) M with|some xs=>(match dN xs with|some bs=>bj.ok (D.bl (bs.all id)) M|none=>.bad)|none=>.bad)=_;show(match dN (xs.map fun d=>D.bl (p d)) with|some bs=>bj.ok (D.bl (bs.all id)) M|none=>.bad)=_;rw[zX];dsimp only;rw[List.all_map];rfl
theorem jp (h:ρ[i]?=some (some (.tup xs))):bY (ae i) ρ M=.ok ⟨xs,none⟩ M:=by
 unfold bY ae;rw[h];rfl
theorem lN (h:ρ[i]?=some (some (.lst xs))):bY (ae i) ρ M=.ok ⟨xs,none⟩ M:=by
 unfold bY ae;rw[h];rfl
theorem nD (a b:Int)(M:aB):aF false (.int a) (.int b) M=.ok (.bl (decide (a=b))) M:=by
 unfold aF
 by_cases q:a=b <;> simp[ox,aG,gk,q]
theorem nJ (a b:Int)(M:aB):aF true (.int a) (.int b) M=.ok (.bl (!decide (a=b))) M:=by
 unfold aF
 by_cases q:a=b <;> simp[ox,aG,gk,q]
theorem iq {a b:Str}(ha:PyData.strOk a=true)(hb:PyData.strOk b=true)(M:aB):aF false (.str a) (.str b) M=.ok (.bl (a==b)) M:=by
 unfold aF;simp[ox,aG,gk,ha,hb]
theorem AO (M:aB)(E:List D):(M++[MO.lst E])[M.length]?=some (.lst E):=by simp
theorem C5 (M:aB)(E E':List D):(M++[MO.lst E]).set M.length (.lst E')=M++[MO.lst E']:=by simp
variable{E:List D}
theorem Kr (h:E.length<1000000):xD M.length d (M++[MO.lst E])=.ok .non (M++[MO.lst (E++[d])]):=by
 have l:E.length<sizeLine:=Nat.lt_of_lt_of_le h (by rw[sizeLine_eq];decide);unfold xD;rw[AO];dsimp only;rw[if_pos l,C5]
theorem vI {go ge:GE}(h1:go ρ (M++[MO.lst E])=.ok (.mr M.length) (M++[MO.lst E]))(h2:ge ρ (M++[MO.lst E])=.ok d (M++[MO.lst E]))(h:E.length<1000000) :
  jW go ge ρ (M++[MO.lst E])=.ok .non (M++[MO.lst (E++[d])]):=by
 unfold jW;rw[h1,aq];dsimp only;rw[AO];dsimp only;rw[h2,aq,Kr h]
variable{k:Nat}
theorem wn (h:xs[k]?=some d):aI (.lst xs) (.int k) M=.ok d M:=by
 have a:=jX (xs:=xs) (j:=k) h;unfold aI bW;dsimp only;rw[a]
theorem cJ (h:xs[k]?=some d):aI (.tup xs) (.int k) M=.ok d M:=by
 have a:=jX (xs:=xs) (j:=k) h;unfold aI bW;dsimp only;rw[a]
theorem ku :iC ag ρ M=.ok (.mr M.length) (M++[.lst []]):=by
 show(if([]:List D).length≤sizeLine then bj.ok (D.mr M.length) (M++[.lst []]) else .bad)=_;rw[if_pos (show([]:List D).length≤sizeLine from Nat.zero_le _)]
variable{ga:GA}{ds:List D}
theorem cw (h:ga ρ M=.ok ds M1)(hl:ds.length≤100000):bb ga ρ M=.ok (.tup ds) M1:=by
 have:ds.length≤sizeLine:=ba (by omega);unfold bb;rw[h,aq];unfold sO;rw[if_pos this]
theorem d9 (h:ga ρ M=.ok ds M1)(hl:ds.length≤100000):dD ga ρ M=.ok (.lst ds) M1:=by
 have:ds.length≤sizeLine:=ba (by omega);unfold dD;rw[h,aq];unfold aZ;rw[if_pos this]
theorem aM {r:GA}{M2:aB}(h:g ρ M=.ok d M1)(hr:r ρ M1=.ok ds M2):aa g r ρ M=.ok (d::ds) M2:=by
 unfold aa;rw[h,aq,hr,aq]
theorem yz {go ge:GE}{E1:List D}(h1:go ρ M=.ok (.mr k) M)(h2:M[k]?=some (.lst E))(h3:ge ρ M=.ok d M1)(h4:M1[k]?=some (.lst E1))(h:E1.length<1000000) :
  jW go ge ρ M=.ok .non (M1.set k (.lst (E1++[d]))):=by
 have l:E1.length<sizeLine:=Nat.lt_of_lt_of_le h (by rw[sizeLine_eq];decide);unfold jW;rw[h1,aq];dsimp only;rw[h2];dsimp only;rw[h3,aq];unfold xD;rw[h4];dsimp only;rw[if_pos l]
theorem nj {n:Nat}(h:ga ρ M=.ok [.int (n:Int)] M1)(hn:n≤1000000):gK ga ρ M=.ok ⟨bq 0 n,none⟩ M1:=by
 unfold gK;rw[h,aq,DN hn]
theorem jM {gi:GI}{sg:GG}{t:tK}{o:bj Fl}(h:gi ρ M=.ok t M1)(e:eL t sg b t.ds ρ M1=o):js gi sg b ρ M=o:=by
 unfold js;rw[h,aq,e]
theorem n8 {i j:Int}(h0:-1000000≤i)(h1:i≤1000000)(M:aB):cz (.int i) (.int j) M=.ok (.int (i*j)) M:=by
 have a:-(2 ^ 64:Int)<i:=Int.lt_of_lt_of_le (by decide) h0;have b:i<(2 ^ 64:Int):=Int.lt_of_le_of_lt h1 (by decide);unfold cz;dsimp only;rw[if_pos (.inl ⟨a,b⟩)]
theorem wt {i j:Int}(h0:0<j)(h1:j≤1000000)(M:aB):e9 (.int i) (.int j) M=.ok (.int (i / j)) M:=by
 have h2:j.natAbs<2 ^ 20:=by omega
 have h3:j.natAbs≠0:=by omega
 have h4:=(Nat.log2_lt h3).mpr h2;unfold e9;dsimp only;rw[if_pos ⟨h0,by omega⟩]
theorem wa (h:aG 40 d=true)(hs:gk d d=true)(hm:∀M,ox d M=d)(M:aB):aF true d d M=.ok (.bl false) M:=by
 unfold aF;rw[hm,h,hs];rfl
end DL
namespace DL
open PySem L2
def ik (n:Nat):Nat→D→Bool
 | 0,_=>false
 | f+1,d=>match d with
  | .mr k=>decide (k<n)
  | .tup xs=>xs.all (ik n f)
  | .lst xs=>xs.all (ik n f)
  | .ro xs=>xs.all (ik n f)
  | _=>true
theorem lJ {n:Nat}{M:aB}:∀(f:Nat) (d:D),ik n f d=true→frz n M f d=some d
 | 0,d,h=>by cases h
 | f+1,d,h=>by
  cases d with
  | mr k=>
   have h:decide (k<n)=true:=h;show(if k<n then some (D.mr k) else _)=_;rw[if_pos (of_decide_eq_true h)]
  | tup xs=>
   have h:xs.all (ik n f)=true:=h;show(bH (frz n M f) xs).map D.tup=_;rw[cp fun x hx=>lJ f x (List.all_eq_true.mp h x hx)];rfl
  | lst xs=>
   have h:xs.all (ik n f)=true:=h;show(bH (frz n M f) xs).map D.lst=_;rw[cp fun x hx=>lJ f x (List.all_eq_true.mp h x hx)];rfl
  | ro xs=>
   have h:xs.all (ik n f)=true:=h;show(bH (frz n M f) xs).map D.ro=_;rw[cp fun x hx=>lJ f x (List.all_eq_true.mp h x hx)];rfl
  | _=>rfl
theorem dZ {n:Nat}:∀(f:Nat) (d:D),aX f d=true→ik n f d=true
 | 0,d,h=>by cases h
 | f+1,d,h=>by
  cases d with
  | mr k=>cases h
  | tup xs=>exact List.all_eq_true.mpr fun x hx=>dZ f x (List.all_eq_true.mp (show xs.all (aX f)=true from h) x hx)
  | lst xs=>exact List.all_eq_true.mpr fun x hx=>dZ f x (List.all_eq_true.mp (show xs.all (aX f)=true from h) x hx)
  | ro xs=>exact List.all_eq_true.mpr fun x hx=>dZ f x (List.all_eq_true.mp (show xs.all (aX f)=true from h) x hx)
  | _=>rfl
theorem jT {n m:Nat}(hn:n≤m):∀(f:Nat) (d:D),ik n f d=true→ik m f d=true
 | 0,d,h=>by cases h
 | f+1,d,h=>by
  cases d with
  | mr k=>exact decide_eq_true (Nat.lt_of_lt_of_le (of_decide_eq_true (show decide (k<n)=true from h)) hn)
  | tup xs=>exact List.all_eq_true.mpr fun x hx=>jT hn f x (List.all_eq_true.mp (show xs.all (ik n f)=true from h) x hx)
  | lst xs=>exact List.all_eq_true.mpr fun x hx=>jT hn f x (List.all_eq_true.mp (show xs.all (ik n f)=true from h) x hx)
  | ro xs=>exact List.all_eq_true.mpr fun x hx=>jT hn f x (List.all_eq_true.mp (show xs.all (ik n f)=true from h) x hx)
  | _=>rfl
def EI (n:Nat):MO→Bool
 | .lst xs=>xs.all (ik n 30)
 | .obj _ fs=>fs.all fun p=>ik n 30 p.2
 | .dK fs=>fs.all fun p=>ik n 30 p.2
 | .dT fs=>fs.all fun p=>ik n 30 p.2
variable{o:MO}
theorem A7 {n m:Nat}(hn:n≤m)(h:EI n o=true):EI m o=true:=by
 cases o with
 | lst xs=>exact List.all_eq_true.mpr fun x hx=>jT hn 30 x (List.all_eq_true.mp (show xs.all (ik n 30)=true from h) x hx)
 | obj c fs=>exact List.all_eq_true.mpr fun x hx=>jT hn 30 x.2 (List.all_eq_true.mp (show(fs.all fun p=>ik n 30 p.2)=true from h) x hx)
 | dK fs=>exact List.all_eq_true.mpr fun x hx=>jT hn 30 x.2 (List.all_eq_true.mp (show(fs.all fun p=>ik n 30 p.2)=true from h) x hx)
 | dT fs=>exact List.all_eq_true.mpr fun x hx=>jT hn 30 x.2 (List.all_eq_true.mp (show(fs.all fun p=>ik n 30 p.2)=true from h) x hx)
theorem uS {n:Nat}(h:m3 o=true):EI n o=true:=by
 cases o with
 | lst xs=>exact List.all_eq_true.mpr fun x hx=>dZ 30 x (List.all_eq_true.mp (show xs.all (aX 30)=true from h) x hx)
 | obj c fs=>exact List.all_eq_true.mpr fun x hx=>dZ 30 x.2 (List.all_eq_true.mp (show(fs.all fun p=>aX 30 p.2)=true from h) x hx)
 | dK fs=>exact List.all_eq_true.mpr fun x hx=>dZ 30 x.2 (List.all_eq_true.mp (show(fs.all fun p=>aX 30 p.2)=true from h) x hx)
 | dT fs=>exact List.all_eq_true.mpr fun x hx=>dZ 30 x.2 (List.all_eq_true.mp (show(fs.all fun p=>aX 30 p.2)=true from h) x hx)
theorem jJ {n:Nat}{M:aB}:∀{l:List MO},l.all (EI n)=true→gG n M l=some l
 | [],_=>rfl
 | .lst xs::r,h=>by
  rw[List.all_cons,Bool.and_eq_true] at h;unfold gG;rw[jJ h.2];have h1:xs.all (ik n 30)=true:=h.1;rw[cp fun x hx=>lJ 30 x (List.all_eq_true.mp h1 x hx)]
 | .obj c fs::r,h=>by
  rw[List.all_cons,Bool.and_eq_true] at h;unfold gG;rw[jJ h.2];have h1:(fs.all fun p=>ik n 30 p.2)=true:=h.1;rw[pX fun p hp=>lJ 30 p.2 (List.all_eq_true.mp h1 p hp)]
 | .dK fs::r,h=>by
  rw[List.all_cons,Bool.and_eq_true] at h;unfold gG;rw[jJ h.2];have h1:(fs.all fun p=>ik n 30 p.2)=true:=h.1;rw[kM fun p hp=>lJ 30 p.2 (List.all_eq_true.mp h1 p hp)]
 | .dT fs::r,h=>by
  rw[List.all_cons,Bool.and_eq_true] at h;unfold gG;rw[jJ h.2];have h1:(fs.all fun p=>ik n 30 p.2)=true:=h.1;rw[kM fun p hp=>lJ 30 p.2 (List.all_eq_true.mp h1 p hp)]
def il (M:aB):Prop:=M.all (EI M.length)=true
variable{M:aB}
theorem il.pure (h:M.all m3=true):il M:=List.all_eq_true.mpr fun x hx=>uS (List.all_eq_true.mp h x hx)
theorem An {d:D}{E:aB}(hd:aX 30 d=true)(hM:il M):jV M.length (.ok d (M++E))=.ok d M:=by
 unfold jV
 by_cases h:(M++E).length=M.length
 ·have:E=[]:=by
   rw[List.length_append] at h;exact List.length_eq_zero_iff.mp (by omega)
  subst this;simp
 ·simp only[if_neg h];rw[List.take_left,fg 30 d hd,jJ hM]
theorem o3 {xs:List D}(hx:xs.all (aX 29)=true)(hM:il M):jV M.length (.ok (.mr M.length) (M++[.lst xs]))=.ok (.lst xs) M:=by
 have f1:=jJ (n:=M.length) (M:=M++[.lst xs]) hM;have f2:frz M.length (M++[.lst xs]) 30 (.mr M.length)=some (.lst xs):=by
  have o:bH (frz M.length (M++[.lst xs]) 29) xs=some xs:=cp fun x h=>fg 29 x (List.all_eq_true.mp hx x h)
  show(if M.length<M.length then some (D.mr M.length) else match (M++[MO.lst xs])[M.length]? with|some (MO.lst ys)=>(bH (frz M.length (M++[MO.lst xs]) 29) ys).map D.lst|_=>none)=_;rw[if_neg (Nat.lt_irrefl _)];simp;rw[o]
 show(if(M++[MO.lst xs]).length=M.length then bj.ok (D.mr M.length) (M++[MO.lst xs]) else match frz M.length (M++[MO.lst xs]) 30 (.mr M.length),gG M.length (M++[MO.lst xs]) ((M++[MO.lst xs]).take M.length) with|some d',some M'=>.ok d' M'|_,_=>.bad)=_;rw[if_neg (by simp),List.take_left,f1,f2]
variable{c:Str}{k:Nat}{fs:List (Str×D)}
theorem vP (h:M[k]?=some (.obj c fs)):jU c (.mr k) M=some (k,fs):=by
 unfold jU;dsimp only;rw[h];dsimp only;rw[if_pos rfl]
variable{ρ:cC}
theorem dG {g:GE}{f:Str}{d:D}(h:g ρ M=.ok (.mr k) M)(hM:M[k]?=some (.obj c fs))(hf:fs.lookup f=some d):dX c f g ρ M=.ok d M:=by
 unfold dX;rw[h,aq,vP hM];dsimp only;rw[hf]
theorem iy {go:GE}{ga:GA}{F:FD}{n:Nat}{M1:aB}{m:Str}{ds:List D}{r:bj D}(h:go ρ M=.ok (.mr k) M)(hM:M[k]?=some (.obj c fs))(hn:fs.lookup m=none)
  (ha:ga ρ M=.ok ds M1) (hl:ds.length+1=n) (hF:F (.mr k::ds) M1=r):gT c m n F go ga ρ M=r:=by
 unfold gT;rw[h,aq,vP hM];dsimp only;rw[if_pos hn,ha,aq,if_pos hl,hF]
variable{y:D}
theorem Ae {f:Str}(hM:M[k]?=some (.obj c fs))(hl:fs.length<1000):ww c f (.mr k) y M=.ok () (M.set k (.obj c (fU f y fs))):=by
 unfold ww;rw[vP hM];dsimp only;rw[if_pos hl]
theorem wl {go gv:GE}{M1:aB}{f:Str}(hv:gv ρ M=.ok y M1)(ho:go ρ M1=.ok (.mr k) M1)(hM:M1[k]?=some (.obj c fs))(hl:fs.length<1000) :
  gQ c f go gv ρ M=.ok (.nx ρ) (M1.set k (.obj c (fU f y fs))):=by
 unfold gQ;rw[hv,aq,ho,aq,Ae hM hl,aq]
variable{z:D}
theorem Hs {go gv:GE}{M1 M2:aB}{f:Str}{fs2:List (Str×D)}{v:D}(ho:go ρ M=.ok (.mr k) M)(hM:M[k]?=some (.obj c fs))(hf:fs.lookup f=some v)(hv:gv ρ M=.ok y M1)
  (ha:qP v y M1=.ok z M2) (hM2:M2[k]?=some (.obj c fs2)) (hl:fs2.length<1000):Fy c f go gv ρ M=.ok (.nx ρ) (M2.set k (.obj c (fU f z fs2))):=by
 unfold Fy;rw[ho,aq,vP hM];dsimp only;rw[hf];dsimp only;rw[hv,aq,ha,aq,Ae hM2 hl,aq]
theorem FY {xs ys:List D}(h:M[k]?=some (.lst xs))(hl:xs.length+ys.length≤100000):qP (.mr k) (.lst ys) M=.ok (.mr k) (M.set k (.lst (xs++ys))):=by
 unfold qP;dsimp only;rw[h];dsimp only;rw[show sv (.lst ys) M=some ys from rfl];dsimp only;rw[if_pos (ba (by omega))]
variable{i:Nat}
theorem xc {kvs:List (eQ×D)}{k:eQ}(h:M[i]?=some (.dK kvs))(hk:oX y=some k)(hg:mh kvs k=none)(hl:kvs.length<1000000):ie i y z M=.ok z (M.set i (.dK (kvs++[(k,z)]))):=by
 unfold ie;rw[h];dsimp only;rw[hk];dsimp only;rw[hg];dsimp only;rw[if_pos (Nat.lt_of_lt_of_le hl (ba (by decide)))]
theorem xb {kvs:List (eQ×D)}{r:D}{k:eQ}(h:M[i]?=some (.dK kvs))(hk:oX y=some k)(hg:mh kvs k=some r):ie i y z M=.ok r M:=by
 unfold ie;rw[h];dsimp only;rw[hk];dsimp only;rw[hg]
variable{kvs:List (List eQ×D)}
theorem wU {k:List eQ}(h:M[i]?=some (.dT kvs))(hk:qt y=some k)(hg:mh kvs k=none)(hl:kvs.length<1000000):ie i y z M=.ok z (M.set i (.dT (kvs++[(k,z)]))):=by
 unfold ie;rw[h];dsimp only;rw[hk];dsimp only;rw[hg];dsimp only;rw[if_pos (Nat.lt_of_lt_of_le hl (ba (by decide)))]
theorem xJ {r:D}{k:List eQ}(h:M[i]?=some (.dT kvs))(hk:qt y=some k)(hg:mh kvs k=some r):ie i y z M=.ok r M:=by
 unfold ie;rw[h];dsimp only;rw[hk];dsimp only;rw[hg]
def zt {κ:Type}[DecidableEq κ](kvs:List (κ×D))(k:κ)(z:D):List (κ×D):=match mh kvs k with
 | some _=>kvs
 | none=>kvs++[(k,z)]
theorem G2 {κ:Type}[DecidableEq κ](kvs:List (κ×D))(k:κ)(z:D):(zt kvs k z).length≤kvs.length+1:=by
 unfold zt;split
 ·omega
 ·rw[List.length_append];simp
theorem sY (h:M[i]?=some o):M.set i o=M:=by
 obtain⟨hi,e⟩:=List.getElem?_eq_some_iff.mp h;rw[←e];exact List.set_getElem_self hi
theorem zK {kvs:List (eQ×D)}{k:eQ}(h:M[i]?=some (.dK kvs))(hk:oX y=some k)(hl:kvs.length<1000000):∃r,ie i y z M=.ok r (M.set i (.dK (zt kvs k z))):=by
 unfold zt;cases hg:mh kvs k with
 | some r=>exact⟨r,by rw[xb h hk hg,sY h]⟩
 | none=>exact⟨z,xc h hk hg hl⟩
theorem yZ {k:List eQ}(h:M[i]?=some (.dT kvs))(hk:qt y=some k)(hl:kvs.length<1000000):∃r,ie i y z M=.ok r (M.set i (.dT (zt kvs k z))):=by
 unfold zt;cases hg:mh kvs k with
 | some r=>exact⟨r,by rw[xJ h hk hg,sY h]⟩
 | none=>exact⟨z,wU h hk hg hl⟩
theorem ux {go gy gz:GE}{o:bj D}(h1:go ρ M=.ok (.mr i) M)(h2:v6 M[i]?=true)(h3:gy ρ M=.ok y M)(h4:gz ρ M=.ok z M)(h:ie i y z M=o):lD go gy gz ρ M=o:=by
 unfold lD;rw[h1,aq];dsimp only;rw[if_pos h2,h3,aq,h4,aq,h]
end DL
namespace Hd
open PySem PySem.W PySem.Calls PyProof.Rows
def topRunT (tb:String→Option Builtin)(p:Program)(w:World)(n0:Nat)(ann:Option Value):Nat→SharedT→Thread→Option SharedT
 | 0,_,_=>none
 | n+1,s,t=>match through t with
  | true=>some s
  | false=>match stepOk n0 ann t with
   | false=>none
   | true=>match stepT (denote tb) p w s t with
    | some (s',t')=>topRunT tb p w n0 ann n s' t'
    | none=>none
theorem uV {tb:String→Option Builtin}{p:Program}{w:World}{n0:Nat}{ann:Option Value}:∀{n:Nat} {s s':SharedT} {t:Thread},topRunT tb p w n0 ann n s t=some s'→topRun tb p w n0 ann n s.abs t=some s'.abs
 | 0,_,_,_,h=>by cases h
 | n+1,s,s',t,h=>by
  unfold topRunT at h;unfold topRun;cases he:through t with
  | true=>rw[he] at h;cases h;rfl
  | false=>
   rw[he] at h;cases hk:stepOk n0 ann t with
   | false=>rw[hk] at h;cases h
   | true=>
    rw[hk] at h;cases hs:stepT (denote tb) p w s t with
    | none=>rw[hs] at h;cases h
    | some r=>obtain⟨s2,t2⟩:=r;rw[hs] at h;rw[stepT_spec hs];exact uV h
def grow:List Obj→BT→Nat→BT
 | [],t,_=>t
 | o::r,t,n=>grow r (t.ins n o) (n+1)
def HN:List Obj→BT→Nat→Bool
 | [],_,_=>true
 | o::r,t,n=>((t.ins n o).get n).isSome&&HN r (t.ins n o) (n+1)
theorem yc (life:Life):∀(l:List Obj) (t:BT) (n:Nat),HN l t n=true→absHeap (grow l t n) (n+l.length) life=⟨(absHeap t n life).objs++l.toArray,life⟩
 | [],t,n,_=>by simp[grow,absHeap]
 | o::r,t,n,h=>by
  obtain⟨h1,h2⟩:=Bool.and_eq_true_iff.mp h;have e:=yc life r (t.ins n o) (n+1) h2;have e2:absHeap (t.ins n o) (n+1) life=(absHeap t n life).push o:=absHeap_ins h1;show absHeap (grow r (t.ins n o) (n+1)) (n+(r.length+1)) life=_;rw[show n+(r.length+1)=n+1+r.length by omega,e,e2];simp[Heap.push]
variable{Xt:Shared→Bool}{N:Nat}
theorem yB {p q:Program}{loose:List Str}{A:Type}{Yf:Shared→A}{Ya:World→A}{g0:Bool}{H:Params→Heap}{gs:Array GenState}{d:Drawn}{k:Nat}{m:Nat}{ann:Option Value}{T:Params→BT}{lf:Life}
  (open_:∀w:World,(fencedOpening treeTable p w N).map (fun s=>(s.heap,s.gens,s.drawn,s.toks))=some (H w.params,gs,d,k))
  (size:∀w:World,((H w.params).isNs mainGlobals&&gs.size==0,(H w.params).objs.size,(H w.params).nsMap mainGlobals "__annotations__")=(true,m,ann))
  (tree:∀P,H P=absHeap (T P) m lf)
  (run:∀(w:World) (os:OsState),(topRunT treeTable p w m ann N ⟨T w.params,m,lf,gs,d,k,os⟩ (topStub p)).map (fun s=>
    ((staticsOk (importedModules p.main.body) (H w.params) s.abs.heap&&namesBound p s.abs.heap&&gensDone s.abs&&laidKept (H w.params) s.abs.heap),
    openSeen q loose (importedModules p.main.body) Xt g0 s.abs,Yf s.abs))=some (true,openGood q loose,Ya w)):LeftO p q loose Xt Yf Ya N g0:=fun w=>by
 obtain⟨⟨h,gs',d',k',os⟩,e,e'⟩:=Option.map_eq_some_iff.mp (open_ w);obtain⟨rfl,rfl,rfl,rfl⟩:h=H w.params∧gs'=gs∧d'=d∧k'=k:=by simpa using e'
 obtain⟨z1,z2,z3⟩:_∧_∧_:=by simpa only[Prod.mk.injEq] using size w
 obtain⟨s,r1,r2⟩:=Option.map_eq_some_iff.mp (run w os);obtain⟨l1,l2,l3⟩:_∧_∧_:=by simpa only[Prod.mk.injEq] using r2
 have r:=uV r1;have ea:SharedT.abs ⟨T w.params,m,lf,gs',d',k',os⟩=⟨H w.params,gs',d',k',os⟩:=by rw[tree];rfl
 rw[ea] at r;have t:topFrom treeTable p w N ⟨H w.params,gs',d',k',os⟩=some s.abs:=by
  unfold topFrom;dsimp only;rw[z1,z2,z3,r];show(match staticsOk (importedModules p.main.body) (H w.params) s.abs.heap&&namesBound p s.abs.heap&&gensDone s.abs&&laidKept (H w.params) s.abs.heap with|true=>_|false=>_)=_;rw[l1]
 unfold openEnds;rw[e];show(topFrom treeTable p w N _).map _=_;rw[t];exact congrArg some (Prod.ext l2 l3)
noncomputable def bootT (P:Params):BT:=grow (boot_heap P).objs.toList .nil 0
lay_quick Hd.topRunT W.topStub
theorem BF (P:Params):boot_heap P=absHeap (bootT P) 11 {}:=by
 have h:=yc {} (boot_heap P).objs.toList .nil 0 (by kernel_rfl);exact h.symm
noncomputable def RT (p:Program) (w:World) (N:Nat) (os:OsState):Option SharedT:=topRunT treeTable p w 11 (some (Value.ref 6)) N ⟨bootT w.params,11,{},Array.mk [],boot_drawn,boot_toks,os⟩ (topStub p)
noncomputable def pA (p:Program) (P:Params) (s:Shared):Bool:=staticsOk (importedModules p.main.body) (boot_heap P) s.heap&&namesBound p s.heap&&gensDone s&&laidKept (boot_heap P) s.heap
def pB (q:Program)(mods:List Str)(Xt:Shared→Bool)(s:Shared):Bool:=(s.heap.keysOk (looseW q []) ((recsOf q).map (·.name)) ((litsOf q).map (·.1)) ((clssOf q (looseW q [])).map (·.name))&&s.heap.accountedOkI mods&&s.heap.isNs mainGlobals&&s.heap.isNs builtinsNs&&tablesOk q s.heap&&Xt s&&(if true then s.gens.size==0 else !leftWithCleanup s.gens))&&tabsOk q s
def pC (q:Program)(s:Shared):=(seen ((recsOf q).map (·.name)) (ownsOf q) [] {s with gens:=#[]},s.heap.bltView,wideSeen q s)
def pD (q:Program)(s:Shared):=(pinSeenD q (drecsOf q) s,plainSeenE q (looseW q []) s,plainSeenD q [] s,clsSeenW q [] s)
lay_quick Hd.pB
lay_quick Hd.pC
lay_quick Hd.pD
theorem vQ {α A B:Type}{x:Option α}{f:α→A}{g:α→B}{a:A}{b:B}(h1:x.map f=some a)(h2:x.map g=some b):x.map (fun s=>(f s,g s))=some (a,b):=by
 cases x with
 | none=>cases h1
 | some s=>exact congrArg some (Prod.ext (Option.some.inj h1) (Option.some.inj h2))
theorem yO {p q:Program}{A:Type}{Yf:Shared→A}{Ya:World→A}
  (open_:∀w:World,(fencedOpening treeTable p w N).map (fun s=>(s.heap,s.gens,s.drawn,s.toks))=some (boot_heap w.params,Array.mk [],boot_drawn,boot_toks))
  (size:∀w:World,((boot_heap w.params).isNs mainGlobals&&(Array.mk ([]:List GenState)).size==0,(boot_heap w.params).objs.size,(boot_heap w.params).nsMap mainGlobals "__annotations__")=(true,11,some (Value.ref 6)))
  (r1:∀(w:World) (os:OsState),(RT p w N os).map (fun s=>pA p w.params s.abs&&pB q (importedModules p.main.body) Xt s.abs)=some true)
  (r2:∀(w:World) (os:OsState),(RT p w N os).map (fun s=>pC q s.abs)=some (expectedOf q,bltViewBooted,wideGood q))
  (r3:∀(w:World) (os:OsState),(RT p w N os).map (fun s=>pD q s.abs)=some (pinGoodD (drecsOf q),plainGoodE q (looseW q []),plainGoodD q [],clsGoodW q []))
  (r4:∀(w:World) (os:OsState),(RT p w N os).map (fun s=>Yf s.abs)=some (Ya w)):LeftO p q [] Xt Yf Ya N true:=
 yB open_ size BF fun w os=>by
  show(RT p w N os).map _=_;have h:=vQ (vQ (r1 w os) (r2 w os)) (vQ (r3 w os) (r4 w os));cases e:RT p w N os with
  | none=>rw[e] at h;cases h
  | some s=>
   rw[e] at h;obtain⟨h1,h2⟩:=Prod.mk.inj (Option.some.inj h);obtain⟨h1,h3⟩:=Prod.mk.inj h1;obtain⟨h4,h5⟩:=Prod.mk.inj h2;obtain⟨a,b⟩:=Bool.and_eq_true_iff.mp h1;obtain⟨b,c⟩:=Bool.and_eq_true_iff.mp b;obtain⟨c1,c2⟩:=Prod.mk.inj h3;obtain⟨c2,c3⟩:=Prod.mk.inj c2;obtain⟨d1,d2⟩:=Prod.mk.inj h4;obtain⟨d2,d3⟩:=Prod.mk.inj d2;obtain⟨d3,d4⟩:=Prod.mk.inj d3;exact congrArg some (Prod.ext a (Prod.ext (Prod.ext c1 (Prod.ext c2 (Prod.ext b (Prod.ext c (Prod.ext d1 (Prod.ext d2 (Prod.ext d3 (Prod.ext c3 d4)))))))) h5))
def lk (s:SharedT)(a:Nat):Option Obj:=match Nat.blt a s.n with
 | true=>(match s.tree.get a with
  | some o=>alive o
  | none=>none)
 | false=>none
theorem Nb {s:SharedT}{a:Nat}{o:Obj}(h:lk s a=some o):s.abs.heap.get? a=some o:=by
 unfold lk at h;cases b:Nat.blt a s.n with
 | false=>rw[b] at h;cases h
 | true=>
  rw[b] at h;cases g:s.tree.get a with
  | none=>rw[g] at h;cases h
  | some x=>rw[g] at h;exact(abs_get (Nat.blt_eq.mp b) g).trans h
theorem zx {s:SharedT}{β:Type}{f:β→Obj}:∀{as:List Nat} {l:List β},as.map (lk s)=l.map (fun p=>some (f p))→as.map s.abs.heap.get?=l.map (fun p=>some (f p))
 | [],[],_=>rfl
 | [],_::_,h=>by cases h
 | _::_,[],h=>by cases h
 | a::as,p::l,h=>by
  obtain⟨x,y⟩:=List.cons.inj h;show s.abs.heap.get? a::as.map s.abs.heap.get?=_;rw[Nb x,zx y];rfl
theorem left_km {p q:Program}{K:Params→Frag}{as:List Addr}{e:∀P,as=(K P).map (·.1)}{ts:List Addr}
  (open_:∀w:World,(fencedOpening treeTable p w N).map (fun s=>(s.heap,s.gens,s.drawn,s.toks))=some (boot_heap w.params,Array.mk [],boot_drawn,boot_toks))
  (size:∀w:World,((boot_heap w.params).isNs mainGlobals&&(Array.mk ([]:List GenState)).size==0,(boot_heap w.params).objs.size,(boot_heap w.params).nsMap mainGlobals "__annotations__")=(true,11,some (Value.ref 6)))
  (r1:∀(w:World) (os:OsState),(RT p w N os).map (fun s=>pA p w.params s.abs&&pB q (importedModules p.main.body) Xt s.abs)=some true)
  (r2:∀(w:World) (os:OsState),(RT p w N os).map (fun s=>pC q s.abs)=some (expectedOf q,bltViewBooted,wideGood q))
  (r3:∀(w:World) (os:OsState),(RT p w N os).map (fun s=>pD q s.abs)=some (pinGoodD (drecsOf q),plainGoodE q (looseW q []),plainGoodD q [],clsGoodW q []))
  (r4:∀(w:World) (os:OsState),(RT p w N os).map (fun s=>(as.map (lk s),ts.map (lk s)))=some ((K w.params).map (fun p=>some p.2),ts.map fun _=>some (tabObj #[]))) :
  LeftO p q [] Xt (kmHook K as e ts).obs (kmHook K as e ts).val N true:=
 yO open_ size r1 r2 r3 fun w os=>by
  obtain⟨s,h1,h2⟩:=Option.map_eq_some_iff.mp (r4 w os);obtain⟨a,b⟩:=Prod.mk.inj h2;rw[h1];exact congrArg some (Prod.ext (zx a) (zx b))
end Hd
namespace K28
open PySem PySem.Spec PyProof.Rows L2 DL List
noncomputable def top (i:Nat):Stmt:=PySem.Challenge.pw_glowrow_k28_scores_for_deeds.main.body.getD i (.Pass ⟨0,0,0,0⟩)
noncomputable abbrev HF:Stmt:=top 83
noncomputable abbrev TX:=Tx (("_law_draw",top 67,["tape","many"])::("_law_size",top 68,["tape","most"])::("_law_frame",top 69,["tape","most"])::("_law_inks",top 70,["tape","wide","thin"])::("_law_inked",top 71,["tape","most"])::("_law_far",top 72,["tape","size"])::("_law_mover",top 73,["tape","frame","shapes"])::("_law_stand",top 74,["tape","frame","movers_most"])::("_law_deed",top 75,["tape","frame","stand"])::("_law_times",top 80,["tape","frame","stand","pace"])::("row_ticks",top 14,["frame"])::("ticks_of",top 15,["frame"])::("lines_until",top 65,["frame","due","tick","pace"])::("score_for",top 64,["frame","timed","pace"])::("_law_due",top 81,["timed","pace"])::("_law_whole",top 76,["thing","low","high"])::("_law_is_deed",top 77,["stand","thing"])::("_law_is_score",top 79,["stand","thing"])::("_law_hand",top 78,["frame","score","pace"])::("is_whole",top 10,["thing"])::("is_within",top 11,["thing","low","high"])::("is_frame",top 13,["thing"])::("is_ink",top 18,["thing"])::("is_ink_row",top 19,["thing"])::("is_ink_block",top 20,["thing","most"])::("is_shape",top 21,["thing"])::("is_book",top 37,["thing"])::("is_shape_number",top 38,["book","thing"])::("is_place_pair",top 36,["thing"])::("is_rank",top 35,["thing"])::("is_turn",top 22,["thing"])::("is_mover",top 39,["book","thing"])::("are_movers",top 40,["book","thing"])::("is_hue",top 34,["thing"])::("are_pots",top 41,["thing"])::("is_stand",top 42,["thing"])::("check_begin",top 49,["frame","stand"])::("ticks_hold",top 52,["frame","timed"])::("is_mover_deed",top 44,["stand","word","parts"])::("is_deed",top 43,["stand","thing"])::("check_plan",top 53,["frame","stand","timed"])::("place_of",top 16,["frame","tick"])::("strip_of",top 23,["shape","turn","row"])::("strip_taken",top 30,["stand","number","row"])::("floor_inks",top 29,["frame","stand","row"])::("lying_on",top 25,["stand","row"])::("kept_on",top 26,["frame","stand","row"])::("taken",top 28,["frame","stand","row"])::("lost_on",top 27,["frame","stand","row"])::("covers_at",top 31,["row_taken","x"])::("mover_behind",top 46,["mover","word","parts"])::("with_part",top 47,["things","at","part"])::("stand_behind",top 45,["stand","deed"])::("laid",top 54,["frame","stand","timed"])::("is_line",top 58,["stand","many","thing"])::("is_score",top 57,["stand","thing"])::("tick_named",top 60,["frame","line"])::("tick_of_line",top 61,["frame","line","tick"])::("place_behind",top 62,["frame","line","place","tick"])::("deeds_by",top 59,["frame","stand","score","pace"])::("played",top 63,["frame","stand","score","pace"])::("_law_lays_alike",top 82,["frame","stand","score","pace","timed"])::[])
 (("Beam","__init__","Beam.__init__",ib (top 50) 0,["self","frame","stand"])::("Beam","take_row","Beam.take_row",ib (top 50) 7,["self","row"])::("Beam","keep_touches","Beam.keep_touches",ib (top 50) 9,["self","numbers","row","spot"])::("Beam","keep_grounds","Beam.keep_grounds",ib (top 50) 10,["self","numbers","row","spot"])::("Beam","lay_spot","Beam.lay_spot",ib (top 50) 8,["self","row","spot"])::("Beam","go_tick","Beam.go_tick",ib (top 50) 6,["self"])::("Beam","go","Beam.go",ib (top 50) 5,["self","many"])::("Beam","is_over","Beam.is_over",ib (top 50) 3,["self"])::("Beam","deed","Beam.deed",ib (top 50) 4,["self","deed"])::("Beam","tick","Beam.tick",ib (top 50) 1,["self"])::("Beam","picture","Beam.picture",ib (top 50) 11,["self"])::[])
 [("ink_shown",top 32,["floor_ink","covers"])]
 ("all"::"bool"::"divmod"::"enumerate"::"int"::"isinstance"::"len"::"list"::"max"::"min"::"range"::"sorted"::"str"::"tuple"::[]) ["NoDeed","NoFrame","NoScore","NoStand","NoTick","Over"]
 ([]) []
 (("Beam","ahead")::("Beam","first_grounds")::("Beam","first_touches")::("Beam","frame")::("Beam","laid_rows")::("Beam","lost_pairs")::("Beam","row_taken")::("Beam","standing")::[]) [] [("MOST_LINES",100)]
set_option hygiene false
local macro_rules | `(tactic| walk_at "o") => `(tactic| first | with_reducible exact NH | with_reducible exact q_addM | with_reducible exact LW | with_reducible exact Nq | with_reducible exact Ke | with_reducible exact LG | with_reducible exact Nz | with_reducible exact O9 | with_reducible exact Pu | with_reducible exact ON | with_reducible exact OI | with_reducible exact OT | with_reducible exact Fx | with_reducible exact Qf | with_reducible exact Gs | with_reducible exact q_mulT | with_reducible exact q_inA | ((with_reducible show Q2 _ (compareOp .Eq) _); exact OR hr) | exact P6 hr)
local macro_rules | `(tactic| walk_at "c") => `(tactic| first | ((with_reducible refine LJ ?_); rfl) | ((with_reducible refine DF)) | ((with_reducible refine MC)) | ((with_reducible refine LK)) | ((with_reducible refine q_listM)) | ((with_reducible refine Iy)) | ((with_reducible refine N6 ?_); rfl) | ((with_reducible refine NK ?_); rfl) | ((with_reducible refine C6)) | ((with_reducible refine GC)))
local macro_rules | `(tactic| walk_at "b") => `(tactic| with_reducible first | exact Boot.«all» | exact Boot.«bool» | exact Boot.«divmod» | exact Boot.«enumerate» | exact Boot.«int» | exact Boot.«isinstance» | exact Boot.«len» | exact Boot.«list» | exact Boot.«max» | exact Boot.«min» | exact Boot.«range» | exact Boot.«sorted» | exact Boot.«str» | exact Boot.«tuple»)
local macro_rules | `(tactic| walk_at "E") => `(tactic| first
  | ((with_reducible show QE _ _ (ae _));exact qv _)
  | ((with_reducible show QE _ _ (gC _));first|exact Jh|exact Jv|exact Ju|exact MK|exact Ge (QJ T.i 0))
  | ((with_reducible show QE _ _ (g2 aI _ _));refine NQ ?_ ?_)
  | ((with_reducible show QE _ _ (g2 _ _ _));first|refine NX (by walk_at "o") ?_ ?_|refine JF (by walk_at "o") ?_ ?_|refine qe_cmpI (by walk_at "o") ?_ ?_)
  | ((with_reducible show QE _ _ (aj _ _ _));refine Mm (by assumption) hr ?_)
  | ((with_reducible show QE _ _ (bb _));refine Ld ?_)
  | ((with_reducible show QE _ _ (ej _ _));refine MJ (by first|exact .inl rfl|exact .inr (.inl rfl)|exact .inr (.inr (.inl rfl))|exact .inr (.inr (.inr (.inl rfl)))|exact .inr (.inr (.inr (.inr rfl)))) (by walk_at "b") (by rfl) (T.z _ (by decide +kernel)) (by rfl) (T.z _ (by decide +kernel)) ?_)
  | ((with_reducible show QE _ _ (aC _ _));first|refine MM (by walk_at "c") (T.z _ (by decide +kernel)) (by walk_at "b") ?_|refine N7 (by walk_at "c") (by rfl) (T.z _ (by decide +kernel)) (by walk_at "b") ?_)
  | ((with_reducible show QE _ _ (dD _));refine Jj ?_)
  | ((with_reducible show QE _ _ (iC _));refine Kz ?_)
  | ((with_reducible show QE _ _ (mI _));refine Kg ?_)
  | ((with_reducible show QE _ _ (wf _));refine Jo ?_)
  | ((with_reducible show QE _ _ (qH _ _ _ _ _));refine Ey (by walk_at "o") (by walk_at "o") ?_ ?_ ?_)
  | ((with_reducible show QE _ _ (yw _ _ _));refine LV ?_ ?_ ?_)
  | ((with_reducible show QE _ _ (oA _ _ _));refine DV ?_ ?_ ?_)
  | ((with_reducible show QE _ _ (zZ _));refine JS rfl ?_)
  | ((with_reducible show QE _ _ (br _ _ _ _));first|refine qe_compR (by assumption) (by kernel_rfl) (by first|exact .inl rfl|exact .inr rfl) ?_ ?_ ?_|refine Cv (by kernel_rfl) (by first|exact .inl rfl|exact .inr rfl) ?_ ?_ ?_)
  | ((with_reducible show QE _ _ (cP _ _ _ _ _ _));refine B4 (by assumption) (by kernel_rfl) (by first|exact .inl rfl|exact .inr rfl) ?_ ?_ ?_ ?_ ?_)
  | ((with_reducible show QE _ _ (dX _ _ _));refine G6 (Ak T.a _ _) ?_)
  | ((with_reducible show QE _ _ (gT _ _ _ _ _ ag));refine Ek (by assumption) hr ?_)
  | ((with_reducible show QE _ _ (gT _ _ _ _ _ _));refine Fq (by assumption) hr ?_ ?_)
  | ((with_reducible show QE _ _ (l8 _ _ _ ag));refine qe_make0A (by assumption) hr)
  | ((with_reducible show QE _ _ (l8 _ _ _ _));refine CZ (by assumption) hr ?_)
  | ((with_reducible show QE _ _ (jW _ _));refine Bw ?_ ?_)
  | ((with_reducible show QE _ _ (lD _ _ _));refine AX hr ?_ ?_ ?_)
  | ((with_reducible show QE _ _ (xG));exact EY)
  | ((with_reducible show QE _ _ (xm));exact E4)
  | ((with_reducible show QE _ _ (zn _));refine Io ?_)
  | ((with_reducible show QE _ _ (nA _ _));refine G7 ?_)
  | ((with_reducible show QE _ _ (qz _ _));refine GN (px:="cover") (N:=["cover"]) (by assumption) (k:=0) (hr.mono (by decide)) (by rfl) (T.z _ (by decide +kernel)) (by walk_at "b") ⟨rfl,rfl,rfl,by decide +kernel,rfl,by decide +kernel,by decide +kernel⟩ ?_ fun _ _ _ _ _ _ _ hr=>?_))
local macro_rules | `(tactic| walk_at "S") => `(tactic| first
  | ((with_reducible show QS _ _ (aD _));refine J5 ?_)
  | ((with_reducible show QS _ _ (bL _ _ _));refine Lz ?_ ?_ ?_)
  | ((with_reducible show QS _ _ (aH _ (br _ _ _ _)));first|refine qs_setCompR (by assumption) (by kernel_rfl) (by first|exact .inl rfl|exact .inr rfl) nd ?_ ?_ ?_|refine yy (by kernel_rfl) (by first|exact .inl rfl|exact .inr rfl) nd ?_ ?_ ?_|refine qs_setC _ nd ?_)
  | ((with_reducible show QS _ _ (aH _ (cP _ _ _ _ _ _)));first|refine wD (by assumption) (by kernel_rfl) (by first|exact .inl rfl|exact .inr rfl) ?_ nd ?_ ?_ ?_ ?_|refine qs_setC _ nd ?_)
  | ((with_reducible show QS _ _ (aH _ _));refine JK _ nd ?_)
  | ((with_reducible show QS _ _ (dC _ _));refine Kl ?_ ?_)
  | ((with_reducible show QS _ _ (js _ _ _));refine JW PassesOwn.leaving ?_ ?_ ?_)
  | ((with_reducible show QS _ _ (cK _));refine FG ?_)
  | ((with_reducible show QS _ _ (nr _ _ _));refine KH ?_ ?_ ?_)
  | ((with_reducible show QS _ _ (aA));first|exact qs_pass|exact qs_doc)
  | ((with_reducible show QS _ _ (mH _ _ _));refine EK PassesOwn.leaving ?_ ?_)
  | ((with_reducible show QS _ _ (fQ _ _));refine BW (T.e _ (by decide +kernel)) ?_)
  | ((with_reducible show QS _ _ (qX _ _ _));refine Jw nd ?_)
  | ((with_reducible show QS _ _ (gQ _ _ _ _));first|refine GF (Ak T.a _ _) ?_ ?_|refine qs_fldCA (Ak T.a _ _) ?_ ?_)
  | ((with_reducible show QS _ _ (Fy _ _ _ _));refine Jq (Ak T.a _ _) ?_ ?_)
  | ((with_reducible show QS _ _ (tQ _ _ _));refine J0 _ nd rfl ?_)
  | ((with_reducible show QS _ _ (sV _ _));refine FV _ nd ?_))
local macro_rules | `(tactic| walk_at "Q") => `(tactic| first
  | ((with_reducible show QE _ _ _);first|walk_at "E"|refine Je ?_|refine KA ?_ ?_|refine Mw ?_ ?_|refine qe_fstr1 ?_)
  | ((with_reducible show QA _ _ _);first|exact Jd|refine P1 ?_ ?_)
  | ((with_reducible show QT _ _ _);first
  | ((with_reducible show QT _ _ (az (qH _ _ _ _ _)));refine C1 (by walk_at "o") (by walk_at "o") ?_ ?_ ?_)
  | ((with_reducible show QT _ _ (az _));first|refine Iv (by walk_at "o") ?_ ?_|refine G4 (by walk_at "o") ?_ ?_)
  | ((with_reducible show QT _ _ (bI _));refine Ir ?_)
  | ((with_reducible show QT _ _ (cn _));refine KR ?_)
  | ((with_reducible show QT _ _ (dL _ _));refine NU ?_)
  | ((with_reducible show QT _ _ (cx _ _));refine NU ?_))
  | ((with_reducible show QB _ _ _);first|exact K4|refine JP ?_|refine EU ?_ ?_)
  | ((with_reducible show QS _ _ _);walk_at "S")
  | ((with_reducible show QW _ _ _);first|refine JJ ?_ ?_|refine Lw ?_ ?_|refine Gk ?_|refine K1 ?_)
  | ((with_reducible show QI _ _ _ _);first|((with_reducible show QI _ _ _ (gK _));refine L6 (by rfl) (T.z _ (by decide +kernel)) ?_)|((with_reducible show QI _ _ _ (gRng2 _));refine qi_r2 (by rfl) (T.z _ (by decide +kernel)) ?_)|((with_reducible show QI _ _ _ (lZ _));refine He (by rfl) (T.z _ (by decide +kernel)) (by walk_at "b") ?_)|refine IT ?_)
  | ((with_reducible show QG _ _ _);first|exact qn _ nd|exact QL _ (by kernel_rfl)|refine K0 ?_|refine FL ?_)
  | ((with_reducible show LB _ _ _);first|exact Gx|refine LS ?_ ?_)
  | ((with_reducible show MH _ _ _);first|exact G5|refine LA ?_ ?_)
  | ((with_reducible show QP _ _ _);first|exact F4|refine Fa ?_)
  | ((with_reducible show CF _ _ _ _ _ _);first|exact Bx|refine Bt ?_)
  | ((with_reducible show QO _ _);first|exact qo_one _ _|exact JI _|refine qo_tupG ?_)
  | ((with_reducible show QOs _ _);first|exact qos_nil|refine qos_c ?_ ?_)
  | ((with_reducible show QF _ _ _);first|exact Kf|refine Pr ?_ ?_)
  | ((with_reducible show QD _ _ _ _ _);first|exact qd_nil|refine qd_c ?_)
  | intro _)
local macro_rules | `(tactic| walk_at "R") => `(tactic| repeat' walk_at "Q")
section
variable {P:Program}{w:World}{K:W.Frag}{mg:Str→Option Value}{base:Heap}
noncomputable def kz:GS:=(ar (aH 2 (gC (.int 2305843009213693951))) (ar (bL (az (g2 jo (g2 aI (ae 0) (gC (.int 2))) (ae 1))) (ar (aH 3 (gC (.int 0))) (ar (bL (az (g2 mj (aC aV (aa (g2 aI (ae 0) (gC (.int 0))) ag)) (gC (.int 0)))) (aH 3 (g2 aI (g2 aI (ae 0) (gC (.int 0))) (g2 iV (g2 aI (ae 0) (gC (.int 1))) (aC aV (aa (g2 aI (ae 0) (gC (.int 0))) ag))))) aA) (ar (bL (cx (az (g2 rY (g2 aI (ae 0) (gC (.int 1))) (aC aV (aa (g2 aI (ae 0) (gC (.int 0))) ag)))) (az (g2 jo (ae 3) (g2 tH (gC (.int 10)) (gC (.int 18)))))) (ar (aH 3 (g2 iV (g2 a9 (ae 3) (g2 cz (gC (.int 1000003)) (g2 aI (ae 0) (gC (.int 1))))) (ae 2))) (ar (aH 3 (g2 iV (g2 a9 (g2 a9 (g2 cz (ae 3) (ae 3)) (g2 cz (gC (.int 1181783497276652981)) (ae 3))) (gC (.int 2049848353892358983))) (ae 2))) (aH 3 (g2 iV (g2 a9 (g2 cz (ae 3) (ae 3)) (gC (.int 1442695040888963407))) (ae 2))))) aA) (ar (nr (ae 0) (gC (.int 1)) (g2 a9 (g2 aI (ae 0) (gC (.int 1))) (gC (.int 1)))) (nr (ae 0) (gC (.int 2)) (ae 3)))))) aA) (ar (aH 4 (g2 iV (g2 aI (ae 0) (gC (.int 2))) (ae 1))) (ar (nr (ae 0) (gC (.int 2)) (g2 e9 (g2 aI (ae 0) (gC (.int 2))) (ae 1))) (aD (ae 4))))))
noncomputable def aw:FD:=bi 3 kz
variable (T:TX P w K mg base)
include T
theorem cA:Ok P w K mg base "_law_draw" 1 2 aw:=bU (bT T.f 0 rfl) ["tape","many","prime","cell","found"] aW rfl fun f _ A _ s H E nd hr=>by delta kz;walk_at "R"
noncomputable def mw:GS:=(aD (g2 a9 (gC (.int 1)) (g2 aI (dD (aa (aj 2 aw (aa (ae 0) (aa (aC zI (aa (ae 1) (aa (gC (.int 6)) ag))) ag))) (aa (aj 2 aw (aa (ae 0) (aa (ae 1) ag))) (aa (g2 eE (ae 1) (gC (.int 1))) ag)))) (g2 e9 (g2 cz (aj 2 aw (aa (ae 0) (aa (gC (.int 8)) ag))) (gC (.int 3))) (gC (.int 10))))))
noncomputable def fe:FD:=bi 0 mw
theorem oT:Ok P w K mg base "_law_size" 2 2 fe:=bU (bT T.f 1 rfl) ["tape","most"] aW rfl fun f _ A _ s H E nd hr=>by have:=cA T;delta mw;walk_at "R"
noncomputable def li:GS:=(ar (aH 2 (g2 aI (dD (aa (gC (.int 0)) (aa (aj 2 aw (aa (ae 0) (aa (gC (.int 21)) ag))) ag))) (aj 2 aw (aa (ae 0) (aa (gC (.int 2)) ag))))) (aD (bb (aa (aj 2 fe (aa (ae 0) (aa (ae 1) ag))) (aa (aj 2 fe (aa (ae 0) (aa (ae 1) ag))) (aa (ae 2) (aa (aj 2 aw (aa (ae 0) (aa (gC (.int 13)) ag))) ag)))))))
noncomputable def gU:FD:=bi 1 li
theorem ug:Ok P w K mg base "_law_frame" 3 2 gU:=bU (bT T.f 2 rfl) ["tape","most","gap"] aW rfl fun f _ A _ s H E nd hr=>by have:=cA T;have:=oT T;delta li;walk_at "R"
noncomputable def hX:GE:=(g2 cz (aj 2 aw (aa (ae 1) (aa (gC (.int 16)) ag))) (aC wc (aa (g2 mj (aj 2 aw (aa (ae 1) (aa (ae 3) ag))) (gC (.int 0))) ag)))
noncomputable def mZ:GS:=(aD (aC fN (aa (br (gK (aa (ae 1) ag)) cL hX aZ) ag)))
noncomputable def kj:FD:=bi 0 mZ
theorem wG:Ok P w K mg base "_law_inks" 2 3 kj:=bU (bT T.f 3 rfl) ["tape","wide","thin"] aW rfl fun f _ A _ s H E nd hr=>by have:=cA T;delta mZ hX;walk_at "R"
noncomputable def iO:GE:=(aj 3 kj (aa (ae 1) (aa (ae 3) (aa (ae 4) ag))))
noncomputable def lP:GS:=(ar (aH 2 (aj 2 fe (aa (ae 0) (aa (ae 1) ag)))) (ar (aH 3 (g2 a9 (gC (.int 1)) (aj 2 aw (aa (ae 0) (aa (gC (.int 4)) ag))))) (aD (aC fN (aa (br (gK (aa (aj 2 fe (aa (ae 0) (aa (ae 1) ag))) ag)) cL iO aZ) ag)))))
noncomputable def hG:FD:=bi 2 lP
theorem tF:Ok P w K mg base "_law_inked" 3 2 hG:=bU (bT T.f 4 rfl) ["tape","most","wide","thin"] aW rfl fun f _ A _ s H E nd hr=>by have:=cA T;have:=oT T;have:=wG T;delta lP iO;walk_at "R"
noncomputable def og:GS:=(aD (g2 aI (dD (aa (g2 eE (aj 2 aw (aa (ae 0) (aa (g2 a9 (ae 1) (gC (.int 16))) ag))) (gC (.int 8))) (aa (g2 eE (aj 2 aw (aa (ae 0) (aa (gC (.int 2001)) ag))) (gC (.int 1000))) ag))) (g2 e9 (aj 2 aw (aa (ae 0) (aa (gC (.int 8)) ag))) (gC (.int 7)))))
noncomputable def bQ:FD:=bi 0 og
theorem mV:Ok P w K mg base "_law_far" 2 2 bQ:=bU (bT T.f 5 rfl) ["tape","size"] aW rfl fun f _ A _ s H E nd hr=>by have:=cA T;delta og;walk_at "R"
noncomputable def dA:GS:=(ar (aH 3 (gC .non)) (ar (bL (dL (az (g2 mj (ae 2) (gC (.int 0)))) (az (g2 mj (aj 2 aw (aa (ae 0) (aa (gC (.int 8)) ag))) (gC (.int 0))))) (aH 3 (aj 2 aw (aa (ae 0) (aa (ae 2) ag)))) aA) (aD (bb (aa (ae 3) (aa (aj 2 bQ (aa (ae 0) (aa (g2 aI (ae 1) (gC (.int 0))) ag))) (aa (aj 2 bQ (aa (ae 0) (aa (g2 aI (ae 1) (gC (.int 1))) ag))) (aa (aj 2 aw (aa (ae 0) (aa (gC (.int 4)) ag))) (aa (aj 2 aw (aa (ae 0) (aa (gC (.int 4)) ag))) ag)))))))))
noncomputable def jv:FD:=bi 1 dA
theorem nG:Ok P w K mg base "_law_mover" 3 3 jv:=bU (bT T.f 6 rfl) ["tape","frame","shapes","shape"] aW rfl fun f _ A _ s H E nd hr=>by have:=cA T;have:=mV T;delta dA;walk_at "R"
noncomputable def iK:GE:=(aj 2 hG (aa (ae 1) (aa (gC (.int 8)) ag)))
noncomputable def iM:GE:=(aj 3 jv (aa (ae 1) (aa (ae 2) (aa (aC aV (aa (ae 7) ag)) ag))))
noncomputable def iF:GE:=(aj 2 aw (aa (ae 1) (aa (gC (.int 64)) ag)))
noncomputable def jm:GS:=(ar (aH 3 (aj 2 hG (aa (ae 0) (aa (gC (.int 16)) ag)))) (ar (aH 4 (bb (aa (aj 2 bQ (aa (ae 0) (aa (gC (.int 9)) ag))) (aa (aj 2 bQ (aa (ae 0) (aa (gC (.int 9)) ag))) ag)))) (ar (aH 5 (g2 aI (dD (aa (aj 2 aw (aa (ae 0) (aa (gC (.int 4)) ag))) (aa (aj 2 aw (aa (ae 0) (aa (gC (.int 9)) ag))) ag))) (g2 e9 (aj 2 aw (aa (ae 0) (aa (gC (.int 4)) ag))) (gC (.int 3))))) (ar (aH 6 (aC fN (aa (br (gK (aa (ae 5) ag)) cL iK aZ) ag))) (ar (aH 7 (aC fN (aa (br (gK (aa (aj 2 aw (aa (ae 0) (aa (g2 a9 (ae 2) (gC (.int 1))) ag))) ag)) cL iM aZ) ag))) (aD (bb (aa (ae 3) (aa (ae 4) (aa (ae 6) (aa (ae 7) (aa (aC fN (aa (br (gK (aa (gC (.int 16)) ag)) cL iF aZ) ag)) ag))))))))))))
noncomputable def jd:FD:=bi 5 jm
theorem ui:Ok P w K mg base "_law_stand" 4 3 jd:=bU (bT T.f 7 rfl) ["tape","frame","movers_most","floor","shift","shapes","book","movers"] aW rfl fun f _ A _ s H E nd hr=>by have:=cA T;have:=tF T;have:=mV T;have:=nG T;delta jm iK iM iF;walk_at "R"
noncomputable def ko:GS:=(ar (aH 3 (aj 2 aw (aa (ae 0) (aa (gC (.int 8)) ag)))) (ar (bL (cx (az (g2 jo (ae 3) (gC (.int 2)))) (az (g2 (aF false) (g2 aI (ae 2) (gC (.int 3))) (bb ag)))) (ar (aH 4 (dD (aa (bb (aa (gC (.str "shift")) (aa (aj 2 bQ (aa (ae 0) (aa (gC (.int 9)) ag))) (aa (aj 2 bQ (aa (ae 0) (aa (gC (.int 9)) ag))) ag)))) (aa (bb (aa (gC (.str "pot")) (aa (aj 2 aw (aa (ae 0) (aa (gC (.int 16)) ag))) (aa (aj 2 aw (aa (ae 0) (aa (gC (.int 64)) ag))) ag)))) ag)))) (aD (g2 aI (ae 4) (g2 iV (ae 3) (gC (.int 2)))))) aA) (ar (aH 5 (aj 2 aw (aa (ae 0) (aa (aC aV (aa (g2 aI (ae 2) (gC (.int 3))) ag)) ag)))) (ar (aH 6 (aj 3 jv (aa (ae 0) (aa (ae 1) (aa (aC aV (aa (g2 aI (ae 2) (gC (.int 2))) ag)) ag))))) (ar (bL (az (g2 jo (ae 3) (gC (.int 5)))) (aD (bb (aa (gC (.str "move")) (aa (ae 5) (aa (g2 aI (ae 6) (gC (.int 1))) (aa (g2 aI (ae 6) (gC (.int 2))) ag)))))) aA) (aD (g2 aI (dD (aa (bb (aa (gC (.str "shape")) (aa (ae 5) (aa (g2 aI (ae 6) (gC (.int 0))) ag)))) (aa (bb (aa (gC (.str "rank")) (aa (ae 5) (aa (g2 aI (ae 6) (gC (.int 3))) ag)))) (aa (bb (aa (gC (.str "turn")) (aa (ae 5) (aa (g2 aI (ae 6) (gC (.int 4))) ag)))) ag)))) (g2 eE (ae 3) (gC (.int 5))))))))))
noncomputable def ke:FD:=bi 4 ko
theorem wH:Ok P w K mg base "_law_deed" 4 3 ke:=bU (bT T.f 8 rfl) ["tape","frame","stand","way","some","number","mover"] aW rfl fun f _ A _ s H E nd hr=>by have:=cA T;have:=mV T;have:=nG T;delta ko;walk_at "R"
noncomputable def eV:GS:=(ar (bL (az (g2 jo (ae 6) (ae 4))) (cK (jW (ae 5) (bb (aa (ae 6) (aa (aj 3 ke (aa (ae 0) (aa (ae 1) (aa (ae 2) ag)))) ag))))) aA) (ar (aH 9 (dD (aa (ae 3) (aa (ae 3) (aa (g2 a9 (g2 cz (gC (.int 2)) (ae 3)) (aj 2 aw (aa (ae 0) (aa (gC (.int 9)) ag)))) (aa (g2 a9 (g2 cz (gC (.int 2)) (ae 3)) (aj 2 aw (aa (ae 0) (aa (ae 4) ag)))) ag)))))) (ar (aH 9 (g2 a9 (ae 9) (dD (aa (g2 cz (ae 3) (g2 a9 (gC (.int 1)) (aj 2 aw (aa (ae 0) (aa (gC (.int 4)) ag))))) (aa (g2 cz (gC (.int 2)) (ae 3)) ag))))) (ar (bL (cn (ae 7)) (aH 9 (g2 a9 (ae 9) (dD (aa (aj 2 aw (aa (ae 0) (aa (g2 cz (gC (.int 2)) (ae 3)) ag))) ag)))) aA) (aH 6 (g2 a9 (ae 6) (g2 aI (ae 9) (aj 2 aw (aa (ae 0) (aa (aC aV (aa (ae 9) ag)) ag))))))))))
noncomputable def g5:GS:=(ar (aH 4 (g2 cz (g2 aI (ae 1) (gC (.int 1))) (g2 a9 (g2 aI (ae 1) (gC (.int 0))) (g2 aI (ae 1) (gC (.int 2)))))) (ar (aH 5 (iC ag)) (ar (aH 6 (g2 aI (dD (aa (gC (.int 0)) (aa (ae 3) (aa (aj 2 aw (aa (ae 0) (aa (gC (.int 12)) ag))) ag)))) (aj 2 aw (aa (ae 0) (aa (gC (.int 3)) ag))))) (ar (aH 7 (g2 (aF false) (aj 2 aw (aa (ae 0) (aa (gC (.int 3)) ag))) (gC (.int 0)))) (ar (js (gK (aa (g2 aI (dD (aa (aj 2 aw (aa (ae 0) (aa (gC (.int 6)) ag))) (aa (aj 2 aw (aa (ae 0) (aa (gC (.int 51)) ag))) ag))) (g2 e9 (aj 2 aw (aa (ae 0) (aa (gC (.int 4)) ag))) (gC (.int 3)))) ag)) (dM 8) eV) (aD (ae 5)))))))
noncomputable def ju:FD:=fun ds M=>jV M.length (bi 6 g5 ds M)
theorem tZ:Ok P w K mg base "_law_times" 5 4 ju:=nL (F:=bi 6 g5) <| bU (bT T.f 9 rfl) ["tape","frame","stand","pace","total","found","tick","early","k","more"] aW rfl fun f _ A _ s H E nd hr=>by have:=cA T;have:=wH T;delta g5 eV;walk_at "R"
noncomputable def qx:GS:=(ar (dC (bJ [1,2,3,4]) (ae 0)) (aD (g2 a9 (ae 1) (ae 3))))
noncomputable def eJ:FD:=bi 4 qx
theorem jy:Ok P w K mg base "row_ticks" 1 1 eJ:=bU (bT T.f 10 rfl) ["frame","wide","high","gap","most"] aW rfl fun f _ A _ s H E nd hr=>by delta qx;walk_at "R"
noncomputable def lW:GS:=(ar (dC (bJ [1,2,3,4]) (ae 0)) (aD (g2 cz (ae 2) (aj 1 eJ (aa (ae 0) ag)))))
noncomputable def bx:FD:=bi 4 lW
theorem fu:Ok P w K mg base "ticks_of" 2 1 bx:=bU (bT T.f 11 rfl) ["frame","wide","high","gap","most"] aW rfl fun f _ A _ s H E nd hr=>by have:=jy T;delta lW;walk_at "R"
noncomputable def iG:GS:=(ar (bL (dL (az (g2 (aF false) (ae 2) (ae 1))) (az (g2 jo (ae 2) (aj 1 bx (aa (ae 0) ag))))) (aD (dD ag)) aA) (ar (aH 4 (g2 eE (ae 2) (ae 3))) (ar (bL (dL (az (g2 mT (ae 1) (ae 4))) (az (g2 jo (ae 2) (aj 1 bx (aa (ae 0) ag))))) (ar (dC (bJ [5,6]) (aC rX (aa (ae 4) (aa (aj 1 eJ (aa (ae 0) ag)) ag)))) (aD (dD (aa (bb (aa (gC (.str "wait")) (aa (ae 5) (aa (ae 6) ag)))) ag)))) aA) (aD (gC .non)))))
noncomputable def fX:FD:=bi 3 iG
theorem su:Ok P w K mg base "lines_until" 3 4 fX:=bU (bT T.f 12 rfl) ["frame","due","tick","pace","rest","row","spot"] aW rfl fun f _ A _ s H E nd hr=>by have:=jy T;have:=fu T;delta iG;walk_at "R"
noncomputable def eM:GS:=(ar (aH 8 (aj 4 fX (aa (ae 0) (aa (ae 4) (aa (ae 6) (aa (ae 2) ag)))))) (ar (bL (cx (az (g2 (kW false) (ae 8) (gC .non))) (az (g2 mj (g2 a9 (g2 a9 (aC aV (aa (ae 3) ag)) (aC aV (aa (ae 8) ag))) (gC (.int 1))) (gC (.int 100))))) (aD (bb (aa (gC (.str "late")) (aa (ae 5) ag)))) aA) (ar (sV 3 (g2 a9 (ae 8) (dD (aa (bb (aa (gC (.str "do")) (aa (ae 7) ag))) ag)))) (aH 4 (g2 a9 (ae 6) (ae 2))))))
noncomputable def iU:GS:=(ar (aH 3 (iC ag)) (ar (aH 4 (gC (.int 0))) (ar (js (lZ (aa (ae 1) ag)) (oS [(dM 5),(bJ [6,7])]) eM) (aD (bb (aa (gC (.str "score")) (aa (ae 3) ag)))))))
noncomputable def kl:FD:=fun ds M=>jV M.length (bi 6 iU ds M)
theorem vg:Ok P w K mg base "score_for" 4 3 kl:=nL (F:=bi 6 iU) <| bU (bT T.f 13 rfl) ["frame","timed","pace","score","due","place","tick","deed","lines"] aW rfl fun f _ A _ s H E nd hr=>by have:=su T;delta iU eM;walk_at "R"
noncomputable def gL:GS:=(ar (aH 5 (g2 aI (g2 aI (ae 0) (ae 4)) (gC (.int 0)))) (ar (bL (dL (az (g2 (aF true) (ae 5) (ae 3))) (az (g2 jo (g2 eE (ae 5) (ae 3)) (ae 1)))) (aD (dD (aa (gC (.str "late")) (aa (ae 4) ag)))) aA) (ar (aH 2 (g2 a9 (g2 a9 (ae 2) (gC (.int 1))) (aC wc (aa (g2 (aF true) (ae 5) (ae 3)) ag)))) (aH 3 (g2 a9 (ae 5) (ae 1))))))
noncomputable def lB:GS:=(ar (aH 2 (gC (.int 0))) (ar (aH 3 (gC (.int 0))) (ar (js (gK (aa (aC aV (aa (ae 0) ag)) ag)) (dM 4) gL) (aD (dD (aa (gC (.str "score")) (aa (ae 2) ag)))))))
noncomputable def lU:FD:=bi 4 lB
theorem xM:Ok P w K mg base "_law_due" 1 2 lU:=bU (bT T.f 14 rfl) ["timed","pace","lines","free","place","tick"] aW rfl fun f _ A _ s H E nd hr=>by delta lB gL;walk_at "R"
noncomputable def lx:GS:=(aD (cV (ej "int" (ae 0)) (cV (wf (az (ej "bool" (ae 0)))) (cV (g2 mT (ae 1) (ae 0)) (g2 mT (ae 0) (ae 2))))))
noncomputable def aY:FD:=bi 0 lx
theorem nC:Ok P w K mg base "_law_whole" 1 3 aY:=bU (bT T.f 15 rfl) ["thing","low","high"] aW rfl fun f _ A _ s H E nd hr=>by delta lx;walk_at "R"
noncomputable def gD:GE:=(aj 3 aY (aa (ae 0) (aa (mI (gC (.int 1000))) (aa (gC (.int 1000)) ag))))
noncomputable def f9:GE:=(aj 3 aY (aa (ae 0) (aa (mI (gC (.int 1000))) (aa (gC (.int 1000)) ag))))
noncomputable def mF:GS:=(ar (bL (cx (bI (cn (ej "tuple" (ae 1)))) (cx (az (g2 jo (aC aV (aa (ae 1) ag)) (gC (.int 3)))) (bI (cn (ej "str" (g2 aI (ae 1) (gC (.int 0)))))))) (aD (gC (.bl false))) aA) (ar (bL (az (g2 (aF false) (g2 aI (ae 1) (gC (.int 0))) (gC (.str "shift")))) (aD (cV (g2 (aF false) (aC aV (aa (ae 1) ag)) (gC (.int 3))) (aC iY (aa (br (bY (oA (ae 1) (dh (gC (.int 1))) bG)) cL gD aZ) ag)))) aA) (ar (bL (az (g2 (aF false) (g2 aI (ae 1) (gC (.int 0))) (gC (.str "pot")))) (aD (cV (g2 (aF false) (aC aV (aa (ae 1) ag)) (gC (.int 3))) (cV (aj 3 aY (aa (g2 aI (ae 1) (gC (.int 1))) (aa (gC (.int 0)) (aa (gC (.int 15)) ag)))) (aj 3 aY (aa (g2 aI (ae 1) (gC (.int 2))) (aa (gC (.int 0)) (aa (gC (.int 63)) ag))))))) aA) (ar (bL (bI (cn (aj 3 aY (aa (g2 aI (ae 1) (gC (.int 1))) (aa (gC (.int 0)) (aa (g2 eE (aC aV (aa (g2 aI (ae 0) (gC (.int 3))) ag)) (gC (.int 1))) ag)))))) (aD (gC (.bl false))) aA) (ar (bL (az (g2 (aF false) (g2 aI (ae 1) (gC (.int 0))) (gC (.str "move")))) (aD (cV (g2 (aF false) (aC aV (aa (ae 1) ag)) (gC (.int 4))) (aC iY (aa (br (bY (oA (ae 1) (dh (gC (.int 2))) bG)) cL f9 aZ) ag)))) aA) (ar (bL (cx (az (g2 (aF true) (aC aV (aa (ae 1) ag)) (gC (.int 3)))) (az (g2 (iD true) (g2 aI (ae 1) (gC (.int 0))) (dD (aa (gC (.str "shape")) (aa (gC (.str "rank")) (aa (gC (.str "turn")) ag))))))) (aD (gC (.bl false))) aA) (ar (bL (az (g2 (aF false) (g2 aI (ae 1) (gC (.int 0))) (gC (.str "shape")))) (aD (EN (g2 (kW false) (g2 aI (ae 1) (gC (.int 2))) (gC .non)) (aj 3 aY (aa (g2 aI (ae 1) (gC (.int 2))) (aa (gC (.int 0)) (aa (g2 eE (aC aV (aa (g2 aI (ae 0) (gC (.int 2))) ag)) (gC (.int 1))) ag)))))) aA) (aD (aj 3 aY (aa (g2 aI (ae 1) (gC (.int 2))) (aa (gC (.int 0)) (aa (gC (.int 3)) ag))))))))))))
noncomputable def bB:FD:=bi 0 mF
theorem qM:Ok P w K mg base "_law_is_deed" 2 2 bB:=bU (bT T.f 16 rfl) ["stand","thing"] aW rfl fun f _ A _ s H E nd hr=>by have:=nC T;delta mF gD f9;walk_at "R"
noncomputable def dS:GS:=(ar (bL (cx (bI (cn (ej "tuple" (ae 2)))) (cx (az (g2 (iD true) (aC aV (aa (ae 2) ag)) (dD (aa (gC (.int 2)) (aa (gC (.int 3)) ag))))) (bI (cn (ej "str" (g2 aI (ae 2) (gC (.int 0)))))))) (aD (gC (.bl false))) aA) (bL (az (g2 (aF false) (aC aV (aa (ae 2) ag)) (gC (.int 3)))) (bL (cx (az (g2 (iD true) (g2 aI (ae 2) (gC (.int 0))) (dD (aa (gC (.str "wait")) (aa (gC (.str "skip")) ag))))) (cx (bI (cn (aj 3 aY (aa (g2 aI (ae 2) (gC (.int 1))) (aa (gC (.int 0)) (aa (gC (.int 60)) ag)))))) (bI (cn (aj 3 aY (aa (g2 aI (ae 2) (gC (.int 2))) (aa (gC (.int 0)) (aa (gC (.int 60)) ag)))))))) (aD (gC (.bl false))) aA) (bL (az (g2 (aF false) (g2 aI (ae 2) (gC (.int 0))) (gC (.str "do")))) (bL (bI (cn (aj 2 bB (aa (ae 0) (aa (g2 aI (ae 2) (gC (.int 1))) ag))))) (aD (gC (.bl false))) aA) (bL (cx (az (g2 (aF true) (g2 aI (ae 2) (gC (.int 0))) (gC (.str "to")))) (bI (cn (aj 3 aY (aa (g2 aI (ae 2) (gC (.int 1))) (aa (gC (.int 0)) (aa (g2 eE (aC aV (aa (ae 1) ag)) (gC (.int 1))) ag))))))) (aD (gC (.bl false))) aA))))
noncomputable def gw:GS:=(ar (bL (cx (bI (cn (ej "list" (ae 1)))) (az (g2 mj (aC aV (aa (ae 1) ag)) (gC (.int 100))))) (aD (gC (.bl false))) aA) (ar (js (bY (ae 1)) (dM 2) dS) (aD (gC (.bl true)))))
noncomputable def gj:FD:=bi 1 gw
theorem pI:Ok P w K mg base "_law_is_score" 3 2 gj:=bU (bT T.f 17 rfl) ["stand","thing","line"] aW rfl fun f _ A _ s H E nd hr=>by have:=nC T;have:=qM T;delta gw dS;walk_at "R"
noncomputable def hV:GS:=(ar (aH 7 (g2 aI (ae 1) (ae 5))) (ar (bL (dL (az (g2 (aF false) (g2 aI (ae 7) (gC (.int 0))) (gC (.str "wait")))) (az (g2 mj (g2 a9 (g2 cz (g2 aI (ae 7) (gC (.int 1))) (ae 3)) (g2 aI (ae 7) (gC (.int 2)))) (ae 6)))) (aH 6 (g2 a9 (g2 cz (g2 aI (ae 7) (gC (.int 1))) (ae 3)) (g2 aI (ae 7) (gC (.int 2))))) aA) (ar (bL (az (g2 mj (ae 6) (g2 eE (g2 cz (ae 3) (g2 aI (ae 0) (gC (.int 1)))) (gC (.int 1))))) (aD (ae 4)) aA) (ar (aH 8 (g2 a9 (ae 5) (gC (.int 1)))) (ar (bL (az (g2 (aF false) (g2 aI (ae 7) (gC (.int 0))) (gC (.str "do")))) (cK (jW (ae 4) (bb (aa (ae 6) (aa (g2 aI (ae 7) (gC (.int 1))) ag))))) aA) (ar (bL (az (g2 (aF false) (g2 aI (ae 7) (gC (.int 0))) (gC (.str "to")))) (aH 8 (g2 aI (ae 7) (gC (.int 1)))) aA) (ar (bL (dL (az (g2 (aF false) (g2 aI (ae 7) (gC (.int 0))) (gC (.str "skip")))) (az (g2 mT (g2 a9 (g2 cz (g2 aI (ae 7) (gC (.int 1))) (ae 3)) (g2 aI (ae 7) (gC (.int 2)))) (ae 6)))) (aH 8 (g2 a9 (ae 5) (gC (.int 2)))) aA) (ar (aH 5 (ae 8)) (aH 6 (g2 a9 (ae 6) (ae 2)))))))))))
noncomputable def fz:GT:=(az (g2 jo (ae 5) (aC aV (aa (ae 1) ag))))
noncomputable def iS:GS:=(ar (aH 3 (g2 a9 (g2 aI (ae 0) (gC (.int 0))) (g2 aI (ae 0) (gC (.int 2))))) (ar (aH 4 (iC ag)) (ar (aH 5 (gC (.int 0))) (ar (aH 6 (gC (.int 0))) (ar (mH 5000 fz hV) (aD (ae 4)))))))
noncomputable def kr:FD:=fun ds M=>jV M.length (bi 6 iS ds M)
theorem vp:Ok P w K mg base "_law_hand" 1 3 kr:=nL (F:=bi 6 iS) <| bU (bT T.f 18 rfl) ["frame","score","pace","row","found","here","tick","line","later"] aW rfl fun f _ A _ s H E nd hr=>by delta iS hV fz;walk_at "R"
noncomputable def ou:GS:=(aD (cV (ej "int" (ae 0)) (wf (az (ej "bool" (ae 0))))))
noncomputable def lO:FD:=bi 0 ou
theorem xO:Ok P w K mg base "is_whole" 1 1 lO:=bU (bT T.f 19 rfl) ["thing"] aW rfl fun f _ A _ s H E nd hr=>by delta ou;walk_at "R"
noncomputable def mq:GS:=(aD (cV (aj 1 lO (aa (ae 0) ag)) (qH mT mT (ae 1) (ae 0) (ae 2))))
noncomputable def bv:FD:=bi 0 mq
theorem cO:Ok P w K mg base "is_within" 2 3 bv:=bU (bT T.f 20 rfl) ["thing","low","high"] aW rfl fun f _ A _ s H E nd hr=>by have:=xO T;delta mq;walk_at "R"
noncomputable def lI:GS:=(ar (bL (cx (bI (cn (ej "tuple" (ae 0)))) (az (g2 (aF true) (aC aV (aa (ae 0) ag)) (gC (.int 4))))) (aD (gC (.bl false))) aA) (ar (dC (bJ [1,2,3,4]) (ae 0)) (aD (cV (aj 3 bv (aa (ae 1) (aa (gC (.int 1)) (aa (gC (.int 40)) ag)))) (cV (aj 3 bv (aa (ae 2) (aa (gC (.int 1)) (aa (gC (.int 40)) ag)))) (cV (aj 3 bv (aa (ae 3) (aa (gC (.int 0)) (aa (gC (.int 20)) ag)))) (aj 3 bv (aa (ae 4) (aa (gC (.int 0)) (aa (gC (.int 12)) ag))))))))))
noncomputable def nM:FD:=bi 4 lI
theorem xK:Ok P w K mg base "is_frame" 3 1 nM:=bU (bT T.f 21 rfl) ["thing","wide","high","gap","most"] aW rfl fun f _ A _ s H E nd hr=>by have:=cO T;delta lI;walk_at "R"
noncomputable def sd:GS:=(aD (aj 3 bv (aa (ae 0) (aa (gC (.int 0)) (aa (gC (.int 15)) ag)))))
noncomputable def kL:FD:=bi 0 sd
theorem uT:Ok P w K mg base "is_ink" 3 1 kL:=bU (bT T.f 22 rfl) ["thing"] aW rfl fun f _ A _ s H E nd hr=>by have:=cO T;delta sd;walk_at "R"
noncomputable def iP:GE:=(aj 1 kL (aa (ae 0) ag))
noncomputable def jf:GS:=(aD (cV (ej "tuple" (ae 0)) (aC iY (aa (br (bY (ae 0)) cL iP aZ) ag))))
noncomputable def lK:FD:=bi 0 jf
theorem ua:Ok P w K mg base "is_ink_row" 4 1 lK:=bU (bT T.f 23 rfl) ["thing"] aW rfl fun f _ A _ s H E nd hr=>by have:=uT T;delta jf iP;walk_at "R"
noncomputable def gq:GE:=(aj 1 lK (aa (ae 0) ag))
noncomputable def eT:GE:=(g2 (aF false) (aC aV (aa (ae 0) ag)) (ae 3))
noncomputable def hZ:GS:=(ar (bL (cx (bI (cn (ej "tuple" (ae 0)))) (bI (az (qH mT mT (gC (.int 1)) (aC aV (aa (ae 0) ag)) (ae 1))))) (aD (gC (.bl false))) aA) (ar (bL (bI (cn (aC iY (aa (br (bY (ae 0)) cL gq aZ) ag)))) (aD (gC (.bl false))) aA) (ar (aH 2 (aC aV (aa (g2 aI (ae 0) (gC (.int 0))) ag))) (aD (cV (qH mT mT (gC (.int 1)) (ae 2) (ae 1)) (aC iY (aa (br (bY (ae 0)) cL eT aZ) ag)))))))
noncomputable def gY:FD:=bi 1 hZ
theorem lY:Ok P w K mg base "is_ink_block" 5 2 gY:=bU (bT T.f 24 rfl) ["thing","most","length"] aW rfl fun f _ A _ s H E nd hr=>by have:=ua T;delta hZ gq eT;walk_at "R"
noncomputable def lH:GS:=(aD (aj 2 gY (aa (ae 0) (aa (gC (.int 8)) ag))))
noncomputable def nN:FD:=bi 0 lH
theorem xh:Ok P w K mg base "is_shape" 6 1 nN:=bU (bT T.f 25 rfl) ["thing"] aW rfl fun f _ A _ s H E nd hr=>by have:=lY T;delta lH;walk_at "R"
noncomputable def lV:GE:=(aj 1 nN (aa (ae 0) ag))
noncomputable def nk:GS:=(aD (cV (ej "tuple" (ae 0)) (cV (g2 mT (aC aV (aa (ae 0) ag)) (gC (.int 8))) (aC iY (aa (br (bY (ae 0)) cL lV aZ) ag)))))
noncomputable def qu:FD:=bi 0 nk
theorem zg:Ok P w K mg base "is_book" 7 1 qu:=bU (bT T.f 26 rfl) ["thing"] aW rfl fun f _ A _ s H E nd hr=>by have:=xh T;delta nk lV;walk_at "R"
noncomputable def g6:GS:=(aD (EN (g2 (kW false) (ae 1) (gC .non)) (aj 3 bv (aa (ae 1) (aa (gC (.int 0)) (aa (g2 eE (aC aV (aa (ae 0) ag)) (gC (.int 1))) ag))))))
noncomputable def cF:FD:=bi 0 g6
theorem jR:Ok P w K mg base "is_shape_number" 3 2 cF:=bU (bT T.f 27 rfl) ["book","thing"] aW rfl fun f _ A _ s H E nd hr=>by have:=cO T;delta g6;walk_at "R"
noncomputable def fK:GE:=(aj 3 bv (aa (ae 0) (aa (mI (gC (.int 1000))) (aa (gC (.int 1000)) ag))))
noncomputable def eR:GS:=(aD (cV (ej "tuple" (ae 0)) (cV (g2 (aF false) (aC aV (aa (ae 0) ag)) (gC (.int 2))) (aC iY (aa (br (bY (ae 0)) cL fK aZ) ag)))))
noncomputable def bt:FD:=bi 0 eR
theorem fB:Ok P w K mg base "is_place_pair" 3 1 bt:=bU (bT T.f 28 rfl) ["thing"] aW rfl fun f _ A _ s H E nd hr=>by have:=cO T;delta eR fK;walk_at "R"
noncomputable def qi:GS:=(aD (aj 3 bv (aa (ae 0) (aa (gC (.int 0)) (aa (gC (.int 3)) ag)))))
noncomputable def jE:FD:=bi 0 qi
theorem rM:Ok P w K mg base "is_rank" 3 1 jE:=bU (bT T.f 29 rfl) ["thing"] aW rfl fun f _ A _ s H E nd hr=>by have:=cO T;delta qi;walk_at "R"
noncomputable def pv:GS:=(aD (aj 3 bv (aa (ae 0) (aa (gC (.int 0)) (aa (gC (.int 3)) ag)))))
noncomputable def jC:FD:=bi 0 pv
theorem rA:Ok P w K mg base "is_turn" 3 1 jC:=bU (bT T.f 30 rfl) ["thing"] aW rfl fun f _ A _ s H E nd hr=>by have:=cO T;delta pv;walk_at "R"
noncomputable def lQ:GS:=(ar (bL (cx (bI (cn (ej "tuple" (ae 1)))) (az (g2 (aF true) (aC aV (aa (ae 1) ag)) (gC (.int 5))))) (aD (gC (.bl false))) aA) (ar (dC (bJ [2,3,4,5,6]) (ae 1)) (aD (cV (aj 2 cF (aa (ae 0) (aa (ae 2) ag))) (cV (aj 1 bt (aa (bb (aa (ae 3) (aa (ae 4) ag))) ag)) (cV (aj 1 jE (aa (ae 5) ag)) (aj 1 jC (aa (ae 6) ag))))))))
noncomputable def nO:FD:=bi 5 lQ
theorem xW:Ok P w K mg base "is_mover" 4 2 nO:=bU (bT T.f 31 rfl) ["book","thing","shape","x","y","rank","turn"] aW rfl fun f _ A _ s H E nd hr=>by have:=jR T;have:=fB T;have:=rM T;have:=rA T;delta lQ;walk_at "R"
noncomputable def iJ:GE:=(aj 2 nO (aa (ae 1) (aa (ae 0) ag)))
noncomputable def jw:GS:=(aD (cV (ej "tuple" (ae 1)) (cV (g2 mT (aC aV (aa (ae 1) ag)) (gC (.int 12))) (aC iY (aa (br (bY (ae 1)) cL iJ aZ) ag)))))
noncomputable def lC:FD:=bi 0 jw
theorem tP:Ok P w K mg base "are_movers" 5 2 lC:=bU (bT T.f 32 rfl) ["book","thing"] aW rfl fun f _ A _ s H E nd hr=>by have:=xW T;delta jw iJ;walk_at "R"
noncomputable def rR:GS:=(aD (aj 3 bv (aa (ae 0) (aa (gC (.int 0)) (aa (gC (.int 63)) ag)))))
noncomputable def kT:FD:=bi 0 rR
theorem uH:Ok P w K mg base "is_hue" 3 1 kT:=bU (bT T.f 33 rfl) ["thing"] aW rfl fun f _ A _ s H E nd hr=>by have:=cO T;delta rR;walk_at "R"
noncomputable def kA:GE:=(aj 1 kT (aa (ae 0) ag))
noncomputable def k8:GS:=(aD (cV (ej "tuple" (ae 0)) (cV (g2 (aF false) (aC aV (aa (ae 0) ag)) (gC (.int 16))) (aC iY (aa (br (bY (ae 0)) cL kA aZ) ag)))))
noncomputable def oj:FD:=bi 0 k8
theorem xZ:Ok P w K mg base "are_pots" 4 1 oj:=bU (bT T.f 34 rfl) ["thing"] aW rfl fun f _ A _ s H E nd hr=>by have:=uH T;delta k8 kA;walk_at "R"
noncomputable def lE:GS:=(ar (bL (cx (bI (cn (ej "tuple" (ae 0)))) (az (g2 (aF true) (aC aV (aa (ae 0) ag)) (gC (.int 5))))) (aD (gC (.bl false))) aA) (ar (dC (bJ [1,2,3,4,5]) (ae 0)) (ar (bL (bI (dL (cn (aj 2 gY (aa (ae 1) (aa (gC (.int 16)) ag)))) (dL (cn (aj 1 bt (aa (ae 2) ag))) (cn (aj 1 oj (aa (ae 5) ag)))))) (aD (gC (.bl false))) aA) (aD (cV (aj 1 qu (aa (ae 3) ag)) (aj 2 lC (aa (ae 3) (aa (ae 4) ag))))))))
noncomputable def nX:FD:=bi 5 lE
theorem xA:Ok P w K mg base "is_stand" 8 1 nX:=bU (bT T.f 35 rfl) ["thing","floor","shift","book","movers","pots"] aW rfl fun f _ A _ s H E nd hr=>by have:=lY T;have:=zg T;have:=fB T;have:=tP T;have:=xZ T;delta lE;walk_at "R"
noncomputable def iQ:GS:=(ar (bL (bI (cn (aj 1 nM (aa (ae 0) ag)))) (fQ "NoFrame" (gC (.str "that is no frame"))) aA) (bL (bI (cn (aj 1 nX (aa (ae 1) ag)))) (fQ "NoStand" (gC (.str "that is no stand"))) aA))
noncomputable def bV:FD:=bi 0 iQ
theorem jL:Ok P w K mg base "check_begin" 9 2 bV:=bU (bT T.f 36 rfl) ["frame","stand"] aW rfl fun f _ A _ s H E nd hr=>by have:=xK T;have:=xA T;delta iQ;walk_at "R"
noncomputable def kI:GE:=(ae 0)
noncomputable def kG:GE:=(qH mT jo (gC (.int 0)) (ae 0) (aj 1 bx (aa (ae 1) ag)))
noncomputable def jx:GS:=(ar (aH 2 (cP (bY (ae 1)) 2 (bJ [0,1]) cL kI aZ)) (aD (cV (g2 (aF false) (ae 2) (aC uC (aa (ae 2) ag))) (aC iY (aa (br (bY (ae 2)) cL kG aZ) ag)))))
noncomputable def jh:FD:=bi 1 jx
theorem uj:Ok P w K mg base "ticks_hold" 3 2 jh:=bU (bT T.f 37 rfl) ["frame","timed","ticks"] aW rfl fun f _ A _ s H E nd hr=>by have:=fu T;have:=rn 261 12 ["tick","deed"] ["frame","timed","ticks"];delta jx kI kG;walk_at "R"
noncomputable def fY:GS:=(ar (dC (bJ [3,4,5,6,7]) (ae 0)) (ar (bL (bI (cn (aj 3 bv (aa (g2 aI (ae 2) (gC (.int 0))) (aa (gC (.int 0)) (aa (g2 eE (aC aV (aa (ae 6) ag)) (gC (.int 1))) ag)))))) (aD (gC (.bl false))) aA) (ar (bL (az (g2 (aF false) (ae 1) (gC (.str "move")))) (aD (aj 1 bt (aa (oA (ae 2) (dh (gC (.int 1))) bG) ag))) aA) (ar (bL (az (g2 (aF true) (aC aV (aa (ae 2) ag)) (gC (.int 2)))) (aD (gC (.bl false))) aA) (ar (bL (az (g2 (aF false) (ae 1) (gC (.str "shape")))) (aD (aj 2 cF (aa (ae 5) (aa (g2 aI (ae 2) (gC (.int 1))) ag)))) aA) (ar (bL (az (g2 (aF false) (ae 1) (gC (.str "rank")))) (aD (aj 1 jE (aa (g2 aI (ae 2) (gC (.int 1))) ag))) aA) (aD (cV (g2 (aF false) (ae 1) (gC (.str "turn"))) (aj 1 jC (aa (g2 aI (ae 2) (gC (.int 1))) ag))))))))))
noncomputable def f7:FD:=bi 5 fY
theorem pV:Ok P w K mg base "is_mover_deed" 4 3 f7:=bU (bT T.f 38 rfl) ["stand","word","parts","floor","shift","book","movers","pots"] aW rfl fun f _ A _ s H E nd hr=>by have:=cO T;have:=jR T;have:=fB T;have:=rM T;have:=rA T;delta fY;walk_at "R"
noncomputable def uo:GS:=(ar (bL (cx (bI (cn (ej "tuple" (ae 1)))) (az (g2 jo (aC aV (aa (ae 1) ag)) (gC (.int 3))))) (aD (gC (.bl false))) aA) (ar (qX 2 3 (aa (g2 aI (ae 1) (gC (.int 0))) (aa (oA (ae 1) (dh (gC (.int 1))) bG) ag))) (ar (bL (az (g2 (aF false) (ae 2) (gC (.str "shift")))) (aD (aj 1 bt (aa (ae 3) ag))) aA) (ar (bL (az (g2 (aF false) (ae 2) (gC (.str "pot")))) (aD (cV (g2 (aF false) (aC aV (aa (ae 3) ag)) (gC (.int 2))) (cV (aj 1 kL (aa (g2 aI (ae 3) (gC (.int 0))) ag)) (aj 1 kT (aa (g2 aI (ae 3) (gC (.int 1))) ag))))) aA) (aD (aj 3 f7 (aa (ae 0) (aa (ae 2) (aa (ae 3) ag)))))))))
noncomputable def cu:FD:=bi 2 uo
theorem oh:Ok P w K mg base "is_deed" 5 2 cu:=bU (bT T.f 39 rfl) ["stand","thing","word","parts"] aW rfl fun f _ A _ s H E nd hr=>by have:=uT T;have:=fB T;have:=uH T;have:=pV T;delta uo;walk_at "R"
noncomputable def fV:GE:=(aj 2 cu (aa (ae 3) (aa (ae 1) ag)))
noncomputable def jz:GS:=(ar (cK (aj 2 bV (aa (ae 0) (aa (ae 1) ag)))) (ar (bL (bI (cn (aj 2 jh (aa (ae 0) (aa (ae 2) ag))))) (fQ "NoTick" (gC (.str "a tick isn't one of the frame, or is less than the one ahead"))) aA) (bL (bI (cn (aC iY (aa (cP (bY (ae 2)) 2 (bJ [0,1]) cL fV aZ) ag)))) (fQ "NoDeed" (gC (.str "there is no such deed of the stand"))) aA)))
noncomputable def k9:FD:=bi 0 jz
theorem tB:Ok P w K mg base "check_plan" 10 3 k9:=bU (bT T.f 40 rfl) ["frame","stand","timed"] aW rfl fun f _ A _ s H E nd hr=>by have:=jL T;have:=uj T;have:=oh T;have:=rn 267 15 ["tick","deed"] ["frame","stand","timed"];delta jz fV;walk_at "R"
noncomputable def gf:GS:=(ar (cK (aj 2 bV (aa (ae 1) (aa (ae 2) ag)))) (ar (gQ "Beam" "frame" (ae 0) (ae 1)) (ar (gQ "Beam" "standing" (ae 0) (ae 2)) (ar (gQ "Beam" "ahead" (ae 0) (gC (.int 0))) (ar (gQ "Beam" "row_taken" (ae 0) (bb (aa (bb ag) (aa (bb ag) ag)))) (ar (gQ "Beam" "laid_rows" (ae 0) (iC ag)) (ar (gQ "Beam" "first_touches" (ae 0) xm) (ar (gQ "Beam" "first_grounds" (ae 0) xG) (gQ "Beam" "lost_pairs" (ae 0) (iC ag))))))))))
noncomputable def gE:FD:=bi 0 gf
theorem pJ:Om P w K mg base "Beam" "__init__" 10 3 gE:=sD (rJ T.m 0 rfl) ["self","frame","stand"] aW rfl fun f _ A _ s H E nd hr=>by have:=jL T;delta gf;walk_at "R"
noncomputable def nW:GS:=(ar (bL (cx (az (g2 jo (ae 1) (gC (.int 0)))) (az (g2 rY (ae 1) (aj 1 bx (aa (ae 0) ag))))) (fQ "NoTick" (nA [(gC (.str "the frame has no tick ")),(zn (ae 1))] Str.empty)) aA) (ar (dC (bJ [2,3,4,5]) (ae 0)) (ar (dC (bJ [6,7]) (aC rX (aa (ae 1) (aa (aj 1 eJ (aa (ae 0) ag)) ag)))) (ar (bL (az (g2 rY (ae 7) (ae 2))) (aD (bb (aa (ae 6) (aa (gC .non) ag)))) aA) (aD (bb (aa (ae 6) (aa (ae 7) ag))))))))
noncomputable def iA:FD:=bi 6 nW
theorem xX:Ok P w K mg base "place_of" 3 2 iA:=bU (bT T.f 41 rfl) ["frame","tick","wide","high","gap","most","row","spot"] aW rfl fun f _ A _ s H E nd hr=>by have:=jy T;have:=fu T;delta nW;walk_at "R"
noncomputable def nP:GS:=(ar (bL (cx (az (g2 jo (ae 2) (gC (.int 0)))) (az (g2 rY (ae 2) (aC aV (aa (ae 0) ag))))) (aD (bb ag)) aA) (ar (aH 3 (yw (az (g2 (iD false) (ae 1) (bb (aa (gC (.int 2)) (aa (gC (.int 3)) ag))))) (g2 aI (ae 0) (g2 eE (g2 eE (aC aV (aa (ae 0) ag)) (gC (.int 1))) (ae 2))) (g2 aI (ae 0) (ae 2)))) (aD (yw (az (g2 (iD false) (ae 1) (bb (aa (gC (.int 1)) (aa (gC (.int 3)) ag))))) (zZ (ae 3)) (ae 3)))))
noncomputable def lX:FD:=bi 1 nP
theorem yu:Ok P w K mg base "strip_of" 1 3 lX:=bU (bT T.f 42 rfl) ["shape","turn","row","strip"] aW rfl fun f _ A _ s H E nd hr=>by delta nP;walk_at "R"
noncomputable def kH:GS:=(ar (dC (bJ [3,4,5,6,7]) (ae 0)) (ar (dC (bJ [8,9,10,11,12]) (g2 aI (ae 6) (ae 1))) (aD (bb (aa (ae 1) (aa (ae 9) (aa (ae 11) (aa (aj 3 lX (aa (g2 aI (ae 5) (ae 8)) (aa (ae 12) (aa (g2 eE (ae 2) (ae 10)) ag)))) ag))))))))
noncomputable def iI:FD:=bi 10 kH
theorem se:Ok P w K mg base "strip_taken" 2 3 iI:=bU (bT T.f 43 rfl) ["stand","number","row","floor","shift","book","movers","pots","shape","x","y","rank","turn"] aW rfl fun f _ A _ s H E nd hr=>by have:=yu T;delta kH;walk_at "R"
noncomputable def iL:GE:=(g2 aI (ae 14) (g2 iV (g2 a9 (ae 0) (ae 9)) (aC aV (aa (ae 14) ag))))
noncomputable def lu:GS:=(ar (dC (bJ [3,4,5,6]) (ae 0)) (ar (dC (oS [(dM 7),(bJ [8,9]),(dM 10),(dM 11),(dM 12)]) (ae 1)) (ar (aH 13 (g2 aI (ae 7) (g2 iV (g2 a9 (ae 2) (ae 9)) (aC aV (aa (ae 7) ag))))) (aD (aC fN (aa (br (gK (aa (ae 3) ag)) cL iL aZ) ag))))))
noncomputable def jj:FD:=bi 11 lu
theorem tY:Ok P w K mg base "floor_inks" 1 3 jj:=bU (bT T.f 44 rfl) ["frame","stand","row","wide","high","gap","most","floor","across","down","book","movers","pots","inks"] aW rfl fun f _ A _ s H E nd hr=>by delta lu iL;walk_at "R"
noncomputable def gM:GS:=(bL (dL (az (g2 (kW true) (ae 9) (gC .non))) (az (qH mT jo (ae 11) (ae 1) (g2 a9 (ae 11) (aC aV (aa (g2 aI (ae 4) (ae 9)) ag)))))) (cK (jW (ae 7) (ae 8))) aA)
noncomputable def jF:GS:=(ar (dC (bJ [2,3,4,5,6]) (ae 0)) (ar (aH 7 (iC ag)) (ar (js (lZ (aa (ae 5) ag)) (oS [(dM 8),(bJ [9,10,11,12,13])]) gM) (aD (ae 7)))))
noncomputable def lG:FD:=fun ds M=>jV M.length (bi 12 jF ds M)
theorem qA:Ok P w K mg base "lying_on" 1 2 lG:=nL (F:=bi 12 jF) <| bU (bT T.f 45 rfl) ["stand","row","floor","shift","book","movers","pots","told","number","shape","x","y","rank","turn"] aW rfl fun f _ A _ s H E nd hr=>by delta jF gM;walk_at "R"
noncomputable def pU:GS:=(ar (dC (bJ [3,4,5,6]) (ae 0)) (aD (oA (aj 2 lG (aa (ae 1) (aa (ae 2) ag))) bG (dh (ae 6)))))
noncomputable def ni:FD:=bi 4 pU
theorem yE:Ok P w K mg base "kept_on" 2 3 ni:=bU (bT T.f 46 rfl) ["frame","stand","row","wide","high","gap","most"] aW rfl fun f _ A _ s H E nd hr=>by have:=qA T;delta pU;walk_at "R"
noncomputable def o6:GE:=(aj 3 iI (aa (ae 2) (aa (ae 0) (aa (ae 3) ag))))
noncomputable def vC:GS:=(ar (aH 3 (br (bY (aj 3 ni (aa (ae 0) (aa (ae 1) (aa (ae 2) ag))))) cL o6 aZ)) (aD (bb (aa (aj 3 jj (aa (ae 0) (aa (ae 1) (aa (ae 2) ag)))) (aa (aC fN (aa (ae 3) ag)) ag)))))
noncomputable def oZ:FD:=bi 1 vC
theorem Dm:Ok P w K mg base "taken" 3 3 oZ:=bU (bT T.f 47 rfl) ["frame","stand","row","strips"] aW rfl fun f _ A _ s H E nd hr=>by have:=se T;have:=tY T;have:=yE T;delta vC o6;walk_at "R"
noncomputable def pL:GS:=(ar (dC (bJ [3,4,5,6]) (ae 0)) (aD (oA (aj 2 lG (aa (ae 1) (aa (ae 2) ag))) (dh (ae 6)) bG)))
noncomputable def iw:FD:=bi 4 pL
theorem zk:Ok P w K mg base "lost_on" 2 3 iw:=bU (bT T.f 48 rfl) ["frame","stand","row","wide","high","gap","most"] aW rfl fun f _ A _ s H E nd hr=>by have:=qA T;delta pL;walk_at "R"
noncomputable def fH:GE:=(bb (aa (ae 2) (aa (ae 0) ag)))
noncomputable def gu:GS:=(ar (gQ "Beam" "row_taken" (ae 0) (aj 3 oZ (aa (dX "Beam" "frame" (ae 0)) (aa (dX "Beam" "standing" (ae 0)) (aa (ae 1) ag))))) (ar (cK (jW (dX "Beam" "laid_rows" (ae 0)) (iC ag))) (Fy "Beam" "lost_pairs" (ae 0) (br (bY (aj 3 iw (aa (dX "Beam" "frame" (ae 0)) (aa (dX "Beam" "standing" (ae 0)) (aa (ae 1) ag))))) cL fH aZ))))
noncomputable def eU:FD:=bi 0 gu
theorem pK:Om P w K mg base "Beam" "take_row" 4 2 eU:=sD (rJ T.m 1 rfl) ["self","row"] aW rfl fun f _ A _ s H E nd hr=>by have:=Dm T;have:=zk T;delta gu fH;walk_at "R"
noncomputable def fI:GS:=(bL (dL (az (qH mT jo (ae 6) (ae 1) (g2 a9 (ae 6) (aC aV (aa (ae 8) ag))))) (az (g2 (aF true) (g2 aI (ae 8) (g2 eE (ae 1) (ae 6))) (gC (.int 0))))) (cK (jW (ae 4) (bb (aa (ae 7) (aa (ae 5) (aa (g2 aI (ae 8) (g2 eE (ae 1) (ae 6))) ag)))))) aA)
noncomputable def iT:GS:=(ar (dC (bJ [2,3]) (ae 0)) (ar (aH 4 (iC ag)) (ar (js (bY (ae 3)) (bJ [5,6,7,8]) fI) (aD (ae 4)))))
noncomputable def kB:FD:=fun ds M=>jV M.length (bi 7 iT ds M)
theorem vD:Ok P w K mg base "covers_at" 1 2 kB:=nL (F:=bi 7 iT) <| bU (bT T.f 49 rfl) ["row_taken","x","inks","strips","told","number","left","rank","strip"] aW rfl fun f _ A _ s H E nd hr=>by delta iT fI;walk_at "R"
noncomputable def dE:GS:=(cK (lD (dX "Beam" "first_touches" (ae 0)) (bb (aa (ae 5) (aa (ae 6) ag))) (bb (aa (ae 2) (aa (ae 3) ag)))))
noncomputable def dB:GS:=(js (bY (oA (ae 1) (dh (g2 a9 (ae 4) (gC (.int 1)))) bG)) (dM 6) dE)
noncomputable def dQ:GS:=(js (lZ (aa (ae 1) ag)) (bJ [4,5]) dB)
noncomputable def fR:FD:=bi 3 dQ
theorem mO:Om P w K mg base "Beam" "keep_touches" 1 4 fR:=sD (rJ T.m 2 rfl) ["self","numbers","row","spot","at","one","other"] aW rfl fun f _ A _ s H E nd hr=>by delta dQ dE dB;walk_at "R"
noncomputable def fj:GS:=(cK (lD (dX "Beam" "first_grounds" (ae 0)) (ae 4) (bb (aa (ae 2) (aa (ae 3) ag)))))
noncomputable def dP:GS:=(js (bY (ae 1)) (dM 4) fj)
noncomputable def fO:FD:=bi 1 dP
theorem mY:Om P w K mg base "Beam" "keep_grounds" 1 4 fO:=sD (rJ T.m 3 rfl) ["self","numbers","row","spot","number"] aW rfl fun f _ A _ s H E nd hr=>by delta dP fj;walk_at "R"
noncomputable def du:GE:=(bb (aa (mI (g2 aI (ae 0) (gC (.int 0)))) (aa (g2 aI (ae 0) (gC (.int 1))) ag)))
noncomputable def gH:GS:=(ar (bL (cn (ae 1)) (ar (dC (bJ [2,3,4]) (qz (yJ 0 du) (ae 1))) (bL (cx (az (g2 rY (ae 2) (gC (.int 1)))) (az (g2 (aF false) (ae 0) (gC (.int 0))))) (aD (ae 4)) aA)) aA) (aD (ae 0)))
noncomputable def cE:FD:=bi 3 gH
theorem vY:Ok P w K mg base "ink_shown" 3 2 cE:=PB (OA T.l 0 rfl) ["floor_ink","covers","rank","number","ink"] aW rfl fun f _ _ A _ s H E nd tb hr=>by delta gH du;walk_at "R"
noncomputable def fG:GE:=(ae 1)
noncomputable def fZ:GS:=(ar (dC (bJ [3,4]) (dX "Beam" "row_taken" (ae 0))) (ar (aH 5 (aj 2 kB (aa (dX "Beam" "row_taken" (ae 0)) (aa (ae 2) ag)))) (ar (dC (bJ [6,7,8,9,10]) (dX "Beam" "standing" (ae 0))) (ar (cK (jW (g2 aI (dX "Beam" "laid_rows" (ae 0)) (mI (gC (.int 1)))) (g2 aI (ae 10) (aj 2 cE (aa (g2 aI (ae 3) (ae 2)) (aa (ae 5) ag)))))) (ar (aH 11 (cP (bY (ae 5)) 3 (bJ [0,1,2]) cL fG aZ)) (ar (cK (gT "Beam" "keep_touches" 4 fR (ae 0) (aa (ae 11) (aa (ae 1) (aa (ae 2) ag))))) (bL (az (g2 (aF true) (g2 aI (ae 3) (ae 2)) (gC (.int 0)))) (cK (gT "Beam" "keep_grounds" 4 fO (ae 0) (aa (ae 11) (aa (ae 1) (aa (ae 2) ag))))) aA)))))))
noncomputable def eP:FD:=bi 9 fZ
theorem pH:Om P w K mg base "Beam" "lay_spot" 4 3 eP:=sD (rJ T.m 4 rfl) ["self","row","spot","inks","strips","covers","floor","shift","book","movers","pots","numbers"] aW rfl fun f _ A _ s H E nd hr=>by have:=vD T;have:=mO T;have:=mY T;have:=vY T;have:=rn 234 18 ["rank","number","ink"] ["self","row","spot","inks","strips","covers","floor","shift","book","movers","pots","numbers"];delta fZ fG;walk_at "R"
noncomputable def dR:GS:=(ar (dC (bJ [1,2]) (aj 2 iA (aa (dX "Beam" "frame" (ae 0)) (aa (dX "Beam" "ahead" (ae 0)) ag)))) (ar (bL (az (g2 (aF false) (ae 2) (gC (.int 0)))) (cK (gT "Beam" "take_row" 2 eU (ae 0) (aa (ae 1) ag))) aA) (ar (bL (az (g2 (kW true) (ae 2) (gC .non))) (cK (gT "Beam" "lay_spot" 3 eP (ae 0) (aa (ae 1) (aa (ae 2) ag)))) aA) (Fy "Beam" "ahead" (ae 0) (gC (.int 1))))))
noncomputable def ft:FD:=bi 2 dR
theorem qU:Om P w K mg base "Beam" "go_tick" 5 1 ft:=sD (rJ T.m 5 rfl) ["self","row","spot"] aW rfl fun f _ A _ s H E nd hr=>by have:=xX T;have:=pK T;have:=pH T;delta dR;walk_at "R"
noncomputable def jK:GS:=(cK (gT "Beam" "go_tick" 1 ft (ae 0) ag))
noncomputable def iz:GT:=(az (g2 jo (dX "Beam" "ahead" (ae 0)) (ae 2)))
noncomputable def m8:GS:=(ar (aH 2 (g2 a9 (dX "Beam" "ahead" (ae 0)) (ae 1))) (ar (bL (az (g2 mj (ae 2) (aj 1 bx (aa (dX "Beam" "frame" (ae 0)) ag)))) (fQ "Over" (gC (.str "fewer ticks are left than that"))) aA) (mH 5000 iz jK)))
noncomputable def m5:FD:=bi 1 m8
theorem yW:Om P w K mg base "Beam" "go" 6 2 m5:=sD (rJ T.m 6 rfl) ["self","many","end"] aW rfl fun f _ A _ s H E nd hr=>by have:=fu T;have:=qU T;delta m8 jK iz;walk_at "R"
noncomputable def gW:GS:=(aD (g2 (aF false) (dX "Beam" "ahead" (ae 0)) (aj 1 bx (aa (dX "Beam" "frame" (ae 0)) ag))))
noncomputable def jG:FD:=bi 0 gW
theorem qK:Om P w K mg base "Beam" "is_over" 3 1 jG:=sD (rJ T.m 7 rfl) ["self"] aW rfl fun f _ A _ s H E nd hr=>by have:=fu T;delta gW;walk_at "R"
noncomputable def mR:GS:=(ar (dC (bJ [3,4,5,6,7]) (ae 0)) (ar (bL (az (g2 (aF false) (ae 1) (gC (.str "move")))) (aD (bb (aa (ae 3) (aa (g2 aI (ae 2) (gC (.int 0))) (aa (g2 aI (ae 2) (gC (.int 1))) (aa (ae 6) (aa (ae 7) ag))))))) aA) (ar (bL (az (g2 (aF false) (ae 1) (gC (.str "shape")))) (aD (bb (aa (g2 aI (ae 2) (gC (.int 0))) (aa (ae 4) (aa (ae 5) (aa (ae 6) (aa (ae 7) ag))))))) aA) (ar (bL (az (g2 (aF false) (ae 1) (gC (.str "rank")))) (aD (bb (aa (ae 3) (aa (ae 4) (aa (ae 5) (aa (g2 aI (ae 2) (gC (.int 0))) (aa (ae 7) ag))))))) aA) (aD (bb (aa (ae 3) (aa (ae 4) (aa (ae 5) (aa (ae 6) (aa (g2 aI (ae 2) (gC (.int 0))) ag)))))))))))
noncomputable def b9:FD:=bi 5 mR
theorem qL:Ok P w K mg base "mover_behind" 1 3 b9:=bU (bT T.f 50 rfl) ["mover","word","parts","shape","x","y","rank","turn"] aW rfl fun f _ A _ s H E nd hr=>by delta mR;walk_at "R"
noncomputable def mP:GS:=(aD (g2 a9 (g2 a9 (oA (ae 0) bG (dh (ae 1))) (bb (aa (ae 2) ag))) (oA (ae 0) (dh (g2 a9 (ae 1) (gC (.int 1)))) bG)))
noncomputable def fc:FD:=bi 0 mP
theorem vG:Ok P w K mg base "with_part" 1 3 fc:=bU (bT T.f 51 rfl) ["things","at","part"] aW rfl fun f _ A _ s H E nd hr=>by delta mP;walk_at "R"
noncomputable def g9:GS:=(ar (bL (bI (cn (aj 2 cu (aa (ae 0) (aa (ae 1) ag))))) (fQ "NoDeed" (gC (.str "that is no deed of the stand"))) aA) (ar (dC (bJ [2,3,4,5,6]) (ae 0)) (ar (aH 7 (g2 aI (ae 1) (gC (.int 0)))) (ar (bL (az (g2 (aF false) (ae 7) (gC (.str "shift")))) (aD (bb (aa (ae 2) (aa (oA (ae 1) (dh (gC (.int 1))) bG) (aa (ae 4) (aa (ae 5) (aa (ae 6) ag))))))) aA) (ar (bL (az (g2 (aF false) (ae 7) (gC (.str "pot")))) (aD (bb (aa (ae 2) (aa (ae 3) (aa (ae 4) (aa (ae 5) (aa (aj 3 fc (aa (ae 6) (aa (g2 aI (ae 1) (gC (.int 1))) (aa (g2 aI (ae 1) (gC (.int 2))) ag)))) ag))))))) aA) (ar (aH 8 (g2 aI (ae 1) (gC (.int 1)))) (ar (aH 9 (aj 3 b9 (aa (g2 aI (ae 5) (ae 8)) (aa (ae 7) (aa (oA (ae 1) (dh (gC (.int 2))) bG) ag))))) (aD (bb (aa (ae 2) (aa (ae 3) (aa (ae 4) (aa (aj 3 fc (aa (ae 5) (aa (ae 8) (aa (ae 9) ag)))) (aa (ae 6) ag))))))))))))))
noncomputable def d7:FD:=bi 8 g9
theorem qR:Ok P w K mg base "stand_behind" 6 2 d7:=bU (bT T.f 52 rfl) ["stand","deed","floor","shift","book","movers","pots","word","number","mover"] aW rfl fun f _ A _ s H E nd hr=>by have:=oh T;have:=qL T;have:=vG T;delta g9;walk_at "R"
noncomputable def kx:GS:=(ar (bL (cn (gT "Beam" "is_over" 1 jG (ae 0) ag)) (fQ "Over" (gC (.str "no tick is left to do a deed ahead of"))) aA) (gQ "Beam" "standing" (ae 0) (aj 2 d7 (aa (dX "Beam" "standing" (ae 0)) (aa (ae 1) ag)))))
noncomputable def mS:FD:=bi 0 kx
theorem wg:Om P w K mg base "Beam" "deed" 7 2 mS:=sD (rJ T.m 8 rfl) ["self","deed"] aW rfl fun f _ A _ s H E nd hr=>by have:=qK T;have:=qR T;delta kx;walk_at "R"
noncomputable def kq:GS:=(aD (dX "Beam" "ahead" (ae 0)))
noncomputable def gP:FD:=bi 0 kq
theorem vh:Om P w K mg base "Beam" "tick" 1 1 gP:=sD (rJ T.m 9 rfl) ["self"] aW rfl fun f _ A _ s H E nd hr=>by delta kq;walk_at "R"
noncomputable def m6:GS:=(ar (cK (gT "Beam" "go" 2 m5 (ae 3) (aa (g2 eE (ae 4) (gT "Beam" "tick" 1 gP (ae 3) ag)) ag))) (cK (gT "Beam" "deed" 2 mS (ae 3) (aa (ae 5) ag))))
noncomputable def wx:GS:=(ar (cK (aj 3 k9 (aa (ae 0) (aa (ae 1) (aa (ae 2) ag))))) (ar (aH 3 (l8 "Beam" 3 gE (aa (ae 0) (aa (ae 1) ag)))) (ar (js (bY (ae 2)) (bJ [4,5]) m6) (ar (cK (gT "Beam" "go" 2 m5 (ae 3) (aa (g2 eE (aj 1 bx (aa (ae 0) ag)) (gT "Beam" "tick" 1 gP (ae 3) ag)) ag))) (aD (ae 3))))))
noncomputable def qh:FD:=bi 3 wx
theorem AN:Ok P w K mg base "laid" 12 3 qh:=bU (bT T.f 53 rfl) ["frame","stand","timed","beam","tick","deed"] aW rfl fun f _ A _ s H E nd hr=>by have:=fu T;have:=tB T;have:=pJ T;have:=yW T;have:=wg T;have:=vh T;delta wx m6;walk_at "R"
noncomputable def iu:GE:=(aj 3 bv (aa (ae 0) (aa (gC (.int 0)) (aa (gC (.int 60)) ag))))
noncomputable def nh:GS:=(ar (bL (cx (bI (cn (ej "tuple" (ae 2)))) (az (g2 jo (aC aV (aa (ae 2) ag)) (gC (.int 2))))) (aD (gC (.bl false))) aA) (ar (qX 3 4 (aa (g2 aI (ae 2) (gC (.int 0))) (aa (oA (ae 2) (dh (gC (.int 1))) bG) ag))) (ar (bL (cx (az (g2 (aF false) (ae 3) (gC (.str "wait")))) (az (g2 (aF false) (ae 3) (gC (.str "skip"))))) (aD (cV (g2 (aF false) (aC aV (aa (ae 4) ag)) (gC (.int 2))) (aC iY (aa (br (bY (ae 4)) cL iu aZ) ag)))) aA) (ar (bL (az (g2 (aF true) (aC aV (aa (ae 4) ag)) (gC (.int 1)))) (aD (gC (.bl false))) aA) (ar (bL (az (g2 (aF false) (ae 3) (gC (.str "do")))) (aD (aj 2 cu (aa (ae 0) (aa (g2 aI (ae 4) (gC (.int 0))) ag)))) aA) (aD (cV (g2 (aF false) (ae 3) (gC (.str "to"))) (aj 3 bv (aa (g2 aI (ae 4) (gC (.int 0))) (aa (gC (.int 0)) (aa (g2 eE (ae 1) (gC (.int 1))) ag)))))))))))
noncomputable def pY:FD:=bi 2 nh
theorem Aa:Ok P w K mg base "is_line" 6 3 pY:=bU (bT T.f 54 rfl) ["stand","many","thing","word","parts"] aW rfl fun f _ A _ s H E nd hr=>by have:=cO T;have:=oh T;delta nh iu;walk_at "R"
noncomputable def jZ:GE:=(aj 3 pY (aa (ae 1) (aa (aC aV (aa (ae 2) ag)) (aa (ae 0) ag))))
noncomputable def lS:GS:=(ar (bL (cx (bI (cn (ej "list" (ae 1)))) (az (g2 mj (aC aV (aa (ae 1) ag)) (gC (.int 100))))) (aD (gC (.bl false))) aA) (aD (aC iY (aa (br (bY (ae 1)) cL jZ aZ) ag))))
noncomputable def oi:FD:=bi 0 lS
theorem xV:Ok P w K mg base "is_score" 7 2 oi:=bU (bT T.f 55 rfl) ["stand","thing"] aW rfl fun f _ A _ s H E nd hr=>by have:=Aa T;delta lS jZ;walk_at "R"
noncomputable def jq:GS:=(ar (dC (bJ [2,3,4]) (ae 1)) (aD (g2 a9 (g2 cz (ae 3) (aj 1 eJ (aa (ae 0) ag))) (ae 4))))
noncomputable def cN:FD:=bi 3 jq
theorem nI:Ok P w K mg base "tick_named" 2 2 cN:=bU (bT T.f 56 rfl) ["frame","line","word","row","spot"] aW rfl fun f _ A _ s H E nd hr=>by have:=jy T;delta jq;walk_at "R"
noncomputable def hU:GS:=(ar (bL (az (g2 (aF false) (g2 aI (ae 1) (gC (.int 0))) (gC (.str "wait")))) (aD (aC xu (aa (ae 2) (aa (aj 2 cN (aa (ae 0) (aa (ae 1) ag))) ag)))) aA) (aD (ae 2)))
noncomputable def fo:FD:=bi 0 hU
theorem qS:Ok P w K mg base "tick_of_line" 3 3 fo:=bU (bT T.f 57 rfl) ["frame","line","tick"] aW rfl fun f _ A _ s H E nd hr=>by have:=nI T;delta hU;walk_at "R"
noncomputable def ia:GS:=(ar (bL (az (g2 (aF false) (g2 aI (ae 1) (gC (.int 0))) (gC (.str "to")))) (aD (g2 aI (ae 1) (gC (.int 1)))) aA) (ar (bL (dL (az (g2 (aF false) (g2 aI (ae 1) (gC (.int 0))) (gC (.str "skip")))) (az (g2 rY (ae 3) (aj 2 cN (aa (ae 0) (aa (ae 1) ag)))))) (aD (g2 a9 (ae 2) (gC (.int 2)))) aA) (aD (g2 a9 (ae 2) (gC (.int 1))))))
noncomputable def gX:FD:=bi 0 ia
theorem qV:Ok P w K mg base "place_behind" 3 4 gX:=bU (bT T.f 58 rfl) ["frame","line","place","tick"] aW rfl fun f _ A _ s H E nd hr=>by have:=nI T;delta ia;walk_at "R"
noncomputable def iR:GS:=(ar (aH 7 (g2 aI (ae 2) (ae 5))) (ar (aH 6 (aj 3 fo (aa (ae 0) (aa (ae 7) (aa (ae 6) ag))))) (ar (bL (az (g2 rY (ae 6) (aj 1 bx (aa (ae 0) ag)))) (aD (ae 4)) aA) (ar (bL (az (g2 (aF false) (g2 aI (ae 7) (gC (.int 0))) (gC (.str "do")))) (cK (jW (ae 4) (bb (aa (ae 6) (aa (g2 aI (ae 7) (gC (.int 1))) ag))))) aA) (ar (aH 5 (aj 4 gX (aa (ae 0) (aa (ae 7) (aa (ae 5) (aa (ae 6) ag)))))) (tQ 6 true (ae 3)))))))
noncomputable def gN:GT:=(az (g2 jo (ae 5) (aC aV (aa (ae 2) ag))))
noncomputable def jI:GS:=(ar (cK (aj 2 bV (aa (ae 0) (aa (ae 1) ag)))) (ar (bL (bI (cn (aj 2 oi (aa (ae 1) (aa (ae 2) ag))))) (fQ "NoScore" (gC (.str "that is no score of the stand"))) aA) (ar (aH 4 (iC ag)) (ar (aH 5 (gC (.int 0))) (ar (aH 6 (gC (.int 0))) (ar (mH 5000 gN iR) (aD (ae 4))))))))
noncomputable def nR:FD:=fun ds M=>jV M.length (bi 4 jI ds M)
theorem xT:Ok P w K mg base "deeds_by" 10 4 nR:=nL (F:=bi 4 jI) <| bU (bT T.f 59 rfl) ["frame","stand","score","pace","timed","place","tick","line"] aW rfl fun f _ A _ s H E nd hr=>by have:=fu T;have:=jL T;have:=xV T;have:=qS T;have:=qV T;delta jI iR gN;walk_at "R"
noncomputable def ph:GS:=(aD (aj 3 qh (aa (ae 0) (aa (ae 1) (aa (aj 4 nR (aa (ae 0) (aa (ae 1) (aa (ae 2) (aa (ae 3) ag))))) ag)))))
noncomputable def oH:FD:=bi 0 ph
theorem A2:Ok P w K mg base "played" 13 4 oH:=bU (bT T.f 60 rfl) ["frame","stand","score","pace"] aW rfl fun f _ A _ s H E nd hr=>by have:=AN T;have:=xT T;delta ph;walk_at "R"
noncomputable def cq:GE:=(aC gO (aa (ae 0) ag))
noncomputable def dY:GS:=(aD (br (bY (dX "Beam" "laid_rows" (ae 0))) cL cq aZ))
noncomputable def cU:FD:=bi 0 dY
theorem qN:Om P w K mg base "Beam" "picture" 1 1 cU:=sD (rJ T.m 10 rfl) ["self"] aW rfl fun f _ A _ s H E nd hr=>by delta dY cq;walk_at "R"
noncomputable def dm:GS:=(ar (aH 5 (aj 4 oH (aa (ae 0) (aa (ae 1) (aa (aC gO (aa (ae 2) ag)) (aa (ae 3) ag)))))) (ar (aH 6 (aj 3 qh (aa (ae 0) (aa (ae 1) (aa (aC gO (aa (ae 4) ag)) ag))))) (aD (g2 (aF false) (gT "Beam" "picture" 1 cU (ae 5) ag) (gT "Beam" "picture" 1 cU (ae 6) ag)))))
noncomputable def eY:FD:=fun ds M=>jV M.length (bi 2 dm ds M)
theorem nT:Ok P w K mg base "_law_lays_alike" 14 5 eY:=nL (F:=bi 2 dm) <| bU (bT T.f 61 rfl) ["frame","stand","score","pace","timed","one","other"] aW rfl fun f _ A _ s H E nd hr=>by have:=AN T;have:=A2 T;have:=qN T;delta dm;walk_at "R"
noncomputable def mD:GE:=(ae 0)
noncomputable def kF:GT:=(az (g2 (iD true) (g2 aI (ae 0) (gC (.int 0))) (dD (aa (gC (.str "wait")) (aa (gC (.str "do")) ag)))))
noncomputable def sU:GS:=(ar (aH 3 (aj 2 gU (aa (ae 1) (aa (g2 aI (dD (aa (gC (.int 6)) (aa (gC (.int 40)) ag))) (g2 e9 (aj 2 aw (aa (ae 1) (aa (gC (.int 4)) ag))) (gC (.int 3)))) ag)))) (ar (aH 4 (aj 3 jd (aa (ae 1) (aa (ae 3) (aa (gC (.int 3)) ag))))) (ar (aH 5 (g2 a9 (gC (.int 1)) (aj 2 aw (aa (ae 1) (aa (gC (.int 8)) ag))))) (ar (aH 6 (aj 4 ju (aa (ae 1) (aa (ae 3) (aa (ae 4) (aa (ae 5) ag)))))) (ar (aH 7 (aC gO (aa (ae 6) ag))) (ar (aH 8 (aj 3 kl (aa (ae 3) (aa (ae 7) (aa (ae 5) ag))))) (ar (aH 9 (aj 2 lU (aa (ae 6) (aa (ae 5) ag)))) (ar (bL (cx (bI (cn (ej "tuple" (ae 8)))) (cx (az (g2 (aF true) (aC aV (aa (ae 8) ag)) (gC (.int 2)))) (cx (az (g2 (aF true) (g2 aI (ae 8) (gC (.int 0))) (g2 aI (ae 9) (gC (.int 0))))) (az (g2 (aF true) (ae 7) (ae 6)))))) (aD (gC (.bl false))) aA) (bL (az (g2 (aF false) (g2 aI (ae 9) (gC (.int 0))) (gC (.str "late")))) (bL (cx (az (g2 (aF true) (g2 aI (ae 8) (gC (.int 1))) (g2 aI (ae 9) (gC (.int 1))))) (cn (ej "bool" (g2 aI (ae 8) (gC (.int 1)))))) (aD (gC (.bl false))) aA) (bL (cx (bI (cn (aj 2 gj (aa (ae 4) (aa (g2 aI (ae 8) (gC (.int 1))) ag))))) (az (g2 (aF true) (aC aV (aa (g2 aI (ae 8) (gC (.int 1))) ag)) (g2 aI (ae 9) (gC (.int 1)))))) (aD (gC (.bl false))) (bL (az (g2 (aF true) (br (bY (g2 aI (ae 8) (gC (.int 1)))) kF mD aZ) (dD ag))) (aD (gC (.bl false))) (bL (az (g2 (aF true) (aj 3 kr (aa (ae 3) (aa (g2 aI (ae 8) (gC (.int 1))) (aa (ae 5) ag)))) (ae 6))) (aD (gC (.bl false))) (bL (dL (az (g2 jo (g2 aI (ae 3) (gC (.int 0))) (gC (.int 9)))) (bI (cn (aj 5 eY (aa (ae 3) (aa (ae 4) (aa (g2 aI (ae 8) (gC (.int 1))) (aa (ae 5) (aa (ae 6) ag))))))))) (aD (gC (.bl false))) aA)))))))))))))
noncomputable def Al:GS:=(ar (aH 1 (iC (aa (aC gO (aa (ae 0) ag)) (aa (gC (.int 0)) (aa (gC (.int 0)) ag))))) (ar (js (gK (aa (gC (.int 4)) ag)) (dM 2) sU) (aD (gC (.bl true)))))
noncomputable def AT:FD:=bi 9 Al
theorem IW{f:Addr}{fd:FuncData} (F:Fn K mg "law" HF f fd ["script"]):eX P w K mg base (iZ P w) 15 f fd ["script"] (oy K 1 AT):=KP F.F (N:=["script","tape","turn","frame","stand","pace","timed","handed","found","due"]) aW rfl fun _ A _ s H E hr=>by
 have nd:(["script","tape","turn","frame","stand","pace","timed","handed","found","due"]:List Str).Nodup:=by decide +kernel
 have:=cA T;have:=ug T;have:=ui T;have:=tZ T;have:=vg T;have:=xM T;have:=pI T;have:=vp T;have:=nT T;delta Al mD kF sU;walk_at "R"
end
end K28
section
open PySem PySem.W PyProof.Rows
noncomputable abbrev K28.VV:Program:=(view PySem.Challenge.pw_glowrow_k28_scores_for_deeds [0,2,3,4,5,6,7,8,10,11,13,14,15,16,18,19,20,21,22,23,25,26,27,28,29,30,31,32,34,35,36,37,38,39,40,41,42,43,44,45,46,47,49,50,52,53,54,56,57,58,59,60,61,62,63,64,65,67,68,69,70,71,72,73,74,75,76,77,78,79,80,81,82,83])
set_option maxHeartbeats 0 in
theorem K28.h1:∀(w:World) (os:OsState),(Hd.RT (OpenLaw.row PySem.Challenge.rw_glowrow_k28_scores_for_deeds).prog w 8656 os).map (fun s=>Hd.pA (OpenLaw.row PySem.Challenge.rw_glowrow_k28_scores_for_deeds).prog w.params s.abs&&Hd.pB K28.VV (importedModules (OpenLaw.row PySem.Challenge.rw_glowrow_k28_scores_for_deeds).prog.main.body) (fun s=>xlAt K28.VV [] s&&recOk (RowW.records (OpenRow.toRowW (OpenLaw.row PySem.Challenge.rw_glowrow_k28_scores_for_deeds))) s) s.abs)=some true:=by
 intro w os;unfold Hd.RT;rw[W.Fast.te15732481512506401174,W.Fast.te2530740449226627131,W.Fast.te13930993214811372802];kernel_rfl
set_option maxHeartbeats 0 in
theorem K28.h2:∀(w:World) (os:OsState),(Hd.RT (OpenLaw.row PySem.Challenge.rw_glowrow_k28_scores_for_deeds).prog w 8656 os).map (fun s=>Hd.pC K28.VV s.abs)=some (expectedOf K28.VV,bltViewBooted,wideGood K28.VV):=by
 intro w os;unfold Hd.RT;rw[W.Fast.te15732481512506401174,W.Fast.te2530740449226627131,W.Fast.te7338995916957470747];kernel_rfl
set_option maxHeartbeats 0 in
theorem K28.h3:∀(w:World) (os:OsState),(Hd.RT (OpenLaw.row PySem.Challenge.rw_glowrow_k28_scores_for_deeds).prog w 8656 os).map (fun s=>Hd.pD K28.VV s.abs)=some (pinGoodD (drecsOf K28.VV),plainGoodE K28.VV (looseW K28.VV []),plainGoodD K28.VV [],clsGoodW K28.VV []):=by
 intro w os;unfold Hd.RT;rw[W.Fast.te15732481512506401174,W.Fast.te2530740449226627131,W.Fast.te4913325751328045840];kernel_rfl
local macro_rules | `(tactic| o_head $H) => `(tactic| (
 refine holds_open (q:=K28.VV) (loose:=[]) (Xt:=(fun s=>xlAt K28.VV [] s&&recOk (RowW.records (OpenRow.toRowW (OpenLaw.row PySem.Challenge.rw_glowrow_k28_scores_for_deeds))) s)) (XP:=XL K28.VV []) (Yf:=Hook.obs $H) (Ya:=Hook.val $H) (YP:=Hook.says $H) (N:=8656) ?hl (Hook.of $H) (Hook.keeps $H) (fun s e=>xl_of s (Bool.and_eq_true_iff.mp e).1) XL.keeps (by rfl) (by rfl) (by rfl) (fun s e=>recFacts_of (Bool.and_eq_true_iff.mp e).2) (by rfl) (by first|assumption|decide +kernel) (by decide +kernel) ⟨rfl,rfl,rfl,rfl,rfl,by decide +kernel⟩ ?hw ?hc;
 (case hl=>
  refine Hd.left_km (boot_open (by kernel_rfl) rfl (fun s=>by kernel_rfl)) (fun w=>by kernel_rfl) K28.h1 K28.h2 K28.h3 ?_;intro w os;unfold Hd.RT;rw[W.Fast.te15732481512506401174,W.Fast.te2530740449226627131];kernel_rfl)))
set_option hygiene false
local macro_rules | `(tactic| walk_at "us") => `(tactic| first | rfl | (exfalso; simp at hl; done) | (cases us with | nil => (first | rfl | cases hl) | cons _ us => walk_at "us"))
local macro_rules | `(tactic| walk_at "kc") => `(tactic| refine' DL.N4 KX G ?y0 ?y1 ?y2 ?y3 ?y4 ?y5 ?y6; (case y0 => k_is); (case y1 => k_is); (case y2 => k_is); (case y3 => k_is); (case y4 => k_is); (case y5 => k_is); (case y6 => k_is))
local macro_rules | `(tactic| walk_at "ec") => `(tactic| refine' DL.MA KX G ?w0 ?w1 ?w2 ?w3 ?w4 ?w5 ?w6 ?w7 ?w8 ?w9 ?w10 ?w11; (case w0 => k_is); (case w1 => k_is); (case w2 => k_is); (case w3 => k_is); (case w4 => k_is); (case w5 => k_is); (case w6 => k_is); (case w7 => k_is); (case w8 => k_is); (case w9 => k_exc); (case w10 => k_is); (case w11 => k_is))
local macro_rules | `(tactic| walk_at "ff") => `(tactic| (refine' DL.Nc KX G ?x0 ?x1 ?x2 ?x3 ?x4; (case x0 => k_is); (case x1 => k_is); (case x2 => k_is); (case x3 => k_is); (case x4 => (intro _ _ _ _ _ _ us hl; walk_at "us"))))
local macro_rules | `(tactic| walk_at "mf") => `(tactic| (refine' DL.Nr ?x0 ?x1 ?x2 ?x3 ?x4 ?x5 ?x6; (case x0 => walk_at "kc"); (case x1 => k_is); (case x2 => k_is); (case x3 => k_is); (case x4 => k_is); (case x5 => k_is); (case x6 => (intro _ _ _ _ _ _ us hl; walk_at "us"))))
local macro_rules | `(tactic| walk_at "im") => `(tactic| (refine' DL.im_mk ?v0 ?v1; (case v0 => walk_at "ec"); (case v1 => k_is)))
local macro_rules | `(tactic| walk_at "lf") => `(tactic| (refine' DL.LC KX G ?x0 ?x1 ?x2 ?x3 ?x4 ?x5 ?x6 ?x7 ?x8 ?x9 ?x10 ?x11 ?x12 ?x13 ?x14; (case x0 => k_is); (case x1 => k_is); (case x2 => k_is); (case x3 => k_is); (case x4 => k_is); (case x5 => rfl); (case x6 => rfl); (case x7 => rfl); (case x8 => rfl); (case x9 => rfl); (case x10 => rfl); (case x11 => decide); (case x12 => decide); (case x13 => (refine DL.yd (fun z => absurd rfl z) (fun _ => ?y_table_within) (fun _ => ?y_slots_given) (fun _ => ?y_cast_on_slots); (case y_table_within => k_is); (case y_slots_given => k_is); (case y_cast_on_slots => k_is))); (case x14 => (intro _ _ _ _ _ _ us hl; walk_at "us"))))
set_option maxRecDepth 100000 in
set_option maxHeartbeats 0 in
theorem K28.pre (ht:∀ns:List Int,ns.length≤63→∃M',K28.AT [.ro (ns.map DL.D.int)] []=.ok (.bl true) M'):PySem.Challenge.rw_glowrow_k28_scores_for_deeds.Holds:=by
 w_on;o_law;k_head;(case hw=>w_witness2)
 k_fill
 refine DL.Gu (l:=PySem.Challenge.rw_glowrow_k28_scores_for_deeds) (n:=63) (k:=15) (x:="script") (F:=K28.AT) rfl (by decide) rfl ⟨rfl,by decide,by decide⟩ (fun w h Y=>W.km_in_of Y) ?F ?T ht
 case F=>
  intro w mg fa h KX G hmg;refine DL.HW (st:=K28.HF) hmg ?L (fun base f fd L=>K28.IW ?TT L) (fun _ _ _ _ _ _ _=>rfl)
  (case TT=>
   refine DL.Tx.mk ?q0 ?q1 ?q2 ?q3 ?q4 ?q5 ?q6 ?q7 ?q8 ?q9
   (case q0=>((repeat (refine' DL.Ls.cons ?x ?_;(case x=>(walk_at "ff"))));exact DL.Ls.nil))
   (case q1=>((repeat (refine' DL.Ls.cons ?x ?_;(case x=>(walk_at "mf"))));exact DL.Ls.nil))
   (case q2=>((repeat (refine' DL.Ls.cons ?x ?_;(case x=>(walk_at "lf"))));exact DL.Ls.nil))
   (case q3=>((repeat (refine' DL.Ls.cons ?x ?_;(case x=>(refine' DL.Pm KX G ?x0;(case x0=>k_is)))));exact DL.Ls.nil))
   (case q4=>((repeat (refine' DL.Ls.cons ?x ?_;(case x=>(refine' DL.LZ ?x0;(case x0=>walk_at "ec")))));exact DL.Ls.nil))
   (case q5=>((repeat (refine' DL.Ls.cons ?x ?_;(case x=>(refine' DL.Nd ?u0 ?u1;(case u0=>walk_at "ec");(case u1=>((repeat (refine' DL.Ls.cons ?u2 ?_;(case u2=>walk_at "im")));exact DL.Ls.nil))))));exact DL.Ls.nil))
   (case q6=>((repeat (refine' DL.Ls.cons ?x ?_;(case x=>(walk_at "im"))));exact DL.Ls.nil))
   (case q7=>((repeat (refine' DL.Ls.cons ?x ?_;(case x=>(refine' DL.LI ?x0 ?x1;(case x0=>walk_at "kc");(case x1=>k_is)))));exact DL.Ls.nil))
   (case q8=>((repeat (refine' DL.Ls.cons ?x ?_;(case x=>(refine' DL.Ms (u:=PySem.Value.str _) KX G ?x0;(case x0=>k_is)))));exact DL.Ls.nil))
   (case q9=>((repeat (refine' DL.Ls.cons ?x ?_;(case x=>(refine' DL.Ms (u:=PySem.Value.int _) KX G ?x0;(case x0=>k_is)))));exact DL.Ls.nil)))
  (case L=>walk_at "ff")
 case T=>
  intro w;refine' DL.GD (DL.A5 (x:="ink_shown") ?yi (DL.Ig ?wC ?wL ?vL ?v9 ?vB) ?xS DL.CM) (DL.yd (.inr ⟨_,.head _,rfl⟩) (.inl ?e_table_within) (.inl ?e_slots_given) (.inl ?e_cast_on_slots)) ?bm ?bl
  (case yi=>rfl)
  (case wC=>k_is)
  (case wL=>k_is)
  (case vL=>rfl)
  (case v9=>k_is)
  (case vB=>rfl)
  (case xS=>kernel_rfl)
  (case e_table_within=>k_is)
  (case e_slots_given=>k_is)
  (case e_cast_on_slots=>k_is)
  (case bm=>k_is)
  (case bl=>kernel_rfl)
end
namespace K28
open PySem PySem.Spec PyProof.Rows L2 DL List
local macro_rules | `(tactic| simp_arith [$args,*] $[$loc]?) => `(tactic| first | (dsimp only [bj.bind, ar, aH, bL, aD, nr, cK, aA, dC, ae, gC, DL.g2, aj, aC, aa, ag, az, HH, cn, yN, cx, dL, bI, cV, EN, wf, yw, bb, dD, iC, sO, aZ, fq, mI, zZ, qH, ej, Lj, ya, aP, bi, kJ, wb, a9, eE, cz, e9, iV, tH, jo, mT, mj, rY, aI, bW, aV, zI, xu, wc, gO, fN, iY, bY, uM, gK, dM, bJ, l6, dh, bG, oA, sA, iD, e7, kW, Nj, cL, fQ, rX, zn, yF, nA, xD, jW, CA, EQ, sv, jU, dX, ww, gQ, gT, l8, fU, tQ, CV, oS, nE, lZ, DX, qX, qz, pR, yJ] $[$loc]?; simp [ar, aH, bL, aD, nr, cK, aA, dC, ae, gC, DL.g2, aj, aC, aa, ag, az, HH, cn, yN, cx, dL, bI, cV, EN, wf, yw, bb, dD, iC, sO, aZ, fq, mI, zZ, qH, ej, Lj, ya, aP, bi, kJ, wb, a9, eE, cz, e9, iV, tH, jo, mT, mj, rY, aI, bW, aV, zI, xu, wc, gO, fN, iY, bY, uM, gK, dM, bJ, l6, dh, bG, oA, sA, iD, e7, kW, Nj, cL, fQ, rX, zn, yF, nA, xD, jW, CA, EQ, sv, jU, dX, ww, gQ, gT, l8, fU, tQ, CV, oS, nE, lZ, DX, qX, qz, pR, yJ, $args,*] $[$loc]?) | simp [ar, aH, bL, aD, nr, cK, aA, dC, ae, gC, DL.g2, aj, aC, aa, ag, az, HH, cn, yN, cx, dL, bI, cV, EN, wf, yw, bb, dD, iC, sO, aZ, fq, mI, zZ, qH, ej, Lj, ya, aP, bi, kJ, wb, a9, eE, cz, e9, iV, tH, jo, mT, mj, rY, aI, bW, aV, zI, xu, wc, gO, fN, iY, bY, uM, gK, dM, bJ, l6, dh, bG, oA, sA, iD, e7, kW, Nj, cL, fQ, rX, zn, yF, nA, xD, jW, CA, EQ, sv, jU, dX, ww, gQ, gT, l8, fU, tQ, CV, oS, nE, lZ, DX, qX, qz, pR, yJ, $args,*] $[$loc]?)
noncomputable def tp (l:List Int)(i c:Int):MO:=.lst [.lst (l.map D.int),.int i,.int c]
noncomputable def dU (l:List Int)(rest:aB)(M:aB):Prop:=∃i c,0≤i∧M=tp l i c::rest
variable{l:List Int}
theorem DA {k:Int}(h0:0≤k)(h1:k<l.length):∃v,ny (l.map D.int) k=some (.int v):=by
 obtain⟨n,rfl⟩:=Int.eq_ofNat_of_zero_le h0;have hn:n<l.length:=by omega
 exact⟨l[n],jX (by simp[hn])⟩
noncomputable def PM:GS:=ar (aH 4 (g2 iV (g2 aI (ae 0) (gC (.int 2))) (ae 1))) (ar (nr (ae 0) (gC (.int 2)) (g2 e9 (g2 aI (ae 0) (gC (.int 2))) (ae 1))) (aD (ae 4)))
noncomputable def Ot:GS:=ar (aH 3 (g2 iV (g2 a9 (ae 3) (g2 cz (gC (.int 1000003)) (g2 aI (ae 0) (gC (.int 1))))) (ae 2))) (ar (aH 3 (g2 iV (g2 a9 (g2 a9 (g2 cz (ae 3) (ae 3)) (g2 cz (gC (.int 1181783497276652981)) (ae 3))) (gC (.int 2049848353892358983))) (ae 2))) (aH 3 (g2 iV (g2 a9 (g2 cz (ae 3) (ae 3)) (gC (.int 1442695040888963407))) (ae 2))))
noncomputable def PN:GS:=bL (az (g2 mj (aC aV (aa (g2 aI (ae 0) (gC (.int 0))) ag)) (gC (.int 0)))) (aH 3 (g2 aI (g2 aI (ae 0) (gC (.int 0))) (g2 iV (g2 aI (ae 0) (gC (.int 1))) (aC aV (aa (g2 aI (ae 0) (gC (.int 0))) ag))))) aA
noncomputable def Qv:GT:=cx (az (g2 rY (g2 aI (ae 0) (gC (.int 1))) (aC aV (aa (g2 aI (ae 0) (gC (.int 0))) ag)))) (az (g2 jo (ae 3) (g2 tH (gC (.int 10)) (gC (.int 18)))))
noncomputable def Pj:GS:=ar (aH 3 (gC (.int 0))) (ar PN (ar (bL Qv Ot aA) (ar (nr (ae 0) (gC (.int 1)) (g2 a9 (g2 aI (ae 0) (gC (.int 1))) (gC (.int 1)))) (nr (ae 0) (gC (.int 2)) (ae 3)))))
theorem MU (ρ:cC)(M:aB):kz ρ M=ar (aH 2 (gC (.int 2305843009213693951))) (ar (bL (az (g2 jo (g2 aI (ae 0) (gC (.int 2))) (ae 1))) Pj aA) PM) ρ M:=rfl
theorem v4 {i j:Int}(h:0<j)(M:aB):iV (.int i) (.int j) M=.ok (.int (i % j)) M:=by
 unfold iV;dsimp only;rw[if_pos h]
theorem qZ {i j:Int}(h:-18446744073709551616<i∧i<18446744073709551616)(M:aB):cz (.int i) (.int j) M=.ok (.int (i*j)) M:=by
 unfold cz;dsimp only;rw[if_pos (.inl ⟨Int.lt_of_le_of_lt (by decide) h.1,Int.lt_of_lt_of_le h.2 (by decide)⟩)]
variable{ρ:cC}{M M1:aB}
theorem wv {go gi g:GE}{x:D}(h:g ρ M=.ok x M)(h2:(go ρ M).bind (fun o M2=>(gi ρ M2).bind fun i M3=>(wb o i x M3).bind fun _ M4=>.ok (Fl.nx ρ) M4)=.ok (Fl.nx ρ) M1):nr go gi g ρ M=.ok (.nx ρ) M1:=by
 unfold nr;rw[h,aq,h2]
variable{rest:aB}
theorem bg {many:Int}(hm:0<many)(hlog:many.natAbs.log2<9000)(h:dU l rest M) :
  ∃f M',0≤f∧f<many∧dU l rest M'∧aw [.mr 0,.int many] M=.ok (.int f) M':=by
 obtain⟨i,c,hi,rfl⟩:=h;have i0:∀(i c:Int) (x1 x2 x3 x4:Option D),g2 aI (ae 0) (gC (.int 0)) [some (.mr 0),x1,x2,x3,x4] (tp l i c::rest)=.ok (.lst (l.map D.int)) (tp l i c::rest):=fun _ _ _ _ _ _=>rfl
 have i1:∀(i c:Int) (x1 x2 x3 x4:Option D),g2 aI (ae 0) (gC (.int 1)) [some (.mr 0),x1,x2,x3,x4] (tp l i c::rest)=.ok (.int i) (tp l i c::rest):=fun _ _ _ _ _ _=>rfl
 have i2:∀(i c:Int) (x1 x2 x3 x4:Option D),g2 aI (ae 0) (gC (.int 2)) [some (.mr 0),x1,x2,x3,x4] (tp l i c::rest)=.ok (.int c) (tp l i c::rest):=fun _ _ _ _ _ _=>rfl
 have ln:∀(i c:Int) (x1 x2 x3 x4:Option D),aC aV (aa (g2 aI (ae 0) (gC (.int 0))) ag) [some (.mr 0),x1,x2,x3,x4] (tp l i c::rest)=.ok (.int (l.length:Int)) (tp l i c::rest):=fun i c x1 x2 x3 x4=>by
  refine gF (i0 i c x1 x2 x3 x4) ?_;show bj.ok (D.int ((l.map D.int).length:Int)) _=_;rw[length_map]
 have tail:∀(c i:Int) (x2 x3 x4:Option D),0≤i→∃f M',0≤f∧f<many∧dU l rest M'∧aP (PM [some (.mr 0),some (.int many),x2,x3,x4] (tp l i c::rest))=.ok (.int f) M':=fun c i x2 x3 x4 hi=>by
  refine⟨c % many,tp l i (c / many)::rest,Int.emod_nonneg _ (by omega),Int.emod_lt_of_pos _ hm,⟨i,c / many,hi,rfl⟩,?_⟩;unfold PM;rw[ao (aT (av (i2 i c (some (.int many)) x2 x3 x4) (b:=ae 1) (y:=.int many) rfl (v4 hm _)))];have fd:e9 (.int c) (.int many) (tp l i c::rest)=.ok (.int (c / many)) (tp l i c::rest):=by
   unfold e9;dsimp only;rw[if_pos ⟨hm,hlog⟩]
  have k:nr (ae 0) (gC (.int 2)) (g2 e9 (g2 aI (ae 0) (gC (.int 2))) (ae 1)) [some (.mr 0),some (.int many),x2,x3,some (.int (c % many))] (tp l i c::rest)=.ok (.nx [some (.mr 0),some (.int many),x2,x3,some (.int (c % many))]) (tp l i (c / many)::rest):=
   wv (av (i2 i c (some (.int many)) x2 x3 _) (b:=ae 1) (y:=.int many) rfl fd) rfl
  exact(congrArg aP (ao k)).trans rfl
 show∃f M',_∧_∧_∧aP (kz [some (.mr 0),some (.int many),none,none,none] (tp l i c::rest))=_;rw[MU];have e0:∀b:GS,ar (aH 2 (gC (.int 2305843009213693951))) b [some (.mr 0),some (.int many),none,none,none] (tp l i c::rest)=b [some (.mr 0),some (.int many),some (.int 2305843009213693951),none,none] (tp l i c::rest):=fun b=>ao rfl
 rw[e0];have tst:az (g2 jo (g2 aI (ae 0) (gC (.int 2))) (ae 1)) [some (.mr 0),some (.int many),some (.int 2305843009213693951),none,none] (tp l i c::rest)=.ok (decide (c<many)) (tp l i c::rest):=aE (av (i2 i c _ _ _ _) (b:=ae 1) (y:=.int many) rfl rfl)
 by_cases h1:c<many
 ·rw[decide_eq_true h1] at tst;obtain⟨v,ev⟩:∃v:Int,PN [some (.mr 0),some (.int many),some (.int 2305843009213693951),some (.int 0),none] (tp l i c::rest)=.ok (.nx [some (.mr 0),some (.int many),some (.int 2305843009213693951),some (.int v),none]) (tp l i c::rest):=by
   unfold PN;have t0:az (g2 mj (aC aV (aa (g2 aI (ae 0) (gC (.int 0))) ag)) (gC (.int 0))) [some (.mr 0),some (.int many),some (.int 2305843009213693951),some (.int 0),none] (tp l i c::rest)=.ok (decide ((l.length:Int)>0)) (tp l i c::rest):=aE (av (ln i c _ _ _ _) (b:=gC (.int 0)) (y:=.int 0) rfl rfl)
   by_cases hl:(l.length:Int)>0
   ·rw[decide_eq_true hl] at t0;obtain⟨v,hv⟩:=DA (l:=l) (k:=i % l.length) (Int.emod_nonneg _ (by omega)) (Int.emod_lt_of_pos _ hl);refine⟨v,(bK t0).trans (aT (av (f:=aI) (i0 i c _ _ _ _) (av (i1 i c _ _ _ _) (ln i c _ _ _ _) (v4 hl _)) ?_))⟩;show(match ny (l.map D.int) (i % (l.length:Int)) with|some d=>bj.ok d (tp l i c::rest)|none=>.bad)=_;rw[hv]
   ·rw[decide_eq_false hl] at t0;exact⟨0,(aS t0).trans rfl⟩
  have bd:∀x:Int,-18446744073709551616<x % 2305843009213693951∧x % 2305843009213693951<18446744073709551616:=fun x=>by
   have h0:=Int.emod_nonneg x (show(2305843009213693951:Int)≠0 by decide);have h1:=Int.emod_lt_of_pos x (show(0:Int)<2305843009213693951 by decide);omega
  have md:∀x:Int,∀M,iV (.int x) (.int 2305843009213693951) M=.ok (.int (x % 2305843009213693951)) M:=fun x M=>v4 (by decide) M
  obtain⟨u,eu⟩:∃u:Int,bL Qv Ot aA [some (.mr 0),some (.int many),some (.int 2305843009213693951),some (.int v),none] (tp l i c::rest)=.ok (.nx [some (.mr 0),some (.int many),some (.int 2305843009213693951),some (.int u),none]) (tp l i c::rest):=by
   have po:∀ρ,g2 tH (gC (.int 10)) (gC (.int 18)) ρ (tp l i c::rest)=.ok (.int (10 ^ 18)) (tp l i c::rest):=fun ρ=>by
    refine av (x:=.int 10) (y:=.int 18) rfl rfl ?_;unfold tH;dsimp only;rw[if_pos (by decide)];rfl
   have to:=bE (aE (av (f:=rY) (i1 i c (some (.int many)) (some (.int 2305843009213693951)) (some (.int v)) none) (ln i c _ _ _ _) rfl)) fun _=>aE (av (f:=jo) (a:=ae 3) (x:=.int v) rfl (po _) rfl)
   generalize (decide (i≥(l.length:Int))||decide (v<10 ^ 18))=b at to;cases b with
   | false=>exact⟨v,(aS to).trans rfl⟩
   | true=>
    suffices hs:∃u:Int,Ot [some (.mr 0),some (.int many),some (.int 2305843009213693951),some (.int v),none] (tp l i c::rest)=.ok (.nx [some (.mr 0),some (.int many),some (.int 2305843009213693951),some (.int u),none]) (tp l i c::rest) from hs.elim fun u e=>⟨u,(bK to).trans e⟩
    unfold Ot;rw[ao (aT (av (av (f:=a9) (a:=ae 3) (x:=.int v) rfl (av (f:=cz) (a:=gC (.int 1000003)) (x:=.int 1000003) rfl (i1 i c _ _ _ _) (qZ (by decide) _)) rfl) (b:=ae 2) (y:=.int 2305843009213693951) rfl (md _ _)))];generalize hz:(v+1000003*i) % 2305843009213693951=z;have bz:=hz▸bd (v+1000003*i);have k2:aH 3 (g2 iV (g2 a9 (g2 a9 (g2 cz (ae 3) (ae 3)) (g2 cz (gC (.int 1181783497276652981)) (ae 3))) (gC (.int 2049848353892358983))) (ae 2)) [some (.mr 0),some (.int many),some (.int 2305843009213693951),some (.int z),none] (tp l i c::rest)=.ok (.nx [some (.mr 0),some (.int many),some (.int 2305843009213693951),some (.int ((z*z+1181783497276652981*z+2049848353892358983) % 2305843009213693951)),none]) (tp l i c::rest):=
     aT (av (av (f:=a9) (av (f:=a9) (av (f:=cz) (a:=ae 3) (x:=.int z) rfl (b:=ae 3) (y:=.int z) rfl (qZ bz _)) (av (f:=cz) (a:=gC (.int 1181783497276652981)) (x:=.int 1181783497276652981) rfl (b:=ae 3) (y:=.int z) rfl (qZ (by decide) _)) rfl) (b:=gC (.int 2049848353892358983)) (y:=.int 2049848353892358983) rfl rfl) (b:=ae 2) (y:=.int 2305843009213693951) rfl (md _ _))
    refine Exists.imp (fun u e=>(ao k2).trans e) ?_;generalize hy:(z*z+1181783497276652981*z+2049848353892358983) % 2305843009213693951=y;have byy:=hy▸bd (z*z+1181783497276652981*z+2049848353892358983);exact⟨_,aT (av (av (f:=a9) (av (f:=cz) (a:=ae 3) (x:=.int y) rfl (b:=ae 3) (y:=.int y) rfl (qZ byy _)) (b:=gC (.int 1442695040888963407)) (y:=.int 1442695040888963407) rfl rfl) (b:=ae 2) (y:=.int 2305843009213693951) rfl (md _ _))⟩
  have kb:Pj [some (.mr 0),some (.int many),some (.int 2305843009213693951),none,none] (tp l i c::rest)=.ok (.nx [some (.mr 0),some (.int many),some (.int 2305843009213693951),some (.int u),none]) (tp l (i+1) u::rest):=by
   unfold Pj;have e3:∀b:GS,ar (aH 3 (gC (.int 0))) b [some (.mr 0),some (.int many),some (.int 2305843009213693951),none,none] (tp l i c::rest)=b [some (.mr 0),some (.int many),some (.int 2305843009213693951),some (.int 0),none] (tp l i c::rest):=fun b=>ao rfl
   rw[e3,ao ev,ao eu];have k1:nr (ae 0) (gC (.int 1)) (g2 a9 (g2 aI (ae 0) (gC (.int 1))) (gC (.int 1))) [some (.mr 0),some (.int many),some (.int 2305843009213693951),some (.int u),none] (tp l i c::rest)=.ok (.nx [some (.mr 0),some (.int many),some (.int 2305843009213693951),some (.int u),none]) (tp l (i+1) c::rest):=
    wv (av (i1 i c _ _ _ _) (b:=gC (.int 1)) (y:=.int 1) rfl rfl) rfl
   rw[ao k1];exact wv (x:=.int u) rfl rfl
  rw[ao ((bK tst).trans kb)];exact tail u (i+1) _ _ _ (by omega)
 ·rw[decide_eq_false h1] at tst;rw[ao ((aS tst).trans rfl)];exact tail c i _ _ _ hi
variable{x:Int}
theorem aN (h0:0<x)(h1:x≤1000000):x.natAbs.log2<9000:=by
 have h2:x.natAbs<2 ^ 20:=by omega
 have h3:x.natAbs≠0:=by omega
 have:=(Nat.log2_lt h3).mpr h2;omega
variable{most:Int}
theorem re (hm:1≤most)(hm2:most≤1000)(h:dU l rest M) :
  ∃f M',1≤f∧f≤most∧dU l rest M'∧fe [.mr 0,.int most] M=.ok (.int f) M':=by
 have lg:∀x:Int,0<x→x≤1000→x.natAbs.log2<9000:=fun x h0 h1=>by
  have h2:x.natAbs<2 ^ 10:=by omega
  have h3:x.natAbs≠0:=by omega
  have:=(Nat.log2_lt h3).mpr h2;omega
 have hmin:0<(if 6<most then 6 else most)∧(if 6<most then 6 else most)≤most∧(if 6<most then(6:Int) else most)≤1000:=by split <;> omega
 obtain⟨f1,M1,a1,b1,t1,e1⟩:=bg hmin.1 (lg _ hmin.1 hmin.2.2) h;obtain⟨f2,M2,a2,b2,t2,e2⟩:=bg (many:=most) (by omega) (lg _ (by omega) hm2) t1;obtain⟨f3,M3,a3,b3,t3,e3⟩:=bg (many:=8) (by decide) (lg _ (by decide) (by decide)) t2;have l3:(3:Nat)≤sizeLine:=ba (by decide);have hix:0≤f3*3 / 10∧f3*3 / 10<3:=by omega
 have c3:Nat.log2 10<9000:=by decide
 have c4:-18446744073709551616<f3∧f3<18446744073709551616:=by omega
 have pick:∃f,1≤f∧f≤most∧∃y,f=1+y∧ny [D.int f1,D.int f2,D.int (most-1)] (f3*3 / 10)=some (.int y):=by
  have:f3*3 / 10=0∨f3*3 / 10=1∨f3*3 / 10=2:=by omega
  rcases this with q|q|q <;> rw[q]
  ·exact⟨1+f1,by omega,by omega,f1,rfl,rfl⟩
  ·exact⟨1+f2,by omega,by omega,f2,rfl,rfl⟩
  ·exact⟨1+(most-1),by omega,by omega,most-1,rfl,rfl⟩
 obtain⟨f,hf1,hf2,y,ey,ha⟩:=pick;refine⟨f,M3,hf1,hf2,t3,?_⟩;unfold fe mw;simp_arith [e1,e2,e3,l3,c3,c4,ha,ey]
theorem Hi {wide thin:Int}(hw:0≤wide)(hw2:wide≤1000)(ht:1≤thin)(ht2:thin≤1000)(h:dU l rest M) :
  ∃(ks:List Int) (M':aB),(ks.length:Int)=wide∧(∀k∈ks,0≤k∧k≤15)∧dU l rest M'∧kj [.mr 0,.int wide,.int thin] M=.ok (.tup (ks.map D.int)) M':=by
 obtain⟨es,M',t',le,qe,ee⟩:=kP (ds0:=bq 0 wide.toNat) (ge:=hX) (ρ:=[some (.mr 0),some (.int wide),some (.int thin)])
  (P:=dU l rest) (Q:=fun e=>∃k,e=.int k∧0≤k∧k≤15) (bq 0 wide.toNat) (fun d hd M hM=>by
   obtain⟨f1,M1,a1,b1,t1,e1⟩:=bg (many:=16) (by decide) (aN (by decide) (by decide)) hM;obtain⟨f2,M2,a2,b2,t2,e2⟩:=bg (many:=thin) (by omega) (aN (by omega) (by omega)) t1;have c4:-18446744073709551616<f1∧f1<18446744073709551616:=by omega
   by_cases hz:0<f2
   ·exact⟨.int (f1*1),M2,t2,⟨_,rfl,by omega,by omega⟩,by simp_arith [hX,e1,e2,c4,hz]⟩
   ·exact⟨.int (f1*0),M2,t2,⟨_,rfl,by omega,by omega⟩,by simp_arith [hX,e1,e2,c4,hz]⟩) M h
 obtain⟨ks,ek,qk⟩:=E7 qe;refine⟨ks,M',?_,qk,t',?_⟩
 ·have:ks.length=es.length:=by rw[ek];simp
  rw[cy] at le;omega
 ·have l3:es.length≤sizeLine:=by rw[le,cy];exact ba (by omega)
  have l4:ks.length≤sizeLine:=by rw[ek] at l3;simpa using l3
  have b1:=fun M=>rg (j:=wide) (by omega) M
  unfold kj mZ;simp_arith [br,b1,ee,l4,ek]
theorem xt (hm:1≤most)(hm2:most≤1000)(h:dU l rest M) :
  ∃(rs:List (List Int)) (w:Nat) (M':aB),1≤rs.length∧(rs.length:Int)≤most∧1≤w∧(w:Int)≤most∧(∀r∈rs,r.length=w∧∀k∈r,0≤k∧k≤15)∧dU l rest M'∧
   hG [.mr 0,.int most] M=.ok (.tup (rs.map fun r=>D.tup (r.map D.int))) M':=by
 obtain⟨wide,M1,w1,w2,t1,e1⟩:=re hm hm2 h;obtain⟨f4,M2,a2,b2,t2,e2⟩:=bg (many:=4) (by decide) (aN (by decide) (by decide)) t1;obtain⟨high,M3,h1,h2,t3,e3⟩:=re hm hm2 t2;obtain⟨es,M',t',le,qe,ee⟩:=kP (ds0:=bq 0 high.toNat) (ge:=iO) (ρ:=[some (.mr 0),some (.int most),some (.int wide),some (.int (1+f4))])
  (P:=dU l rest) (Q:=fun e=>∃ks:List Int,e=.tup (ks.map D.int)∧(ks.length:Int)=wide∧∀k∈ks,0≤k∧k≤15) (bq 0 high.toNat) (fun d hd M hM=>by
   obtain⟨ks,M1,lk,qk,t1,e1⟩:=Hi (wide:=wide) (thin:=1+f4) (by omega) (by omega) (by omega) (by omega) hM;exact⟨_,M1,t1,⟨ks,rfl,lk,qk⟩,by simp_arith [iO,e1]⟩) M3 t3
 obtain⟨rs,er,qr⟩:=Gj qe;refine⟨rs,wide.toNat,M',?_,?_,by omega,by omega,fun r hr=>⟨by have:=(qr r hr).1;omega,(qr r hr).2⟩,t',?_⟩
 ·have:rs.length=es.length:=by rw[er];simp
  rw[cy] at le;omega
 ·have:rs.length=es.length:=by rw[er];simp
  rw[cy] at le;omega
 ·have l3:es.length≤sizeLine:=by rw[le,cy];exact ba (by omega)
  have l4:rs.length≤sizeLine:=by rw[er] at l3;simpa using l3
  have b1:=fun M=>rg (j:=high) (by omega) M
  unfold hG lP;simp_arith [br,b1,e1,e2,e3,ee,l4,er]
theorem Cd (hm:1≤most)(hm2:most≤1000)(h:dU l rest M) :
  ∃(w hh g m:Int) (M':aB),(1≤w∧w≤most)∧(1≤hh∧hh≤most)∧(0≤g∧g≤20)∧(0≤m∧m≤12)∧dU l rest M'∧gU [.mr 0,.int most] M=.ok (.tup [.int w,.int hh,.int g,.int m]) M':=by
 obtain⟨f1,M1,a1,b1,t1,e1⟩:=bg (many:=21) (by decide) (aN (by decide) (by decide)) h;obtain⟨f2,M2,a2,b2,t2,e2⟩:=bg (many:=2) (by decide) (aN (by decide) (by decide)) t1;obtain⟨w,M3,a3,b3,t3,e3⟩:=re hm hm2 t2;obtain⟨hh,M4,a4,b4,t4,e4⟩:=re hm hm2 t3;obtain⟨m,M5,a5,b5,t5,e5⟩:=bg (many:=13) (by decide) (aN (by decide) (by decide)) t4;have l3:(2:Nat)≤sizeLine:=ba (by decide);have l4:(4:Nat)≤sizeLine:=ba (by decide);have pick:∃g,0≤g∧g≤20∧ny [D.int 0,D.int f1] f2=some (.int g):=by
  have:f2=0∨f2=1:=by omega
  rcases this with q|q <;> rw[q]
  ·exact⟨0,by omega,by omega,rfl⟩
  ·exact⟨f1,by omega,by omega,rfl⟩
 obtain⟨g,g1,g2,ha⟩:=pick;refine⟨w,hh,g,m,M5,⟨a3,b3⟩,⟨a4,b4⟩,⟨g1,g2⟩,⟨a5,by omega⟩,t5,?_⟩;unfold gU li;simp_arith [e1,e2,e3,e4,e5,l3,l4,ha]
theorem pF {size:Int}(hm:0≤size)(hm2:size≤900)(h:dU l rest M) :
  ∃(f:Int) (M':aB),(-1000≤f∧f≤1000)∧dU l rest M'∧bQ [.mr 0,.int size] M=.ok (.int f) M':=by
 obtain⟨f1,M1,a1,b1,t1,e1⟩:=bg (many:=size+16) (by omega) (aN (by omega) (by omega)) h;obtain⟨f2,M2,a2,b2,t2,e2⟩:=bg (many:=2001) (by decide) (aN (by decide) (by decide)) t1;obtain⟨f3,M3,a3,b3,t3,e3⟩:=bg (many:=8) (by decide) (aN (by decide) (by decide)) t2;have l3:(2:Nat)≤sizeLine:=ba (by decide);have c3:Nat.log2 7<9000:=by decide
 have pick:∃g,-1000≤g∧g≤1000∧ny [D.int (f1-8),D.int (f2-1000)] (f3 / 7)=some (.int g):=by
  have:f3 / 7=0∨f3 / 7=1:=by omega
  rcases this with q|q <;> rw[q]
  ·exact⟨_,by omega,by omega,rfl⟩
  ·exact⟨_,by omega,by omega,rfl⟩
 obtain⟨g,g1,g2,ha⟩:=pick;refine⟨g,M3,⟨g1,g2⟩,t3,?_⟩;unfold bQ og;simp_arith [e1,e2,e3,l3,c3,ha]
structure Mv where
 shape:Option Nat
 x:Int
 y:Int
 rank:Int
 turn:Int
noncomputable def Mv.d (m:Mv):D:=.tup [match m.shape with|some k=>.int k|none=>.non,.int m.x,.int m.y,.int m.rank,.int m.turn]
structure zD (n:Nat)(m:Mv):Prop where
 s:∀k,m.shape=some k→k<n
 x:-1000≤m.x∧m.x≤1000
 y:-1000≤m.y∧m.y≤1000
 r:0≤m.rank∧m.rank≤3
 t:0≤m.turn∧m.turn≤3
theorem Ea {a b:Int}(h:b<a):mj (.int a) (.int b) M=.ok (.bl true) M:=by
 show bj.ok (D.bl (decide (a>b))) M=_;rw[decide_eq_true h]
theorem Hw {a b:Int}(h:¬b<a):mj (.int a) (.int b) M=.ok (.bl false) M:=by
 show bj.ok (D.bl (decide (a>b))) M=_;rw[decide_eq_false h]
theorem F8 {a b:GT}(ha:a ρ M=.ok false M1):dL a b ρ M=.ok false M1:=by
 unfold dL;rw[ha,aq];rfl
theorem yf {a b:GT}{y:Bool}(ha:a ρ M=.ok true M)(hb:b ρ M=.ok y M1):dL a b ρ M=.ok y M1:=by
 unfold dL;rw[ha,aq];exact hb
variable{gi:GI}{ge:GE}{ds:List D}
theorem vm {es:List D}{M2:aB}(hi:gi ρ M=.ok ⟨ds,none⟩ M1)(he:fT ⟨ds,none⟩ cL ge ds ρ M1=.ok es M2)(hl:es.length≤1000000):br gi cL ge aZ ρ M=.ok (.lst es) M2:=by
 unfold br;rw[hi,aq];dsimp only;rw[he,aq];unfold aZ;rw[if_pos (ba hl)]
variable{hh y t:Int}{more:List D}
theorem zh {w r:Int}{d2 d3:D}{M2 M3 M4 M5:aB}(q1:bQ [.mr 0,.int w] M=.ok (.int x) M2)(q2:bQ [.mr 0,.int hh] M2=.ok (.int y) M3)(q3:aw [.mr 0,.int 4] M3=.ok (.int r) M4)(q4:aw [.mr 0,.int 4] M4=.ok (.int t) M5) :
  aD (bb (aa (ae 3) (aa (aj 2 bQ (aa (ae 0) (aa (g2 aI (ae 1) (gC (.int 0))) ag))) (aa (aj 2 bQ (aa (ae 0) (aa (g2 aI (ae 1) (gC (.int 1))) ag))) (aa (aj 2 aw (aa (ae 0) (aa (gC (.int 4)) ag))) (aa (aj 2 aw (aa (ae 0) (aa (gC (.int 4)) ag))) ag)))))) [some (.mr 0),some (.tup (.int w::.int hh::more)),some d2,some d3] M=.ok (.rt (.tup [d3,.int x,.int y,.int r,.int t])) M5:=
 aR (cw (aM rfl (aM (bp (a:=ae 0) rfl (av (f:=aI) (a:=ae 1) (b:=gC (.int 0)) (x:=.tup (.int w::.int hh::more)) (y:=.int 0) rfl rfl (cJ (k:=0) rfl)) q1) (aM (bp (a:=ae 0) rfl (av (f:=aI) (a:=ae 1) (b:=gC (.int 1)) (x:=.tup (.int w::.int hh::more)) (y:=.int 1) rfl rfl (cJ (k:=1) rfl)) q2) (aM (bp (a:=ae 0) (b:=gC (.int 4)) rfl rfl q3) (aM (bp (a:=ae 0) (b:=gC (.int 4)) rfl rfl q4) rfl))))) (show 5≤100000 by decide))
variable{n:Nat}
theorem wX {w:Int}(hw:0≤w∧w≤900)(hh2:0≤hh∧hh≤900)(hn:n≤1000)(h:dU l rest M) :
  ∃(m:Mv) (M':aB),zD n m∧dU l rest M'∧jv [.mr 0,.tup (.int w::.int hh::more),.int n] M=.ok m.d M':=by
 have go:∀(s:Option Nat) (M:aB),dU l rest M→(∀k,s=some k→k<n)→∃(m:Mv) (M':aB),zD n m∧m.shape=s∧dU l rest M'∧
   ∃M2 M3 M4,bQ [.mr 0,.int w] M=.ok (.int m.x) M2∧bQ [.mr 0,.int hh] M2=.ok (.int m.y) M3∧aw [.mr 0,.int 4] M3=.ok (.int m.rank) M4∧aw [.mr 0,.int 4] M4=.ok (.int m.turn) M':=by
  intro s M h hs;obtain⟨x,M2,a2,t2,e2⟩:=pF hw.1 hw.2 h;obtain⟨y,M3,a3,t3,e3⟩:=pF hh2.1 hh2.2 t2;obtain⟨r,M4,a4,b4,t4,e4⟩:=bg (many:=4) (by decide) (aN (by decide) (by decide)) t3;obtain⟨t,M5,a5,b5,t5,e5⟩:=bg (many:=4) (by decide) (aN (by decide) (by decide)) t4;have r3:r≤3:=by omega
  have q3:t≤3:=by omega
  exact⟨⟨s,x,y,r,t⟩,M5,⟨hs,a2,a3,⟨a4,r3⟩,⟨a5,q3⟩⟩,rfl,t5,M2,M3,M4,e2,e3,e4,e5⟩
 by_cases h0:0<n
 ·obtain⟨f1,M1,a1,b1,t1,e1⟩:=bg (many:=8) (by decide) (aN (by decide) (by decide)) h;have h0':(0:Int)<n:=by omega
  by_cases hf:0<f1
  ·obtain⟨f2,M2,a2,b2,t2,e2⟩:=bg (many:=(n:Int)) (by omega) (aN (by omega) (by omega)) t1;obtain⟨k,rfl⟩:=Int.eq_ofNat_of_zero_le a2;obtain⟨m,M',ok,sm,t',M3,M4,M5,q1,q2,q3,q4⟩:=go (some k) M2 t2 (fun j hj=>by cases hj;omega);refine⟨m,M',ok,t',?_⟩;show aP (dA [some (.mr 0),some (.tup (.int w::.int hh::more)),some (.int n),none] M)=_;unfold dA;rw[ao (aT (d:=.non) (M1:=M) rfl)];rw[ao ((bK (yf (aE (x:=true) (av (f:=mj) (a:=ae 2) (b:=gC (.int 0)) (x:=.int n) (y:=.int 0) rfl rfl (Ea (by omega)))) (aE (x:=true) (av (f:=mj) (bp (a:=ae 0) (b:=gC (.int 8)) rfl rfl e1) (b:=gC (.int 0)) (y:=.int 0) rfl (Ea hf))))).trans (aT (bp (a:=ae 0) (b:=ae 2) (y:=.int n) rfl rfl e2)))];refine(congrArg aP (zh q1 q2 q3 q4)).trans ?_;unfold Mv.d;rw[sm];rfl
  ·obtain⟨m,M',ok,sm,t',M3,M4,M5,q1,q2,q3,q4⟩:=go none M1 t1 (fun j hj=>by cases hj);refine⟨m,M',ok,t',?_⟩;show aP (dA [some (.mr 0),some (.tup (.int w::.int hh::more)),some (.int n),none] M)=_;unfold dA;rw[ao (aT (d:=.non) (M1:=M) rfl)];rw[ao ((aS (yf (aE (x:=true) (av (f:=mj) (a:=ae 2) (b:=gC (.int 0)) (x:=.int n) (y:=.int 0) rfl rfl (Ea (by omega)))) (aE (x:=false) (av (f:=mj) (bp (a:=ae 0) (b:=gC (.int 8)) rfl rfl e1) (b:=gC (.int 0)) (y:=.int 0) rfl (Hw hf))))).trans rfl)];refine(congrArg aP (zh q1 q2 q3 q4)).trans ?_;unfold Mv.d;rw[sm];rfl
 ·have h0':¬(0:Int)<n:=by omega
  obtain⟨m,M',ok,sm,t',M3,M4,M5,q1,q2,q3,q4⟩:=go none M h (fun j hj=>by cases hj);refine⟨m,M',ok,t',?_⟩;show aP (dA [some (.mr 0),some (.tup (.int w::.int hh::more)),some (.int n),none] M)=_;unfold dA;rw[ao (aT (d:=.non) (M1:=M) rfl)];rw[ao ((aS (F8 (aE (x:=false) (av (f:=mj) (a:=ae 2) (b:=gC (.int 0)) (x:=.int n) (y:=.int 0) rfl rfl (Hw h0'))))).trans rfl)];refine(congrArg aP (zh q1 q2 q3 q4)).trans ?_;unfold Mv.d;rw[sm];rfl
theorem vK {α:Type}{f:α→D}{P:α→Prop}:∀{es:List D},(∀e∈es,∃a,e=f a∧P a)→∃as:List α,es=as.map f∧∀a∈as,P a
 | [],_=>⟨[],rfl,fun _ z=>by cases z⟩
 | e::es,h=>by
  obtain⟨a,ea,pa⟩:=h e (mem_cons_self ..);obtain⟨as,eas,pas⟩:=vK fun e' he=>h e' (mem_cons_of_mem _ he)
  refine⟨a::as,by rw[ea,eas];rfl,fun b hb=>?_⟩;rcases mem_cons.mp hb with q|q
  ·rw[q];exact pa
  ·exact pas b q
noncomputable def aO (rs:List (List Int)):D:=.tup (rs.map fun r=>D.tup (r.map D.int))
noncomputable def o4 (most:Int)(rs:List (List Int)):Prop:=1≤rs.length∧(rs.length:Int)≤most∧∃w:Nat,1≤w∧(w:Int)≤most∧∀r∈rs,r.length=w∧∀k∈r,0≤k∧k≤15
structure cS where
 floor:List (List Int)
 sx:Int
 sy:Int
 book:List (List (List Int))
 movers:List Mv
 pots:List Int
noncomputable def cS.d (s:cS):D:=.tup [aO s.floor,.tup [.int s.sx,.int s.sy],.tup (s.book.map aO),.tup (s.movers.map Mv.d),.tup (s.pots.map D.int)]
structure ck (most:Int)(s:cS):Prop where
 floor:o4 16 s.floor
 sx:-1000≤s.sx∧s.sx≤1000
 sy:-1000≤s.sy∧s.sy≤1000
 bl:s.book.length≤8
 book:∀b∈s.book,o4 8 b
 ml:(s.movers.length:Int)≤most
 movers:∀m∈s.movers,zD s.book.length m
 pl:s.pots.length=16
 pots:∀k∈s.pots,0≤k∧k≤63
theorem rq :ag ρ M=.ok [] M:=rfl
variable{xs:List D}
theorem Aj {i:Int}{d:D}(h:ny xs i=some d):aI (.lst xs) (.int i) M=.ok d M:=by
 unfold aI bW;dsimp only;rw[h]
variable{mm:Int}
theorem DS {w:Int}(hw:0≤w∧w≤900)(hh2:0≤hh∧hh≤900)(hm:0≤mm∧mm≤900)(h:dU l rest M) :
  ∃(s:cS) (M':aB),ck mm s∧dU l rest M'∧jd [.mr 0,.tup (.int w::.int hh::more),.int mm] M=.ok s.d M':=by
 obtain⟨fl,fw,M1,f1,f2,f3,f4,f5,t1,e1⟩:=xt (most:=16) (by decide) (by decide) h;obtain⟨sx,M2,a2,t2,e2⟩:=pF (size:=9) (by decide) (by decide) t1;obtain⟨sy,M3,a3,t3,e3⟩:=pF (size:=9) (by decide) (by decide) t2;obtain⟨d4,M4,a4,b4,t4,e4⟩:=bg (many:=4) (by decide) (aN (by decide) (by decide)) t3;obtain⟨d5,M5,a5,b5,t5,e5⟩:=bg (many:=9) (by decide) (aN (by decide) (by decide)) t4;obtain⟨d6,M6,a6,b6,t6,e6⟩:=bg (many:=4) (by decide) (aN (by decide) (by decide)) t5;have pick:∃g,0≤g∧g≤8∧ny [D.int d4,D.int d5] (d6 / 3)=some (.int g):=by
  have:d6 / 3=0∨d6 / 3=1:=by omega
  rcases this with q|q <;> rw[q]
  ·exact⟨_,by omega,by omega,rfl⟩
  ·exact⟨_,by omega,by omega,rfl⟩
 obtain⟨g,g1,g2,ha⟩:=pick;obtain⟨eb,M7,t7,lb,qb,ee1⟩:=kP (ds0:=bq 0 g.toNat) (ge:=iK) (ρ:=[some (.mr 0),some (.tup (.int w::.int hh::more)),some (.int mm),some (aO fl),some (.tup [.int sx,.int sy]),some (.int g),none,none])
  (P:=dU l rest) (Q:=fun e=>∃b,e=aO b∧o4 8 b) (bq 0 g.toNat) (fun d hd M hM=>by
   obtain⟨rs,rw',M1,q1,q2,q3,q4,q5,t1,e1⟩:=xt (most:=8) (by decide) (by decide) hM;exact⟨_,M1,t1,⟨rs,rfl,q1,q2,rw',q3,q4,q5⟩,by simp_arith [iK,e1,aO]⟩) M6 t6
 obtain⟨book,hb,okb⟩:=vK qb;have lbk:book.length=g.toNat:=by rw[←cy 0 g.toNat,←lb,hb,length_map]
 obtain⟨d8,M8,a8,b8,t8,e8⟩:=bg (many:=mm+1) (by omega) (aN (by omega) (by omega)) t7;obtain⟨em,M9,t9,lm,qm,ee2⟩:=kP (ds0:=bq 0 d8.toNat) (ge:=iM) (ρ:=[some (.mr 0),some (.tup (.int w::.int hh::more)),some (.int mm),some (aO fl),some (.tup [.int sx,.int sy]),some (.int g),some (.tup (book.map aO)),none])
  (P:=dU l rest) (Q:=fun e=>∃m,e=Mv.d m∧zD book.length m) (bq 0 d8.toNat) (fun d hd M hM=>by
   obtain⟨m,M1,ok,t1,e1⟩:=wX (more:=more) (n:=book.length) hw hh2 (by omega) hM;exact⟨_,M1,t1,⟨m,rfl,ok⟩,by simp_arith [iM,e1]⟩) M8 t8
 obtain⟨movers,hmv,okm⟩:=vK qm;have lmv:movers.length=d8.toNat:=by rw[←cy 0 d8.toNat,←lm,hmv,length_map]
 obtain⟨ep,M10,t10,lp,qp,ee3⟩:=kP (ds0:=bq 0 16) (ge:=iF) (ρ:=[some (.mr 0),some (.tup (.int w::.int hh::more)),some (.int mm),some (aO fl),some (.tup [.int sx,.int sy]),some (.int g),some (.tup (book.map aO)),some (.tup (movers.map Mv.d))])
  (P:=dU l rest) (Q:=fun e=>∃k,e=D.int k∧0≤k∧k≤63) (bq 0 16) (fun d hd M hM=>by
   obtain⟨f1,M1,a1,b1,t1,e1⟩:=bg (many:=64) (by decide) (aN (by decide) (by decide)) hM;exact⟨_,M1,t1,⟨f1,rfl,a1,by omega⟩,by simp_arith [iF,e1]⟩) M9 t9
 obtain⟨pots,hp,okp⟩:=vK qp;have lpt:pots.length=16:=by rw[←cy 0 16,←lp,hp,length_map]
 refine⟨⟨fl,sx,sy,book,movers,pots⟩,M10,⟨⟨f1,f2,fw,f3,f4,f5⟩,a2,a3,?_,okb,?_,okm,lpt,okp⟩,t10,?_⟩
 ·show book.length≤8;omega
 ·show(movers.length:Int)≤mm;omega
 ·rw[hb] at ee1;rw[hmv] at ee2;rw[hp] at ee3;obtain⟨gn,rfl⟩:=Int.eq_ofNat_of_zero_le g1;obtain⟨dn,rfl⟩:=Int.eq_ofNat_of_zero_le a8;rw[Int.toNat_natCast] at ee1 ee2;show aP (jm [some (.mr 0),some (.tup (.int w::.int hh::more)),some (.int mm),none,none,none,none,none] M)=_;unfold jm;rw[ao (aT (bp (a:=ae 0) (b:=gC (.int 16)) rfl rfl e1))];rw[ao (aT (cw (aM (bp (a:=ae 0) (b:=gC (.int 9)) rfl rfl e2) (aM (bp (a:=ae 0) (b:=gC (.int 9)) rfl rfl e3) rq)) (show 2≤100000 by decide)))];rw[ao (aT (av (f:=aI) (o:=.ok (.int gn) M6) (d9 (aM (bp (a:=ae 0) (b:=gC (.int 4)) rfl rfl e4) (aM (bp (a:=ae 0) (b:=gC (.int 9)) rfl rfl e5) rq)) (show 2≤100000 by decide)) (av (f:=e9) (bp (a:=ae 0) (b:=gC (.int 4)) rfl rfl e6) (b:=gC (.int 3)) (y:=.int 3) rfl (wt (by decide) (by decide) M6)) (Aj ha)))];show aP (ar _ _ [some (.mr 0),some (.tup (.int w::.int hh::more)),some (.int mm),some (aO fl),some (.tup [.int sx,.int sy]),some (.int gn),none,none] M6)=_;rw[ao (aT (gF (F:=fN) (vm (nj (n:=gn) (aM (g:=ae 5) (d:=.int gn) rfl rq) (by omega)) ee1 (by rw[length_map];omega)) rfl))];show aP (ar _ _ [some (.mr 0),some (.tup (.int w::.int hh::more)),some (.int mm),some (aO fl),some (.tup [.int sx,.int sy]),some (.int gn),some (.tup (book.map aO)),none] M7)=_;rw[ao (aT (gF (F:=fN) (vm (nj (n:=dn) (aM (bp (a:=ae 0) (y:=.int (mm+1)) rfl rfl e8) rq) (by omega)) ee2 (by rw[length_map];omega)) rfl))];show aP (aD _ [some (.mr 0),some (.tup (.int w::.int hh::more)),some (.int mm),some (aO fl),some (.tup [.int sx,.int sy]),some (.int gn),some (.tup (book.map aO)),some (.tup (movers.map Mv.d))] M9)=_;refine(congrArg aP (aR (cw (ds:=[aO fl,.tup [.int sx,.int sy],.tup (book.map aO),.tup (movers.map Mv.d),.tup (pots.map D.int)]) (aM rfl (aM rfl (aM rfl (aM rfl (aM (gF (F:=fN) (vm (nj (n:=16) (aM (g:=gC (.int 16)) (d:=.int 16) rfl rq) (by decide)) ee3 (by rw[length_map];omega)) rfl) rfl))))) (show 5≤100000 by decide)))).trans ?_;rfl
theorem n6 {ds0:List D}{s:GG}{body:GS}{W:Nat→cC→aB→Prop}:∀(ds:List D) (i:Nat),(∀j d,ds[j]?=some d→∀ρ M,W (i+j) ρ M→∃ρ1 ρ2 M2,s d ρ=some ρ1∧body ρ1 M=.ok (.nx ρ2) M2∧W (i+j+1) ρ2 M2)→∀ρ M,W i ρ M→
  ∃ρ' M',W (i+ds.length) ρ' M'∧eL ⟨ds0,none⟩ s body ds ρ M=.ok (.nx ρ') M'
 | [],i,h,ρ,M,hW=>⟨ρ,M,hW,rfl⟩
 | d::ds,i,h,ρ,M,hW=>by
  obtain⟨ρ1,ρ2,M2,e1,e2,h2⟩:=h 0 d rfl ρ M hW;obtain⟨ρ',M',h3,e3⟩:=n6 (ds0:=ds0) (s:=s) (body:=body) (W:=W) ds (i+1) (fun j d' hd ρ M hW=>by
   have e:i+1+j=i+(j+1):=by omega
   rw[e] at hW ⊢;exact h (j+1) d' hd ρ M hW) ρ2 M2 h2
  refine⟨ρ',M',?_,by simp[eL,vn,e1,e2,e3]⟩;have e:i+(d::ds).length=i+1+ds.length:=by simp;omega
  rw[e];exact h3
variable{lo:Int}{j:Nat}
theorem zw {d:D}(h:(bq lo n)[j]?=some d):j<n∧d=.int (lo+j):=by
 unfold bq at h;rw[getElem?_map] at h;cases q:(List.range n)[j]? with
 | none=>rw[q] at h;cases h
 | some k=>
  rw[q] at h;obtain⟨hj,ek⟩:=List.getElem?_eq_some_iff.mp q;rw[length_range] at hj;rw[getElem_range] at ek;subst ek;cases h;exact⟨hj,rfl⟩
noncomputable def zE (s:cS)(row:Int)(m:Mv):Bool:=match m.shape with
 | none=>false
 | some k=>decide (m.y≤row)&&decide (row<m.y+((s.book.getD k []).length:Int))
noncomputable def qO (s:cS)(row:Int):Nat→List Int
 | 0=>[]
 | n+1=>qO s row n++(match s.movers[n]? with|some m=>if zE s row m then [(n:Int)] else []|none=>[])
theorem oO (s:cS)(row:Int):∀n,(qO s row n).length≤n
 | 0=>Nat.le_refl _
 | n+1=>by
  have:=oO s row n;unfold qO;rw[length_append];split
  ·split <;> simp <;> omega
  ·simp;omega
noncomputable def cX (s:cS)(row:Int):List Int:=qO s row s.movers.length
noncomputable abbrev Qo (rs:List (List Int)):D:=.tup (rs.map fun r=>D.tup (r.map D.int))
variable{rs:List (List Int)}
theorem zq (h:n<rs.length):ny (rs.map fun r=>D.tup (r.map D.int)) (n:Int)=some (.tup (rs[n].map D.int)):=jX (by simp[h])
theorem IF {r:List Int}(h:n<r.length):ny (r.map D.int) (n:Int)=some (.int r[n]):=jX (by simp[h])
noncomputable def oq (rs:List (List Int))(way:Int)(n:Nat):List Int:=
 let r:=if way=2∨way=3 then rs.getD (rs.length-1-n) [] else rs.getD n []
 if way=1∨way=3 then r.reverse else r
variable{way:Int}
theorem PX (h0:0≤way)(h1:way<4):way=0∨way=1∨way=2∨way=3:=by omega
theorem sZ {s:cS}{row:Int}:∀{j:Nat} {n:Int},n∈qO s row j→∃i:Nat,n=i∧i<j∧∃m,s.movers[i]?=some m∧zE s row m=true
 | 0,n,h=>by cases h
 | j+1,n,h=>by
  unfold qO at h;rcases mem_append.mp h with z|z
  ·obtain⟨i,e,hi,r⟩:=sZ z;exact⟨i,e,by omega,r⟩
  ·split at z
   ·rename_i m hm;split at z
    ·rename_i hl;exact⟨j,by simpa using z,by omega,m,hm,hl⟩
    ·cases z
   ·cases z
theorem Ed (xs:List Int)(lo hi:Option Int):∃ys:List Int,jQ (xs.map D.int) lo hi=ys.map D.int∧ys.length≤xs.length∧∀y∈ys,y∈xs:=by
 refine⟨(xs.drop (HT.sIx xs.length 0 lo)).take (HT.sIx xs.length xs.length hi-HT.sIx xs.length 0 lo),by simp[jQ],?_,fun y hy=>mem_of_mem_drop (mem_of_mem_take hy)⟩;rw[length_take,length_drop];omega
noncomputable def iH (s:cS)(row n:Int):D:=match s.movers[n.toNat]? with
 | some m=>.tup [.int n,.int m.x,.int m.rank,.tup ((oq (s.book.getD (m.shape.getD 0) []) m.turn (row-m.y).toNat).map D.int)]
 | none=>.non
noncomputable def cg (s:cS)(row:Int):List Int:=s.floor.getD ((row+s.sy) % (s.floor.length:Int)).toNat []
noncomputable def ig (s:cS)(row x:Int):Int:=(cg s row).getD ((x+s.sx) % ((cg s row).length:Int)).toNat 0
noncomputable def rH (s:cS)(m row:Int):List D:=(jQ ((cX s row).map D.int) none (some m)).map fun d=>match d with | .int n=>iH s row n|d=>d
noncomputable def ij (s:cS)(w m row:Int):D:=.tup [.tup ((List.range w.toNat).map fun(x:Nat)=>D.int (ig s row x)),.tup (rH s m row)]
theorem HK {a b c:GE}{z:Int}(ha:a ρ M=.ok (.int x) M)(hb:b ρ M=.ok (.int y) M)(hc:x≤y→c ρ M=.ok (.int z) M):qH mT jo a b c ρ M=.ok (.bl (decide (x≤y)&&decide (y<z))) M:=by
 unfold qH;rw[ha,aq,hb,aq];show(bj.ok (D.bl (decide (x≤y))) M).bind _=_;rw[aq]
 by_cases q:x≤y
 ·rw[decide_eq_true q];dsimp only;rw[hc q,aq];rfl
 ·rw[decide_eq_false q];rfl
variable{s:cS}{row:Int}
theorem Iu :dC (bJ [2,3,4,5,6]) (ae 0) [some s.d,some (.int row),none,none,none,none,none,none,none,none,none,none,none,none] M=.ok (.nx [some s.d,some (.int row),some (aO s.floor),some (.tup [.int s.sx,.int s.sy]),some (.tup (s.book.map aO)),some (.tup (s.movers.map Mv.d)),some (.tup (s.pots.map D.int)),none,none,none,none,none,none,none]) M:=rfl
noncomputable def Qb (o:Option Nat):D:=match o with|some k=>.int k|none=>.non
noncomputable def Lq (bk:List (List (List Int)))(row y:Int):Option Nat→Bool
 | none=>false
 | some k=>decide (y≤row)&&decide (row<y+((bk.getD k []).length:Int))
theorem FX {x0 x2 x3 x5 x6 x10 x12 x13:Option D}{bk:List (List (List Int))}{o:Option Nat}{E:List Int}{b:Bool}(ho:∀k,o=some k→k<bk.length)(hE:E.length<1000)
  (hb:b=Lq bk row y o) :
  gM [x0,some (.int row),x2,x3,some (.tup (bk.map aO)),x5,x6,some (.mr M.length),some (.int j),some (Qb o),x10,some (.int y),x12,x13] (M++[.lst (E.map D.int)]) =
   .ok (.nx [x0,some (.int row),x2,x3,some (.tup (bk.map aO)),x5,x6,some (.mr M.length),some (.int j),some (Qb o),x10,some (.int y),x12,x13]) (M++[.lst ((E++if b then [(j:Int)] else []).map D.int)]):=by
 unfold gM;have t:dL (az (g2 (kW true) (ae 9) (gC .non))) (az (qH mT jo (ae 11) (ae 1) (g2 a9 (ae 11) (aC aV (aa (g2 aI (ae 4) (ae 9)) ag))))) [x0,some (.int row),x2,x3,some (.tup (bk.map aO)),x5,x6,some (.mr M.length),some (.int j),some (Qb o),x10,some (.int y),x12,x13] (M++[.lst (E.map D.int)])=.ok b (M++[.lst (E.map D.int)]):=by
  subst hb;cases o with
  | none=>exact cQ (x:=false) (y:=true) rfl (fun z=>by cases z)
  | some k=>
   have hk:=ho k rfl;have gb:bk[k]?=some bk[k]:=getElem?_eq_getElem hk;have e:bk.getD k []=bk[k]:=by rw[List.getD,gb];rfl
   have ln:aC aV (aa (g2 aI (ae 4) (ae 9)) ag) [x0,some (.int row),x2,x3,some (.tup (bk.map aO)),x5,x6,some (.mr M.length),some (.int j),some (.int k),x10,some (.int y),x12,x13] (M++[.lst (E.map D.int)])=.ok (.int (bk[k].length:Int)) (M++[.lst (E.map D.int)]):=by
    refine gF (av (f:=aI) (a:=ae 4) (b:=ae 9) (x:=.tup (bk.map aO)) (y:=.int k) rfl rfl (cJ (k:=k) (by rw[getElem?_map,gb];rfl))) ?_;show bj.ok (D.int ((bk[k].map fun r=>D.tup (r.map D.int)).length:Int)) _=_;rw[length_map]
   show _=bj.ok (decide (y≤row)&&decide (row<y+((bk.getD k []).length:Int))) _;rw[e];exact cQ (x:=true) rfl fun _=>aE (HK (x:=y) (y:=row) (z:=y+(bk[k].length:Int)) rfl rfl fun _=>av (f:=a9) (a:=ae 11) (x:=.int y) rfl ln rfl)
 cases b with
 | false=>
  refine(aS t).trans ?_;rw[if_neg Bool.false_ne_true,append_nil];rfl
 | true=>
  refine(bK t).trans ?_;rw[if_pos rfl,map_append];exact cB (vI (go:=ae 7) (ge:=ae 8) (d:=.int j) rfl rfl (by rw[length_map];omega))
theorem CU (ok:ck mm s)(hm:mm≤900)(hM:il M):lG [s.d,.int row] M=.ok (.lst ((cX s row).map D.int)) M:=by
 have lm:=ok.ml;generalize hx0:some s.d=x0;generalize hx2:some (aO s.floor)=x2;generalize hx3:some (D.tup [.int s.sx,.int s.sy])=x3;generalize hx6:some (D.tup (s.pots.map D.int))=x6;obtain⟨ρ',M',⟨x8,x9,x10,x11,x12,x13,rfl,rfl⟩,ef⟩:=n6 (ds0:=gR (s.movers.map Mv.d)) (s:=oS [(dM 8),(bJ [9,10,11,12,13])]) (body:=gM)
  (W:=fun i ρ N=>∃x8 x9 x10 x11 x12 x13,ρ=[x0,some (.int row),x2,x3,some (.tup (s.book.map aO)),some (.tup (s.movers.map Mv.d)),x6,some (.mr M.length),x8,x9,x10,x11,x12,x13]∧N=M++[.lst ((qO s row i).map D.int)])
  (gR (s.movers.map Mv.d)) 0 (fun j d hd ρ N hW=>by
   obtain⟨x8,x9,x10,x11,x12,x13,rfl,rfl⟩:=hW;obtain⟨dx,ex,rfl⟩:=qw hd;rw[Nat.zero_add];rw[getElem?_map] at ex;cases gm:s.movers[j]? with
   | none=>rw[gm] at ex;cases ex
   | some m=>
   rw[gm] at ex;cases ex;have hj:=(List.getElem?_eq_some_iff.mp gm).1;have om:=ok.movers _ (mem_of_getElem? gm);have ll:(qO s row j).length<1000:=Nat.lt_of_le_of_lt (oO s row j) (by omega);have e:=FX (x0:=x0) (x2:=x2) (x3:=x3) (x5:=some (.tup (s.movers.map Mv.d))) (x6:=x6) (x10:=some (.int m.x)) (x12:=some (.int m.rank)) (x13:=some (.int m.turn)) (row:=row) (y:=m.y) (bk:=s.book) (o:=m.shape) (j:=j) (M:=M) (E:=qO s row j) (b:=zE s row m) om.s ll (by unfold zE Lq;cases m.shape <;> rfl);have ey:qO s row (j+1)=qO s row j++(if zE s row m then [(j:Int)] else []):=by
    show qO s row j++(match s.movers[j]? with|some m=>if zE s row m then [(j:Int)] else []|none=>[])=_;rw[gm]
   exact⟨_,_,_,rfl,e,_,_,_,_,_,_,rfl,by rw[ey]⟩)
  [x0,some (.int row),x2,x3,some (.tup (s.book.map aO)),some (.tup (s.movers.map Mv.d)),x6,some (.mr M.length),none,none,none,none,none,none] (M++[.lst []]) ⟨_,_,_,_,_,_,rfl,rfl⟩
 rw[lq,length_map,Nat.zero_add] at ef;have rt:=o3 (M:=M) (xs:=(cX s row).map D.int) (iE 28 _) hM;have a1:=Iu (s:=s) (row:=row) (M:=M);rw[hx0,hx2,hx3,hx6] at a1;show jV M.length (aP (jF [some s.d,some (.int row),none,none,none,none,none,none,none,none,none,none,none,none] M))=_;rw[hx0];unfold jF;have s7:∀b:GS,ar (aH 7 (iC ag)) b [x0,some (.int row),x2,x3,some (.tup (s.book.map aO)),some (.tup (s.movers.map Mv.d)),x6,none,none,none,none,none,none,none] M=b [x0,some (.int row),x2,x3,some (.tup (s.book.map aO)),some (.tup (s.movers.map Mv.d)),x6,some (.mr M.length),none,none,none,none,none,none] (M++[.lst []]):=fun b=>ao (aT ku)
 have kf:js (lZ (aa (ae 5) ag)) (oS [(dM 8),(bJ [9,10,11,12,13])]) gM [x0,some (.int row),x2,x3,some (.tup (s.book.map aO)),some (.tup (s.movers.map Mv.d)),x6,some (.mr M.length),none,none,none,none,none,none] (M++[.lst []])=_:=jM (t:=⟨gR (s.movers.map Mv.d),none⟩) rfl ef;rw[ao a1,s7,ao kf];exact rt
theorem D4 (h0:0≤way)(h1:way<4)(hn:n<rs.length) :
  lX [Qo rs,.int way,.int n] M=.ok (.tup ((oq rs way n).map D.int)) M:=by
 have l2:(2:Nat)≤sizeLine:=ba (by decide);have hm:rs.length-1-n<rs.length:=by omega
 have a1:=zq hn;have a2:=zq hm;have e2:(rs.length:Int)-1-n=((rs.length-1-n:Nat):Int):=by omega
 have gd1:rs[n]?=some rs[n]:=getElem?_eq_getElem hn;have gd2:rs[rs.length-1-n]?=some rs[rs.length-1-n]:=getElem?_eq_getElem hm;have nn:¬((n:Int)<0):=by omega
 have nl:¬(rs.length≤n):=by omega
 have n1:¬(rs.length:Int)≤n:=by omega
 unfold lX nP oq;rcases PX h0 h1 with e|e|e|e <;> subst e <;> simp_arith [a1,a2,e2,l2,nn,nl,n1,gd1,gd2,map_reverse]
theorem Bj {n:Int}(ok:ck mm s)(hn:n∈cX s row):iI [s.d,.int n,.int row] M=.ok (iH s row n) M:=by
 obtain⟨i,rfl,hi,m,gm,lz⟩:=sZ hn;have om:=ok.movers m (mem_of_getElem? gm);unfold zE at lz;cases hs:m.shape with
 | none=>rw[hs] at lz;cases lz
 | some k=>
  rw[hs] at lz;have hk:=om.s k hs;have gb:s.book[k]?=some s.book[k]:=getElem?_eq_getElem hk;have gd:s.book.getD k []=s.book[k]:=by rw[List.getD,gb];rfl
  have lz:(decide (m.y≤row)&&decide (row<m.y+((s.book.getD k []).length:Int)))=true:=lz;rw[gd,Bool.and_eq_true,decide_eq_true_eq,decide_eq_true_eq] at lz;have am:ny (s.movers.map Mv.d) (i:Int)=some m.d:=jX (by rw[getElem?_map,gm];rfl);have ab:ny (s.book.map aO) (k:Int)=some (Qo s.book[k]):=jX (by rw[getElem?_map,gb];rfl);obtain⟨r,hr⟩:=Int.eq_ofNat_of_zero_le (by omega:0≤row-m.y);have ls:=D4 (rs:=s.book[k]) (way:=m.turn) (n:=r) (M:=M) om.t.1 (by have:=om.t.2;omega) (by omega);have l4:(4:Nat)≤sizeLine:=ba (by decide);have es:iH s row (i:Int)=.tup [.int i,.int m.x,.int m.rank,.tup ((oq s.book[k] m.turn r).map D.int)]:=by
   unfold iH;rw[Int.toNat_natCast,gm];have:(row-m.y).toNat=r:=by omega
   simp only[hs,Option.getD_some,gd,this]
  rw[es];unfold iI kH;simp_arith [cS.d,am,Mv.d,hs,ab,hr,ls,l4]
variable{g m:Int}
theorem BC {w:Int}(ok:ck mm s)(hw:1≤w∧w≤900) :
  jj [.tup [.int w,.int hh,.int g,.int m],s.d,.int row] M=.ok (.tup ((List.range w.toNat).map fun(x:Nat)=>D.int (ig s row x))) M:=by
 obtain⟨f1,f2,fw,f3,f4,f5⟩:=ok.floor;have hfl:0≤(row+s.sy) % (s.floor.length:Int)∧(row+s.sy) % (s.floor.length:Int)<s.floor.length:=⟨Int.emod_nonneg _ (by omega),Int.emod_lt_of_pos _ (by omega)⟩;obtain⟨r,hr⟩:=Int.eq_ofNat_of_zero_le hfl.1;have hr2:r<s.floor.length:=by omega
 have er:cg s row=s.floor[r]:=by
  unfold cg;rw[hr,Int.toNat_natCast,List.getD,getElem?_eq_getElem hr2];rfl
 have af:ny (s.floor.map fun r=>D.tup (r.map D.int)) ((row+s.sy) % (s.floor.length:Int))=some (.tup ((cg s row).map D.int)):=by rw[hr,er];exact zq hr2
 obtain⟨lw,lk⟩:=f5 _ (getElem_mem hr2);rw[←er] at lw lk;have ec:=fun ρ'=>jP (ds0:=bq 0 w.toNat) (ge:=iL) (ρ:=[some (.tup [.int w,.int hh,.int g,.int m]),some s.d,some (.int row),some (.int w),some (.int hh),some (.int g),some (.int m),some (aO s.floor),some (.int s.sx),some (.int s.sy),some (.tup (s.book.map aO)),some (.tup (s.movers.map Mv.d)),some (.tup (s.pots.map D.int)),some (.tup ((cg s row).map D.int))]++ρ')
  (f:=fun d=>match d with | .int x=>.int (ig s row x)|d=>d) (M:=M) (bq 0 w.toNat) (fun d hd=>by
   obtain⟨x,rfl,x0,x1⟩:=zN hd;have hx:0≤(x+s.sx) % ((cg s row).length:Int)∧(x+s.sx) % ((cg s row).length:Int)<(cg s row).length:=⟨Int.emod_nonneg _ (by omega),Int.emod_lt_of_pos _ (by omega)⟩;obtain⟨q,hq⟩:=Int.eq_ofNat_of_zero_le hx.1;have hq2:q<(cg s row).length:=by omega
   have ai:ny ((cg s row).map D.int) ((x+s.sx) % ((cg s row).length:Int))=some (.int (ig s row x)):=by
    unfold ig;rw[hq,Int.toNat_natCast,List.getD,getElem?_eq_getElem hq2];exact IF hq2
   have lg:((cg s row).length).log2<9000:=by
    have:=aN (x:=((cg s row).length:Int)) (by omega) (by omega);simpa using this
   have nz:0<(cg s row).length:=by omega
   simp_arith [iL,ai,lg,nz])
 have em:(bq 0 w.toNat).map (fun d=>match d with | .int x=>.int (ig s row x)|d=>d)=(List.range w.toNat).map fun(x:Nat)=>D.int (ig s row x):=by
  unfold bq;rw[map_map];apply map_congr_left;intro x _;simp
 rw[em] at ec;have r1:=fun M=>rg (j:=w) (by omega) M
 have lg:(s.floor.length).log2<9000:=by
  have:=aN (x:=(s.floor.length:Int)) (by omega) (by omega);simpa using this
 have nz:0<s.floor.length:=by omega
 have lr:w.toNat≤sizeLine:=ba (by omega);have ec0:=ec [];have erd:aO s.floor=.tup (s.floor.map fun r=>D.tup (r.map D.int)):=rfl;unfold cS.d at ec0 ⊢;rw[append_nil,erd] at ec0;rw[erd];unfold jj lu;simp_arith [oS,nE,br,lg,nz,af,r1,lr,ec0]
theorem D3 {w:Int}(ok:ck mm s)(hm:mm≤900)(hM:il M) :
  ni [.tup [.int w,.int hh,.int g,.int m],s.d,.int row] M=.ok (.lst (jQ ((cX s row).map D.int) none (some m))) M:=by
 have e:=CU (row:=row) ok hm hM;unfold ni pU;simp_arith [e]
theorem EC {w:Int}(ok:ck mm s)(hm:mm≤900)(hw:1≤w∧w≤900)(hmo:0≤m∧m≤12)(hM:il M) :
  oZ [.tup [.int w,.int hh,.int g,.int m],s.d,.int row] M=.ok (ij s w m row) M:=by
 obtain⟨ys,ey,ly,qy⟩:=Ed (cX s row) none (some m);have ll:(cX s row).length≤900:=by
  have:=oO s row s.movers.length;have:=ok.ml;unfold cX;omega
 have etk:rH s m row=ys.map (iH s row):=by unfold rH;rw[ey,map_map];rfl
 have ek:=D3 (w:=w) (hh:=hh) (g:=g) (m:=m) (row:=row) ok hm hM;rw[ey] at ek;have ef:=BC (w:=w) (hh:=hh) (g:=g) (m:=m) (row:=row) (M:=M) ok hw;have ec:=jP (ds0:=ys.map D.int) (ge:=o6) (ρ:=[some (.tup [.int w,.int hh,.int g,.int m]),some s.d,some (.int row),none])
  (f:=fun d=>match d with | .int n=>iH s row n|d=>d) (M:=M) (ys.map D.int) (fun d hd=>by
   obtain⟨n,hn,rfl⟩:=mem_map.mp hd;have e:=Bj (M:=M) ok (qy n hn);simp_arith [o6,e])
 have em:(ys.map D.int).map (fun d=>match d with | .int n=>iH s row n|d=>d)=ys.map (iH s row):=by
  rw[map_map];rfl
 rw[em] at ec;have l1:ys.length≤sizeLine:=ba (by omega);have l2:(2:Nat)≤sizeLine:=ba (by decide);unfold ij oZ vC;rw[etk];simp_arith [br,ek,ef,ec,l1,l2]
structure Sn where
 n:Int
 x:Int
 r:Int
 ks:List Int
noncomputable def Sn.d (s:Sn):D:=.tup [.int s.n,.int s.x,.int s.r,.tup (s.ks.map D.int)]
noncomputable def eZ (x:Int)(s:Sn):Int:=if s.x≤x∧x<s.x+(s.ks.length:Int) then s.ks.getD (x-s.x).toNat 0 else 0
noncomputable def kX (x:Int)(ss:List Sn):List Sn:=ss.filter fun s=>eZ x s != 0
noncomputable def oz (x:Int)(s:Sn):D:=.tup [.int s.r,.int s.n,.int (eZ x s)]
theorem v7 (x:Int)(ss:List Sn):(kX x ss).length≤ss.length:=length_filter_le _ _
variable{ss:List Sn}
theorem Ck {s:Sn}(h:ss[j]?=some s):kX x (ss.take (j+1))=kX x (ss.take j)++(if eZ x s=0 then [] else [s]):=by
 rw[take_succ,h];unfold kX;rw[filter_append];congr 1
 by_cases hz:eZ x s=0 <;> simp[hz]
theorem Di {s:Sn}(h1:s.x≤x)(h2:x<s.x+(s.ks.length:Int)):∃i:Nat,x-s.x=i∧ny (s.ks.map D.int) (i:Int)=some (.int (eZ x s)):=by
 obtain⟨i,hi⟩:=Int.eq_ofNat_of_zero_le (by omega:0≤x-s.x);have hl:i<s.ks.length:=by omega
 refine⟨i,hi,?_⟩;have e:eZ x s=s.ks[i]:=by
  unfold eZ;rw[if_pos ⟨h1,h2⟩,hi,Int.toNat_natCast,List.getD,getElem?_eq_getElem hl];rfl
 rw[e];exact jX (by simp[hl])
theorem BL {s:Sn}(h:¬(s.x≤x∧x<s.x+(s.ks.length:Int))):eZ x s=0:=by unfold eZ;rw[if_neg h]
theorem F7 {f:Sn→D}(h:∀s,aX 29 (f s)=true)(l:List Sn):(l.map f).all (aX 29)=true:=by
 rw[all_eq_true];intro d hd;obtain⟨s,_,e⟩:=mem_map.mp hd;rw[←e];exact h s
variable{E:List D}
theorem Ei {x0 x2 x3:Option D}{s:Sn}(hE:E.length<1000) :
  fI [x0,some (.int x),x2,x3,some (.mr M.length),some (.int s.n),some (.int s.x),some (.int s.r),some (.tup (s.ks.map D.int))] (M++[.lst E]) =
   .ok (.nx [x0,some (.int x),x2,x3,some (.mr M.length),some (.int s.n),some (.int s.x),some (.int s.r),some (.tup (s.ks.map D.int))]) (M++[.lst (E++if eZ x s=0 then [] else [oz x s])]):=by
 unfold fI;have ln:aC aV (aa (ae 8) ag) [x0,some (.int x),x2,x3,some (.mr M.length),some (.int s.n),some (.int s.x),some (.int s.r),some (.tup (s.ks.map D.int))] (M++[.lst E])=.ok (.int (s.ks.length:Int)) (M++[.lst E]):=by
  refine gF (a:=ae 8) (x:=.tup (s.ks.map D.int)) rfl ?_;show bj.ok (D.int ((s.ks.map D.int).length:Int)) _=_;rw[length_map]
 have c1:=aE (HK (a:=ae 6) (b:=ae 1) (ρ:=[x0,some (.int x),x2,x3,some (.mr M.length),some (.int s.n),some (.int s.x),some (.int s.r),some (.tup (s.ks.map D.int))]) (M:=M++[.lst E]) (x:=s.x) (y:=x) (z:=s.x+(s.ks.length:Int)) rfl rfl fun _=>av (f:=a9) (a:=ae 6) (x:=.int s.x) rfl ln rfl)
 by_cases h:s.x≤x∧x<s.x+(s.ks.length:Int)
 ·obtain⟨i,hi,ai⟩:=Di h.1 h.2;have ix:g2 aI (ae 8) (g2 eE (ae 1) (ae 6)) [x0,some (.int x),x2,x3,some (.mr M.length),some (.int s.n),some (.int s.x),some (.int s.r),some (.tup (s.ks.map D.int))] (M++[.lst E])=.ok (.int (eZ x s)) (M++[.lst E]):=by
   refine av (f:=aI) (a:=ae 8) (x:=.tup (s.ks.map D.int)) (y:=.int (x-s.x)) rfl rfl ?_;rw[hi];show(match ny (s.ks.map D.int) (i:Int) with|some d=>bj.ok d (M++[MO.lst E])|none=>.bad)=_;rw[ai]
  have t:=cQ c1 fun _=>aE (av (f:=aF true) ix (b:=gC (.int 0)) (y:=.int 0) rfl (nJ (eZ x s) 0 _))
  rw[decide_eq_true h.1,decide_eq_true h.2] at t
  by_cases hz:eZ x s=0
  ·rw[decide_eq_true hz] at t;rw[if_pos hz,append_nil];exact(aS t).trans rfl
  ·rw[decide_eq_false hz] at t;rw[if_neg hz];exact(bK t).trans (cB (vI (go:=ae 4) (d:=oz x s) rfl (cw (ds:=[.int s.r,.int s.n,.int (eZ x s)]) (aM rfl (aM rfl (aM ix rfl))) (by simp)) (by omega)))
 ·have hz:=BL h;have b:(decide (s.x≤x)&&decide (x<s.x+(s.ks.length:Int)))=false:=by
   rw[←Bool.decide_and];exact decide_eq_false h
  rw[b] at c1;rw[if_pos hz,append_nil];exact(aS ((cQ (y:=true) c1 fun z=>by cases z).trans rfl)).trans rfl
theorem zb {fl:D}(hs:ss.length≤900)(hM:il M) :
  kB [.tup [fl,.tup (ss.map Sn.d)],.int x] M=.ok (.lst ((kX x ss).map (oz x))) M:=by
 obtain⟨ρ',M',⟨x5,x6,x7,x8,rfl,rfl⟩,ef⟩:=n6 (ds0:=ss.map Sn.d) (s:=bJ [5,6,7,8]) (body:=fI)
  (W:=fun i ρ N=>∃x5 x6 x7 x8,ρ=[some (.tup [fl,.tup (ss.map Sn.d)]),some (.int x),some fl,some (.tup (ss.map Sn.d)),some (.mr M.length),x5,x6,x7,x8]∧N=M++[.lst ((kX x (ss.take i)).map (oz x))])
  (ss.map Sn.d) 0 (fun j d hd ρ N hW=>by
   obtain⟨x5,x6,x7,x8,rfl,rfl⟩:=hW;rw[Nat.zero_add];rw[getElem?_map] at hd;cases gs:ss[j]? with
   | none=>rw[gs] at hd;cases hd
   | some s=>
   rw[gs] at hd;cases hd;rw[Ck gs];have ll:((kX x (ss.take j)).map (oz x)).length<1000:=by
    rw[length_map];exact Nat.lt_of_le_of_lt (v7 x _) (by rw[length_take];omega)
   have e:=Ei (x0:=some (.tup [fl,.tup (ss.map Sn.d)])) (x2:=some fl) (x3:=some (.tup (ss.map Sn.d))) (x:=x) (s:=s) (M:=M) ll;refine⟨_,_,_,rfl,e,_,_,_,_,rfl,?_⟩;rw[map_append]
   by_cases hz:eZ x s=0
   ·rw[if_pos hz,if_pos hz];rfl
   ·rw[if_neg hz,if_neg hz];rfl)
  [some (.tup [fl,.tup (ss.map Sn.d)]),some (.int x),some fl,some (.tup (ss.map Sn.d)),some (.mr M.length),none,none,none,none] (M++[.lst []]) ⟨_,_,_,_,rfl,rfl⟩
 have e0:(0:Nat)+(ss.map Sn.d).length=ss.length:=by simp
 rw[e0,take_length] at ef;have rt:=o3 (M:=M) (xs:=(kX x ss).map (oz x)) (F7 (fun _=>rfl) _) hM;show jV M.length (aP (iT [some (.tup [fl,.tup (ss.map Sn.d)]),some (.int x),none,none,none,none,none,none,none] M))=_;unfold iT;have a1:dC (bJ [2,3]) (ae 0) [some (.tup [fl,.tup (ss.map Sn.d)]),some (.int x),none,none,none,none,none,none,none] M=.ok (.nx [some (.tup [fl,.tup (ss.map Sn.d)]),some (.int x),some fl,some (.tup (ss.map Sn.d)),none,none,none,none,none]) M:=rfl;have s4:∀b:GS,ar (aH 4 (iC ag)) b [some (.tup [fl,.tup (ss.map Sn.d)]),some (.int x),some fl,some (.tup (ss.map Sn.d)),none,none,none,none,none] M=b [some (.tup [fl,.tup (ss.map Sn.d)]),some (.int x),some fl,some (.tup (ss.map Sn.d)),some (.mr M.length),none,none,none,none] (M++[.lst []]):=fun b=>ao (aT ku)
 have kf:js (bY (ae 3)) (bJ [5,6,7,8]) fI [some (.tup [fl,.tup (ss.map Sn.d)]),some (.int x),some fl,some (.tup (ss.map Sn.d)),some (.mr M.length),none,none,none,none] (M++[.lst []])=_:=jM (t:=⟨ss.map Sn.d,none⟩) (jp rfl) ef;rw[ao a1,s4,ao kf];exact rt
noncomputable def Fm (a b:Sn):Prop:=b.r<a.r∨(a.r=b.r∧a.n≤b.n)
theorem Cg {s:Sn}:yJ 0 du [oz x s] M=.ok (.tup [.int (-s.r),.int s.n]) M:=by
 have l2:(2:Nat)≤sizeLine:=ba (by decide);have a0:∀a b c:D,ny [a,b,c] 0=some a:=fun _ _ _=>rfl
 have a1:∀a b c:D,ny [a,b,c] 1=some b:=fun _ _ _=>rfl
 simp_arith [du,oz,a0,a1,l2]
theorem Ni (a b c d:Int):HT.lexLt [a,b] [c,d]=decide (a<c∨(a=c∧b<d)):=by
 by_cases h1:a<c <;> by_cases h2:a=c <;> by_cases h3:b<d <;> simp[HT.lexLt,h1,h2,h3] <;> omega
theorem EV (b:Sn):∀s∈[b],Fm b s:=fun s hs=>by
 rcases mem_cons.mp hs with z|z
 ·subst z;exact .inr ⟨rfl,Int.le_refl _⟩
 ·cases z
theorem zz {x:Int}{M:aB}:∀(cs:List Sn) (b:Sn),∃b',b'∈b::cs∧(∀s∈b::cs,Fm b' s)∧qE (yJ 0 du) (cs.map (oz x)) (oz x b) [-b.r,b.n] M=.ok (oz x b') M
 | [],b=>⟨b,mem_cons_self ..,EV b,rfl⟩
 | s::r,b=>by
  have hk:=Cg (x:=x) (s:=s) (M:=M);have hi:uJ (.tup [.int (-s.r),.int s.n])=some [-s.r,s.n]:=rfl
  by_cases h:-s.r < -b.r∨(-s.r=-b.r∧s.n<b.n)
  ·obtain⟨b',h1,h2,h3⟩:=zz (x:=x) (M:=M) r s;refine⟨b',mem_cons_of_mem _ h1,fun t ht=>?_,?_⟩
   ·rcases mem_cons.mp ht with z|z
    ·subst z;have:=h2 s (mem_cons_self ..);unfold Fm at *;omega
    ·exact h2 t z
   ·rw[map_cons];unfold qE;rw[hk];dsimp only;rw[hi];dsimp only;rw[Ni,if_pos (decide_eq_true h)];exact h3
  ·obtain⟨b',h1,h2,h3⟩:=zz (x:=x) (M:=M) r b;have hb:=h2 b (mem_cons_self ..);refine⟨b',?_,fun t ht=>?_,?_⟩
   ·rcases mem_cons.mp h1 with z|z
    ·exact z▸mem_cons_self ..
    ·exact mem_cons_of_mem _ (mem_cons_of_mem _ z)
   ·rcases mem_cons.mp ht with z|z
    ·exact z▸hb
    ·rcases mem_cons.mp z with z|z
     ·subst z;unfold Fm at *;omega
     ·exact h2 t (mem_cons_of_mem _ z)
   ·rw[map_cons];unfold qE;rw[hk];dsimp only;rw[hi];dsimp only;rw[Ni,if_neg (by simpa using h)];exact h3
variable{cs:List Sn}
theorem D6 {fl:Int}:(cs=[]∧cE [.int fl,.lst (cs.map (oz x))] M=.ok (.int fl) M)∨
  ∃b∈cs,(∀s∈cs,Fm b s)∧cE [.int fl,.lst (cs.map (oz x))] M=.ok (.int (if 1≤b.r∨fl=0 then eZ x b else fl)) M:=by
 cases cs with
 | nil=>
  refine .inl ⟨rfl,?_⟩;unfold cE gH;simp_arith [aq]
 | cons s r=>
  obtain⟨b,h1,h2,h3⟩:=zz (x:=x) (M:=M) r s;refine .inr ⟨b,h1,h2,?_⟩;have hk:=Cg (x:=x) (s:=s) (M:=M);have hm:pR (yJ 0 du) (oz x s::r.map (oz x)) M=.ok (oz x b) M:=by
   unfold pR;dsimp only;rw[hk];exact h3
  have hg:∀ρ,qz (yJ 0 du) (ae 1) (some (.int fl)::some (.lst (oz x s::r.map (oz x)))::ρ) M=.ok (.tup [.int b.r,.int b.n,.int (eZ x b)]) M:=fun ρ=>by
   show pR (yJ 0 du) (oz x s::r.map (oz x)) M=_;exact hm
  rw[map_cons]
  by_cases q1:1≤b.r
  ·unfold cE gH;simp[ar,bL,cn,yN,dC,bJ,l6,wb,bi,kJ,aP,aD,az,HH,cx,DL.g2,rY,ae,gC,aA,hg,q1,aq]
  ·by_cases q2:fl=0
   ·subst q2;unfold cE gH;simp[ar,bL,cn,yN,dC,bJ,l6,wb,bi,kJ,aP,aD,az,HH,cx,DL.g2,rY,ae,gC,aA,hg,q1,aF,ox,aG,gk,aq]
   ·unfold cE gH;simp[ar,bL,cn,yN,dC,bJ,l6,wb,bi,kJ,aP,aD,az,HH,cx,DL.g2,rY,ae,gC,aA,hg,q1,q2,aF,ox,aG,gk,aq]
mutual
theorem mz:∀(d:D) (n:Nat),aG n d=true→gk d d=true
 | .non,n,h=>by simp[gk]
 | .bl a,n,h=>by simp[gk]
 | .int a,n,h=>by simp[gk]
 | .str a,n,h=>by simp[gk]
 | .tup xs,n,h=>by
  cases n with
  | zero=>simp[aG] at h
  | succ n=>rw[gk];exact ng xs n (by simpa[aG] using h)
 | .lst xs,n,h=>by
  cases n with
  | zero=>simp[aG] at h
  | succ n=>rw[gk];exact ng xs n (by simpa[aG] using h)
 | .ro xs,n,h=>by
  cases n with
  | zero=>simp[aG] at h
  | succ n=>rw[gk];exact ng xs n (by simpa[aG] using h)
 | .mr a,n,h=>by simp[aG] at h
 | .exc a,n,h=>by simp[aG] at h
 | .any,n,h=>by simp[aG] at h
theorem ng:∀(ds:List D) (n:Nat),cr n ds=true→im ds ds=true
 | [],n,h=>by simp[im]
 | d::ds,n,h=>by
  simp only[cr,Bool.and_eq_true] at h;simp only[im,Bool.and_eq_true];exact⟨mz d n h.1,ng ds n h.2⟩
end
theorem iB {n:Nat}:∀{ds:List D},(∀d∈ds,aG n d=true)→cr n ds=true
 | [],_=>rfl
 | d::ds,h=>by
  simp only[cr,Bool.and_eq_true];exact⟨h d mem_cons_self,iB fun e he=>h e (mem_cons_of_mem _ he)⟩
noncomputable def bc (lo hi:Int):D→Bool
 | .int i=>decide (lo≤i)&&decide (i≤hi)
 | _=>false
noncomputable def nw (d:D):Prop:=∃t,Lj d=some t
variable{hi:Int}
theorem cH {d:D}(h:nw d):bv [d,.int lo,.int hi] M=.ok (.bl (bc lo hi d)) M:=by
 obtain⟨t,ht⟩:=h;have w:lO [d] M=.ok (.bl (match d with | .int _=>true|_=>false)) M:=by
  unfold lO ou;cases d <;> first|(simp_arith [aq];done)|cases ht
 unfold bv mq;cases d with
 | int i=>
  by_cases h0:lo≤i
  ·simp_arith [w,bc,h0]
  ·simp_arith [w,bc,h0]
 | _=>simp_arith [w,bc]
theorem uZ {p:D→Bool}:∀xs:List D,dN (xs.map fun d=>D.bl (p d))=some (xs.map p)
 | []=>rfl
 | x::xs=>by
  show(dN (xs.map fun d=>D.bl (p d))).map (p x::·)=_;rw[uZ xs];rfl
theorem Kb {α:Type}(p:α→Bool)(xs:List α):(xs.map p).all id=xs.all p:=by rw[all_map];rfl
theorem vZ (h:∀x∈xs,nw x)(hl:xs.length≤3000):bt [.tup xs] M=.ok (.bl (decide (xs.length=2)&&xs.all (bc (-1000) 1000))) M:=by
 have c:=jP (ds0:=xs) (ge:=fK) (ρ:=[some (.tup xs)]) (f:=fun d=>D.bl (bc (-1000) 1000 d)) (M:=M) xs fun d hd=>by
  simp_arith [fK,cH (h d hd)]
 have l1:xs.length≤sizeLine:=ba (by omega);have bm:=uZ (p:=bc (-1000) 1000) xs;have ai:=Kb (bc (-1000) 1000) xs;have e2:((xs.length:Int)=2)=(xs.length=2):=by simp;omega
 unfold bt eR
 by_cases h2:xs.length=2
 ·have h2':((xs.length:Int)==2)=true:=by simp;omega
  have l2:(2:Nat)≤sizeLine:=ba (by decide);simp_arith [br,aF,c,l1,bm,ai,h2,h2',l2]
 ·have h2':((xs.length:Int)==2)=false:=by simp;omega
  simp_arith [br,aF,c,l1,bm,ai,h2,h2']
theorem Dn {d:D}(h:nw d):kL [d] M=.ok (.bl (bc 0 15 d)) M:=by
 unfold kL sd;simp_arith [cH h]
theorem EG {d:D}(h:nw d):kT [d] M=.ok (.bl (bc 0 63 d)) M:=by
 unfold kT rR;simp_arith [cH h]
theorem Ah {d:D}(h:nw d):jE [d] M=.ok (.bl (bc 0 3 d)) M:=by
 unfold jE qi;simp_arith [cH h]
theorem uW {d:D}(h:nw d):jC [d] M=.ok (.bl (bc 0 3 d)) M:=by
 unfold jC pv;simp_arith [cH h]
noncomputable def za (n:Nat):D→Bool
 | .non=>true
 | d=>bc 0 ((n:Int)-1) d
variable{bk:List D}
theorem vc {d:D}(h:nw d):cF [.tup bk,d] M=.ok (.bl (za bk.length d)) M:=by
 have w:=cH (lo:=0) (hi:=(bk.length:Int)-1) (M:=M) h;obtain⟨t,ht⟩:=h;unfold cF g6;cases d with
 | non=>simp_arith [za]
 | any=>cases ht
 | mr _=>cases ht
 | exc _=>cases ht
 | _=>simp_arith [za,w]
noncomputable def xR:D→Bool
 | .tup xs=>xs.all (bc 0 15)
 | _=>false
noncomputable def mJ:D→Nat
 | .tup xs=>xs.length
 | _=>0
noncomputable def h8 (most:Int):D→Bool
 | .tup rows=>(decide (1≤rows.length)&&decide ((rows.length:Int)≤most))&&(rows.all xR&&((decide (1≤mJ (rows.getD 0 .non))&&decide ((mJ (rows.getD 0 .non):Int)≤most))&&rows.all fun r=>decide (mJ r=mJ (rows.getD 0 .non))))
 | _=>false
noncomputable def dW:Nat→D→Prop
 | 0,d=>nw d
 | n+1,d=>nw d∧∀xs,d=.tup xs→xs.length≤3000∧∀x∈xs,dW n x
theorem dW.down:∀{n:Nat} {d:D},dW (n+1) d→dW n d
 | 0,_,h=>h.1
 | _+1,_,h=>⟨h.1,fun xs e=>⟨(h.2 xs e).1,fun x hx=>((h.2 xs e).2 x hx).down⟩⟩
noncomputable def my:D→Bool
 | .tup _=>true
 | _=>false
theorem vW {d:D}(h:my d=true):∃y,d=.tup y:=by cases d <;> first|exact⟨_,rfl⟩|(cases h)
variable{i:Nat}
theorem jc {d:D}(h:nw d)(hv:ae i ρ M=.ok d M):ej "tuple" (ae i) ρ M=.ok (.bl (my d)) M:=by
 obtain⟨t,ht⟩:=h;unfold ej;rw[hv,aq];cases d <;> first|(simp[EQ,Lj,ya,my];done)|cases ht
theorem A4 {d:D}(h:dW 1 d):lK [d] M=.ok (.bl (xR d)) M:=by
 have g1:=jc (i:=0) (ρ:=[some d]) (M:=M) h.1 rfl;show aP (jf [some d] M)=_;unfold jf;cases d with
 | tup xs=>
  have hx:=h.2 xs rfl;have a:=kE (ge:=iP) (p:=bc 0 15) (jp (i:=0) (ρ:=[some (.tup xs)]) (M:=M) rfl) (by omega) fun x hm=>by
   unfold iP;exact dJ (x:=x) rfl (Dn (hx.2 x hm))
  rw[aR (bP g1 fun _=>a)];rfl
 | _=>rw[aR (bP (y:=false) g1 fun z=>by cases z)];rfl
theorem yx {d:D}(h:dW 2 d):gY [d,.int most] M=.ok (.bl (h8 most d)) M:=by
 have g1:=jc (i:=0) (ρ:=[some d,some (.int most),none]) (M:=M) h.1 rfl;show aP (hZ [some d,some (.int most),none] M)=_;unfold hZ;cases ht:my d with
 | false=>
  rw[ht] at g1;rw[bn ((bK (bE (y:=false) (bF (bM g1)) fun z=>by cases z)).trans rfl)];clear g1;revert h ht;cases d <;> intro h ht <;> first|rfl|(cases ht)
 | true=>
  obtain⟨rows,rfl⟩:=vW ht;have hx:=h.2 rows rfl;have ln:aC aV (aa (ae 0) ag) [some (.tup rows),some (.int most),none] M=.ok (.int rows.length) M:=rfl;have ch:qH mT mT (gC (.int 1)) (aC aV (aa (ae 0) ag)) (ae 1) [some (.tup rows),some (.int most),none] M=.ok (.bl (decide (1≤rows.length)&&decide ((rows.length:Int)≤most))) M:=by
   unfold qH;show((bj.ok (D.int 1) M).bind _)=_;rw[aq,ln,aq];show((bj.ok (D.bl (decide ((1:Int)≤rows.length))) M).bind _)=_;rw[aq]
   by_cases k:1≤rows.length
   ·have k':(1:Int)≤rows.length:=by omega
    rw[decide_eq_true k,decide_eq_true k'];rfl
   ·have k':¬(1:Int)≤rows.length:=by omega
    rw[decide_eq_false k,decide_eq_false k'];rfl
  have t1:=bE (bF (bM g1)) fun _=>bF (aE ch)
  by_cases k:1≤rows.length∧(rows.length:Int)≤most
  ·have hk:(decide (1≤rows.length)&&decide ((rows.length:Int)≤most))=true:=by simp[k.1,k.2]
   rw[hk] at t1;rw[ao ((aS t1).trans rfl)];have a:=kE (ge:=gq) (p:=xR) (jp (i:=0) (ρ:=[some (.tup rows),some (.int most),none]) (M:=M) rfl) (by omega) fun x hm=>by
    unfold gq;exact dJ (x:=x) rfl (A4 (hx.2 x hm))
   cases ha:rows.all xR with
   | false=>
    rw[ha] at a;have e:h8 most (.tup rows)=false:=by simp[h8,ha]
    rw[bn ((bK (bF (bM a))).trans rfl),e];rfl
   | true=>
    rw[ha] at a;rw[ao ((aS (bF (bM a))).trans rfl)];cases rows with
    | nil=>exact absurd k.1 (by simp)
    | cons r0 rs=>
     have hr:=all_eq_true.mp ha;obtain⟨x0,e0⟩:∃x0,r0=.tup x0:=by
      have:=hr r0 mem_cons_self;cases r0 <;> first|exact⟨_,rfl⟩|cases this
     subst e0;have s2:aC aV (aa (g2 aI (ae 0) (gC (.int 0))) ag) [some (.tup (.tup x0::rs)),some (.int most),none] M=.ok (.int x0.length) M:=
      gF (x:=.tup x0) (av rfl rfl (cJ (k:=0) rfl)) rfl
     rw[ao (aT s2)];have b:=kE (ge:=eT) (p:=fun r=>decide (mJ r=x0.length)) (jp (i:=0) (ρ:=[some (.tup (.tup x0::rs)),some (.int most),some (.int x0.length)]) (M:=M) rfl) (by omega) fun x hm=>by
      obtain⟨y,ey⟩:∃y,x=.tup y:=by
       have:=hr x hm;cases x <;> first|exact⟨_,rfl⟩|cases this
      subst ey;unfold eT;refine av (x:=.int y.length) (y:=.int x0.length) rfl rfl ((nD _ _ _).trans ?_);congr 2;exact decide_eq_decide.mpr (by show _↔y.length=_;omega)
     have ch2:qH mT mT (gC (.int 1)) (ae 2) (ae 1) [some (.tup (.tup x0::rs)),some (.int most),some (.int x0.length)] M=.ok (.bl (decide (1≤x0.length)&&decide ((x0.length:Int)≤most))) M:=by
      unfold qH;show((bj.ok (D.int 1) M).bind _)=_;rw[aq];show((bj.ok (D.int x0.length) M).bind _)=_;rw[aq];show((bj.ok (D.bl (decide ((1:Int)≤x0.length))) M).bind _)=_;rw[aq]
      by_cases k:1≤x0.length
      ·have k':(1:Int)≤x0.length:=by omega
       rw[decide_eq_true k,decide_eq_true k'];rfl
      ·have k':¬(1:Int)≤x0.length:=by omega
       rw[decide_eq_false k,decide_eq_false k'];rfl
     have f:=aR (bP ch2 fun _=>b);have e:h8 most (.tup (.tup x0::rs))=((decide (1≤x0.length)&&decide ((x0.length:Int)≤most))&&(D.tup x0::rs).all fun r=>decide (mJ r=x0.length)):=by
      show((decide (1≤(D.tup x0::rs).length)&&decide (((D.tup x0::rs).length:Int)≤most))&&((D.tup x0::rs).all xR&&_))=_;rw[hk,ha];rfl
     rw[e];show aP (aD (cV (qH mT mT (gC (.int 1)) (ae 2) (ae 1)) (aC iY (aa (br (bY (ae 0)) cL eT aZ) ag))) [some (.tup (.tup x0::rs)),some (.int most),some (.int x0.length)] M)=_;rw[f];rfl
  ·have hk:(decide (1≤rows.length)&&decide ((rows.length:Int)≤most))=false:=by
    by_cases k1:1≤rows.length
    ·have:¬(rows.length:Int)≤most:=fun z=>k ⟨k1,z⟩
     simp[this]
    ·simp[k1]
   rw[hk] at t1;have e:h8 most (.tup rows)=false:=by
    show((decide (1≤rows.length)&&decide ((rows.length:Int)≤most))&&_)=false;rw[hk];rfl
   rw[bn ((bK t1).trans rfl),e];rfl
theorem yT {d:D}(h:dW 2 d):nN [d] M=.ok (.bl (h8 8 d)) M:=by
 show aP (lH [some d] M)=_;unfold lH;rw[aR (bp (x:=d) (y:=.int 8) rfl rfl (yx h))];rfl
noncomputable def uy:D→Bool
 | .tup xs=>decide (xs.length≤8)&&xs.all (h8 8)
 | _=>false
theorem BU {d:D}(h:dW 3 d):qu [d] M=.ok (.bl (uy d)) M:=by
 have g1:=jc (i:=0) (ρ:=[some d]) (M:=M) h.1 rfl;show aP (nk [some d] M)=_;unfold nk;cases d with
 | tup xs=>
  have hx:=h.2 xs rfl;have l:g2 mT (aC aV (aa (ae 0) ag)) (gC (.int 8)) [some (.tup xs)] M=.ok (.bl (decide (xs.length≤8))) M:=by
   show bj.ok (D.bl (decide ((xs.length:Int)≤8))) M=_;congr 2;exact decide_eq_decide.mpr (by omega)
  have a:=kE (ge:=lV) (p:=h8 8) (jp (i:=0) (ρ:=[some (.tup xs)]) (M:=M) rfl) (by omega) fun x hm=>by
   unfold lV;exact dJ (x:=x) rfl (yT (hx.2 x hm))
  rw[aR (bP g1 fun _=>bP l fun _=>a)];rfl
 | _=>rw[aR (bP (y:=false) g1 fun z=>by cases z)];rfl
noncomputable def xo:D→Bool
 | .tup xs=>decide (xs.length=2)&&xs.all (bc (-1000) 1000)
 | _=>false
theorem GB {d:D}(h:nw d)(ht:my d=false):bt [d] M=.ok (.bl false) M:=by
 have g1:=jc (i:=0) (ρ:=[some d]) (M:=M) h rfl;rw[ht] at g1;show aP (eR [some d] M)=_;unfold eR;rw[aR (bP (y:=false) g1 fun z=>by cases z)];rfl
theorem A9 {d:D}(h:dW 1 d):bt [d] M=.ok (.bl (xo d)) M:=by
 cases d with
 | tup xs=>exact vZ (fun x hx=>((h.2 xs rfl).2 x hx)) (h.2 xs rfl).1
 | _=>exact GB h.1 rfl
noncomputable def oo (nb:Nat):D→Bool
 | .tup [s,x,y,r,t]=>za nb s&&((bc (-1000) 1000 x&&bc (-1000) 1000 y)&&(bc 0 3 r&&bc 0 3 t))
 | _=>false
theorem yC {d:D}(h:dW 1 d):nO [.tup bk,d] M=.ok (.bl (oo bk.length d)) M:=by
 have g1:=jc (i:=1) (ρ:=[some (.tup bk),some d,none,none,none,none,none]) (M:=M) h.1 rfl;show aP (lQ [some (.tup bk),some d,none,none,none,none,none] M)=_;unfold lQ;cases ht:my d with
 | false=>
  rw[ht] at g1;rw[bn ((bK (bE (y:=false) (bF (bM g1)) fun z=>by cases z)).trans rfl)];clear g1;revert h ht;cases d <;> intro h ht <;> first|rfl|(cases ht)
 | true=>
  obtain⟨xs,rfl⟩:=vW ht;have hx:=h.2 xs rfl;have ne:g2 (aF true) (aC aV (aa (ae 1) ag)) (gC (.int 5)) [some (.tup bk),some (.tup xs),none,none,none,none,none] M=.ok (.bl (!decide ((xs.length:Int)=5))) M:=av (x:=.int xs.length) (y:=.int 5) rfl rfl (nJ _ _ _);have t1:=bE (bF (bM g1)) fun _=>aE ne
  match xs,hx,t1 with
  | [s,x,y,r,t],hx,t1=>
   rw[ao ((aS t1).trans rfl)];have q:∀z∈[s,x,y,r,t],nw z:=fun z hz=>hx.2 z hz
   have k1:=vc (bk:=bk) (M:=M) (q s (by simp));have k2:=vZ (xs:=[x,y]) (M:=M) (fun z hz=>q z (by rcases mem_cons.mp hz with h|h <;> simp_all)) (by simp);have k3:=Ah (M:=M) (q r (by simp));have k4:=uW (M:=M) (q t (by simp));have two:(2:Nat)≤sizeLine:=ba (by decide);have asg:dC (bJ [2,3,4,5,6]) (ae 1) [some (.tup bk),some (.tup [s,x,y,r,t]),none,none,none,none,none] M=.ok (.nx [some (.tup bk),some (.tup [s,x,y,r,t]),some s,some x,some y,some r,some t]) M:=rfl;rw[ao asg];have tp2:bb (aa (ae 3) (aa (ae 4) ag)) [some (.tup bk),some (.tup [s,x,y,r,t]),some s,some x,some y,some r,some t] M=.ok (.tup [x,y]) M:=by
    show(if [x,y].length≤sizeLine then bj.ok (D.tup [x,y]) M else .bad)=_;rw[if_pos (show [x,y].length≤sizeLine from two)]
   rw[aR (bP (bp (x:=.tup bk) (y:=s) rfl rfl k1) fun _=>bP (dJ tp2 k2) fun _=>bP (dJ (x:=r) rfl k3) fun _=>dJ (x:=t) rfl k4)];show bj.ok (D.bl _) M=_;unfold oo;simp
  | [],_,t1=>rw[bn ((bK t1).trans rfl)];rfl
  | [_],_,t1=>rw[bn ((bK t1).trans rfl)];rfl
  | [_,_],_,t1=>rw[bn ((bK t1).trans rfl)];rfl
  | [_,_,_],_,t1=>rw[bn ((bK t1).trans rfl)];rfl
  | [_,_,_,_],_,t1=>rw[bn ((bK t1).trans rfl)];rfl
  | _::_::_::_::_::_::r,_,t1=>
   have z:(!decide (((r.length+1+1+1+1+1+1:Nat):Int)=5))=true:=by simp;omega
   simp only[length_cons] at t1;rw[z] at t1;rw[bn ((bK t1).trans rfl)];rfl
noncomputable def o9 (nb:Nat):D→Bool
 | .tup xs=>decide (xs.length≤12)&&xs.all (oo nb)
 | _=>false
theorem wj {d:D}(h:dW 2 d):lC [.tup bk,d] M=.ok (.bl (o9 bk.length d)) M:=by
 have g1:=jc (i:=1) (ρ:=[some (.tup bk),some d]) (M:=M) h.1 rfl;show aP (jw [some (.tup bk),some d] M)=_;unfold jw;cases d with
 | tup xs=>
  have hx:=h.2 xs rfl;have l:g2 mT (aC aV (aa (ae 1) ag)) (gC (.int 12)) [some (.tup bk),some (.tup xs)] M=.ok (.bl (decide (xs.length≤12))) M:=by
   show bj.ok (D.bl (decide ((xs.length:Int)≤12))) M=_;congr 2;exact decide_eq_decide.mpr (by omega)
  have a:=kE (ge:=iJ) (p:=oo bk.length) (jp (i:=1) (ρ:=[some (.tup bk),some (.tup xs)]) (M:=M) rfl) (by omega) fun x hm=>by
   unfold iJ;exact bp (x:=.tup bk) (y:=x) rfl rfl (yC (hx.2 x hm))
  rw[aR (bP g1 fun _=>bP l fun _=>a)];rfl
 | _=>rw[aR (bP (y:=false) g1 fun z=>by cases z)];rfl
noncomputable def xq:D→Bool
 | .tup xs=>decide (xs.length=16)&&xs.all (bc 0 63)
 | _=>false
theorem zY {d:D}(h:dW 1 d):oj [d] M=.ok (.bl (xq d)) M:=by
 have g1:=jc (i:=0) (ρ:=[some d]) (M:=M) h.1 rfl;show aP (k8 [some d] M)=_;unfold k8;cases d with
 | tup xs=>
  have hx:=h.2 xs rfl;have l:g2 (aF false) (aC aV (aa (ae 0) ag)) (gC (.int 16)) [some (.tup xs)] M=.ok (.bl (decide (xs.length=16))) M:=by
   refine(av (x:=.int xs.length) (y:=.int 16) rfl rfl (nD _ _ _)).trans ?_;congr 2;exact decide_eq_decide.mpr (by omega)
  have a:=kE (ge:=kA) (p:=bc 0 63) (jp (i:=0) (ρ:=[some (.tup xs)]) (M:=M) rfl) (by omega) fun x hm=>by
   unfold kA;exact dJ (x:=x) rfl (EG (hx.2 x hm))
  rw[aR (bP g1 fun _=>bP l fun _=>a)];rfl
 | _=>rw[aR (bP (y:=false) g1 fun z=>by cases z)];rfl
noncomputable def kZ:D→Bool
 | .tup [f,s,b,m,p]=>(h8 16 f&&(xo s&&xq p))&&(uy b&&o9 (mJ b) m)
 | _=>false
theorem BM {d:D}(h:uy d=true):∃b,d=.tup b:=by
 cases d <;> first|exact⟨_,rfl⟩|cases h
theorem zR {d:D}(h:dW 4 d):nX [d] M=.ok (.bl (kZ d)) M:=by
 have g1:=jc (i:=0) (ρ:=[some d,none,none,none,none,none]) (M:=M) h.1 rfl;show aP (lE [some d,none,none,none,none,none] M)=_;unfold lE;cases ht:my d with
 | false=>
  rw[ht] at g1;rw[bn ((bK (bE (y:=false) (bF (bM g1)) fun z=>by cases z)).trans rfl)];clear g1;revert h ht;cases d <;> intro h ht <;> first|rfl|(cases ht)
 | true=>
  obtain⟨xs,rfl⟩:=vW ht;have hx:=h.2 xs rfl;have ne:g2 (aF true) (aC aV (aa (ae 0) ag)) (gC (.int 5)) [some (.tup xs),none,none,none,none,none] M=.ok (.bl (!decide ((xs.length:Int)=5))) M:=av (x:=.int xs.length) (y:=.int 5) rfl rfl (nJ _ _ _);have t1:=bE (bF (bM g1)) fun _=>aE ne
  match xs,hx,t1 with
  | [f,s,b,m,p],hx,t1=>
   rw[ao ((aS t1).trans rfl)];have q:∀z∈[f,s,b,m,p],dW 3 z:=fun z hz=>hx.2 z hz
   have k1:=yx (most:=16) (M:=M) (q f (by simp)).down;have k2:=A9 (M:=M) (q s (by simp)).down.down;have k3:=zY (M:=M) (q p (by simp)).down.down;have k4:=BU (M:=M) (q b (by simp));have asg:dC (bJ [1,2,3,4,5]) (ae 0) [some (.tup [f,s,b,m,p]),none,none,none,none,none] M=.ok (.nx [some (.tup [f,s,b,m,p]),some f,some s,some b,some m,some p]) M:=rfl;rw[ao asg];have t2:=bF (cQ (bM (bp (ρ:=[some (.tup [f,s,b,m,p]),some f,some s,some b,some m,some p]) (a:=ae 1) (b:=gC (.int 16)) rfl rfl k1)) fun _=>cQ (bM (dJ (a:=ae 2) rfl k2)) fun _=>bM (dJ (a:=ae 5) rfl k3));cases hk:(h8 16 f&&(xo s&&xq p)) with
   | false=>
    rw[hk] at t2;rw[bn ((bK t2).trans rfl)];have e:kZ (.tup [f,s,b,m,p])=false:=by
     simp[kZ,hk]
    rw[e];rfl
   | true=>
    rw[hk] at t2;rw[ao ((aS t2).trans rfl)];cases hb:uy b with
    | false=>
     rw[hb] at k4;rw[aR (bP (y:=false) (dJ (a:=ae 3) rfl k4) fun z=>by cases z)];have e:kZ (.tup [f,s,b,m,p])=false:=by
      simp[kZ,hb]
     rw[e];rfl
    | true=>
     obtain⟨bs,rfl⟩:=BM hb;have k5:=wj (bk:=bs) (M:=M) (q m (by simp)).down;rw[hb] at k4;rw[aR (bP (dJ (a:=ae 3) rfl k4) fun _=>bp (a:=ae 3) (b:=ae 4) rfl rfl k5)];have e:kZ (.tup [f,s,.tup bs,m,p])=o9 bs.length m:=by
      simp[kZ,hk,hb,mJ]
     rw[e];rfl
  | [],_,t1=>rw[bn ((bK t1).trans rfl)];rfl
  | [_],_,t1=>rw[bn ((bK t1).trans rfl)];rfl
  | [_,_],_,t1=>rw[bn ((bK t1).trans rfl)];rfl
  | [_,_,_],_,t1=>rw[bn ((bK t1).trans rfl)];rfl
  | [_,_,_,_],_,t1=>rw[bn ((bK t1).trans rfl)];rfl
  | _::_::_::_::_::_::r,_,t1=>
   have z:(!decide (((r.length+1+1+1+1+1+1:Nat):Int)=5))=true:=by simp;omega
   simp only[length_cons] at t1;rw[z] at t1;rw[bn ((bK t1).trans rfl)];rfl
theorem bA {i:Int}(h:lo≤i∧i≤hi):bc lo hi (.int i)=true:=by simp[bc,h.1,h.2]
theorem sR {r:List Int}(h:∀k∈r,lo≤k∧k≤hi):(r.map D.int).all (bc lo hi)=true:=by
 rw[all_map];exact all_eq_true.mpr fun k hk=>bA (h k hk)
theorem rQ (h:o4 most rs):h8 most (aO rs)=true:=by
 obtain⟨h1,h2,w,h3,h4,h5⟩:=h;have hr:∀r∈rs.map fun r=>D.tup (r.map D.int),xR r=true∧mJ r=w:=fun r hr=>by
  obtain⟨q,hq,rfl⟩:=mem_map.mp hr;exact⟨sR (h5 q hq).2,by show(q.map D.int).length=w;rw[length_map];exact(h5 q hq).1⟩
 have l:(rs.map fun r=>D.tup (r.map D.int)).length=rs.length:=length_map ..;unfold aO;generalize (rs.map fun r=>D.tup (r.map D.int))=ds at *;cases ds with
 | nil=>simp at l;omega
 | cons d0 dr=>
  have e0:=(hr d0 mem_cons_self).2;show((decide (1≤(d0::dr).length)&&decide (((d0::dr).length:Int)≤most))&&((d0::dr).all xR&&((decide (1≤mJ d0)&&decide ((mJ d0:Int)≤most))&&(d0::dr).all fun r=>decide (mJ r=mJ d0))))=true;have a1:(d0::dr).all xR=true:=all_eq_true.mpr fun r h=>(hr r h).1
  have a2:((d0::dr).all fun r=>decide (mJ r=mJ d0))=true:=all_eq_true.mpr fun r h=>decide_eq_true (by rw[(hr r h).2,e0])
  rw[a1,a2,e0,l];simp[h1,h2,h3,h4]
theorem dW.int {i:Int}:dW n (.int i):=by
 cases n with
 | zero=>exact⟨_,rfl⟩
 | succ n=>exact⟨⟨_,rfl⟩,fun xs e=>by cases e⟩
theorem dW.tup (hl:xs.length≤3000)(h:∀x∈xs,dW n x):dW (n+1) (.tup xs):=
 ⟨⟨_,rfl⟩,fun ys e=>by cases e;exact⟨hl,h⟩⟩
theorem u6 (hm:most≤3000)(h:o4 most rs):dW (n+2) (aO rs):=by
 obtain⟨h1,h2,w,h3,h4,h5⟩:=h;refine dW.tup (by rw[length_map];omega) fun x hx=>?_
 obtain⟨r,hr,rfl⟩:=mem_map.mp hx;refine dW.tup (by rw[length_map,(h5 r hr).1];omega) fun x hx=>?_
 obtain⟨k,_,rfl⟩:=mem_map.mp hx;exact dW.int
theorem zV (m:Mv):dW (n+1) m.d:=by
 refine dW.tup (by simp) fun x hx=>?_
 have hx:x∈[(match m.shape with|some k=>D.int k|none=>.non),.int m.x,.int m.y,.int m.rank,.int m.turn]:=hx;simp only[mem_cons,not_mem_nil,or_false] at hx;rcases hx with rfl|rfl|rfl|rfl|rfl
 ·cases m.shape with
  | some k=>exact dW.int
  | none=>
   cases n with
   | zero=>exact⟨_,rfl⟩
   | succ n=>exact⟨⟨_,rfl⟩,fun xs e=>by cases e⟩
 all_goals exact dW.int
theorem rV (ok:ck mm s)(hm:mm≤900):dW 4 s.d:=by
 refine dW.tup (by simp) fun x hx=>?_
 have hx:x∈[aO s.floor,.tup [.int s.sx,.int s.sy],.tup (s.book.map aO),.tup (s.movers.map Mv.d),.tup (s.pots.map D.int)]:=hx;simp only[mem_cons,not_mem_nil,or_false] at hx;rcases hx with rfl|rfl|rfl|rfl|rfl
 ·exact u6 (by decide) ok.floor
 ·refine dW.tup (by simp) fun x hx=>?_
  simp only[mem_cons,not_mem_nil,or_false] at hx;rcases hx with rfl|rfl <;> exact dW.int
 ·refine dW.tup (by rw[length_map];have:=ok.bl;omega) fun x hx=>?_
  obtain⟨b,hb,rfl⟩:=mem_map.mp hx;exact u6 (by decide) (ok.book b hb)
 ·refine dW.tup (by rw[length_map];have:=ok.ml;omega) fun x hx=>?_
  obtain⟨m,_,rfl⟩:=mem_map.mp hx;exact zV m
 ·refine dW.tup (by rw[length_map];have:=ok.pl;omega) fun x hx=>?_
  obtain⟨k,_,rfl⟩:=mem_map.mp hx;exact dW.int
theorem Cp {m:Mv}(h:zD n m):oo n m.d=true:=by
 have e:za n (match m.shape with|some k=>D.int k|none=>.non)=true:=by
  cases hs:m.shape with
  | none=>rfl
  | some k=>
   have:=h.s k hs;exact bA (lo:=0) (hi:=(n:Int)-1) (i:=(k:Int)) ⟨by omega,by omega⟩
 show(za n (match m.shape with|some k=>D.int k|none=>.non)&&_)=true;rw[e,bA h.x,bA h.y,bA h.r,bA h.t];rfl
theorem rW (ok:ck mm s)(hm:mm≤12):kZ s.d=true:=by
 have f:=rQ ok.floor;have p:xo (.tup [.int s.sx,.int s.sy])=true:=by
  show(true&&([D.int s.sx,.int s.sy].all (bc (-1000) 1000)))=true;simp[bA ok.sx,bA ok.sy]
 have po:xq (.tup (s.pots.map D.int))=true:=by
  show(decide ((s.pots.map D.int).length=16)&&(s.pots.map D.int).all (bc 0 63))=true;rw[sR ok.pots,length_map,ok.pl];rfl
 have b:uy (.tup (s.book.map aO))=true:=by
  show(decide ((s.book.map aO).length≤8)&&(s.book.map aO).all (h8 8))=true;have:(s.book.map aO).all (h8 8)=true:=all_eq_true.mpr fun x hx=>by
   obtain⟨q,hq,rfl⟩:=mem_map.mp hx;exact rQ (ok.book q hq)
  rw[this,length_map];simp[ok.bl]
 have m:o9 (mJ (.tup (s.book.map aO))) (.tup (s.movers.map Mv.d))=true:=by
  show(decide ((s.movers.map Mv.d).length≤12)&&(s.movers.map Mv.d).all (oo (s.book.map aO).length))=true;have:(s.movers.map Mv.d).all (oo (s.book.map aO).length)=true:=all_eq_true.mpr fun x hx=>by
   obtain⟨q,hq,rfl⟩:=mem_map.mp hx;rw[length_map];exact Cp (ok.movers q hq)
  have l:s.movers.length≤12:=by have:=ok.ml;omega
  rw[this,length_map];simp[l]
 show((h8 16 (aO s.floor)&&(xo (.tup [.int s.sx,.int s.sy])&&xq (.tup (s.pots.map D.int))))&&(uy (.tup (s.book.map aO))&&o9 (mJ (.tup (s.book.map aO))) (.tup (s.movers.map Mv.d))))=true;rw[f,p,po,b,m];rfl
noncomputable def zu:D→Bool
 | .tup [w,h,g,m]=>bc 1 40 w&&(bc 1 40 h&&(bc 0 20 g&&bc 0 12 m))
 | _=>false
theorem zA {d:D}(h:dW 1 d):nM [d] M=.ok (.bl (zu d)) M:=by
 have g1:=jc (i:=0) (ρ:=[some d,none,none,none,none]) (M:=M) h.1 rfl;show aP (lI [some d,none,none,none,none] M)=_;unfold lI;cases ht:my d with
 | false=>
  rw[ht] at g1;rw[bn ((bK (bE (y:=false) (bF (bM g1)) fun z=>by cases z)).trans rfl)];clear g1;revert h ht;cases d <;> intro h ht <;> first|rfl|(cases ht)
 | true=>
  obtain⟨xs,rfl⟩:=vW ht;have hx:=h.2 xs rfl;have ne:g2 (aF true) (aC aV (aa (ae 0) ag)) (gC (.int 4)) [some (.tup xs),none,none,none,none] M=.ok (.bl (!decide ((xs.length:Int)=4))) M:=av (x:=.int xs.length) (y:=.int 4) rfl rfl (nJ _ _ _);have t1:=bE (bF (bM g1)) fun _=>aE ne
  match xs,hx,t1 with
  | [w,h,g,m],hx,t1=>
   rw[ao ((aS t1).trans rfl)];have q:∀z∈[w,h,g,m],nw z:=fun z hz=>hx.2 z hz
   have k1:=cH (lo:=1) (hi:=40) (M:=M) (q w (by simp));have k2:=cH (lo:=1) (hi:=40) (M:=M) (q h (by simp));have k3:=cH (lo:=0) (hi:=20) (M:=M) (q g (by simp));have k4:=cH (lo:=0) (hi:=12) (M:=M) (q m (by simp));have asg:dC (bJ [1,2,3,4]) (ae 0) [some (.tup [w,h,g,m]),none,none,none,none] M=.ok (.nx [some (.tup [w,h,g,m]),some w,some h,some g,some m]) M:=rfl;rw[ao asg];rw[aR (bP (ce (x:=w) (y:=.int 1) (z:=.int 40) rfl rfl rfl k1) fun _=>bP (ce (x:=h) (y:=.int 1) (z:=.int 40) rfl rfl rfl k2) fun _=>bP (ce (x:=g) (y:=.int 0) (z:=.int 20) rfl rfl rfl k3) fun _=>ce (x:=m) (y:=.int 0) (z:=.int 12) rfl rfl rfl k4)];rfl
  | [],_,t1=>rw[bn ((bK t1).trans rfl)];rfl
  | [_],_,t1=>rw[bn ((bK t1).trans rfl)];rfl
  | [_,_],_,t1=>rw[bn ((bK t1).trans rfl)];rfl
  | [_,_,_],_,t1=>rw[bn ((bK t1).trans rfl)];rfl
  | _::_::_::_::_::r,_,t1=>
   have z:(!decide (((r.length+1+1+1+1+1:Nat):Int)=4))=true:=by simp;omega
   simp only[length_cons] at t1;rw[z] at t1;rw[bn ((bK t1).trans rfl)];rfl
structure fD (w h g m:Int):Prop where
 w:1≤w∧w≤40
 h:1≤h∧h≤40
 g:0≤g∧g≤20
 m:0≤m∧m≤12
noncomputable def aL (w h g m:Int):D:=.tup [.int w,.int h,.int g,.int m]
variable{h:Int}
theorem sH {w:Int}(k:fD w h g m):zu (aL w h g m)=true:=by
 show(bc 1 40 (.int w)&&(bc 1 40 (.int h)&&(bc 0 20 (.int g)&&bc 0 12 (.int m))))=true;rw[bA k.w,bA k.h,bA k.g,bA k.m];rfl
theorem nV {w:Int}:dW (n+1) (aL w h g m):=by
 refine dW.tup (by simp) fun x hx=>?_
 simp only[mem_cons,not_mem_nil,or_false] at hx;rcases hx with rfl|rfl|rfl|rfl <;> exact dW.int
theorem rG {f s:D}(hf:dW 1 f)(hs:dW 4 s)(bf:zu f=true)(bs:kZ s=true):bV [f,s] M=.ok .non M:=by
 have k1:=zA (M:=M) hf;have k2:=zR (M:=M) hs;rw[bf] at k1;rw[bs] at k2;show aP (iQ [some f,some s] M)=_;unfold iQ;rw[ao ((aS (bF (bM (dJ (a:=ae 0) rfl k1)))).trans rfl),aS (bF (bM (dJ (a:=ae 1) rfl k2)))];rfl
theorem Dz (xs:List D)(k:Nat):jQ xs (some (k:Int)) none=xs.drop k:=by
 unfold jQ;rw[HT.sIx_nat,HT.sIx_none]
 by_cases h:k≤xs.length
 ·rw[Nat.min_eq_left h];exact take_of_length_le (by simp)
 ·rw[Nat.min_eq_right (by omega),drop_eq_nil_of_le (Nat.le_refl _),drop_eq_nil_of_le (by omega),take_nil]
theorem EA (xs:List D)(k:Nat):jQ xs none (some (k:Int))=xs.take k:=by
 unfold jQ;rw[HT.sIx_nat,HT.sIx_none,drop_zero,Nat.sub_zero]
 by_cases h:k≤xs.length
 ·rw[Nat.min_eq_left h]
 ·rw[Nat.min_eq_right (by omega),take_of_length_le (Nat.le_refl _),take_of_length_le (by omega)]
inductive Dd where
 | shift (x y:Int)|pot (k h:Int)|move (i:Nat) (x y:Int)|shape (i:Nat) (o:Option Nat)|rank (i:Nat) (r:Int)|turn (i:Nat) (t:Int)
noncomputable def nU (o:Option Nat):D:=match o with|some k=>.int k|none=>.non
noncomputable def Dd.d:Dd→D
 | .shift x y=>.tup [.str "shift",.int x,.int y]
 | .pot k h=>.tup [.str "pot",.int k,.int h]
 | .move i x y=>.tup [.str "move",.int i,.int x,.int y]
 | .shape i o=>.tup [.str "shape",.int i,nU o]
 | .rank i r=>.tup [.str "rank",.int i,.int r]
 | .turn i t=>.tup [.str "turn",.int i,.int t]
noncomputable def iW (s:cS):Dd→Prop
 | .shift x y=>(-1000≤x∧x≤1000)∧(-1000≤y∧y≤1000)
 | .pot k h=>(0≤k∧k≤15)∧(0≤h∧h≤63)
 | .move i x y=>i<s.movers.length∧(-1000≤x∧x≤1000)∧(-1000≤y∧y≤1000)
 | .shape i o=>i<s.movers.length∧∀k,o=some k→k<s.book.length
 | .rank i r=>i<s.movers.length∧(0≤r∧r≤3)
 | .turn i t=>i<s.movers.length∧(0≤t∧t≤3)
noncomputable def i9 (s:cS)(i:Nat)(f:Mv→Mv):cS:=match s.movers[i]? with
 | some m=>{s with movers:=s.movers.set i (f m)}
 | none=>s
noncomputable def fJ (s:cS):Dd→cS
 | .shift x y=>{s with sx:=x,sy:=y}
 | .pot k h=>{s with pots:=s.pots.set k.toNat h}
 | .move i x y=>i9 s i fun m=>{m with x:=x,y:=y}
 | .shape i o=>i9 s i fun m=>{m with shape:=o}
 | .rank i r=>i9 s i fun m=>{m with rank:=r}
 | .turn i t=>i9 s i fun m=>{m with turn:=t}
theorem yh (x:Int):nw (.int x):=⟨_,rfl⟩
theorem wB (h:lo≤x∧x≤hi):bc lo hi (.int x)=true:=by
 show(decide (lo≤x)&&decide (x≤hi))=true;rw[decide_eq_true h.1,decide_eq_true h.2];rfl
theorem Ar (hx:-1000≤x∧x≤1000)(hy:-1000≤y∧y≤1000):bt [.tup [.int x,.int y]] M=.ok (.bl true) M:=by
 rw[vZ (xs:=[.int x,.int y]) (fun d hd=>by
  rcases mem_cons.mp hd with e|e
  ·rw[e];exact yh x
  ·rw[mem_singleton.mp e];exact yh y) (by simp)]
 rw[all_cons,all_cons,wB hx,wB hy];rfl
variable{r:List D}{o:bj Fl}
theorem As {w:Str}(hi:i<s.movers.length)
  (h:ar (bL (az (g2 (aF false) (ae 1) (gC (.str "move")))) (aD (aj 1 bt (aa (oA (ae 2) (dh (gC (.int 1))) bG) ag))) aA) (ar (bL (az (g2 (aF true) (aC aV (aa (ae 2) ag)) (gC (.int 2)))) (aD (gC (.bl false))) aA) (ar (bL (az (g2 (aF false) (ae 1) (gC (.str "shape")))) (aD (aj 2 cF (aa (ae 5) (aa (g2 aI (ae 2) (gC (.int 1))) ag)))) aA) (ar (bL (az (g2 (aF false) (ae 1) (gC (.str "rank")))) (aD (aj 1 jE (aa (g2 aI (ae 2) (gC (.int 1))) ag))) aA) (aD (cV (g2 (aF false) (ae 1) (gC (.str "turn"))) (aj 1 jC (aa (g2 aI (ae 2) (gC (.int 1))) ag)))))))
   [some s.d,some (.str w),some (.tup (.int i::r)),some (aO s.floor),some (.tup [.int s.sx,.int s.sy]),some (.tup (s.book.map aO)),some (.tup (s.movers.map Mv.d)),some (.tup (s.pots.map D.int))] M=o) :
  f7 [s.d,.str w,.tup (.int i::r)] M=aP o:=by
 show aP (fY [some s.d,some (.str w),some (.tup (.int i::r)),none,none,none,none,none] M)=_;unfold fY;rw[ao (show dC (bJ [3,4,5,6,7]) (ae 0) [some s.d,some (.str w),some (.tup (.int i::r)),none,none,none,none,none] M=.ok (.nx [some s.d,some (.str w),some (.tup (.int i::r)),some (aO s.floor),some (.tup [.int s.sx,.int s.sy]),some (.tup (s.book.map aO)),some (.tup (s.movers.map Mv.d)),some (.tup (s.pots.map D.int))]) M from rfl)];have ln:aC aV (aa (ae 6) ag) [some s.d,some (.str w),some (.tup (.int i::r)),some (aO s.floor),some (.tup [.int s.sx,.int s.sy]),some (.tup (s.book.map aO)),some (.tup (s.movers.map Mv.d)),some (.tup (s.pots.map D.int))] M=.ok (.int (s.movers.length:Int)) M:=by
  refine gF (a:=ae 6) (x:=.tup (s.movers.map Mv.d)) rfl ?_;show bj.ok (D.int ((s.movers.map Mv.d).length:Int)) M=_;rw[length_map]
 have w1:=cH (lo:=0) (hi:=(s.movers.length:Int)-1) (M:=M) (yh i);rw[wB ⟨by omega,by omega⟩] at w1;rw[ao ((aS (bF (bM (ce (b:=gC (.int 0)) (av (f:=aI) (a:=ae 2) (b:=gC (.int 0)) (x:=.tup (.int i::r)) (y:=.int 0) rfl rfl (cJ (k:=0) rfl)) rfl (av (f:=eE) ln (b:=gC (.int 1)) (y:=.int 1) rfl rfl) w1)))).trans rfl),h]
theorem PV {w v:Str}{b:Bool}{M:aB}(k:(PyData.strOk w&&PyData.strOk v&&(decide (w=v)==b))=true:=by decide +kernel):aF false (.str w) (.str v) M=.ok (.bl b) M:=by
 obtain⟨k1,k3⟩:=Bool.and_eq_true_iff.mp k;obtain⟨k1,k2⟩:=Bool.and_eq_true_iff.mp k1;have k3:=beq_iff_eq.mp k3;subst k3;have c:∀x:Str,PyData.strOk x=true→aG 40 (.str x)=true:=fun x h=>by simpa using h
 unfold aF;show(if(aG 40 (.str w)&&aG 40 (.str v))=true then bj.ok (D.bl (gk (.str w) (.str v) != false)) M else .bad)=_;rw[c w k1,c v k2,if_pos (by rfl)];have e:gk (.str w) (.str v)=decide (w=v):=by rw[Bool.eq_iff_iff];simp[gk]
 rw[e,Bool.bne_false]
theorem tW {w v:Str}{b:Bool}{M:aB}(h:ρ[n]?=some (some (.str w)))(k:(PyData.strOk w&&PyData.strOk v&&(decide (w=v)==b))=true:=by decide +kernel):az (g2 (aF false) (ae n) (gC (.str v))) ρ M=.ok b M:=by
 refine aE (av (x:=.str w) (y:=.str v) (M1:=M) (M2:=M) ?_ rfl (PV k));unfold ae;rw[h]
noncomputable def HL:GS:=(ar (bL (az (g2 (aF false) (ae 2) (gC (.str "shift")))) (aD (aj 1 bt (aa (ae 3) ag))) aA) (ar (bL (az (g2 (aF false) (ae 2) (gC (.str "pot")))) (aD (cV (g2 (aF false) (aC aV (aa (ae 3) ag)) (gC (.int 2))) (cV (aj 1 kL (aa (g2 aI (ae 3) (gC (.int 0))) ag)) (aj 1 kT (aa (g2 aI (ae 3) (gC (.int 1))) ag))))) aA) (aD (aj 3 f7 (aa (ae 0) (aa (ae 2) (aa (ae 3) ag)))))))
variable{a:D}
theorem Dt {s:D}{w:Str}{b:D}:cu [s,.tup [.str w,a,b]] M=aP (HL [some s,some (.tup [.str w,a,b]),some (.str w),some (.tup [a,b])] M):=rfl
theorem O4 {s:D}{w:Str}{b c:D}:cu [s,.tup [.str w,a,b,c]] M=aP (HL [some s,some (.tup [.str w,a,b,c]),some (.str w),some (.tup [a,b,c])] M):=rfl
theorem Ja {o:Option Nat}(h:∀k,o=some k→k<n):za n (nU o)=true:=by
 cases o with
 | none=>rfl
 | some k=>
  have:=h k rfl;show(decide ((0:Int)≤(k:Int))&&decide ((k:Int)≤(n:Int)-1))=true;rw[decide_eq_true (by omega),decide_eq_true (by omega)];rfl
theorem JY (o:Option Nat):nw (nU o):=by cases o <;> exact⟨_,rfl⟩
variable{dd:Dd}
theorem p7 (h:iW s dd):cu [s.d,dd.d] M=.ok (.bl true) M:=by
 cases dd with
 | shift x y=>
  show cu [s.d,.tup [.str "shift",.int x,.int y]] M=_;rw[Dt];unfold HL;rw[bn ((bK (tW rfl)).trans (aR (dJ (a:=ae 3) rfl (Ar h.1 h.2))))];rfl
 | pot k hu=>
  have k1:=Dn (M:=M) (yh k);have k2:=EG (M:=M) (yh hu);rw[wB h.1] at k1;rw[wB h.2] at k2;show cu [s.d,.tup [.str "pot",.int k,.int hu]] M=_;rw[Dt];unfold HL;rw[ao ((aS (tW rfl)).trans rfl),bn ((bK (tW rfl)).trans (aR (bP (x:=true) (y:=true) rfl fun _=>bP (x:=true) (y:=true) (dJ (a:=g2 aI (ae 3) (gC (.int 0))) rfl k1) fun _=>dJ (a:=g2 aI (ae 3) (gC (.int 1))) rfl k2)))];rfl
 | move i x y=>
  have md:=As (s:=s) (w:="move") (r:=[.int x,.int y]) (M:=M) h.1 (bn ((bK (tW rfl)).trans (aR (dJ (a:=oA (ae 2) (dh (gC (.int 1))) bG) (x:=.tup [.int x,.int y]) rfl (Ar h.2.1 h.2.2)))));show cu [s.d,.tup [.str "move",.int i,.int x,.int y]] M=_;rw[O4];unfold HL;rw[ao ((aS (tW rfl)).trans rfl),ao ((aS (tW rfl)).trans rfl),aR (ce (a:=ae 0) (b:=ae 2) (c:=ae 3) rfl rfl rfl md)];rfl
 | shape i o=>
  have nn:=vc (bk:=s.book.map aO) (M:=M) (JY o);rw[length_map,Ja h.2] at nn;have md:=As (s:=s) (w:="shape") (r:=[nU o]) (M:=M) h.1 ((ao ((aS (tW rfl)).trans rfl)).trans ((ao ((aS (M1:=M) rfl).trans rfl)).trans (bn ((bK (tW rfl)).trans (aR (bp (a:=ae 5) (b:=g2 aI (ae 2) (gC (.int 1))) (y:=nU o) rfl rfl nn))))));show cu [s.d,.tup [.str "shape",.int i,nU o]] M=_;rw[Dt];unfold HL;rw[ao ((aS (tW rfl)).trans rfl),ao ((aS (tW rfl)).trans rfl),aR (ce (a:=ae 0) (b:=ae 2) (c:=ae 3) rfl rfl rfl md)];rfl
 | rank i r=>
  have nn:=Ah (M:=M) (yh r);rw[wB h.2] at nn;have md:=As (s:=s) (w:="rank") (r:=[.int r]) (M:=M) h.1 ((ao ((aS (tW rfl)).trans rfl)).trans ((ao ((aS (M1:=M) rfl).trans rfl)).trans ((ao ((aS (tW rfl)).trans rfl)).trans (bn ((bK (tW rfl)).trans (aR (dJ (a:=g2 aI (ae 2) (gC (.int 1))) (x:=.int r) rfl nn)))))));show cu [s.d,.tup [.str "rank",.int i,.int r]] M=_;rw[Dt];unfold HL;rw[ao ((aS (tW rfl)).trans rfl),ao ((aS (tW rfl)).trans rfl),aR (ce (a:=ae 0) (b:=ae 2) (c:=ae 3) rfl rfl rfl md)];rfl
 | turn i r=>
  have nn:=uW (M:=M) (yh r);rw[wB h.2] at nn;have md:=As (s:=s) (w:="turn") (r:=[.int r]) (M:=M) h.1 ((ao ((aS (tW rfl)).trans rfl)).trans ((ao ((aS (M1:=M) rfl).trans rfl)).trans ((ao ((aS (tW rfl)).trans rfl)).trans ((ao ((aS (tW rfl)).trans rfl)).trans (aR (bP (x:=true) (y:=true) (av (a:=ae 1) (b:=gC (.str "turn")) (x:=.str "turn") (y:=.str "turn") rfl rfl PV) fun _=>dJ (a:=g2 aI (ae 2) (gC (.int 1))) (x:=.int r) rfl nn))))));show cu [s.d,.tup [.str "turn",.int i,.int r]] M=_;rw[Dt];unfold HL;rw[ao ((aS (tW rfl)).trans rfl),ao ((aS (tW rfl)).trans rfl),aR (ce (a:=ae 0) (b:=ae 2) (c:=ae 3) rfl rfl rfl md)];rfl
theorem BP (m:Mv):m.d=.tup [nU m.shape,.int m.x,.int m.y,.int m.rank,.int m.turn]:=by
 unfold Mv.d nU;cases m.shape <;> rfl
theorem FT {i:Int}(M:aB):iV (.int i) (.int 2) M=.ok (.int (i % 2)) M:=by
 simp_arith [show Nat.log2 2<9000 by decide]
theorem yM {w:Int}(ok:ck mm s)(hm:mm≤900)(hw:0≤w∧w≤900)(hh2:0≤hh∧hh≤900)(hM:dU l rest M) :
  ∃dd M',iW s dd∧dU l rest M'∧ke [.mr 0,.tup (.int w::.int hh::more),s.d] M=.ok dd.d M':=by
 obtain⟨way,M1,a1,b1,t1,e1⟩:=bg (many:=8) (by decide) (aN (by decide) (by decide)) hM;have ml:=ok.ml;have cm:cr 39 (s.movers.map Mv.d)=true:=iB fun d hd=>by
  obtain⟨m,_,rfl⟩:=mem_map.mp hd;rw[BP];have:aG 38 (nU m.shape)=true:=by cases m.shape <;> rfl
  simp[this]
 have en:gk (.tup (s.movers.map Mv.d)) (.tup [])=decide (s.movers=[]):=by
  cases s.movers <;> simp
 have tq:az (g2 (aF false) (g2 aI (ae 2) (gC (.int 3))) (bb ag)) [some (.mr 0),some (.tup (.int w::.int hh::more)),some s.d,some (.int way),none,none,none] M1=.ok (decide (s.movers=[])) M1:=by
  refine aE (av (f:=aF false) (x:=.tup (s.movers.map Mv.d)) (y:=.tup []) rfl (cw (ds:=[]) rfl (show 0≤100000 by decide)) ?_);unfold aF;show(if(cr 39 (s.movers.map Mv.d)&&true)=true then bj.ok (D.bl (gk (.tup (s.movers.map Mv.d)) (.tup []) != false)) M1 else .bad)=_;rw[cm,if_pos (by rfl),en,Bool.bne_false]
 have tst:cx (az (g2 jo (ae 3) (gC (.int 2)))) (az (g2 (aF false) (g2 aI (ae 2) (gC (.int 3))) (bb ag))) [some (.mr 0),some (.tup (.int w::.int hh::more)),some s.d,some (.int way),none,none,none] M1=.ok (decide (way<2)||decide (s.movers=[])) M1:=bE (aE (x:=decide (way<2)) rfl) fun _=>tq
 show∃dd M',iW s dd∧dU l rest M'∧aP (ko [some (.mr 0),some (.tup (.int w::.int hh::more)),some s.d,none,none,none,none] M)=.ok dd.d M';unfold ko;rw[ao (aT (bp (a:=ae 0) (b:=gC (.int 8)) rfl rfl e1))]
 by_cases hc:way<2∨s.movers=[]
 ·obtain⟨x,M2,a2,t2,e2⟩:=pF (size:=9) (by decide) (by decide) t1;obtain⟨y,M3,a3,t3,e3⟩:=pF (size:=9) (by decide) (by decide) t2;obtain⟨k,M4,a4,b4,t4,e4⟩:=bg (many:=16) (by decide) (aN (by decide) (by decide)) t3;obtain⟨hu,M5,a5,b5,t5,e5⟩:=bg (many:=64) (by decide) (aN (by decide) (by decide)) t4;have tt:(decide (way<2)||decide (s.movers=[]))=true:=by
   rcases hc with q|q
   ·rw[decide_eq_true q];rfl
   ·rw[decide_eq_true q,Bool.or_true]
  rw[tt] at tst;obtain⟨dd,hd,kd⟩:∃dd:Dd,ny [(Dd.shift x y).d,(Dd.pot k hu).d] (way % 2)=some dd.d∧iW s dd:=by
   have w2:way % 2=0∨way % 2=1:=by omega
   rcases w2 with w2|w2 <;> rw[w2]
   ·exact⟨.shift x y,rfl,a2,a3⟩
   ·exact⟨.pot k hu,rfl,⟨a4,by omega⟩,a5,by omega⟩
  refine⟨dd,M5,kd,t5,?_⟩;exact(congrArg aP (bn ((bK tst).trans ((ao (aT (d9 (ds:=[(Dd.shift x y).d,(Dd.pot k hu).d]) (aM (cw (ds:=[.str "shift",.int x,.int y]) (aM rfl (aM (bp (a:=ae 0) (b:=gC (.int 9)) rfl rfl e2) (aM (bp (a:=ae 0) (b:=gC (.int 9)) rfl rfl e3) rfl))) (show 3≤100000 by decide)) (aM (cw (ds:=[.str "pot",.int k,.int hu]) (aM rfl (aM (bp (a:=ae 0) (b:=gC (.int 16)) rfl rfl e4) (aM (bp (a:=ae 0) (b:=gC (.int 64)) rfl rfl e5) rfl))) (show 3≤100000 by decide)) rfl)) (show 2≤100000 by decide)))).trans (aR (av (f:=aI) (a:=ae 4) (x:=.lst [(Dd.shift x y).d,(Dd.pot k hu).d]) (y:=.int (way % 2)) (M1:=M5) (M2:=M5) rfl (av (f:=iV) (a:=ae 3) (b:=gC (.int 2)) (x:=.int way) (y:=.int 2) (M1:=M5) (M2:=M5) rfl rfl (FT M5)) (Aj hd))))))).trans rfl
 ·have h2:¬way<2:=fun z=>hc (.inl z)
  have h0:¬s.movers=[]:=fun z=>hc (.inr z)
  have hp:0<s.movers.length:=length_pos_iff.mpr h0;rw[decide_eq_false h2,decide_eq_false h0] at tst;obtain⟨n,M2,a2,b2,t2,e2⟩:=bg (many:=(s.movers.length:Int)) (by omega) (aN (by omega) (by omega)) t1;obtain⟨m,M3,mo,t3,e3⟩:=wX (more:=more) (n:=s.book.length) hw hh2 (by have:=ok.bl;omega) t2;obtain⟨i,rfl⟩:=Int.eq_ofNat_of_zero_le a2;have hi:i<s.movers.length:=by omega
  have ln3:aC aV (aa (g2 aI (ae 2) (gC (.int 3))) ag) [some (.mr 0),some (.tup (.int w::.int hh::more)),some s.d,some (.int way),none,none,none] M1=.ok (.int (s.movers.length:Int)) M1:=by
   refine gF (x:=.tup (s.movers.map Mv.d)) rfl ?_;show bj.ok (D.int ((s.movers.map Mv.d).length:Int)) M1=_;rw[length_map]
  have ln2:aC aV (aa (g2 aI (ae 2) (gC (.int 2))) ag) [some (.mr 0),some (.tup (.int w::.int hh::more)),some s.d,some (.int way),none,some (.int i),none] M2=.ok (.int (s.book.length:Int)) M2:=by
   refine gF (x:=.tup (s.book.map aO)) rfl ?_;show bj.ok (D.int ((s.book.map aO).length:Int)) M2=_;rw[length_map]
  show∃dd M',iW s dd∧dU l rest M'∧aP (ar _ _ [some (.mr 0),some (.tup (.int w::.int hh::more)),some s.d,some (.int way),none,none,none] M1)=.ok dd.d M';rw[ao ((aS tst).trans rfl),ao (aT (bp (a:=ae 0) rfl ln3 e2))];show∃dd M',iW s dd∧dU l rest M'∧aP (ar _ _ [some (.mr 0),some (.tup (.int w::.int hh::more)),some s.d,some (.int way),none,some (.int i),none] M2)=.ok dd.d M';rw[ao (aT (ce (a:=ae 0) (b:=ae 1) rfl rfl ln2 e3))];show∃dd M',iW s dd∧dU l rest M'∧aP (ar _ _ [some (.mr 0),some (.tup (.int w::.int hh::more)),some s.d,some (.int way),none,some (.int i),some m.d] M3)=.ok dd.d M'
  by_cases h5:way<5
  ·refine⟨.move i m.x m.y,M3,⟨hi,mo.x,mo.y⟩,t3,?_⟩;exact(congrArg aP (bn ((bK (aE (x:=true) (av (f:=jo) (a:=ae 3) (b:=gC (.int 5)) (x:=.int way) (y:=.int 5) rfl rfl (by show bj.ok (D.bl (decide (way<5))) M3=_;rw[decide_eq_true h5])))).trans (aR (cw (ds:=[.str "move",.int i,.int m.x,.int m.y]) rfl (show 4≤100000 by decide)))))).trans rfl
  ·obtain⟨dd,hd,kd⟩:∃dd:Dd,ny [(Dd.shape i m.shape).d,(Dd.rank i m.rank).d,(Dd.turn i m.turn).d] (way-5)=some dd.d∧iW s dd:=by
    have w3:way-5=0∨way-5=1∨way-5=2:=by omega
    rcases w3 with w3|w3|w3 <;> rw[w3]
    ·exact⟨.shape i m.shape,rfl,hi,mo.s⟩
    ·exact⟨.rank i m.rank,rfl,hi,mo.r⟩
    ·exact⟨.turn i m.turn,rfl,hi,mo.t⟩
   refine⟨dd,M3,kd,t3,?_⟩;rw[ao ((aS (aE (x:=false) (av (f:=jo) (a:=ae 3) (b:=gC (.int 5)) (x:=.int way) (y:=.int 5) rfl rfl (by show bj.ok (D.bl (decide (way<5))) M3=_;rw[decide_eq_false h5])))).trans rfl)];exact(congrArg aP (aR (av (f:=aI) (M1:=M3) (M2:=M3) (y:=.int (way-5)) (d9 (ds:=[(Dd.shape i m.shape).d,(Dd.rank i m.rank).d,(Dd.turn i m.turn).d]) (aM (cw (ds:=[.str "shape",.int i,nU m.shape]) rfl (show 3≤100000 by decide)) (aM (cw (ds:=[.str "rank",.int i,.int m.rank]) rfl (show 3≤100000 by decide)) (aM (cw (ds:=[.str "turn",.int i,.int m.turn]) rfl (show 3≤100000 by decide)) rfl))) (show 3≤100000 by decide)) rfl (Aj hd)))).trans rfl
variable{f:Mv→Mv}
theorem oR (ok:ck mm s)(hf:∀m,zD s.book.length m→zD s.book.length (f m)):ck mm (i9 s i f):=by
 unfold i9;split
 ·rename_i m hm;refine⟨ok.floor,ok.sx,ok.sy,ok.bl,ok.book,by simpa using ok.ml,fun m' h'=>?_,ok.pl,ok.pots⟩;rcases mem_or_eq_of_mem_set h' with q|q
  ·exact ok.movers m' q
  ·rw[q];exact hf m (ok.movers m (mem_of_getElem? hm))
 ·exact ok
theorem vX (ok:ck mm s)(h:iW s dd):ck mm (fJ s dd):=by
 cases dd with
 | shift x y=>exact⟨ok.floor,h.1,h.2,ok.bl,ok.book,ok.ml,ok.movers,ok.pl,ok.pots⟩
 | pot k hu=>
  refine⟨ok.floor,ok.sx,ok.sy,ok.bl,ok.book,ok.ml,ok.movers,by simpa[fJ] using ok.pl,fun q hq=>?_⟩;rcases mem_or_eq_of_mem_set hq with z|z
  ·exact ok.pots q z
  ·rw[z];exact h.2
 | move i x y=>exact oR ok fun m hm=>⟨hm.s,h.2.1,h.2.2,hm.r,hm.t⟩
 | shape i o=>exact oR ok fun m hm=>⟨h.2,hm.x,hm.y,hm.r,hm.t⟩
 | rank i r=>exact oR ok fun m hm=>⟨hm.s,hm.x,hm.y,h.2,hm.t⟩
 | turn i t=>exact oR ok fun m hm=>⟨hm.s,hm.x,hm.y,hm.r,h.2⟩
theorem Bd (xs:List D)(i:Nat)(x:D)(h:i<xs.length):xs.take i++[x]++xs.drop (i+1)=xs.set i x:=by
 rw[set_eq_take_append_cons_drop,if_pos h];simp
theorem qJ {x:D}(h:i<xs.length)(hl:xs.length≤2000):fc [.tup xs,.int i,x] M=.ok (.tup (xs.set i x)) M:=by
 have c1:=EA xs i;have c2:jQ xs (some ((i:Int)+1)) none=xs.drop (i+1):=Dz xs (i+1);have sp:=Bd xs i x h;have l1:(1:Nat)≤sizeLine:=ba (by decide);have l2:min i xs.length+1≤sizeLine:=ba (by omega);have l3:min i xs.length+1+(xs.length-(i+1))≤sizeLine:=ba (by omega);simp only[append_assoc] at sp;unfold fc mP;simp_arith [c1,c2,l1,l2,l3];simpa using sp
theorem uN (n:Nat)(rs:List (List Int)):aX (n+3) (aO rs)=true:=by
 unfold aO;rw[jA,all_map,all_eq_true];intro r _;show aX (n+2) (.tup (r.map D.int))=true;rw[jA];exact iE n r
theorem Hf (n:Nat)(m:Mv):aX (n+2) m.d=true:=by
 unfold Mv.d;rw[jA];cases m.shape <;> rfl
theorem yj (s:cS):aX 30 s.d=true:=by
 have p1:=uN 26 s.floor;have p2:(s.book.map aO).all (aX 28)=true:=by
  rw[all_map,all_eq_true];intro b _;exact uN 25 b
 have p3:(s.movers.map Mv.d).all (aX 28)=true:=by
  rw[all_map,all_eq_true];intro m _;exact Hf 26 m
 have p4:=iE 27 s.pots;unfold cS.d;simp only[jA,all_cons,all_nil,p1,p2,p3,p4];rfl
theorem rp {m:Mv}(gm:s.movers[i]?=some m):(i9 s i f).d=.tup [aO s.floor,.tup [.int s.sx,.int s.sy],.tup (s.book.map aO),.tup ((s.movers.map Mv.d).set i (f m).d),.tup (s.pots.map D.int)]:=by
 have e:i9 s i f={s with movers:=s.movers.set i (f m)}:=by unfold i9;rw[gm]
 rw[e];unfold cS.d;simp only[map_set]
noncomputable def Oj:GS:=(ar (bL (az (g2 (aF false) (ae 7) (gC (.str "shift")))) (aD (bb (aa (ae 2) (aa (oA (ae 1) (dh (gC (.int 1))) bG) (aa (ae 4) (aa (ae 5) (aa (ae 6) ag))))))) aA) (ar (bL (az (g2 (aF false) (ae 7) (gC (.str "pot")))) (aD (bb (aa (ae 2) (aa (ae 3) (aa (ae 4) (aa (ae 5) (aa (aj 3 fc (aa (ae 6) (aa (g2 aI (ae 1) (gC (.int 1))) (aa (g2 aI (ae 1) (gC (.int 2))) ag)))) ag))))))) aA) (ar (aH 8 (g2 aI (ae 1) (gC (.int 1)))) (ar (aH 9 (aj 3 b9 (aa (g2 aI (ae 5) (ae 8)) (aa (ae 7) (aa (oA (ae 1) (dh (gC (.int 2))) bG) ag))))) (aD (bb (aa (ae 2) (aa (ae 3) (aa (ae 4) (aa (aj 3 fc (aa (ae 5) (aa (ae 8) (aa (ae 9) ag)))) (aa (ae 6) ag)))))))))))
theorem D5 {w:Str}(h:cu [s.d,.tup (.str w::r)] M=.ok (.bl true) M)(e:Oj [some s.d,some (.tup (.str w::r)),some (aO s.floor),some (.tup [.int s.sx,.int s.sy]),some (.tup (s.book.map aO)),some (.tup (s.movers.map Mv.d)),some (.tup (s.pots.map D.int)),some (.str w),none,none] M=o):d7 [s.d,.tup (.str w::r)] M=aP o:=by
 show aP (g9 [some s.d,some (.tup (.str w::r)),none,none,none,none,none,none,none,none] M)=_;unfold g9;rw[ao ((aS (bF (bM (bp (a:=ae 0) (b:=ae 1) rfl rfl h)))).trans rfl)];rw[ao (show dC (bJ [2,3,4,5,6]) (ae 0) [some s.d,some (.tup (.str w::r)),none,none,none,none,none,none,none,none] M=.ok (.nx [some s.d,some (.tup (.str w::r)),some (aO s.floor),some (.tup [.int s.sx,.int s.sy]),some (.tup (s.book.map aO)),some (.tup (s.movers.map Mv.d)),some (.tup (s.pots.map D.int)),none,none,none]) M from rfl)];rw[ao (aT (av (f:=aI) (a:=ae 1) (b:=gC (.int 0)) (x:=.tup (.str w::r)) (y:=.int 0) (o:=.ok (.str w) M) rfl rfl (cJ (k:=0) rfl)))];exact congrArg aP e
theorem AS {w:Str}{m m2:D}(h:cu [s.d,.tup (.str w::.int i::r)] M=.ok (.bl true) M)(hl:(s.movers.map Mv.d).length≤2000)(k1:(PyData.strOk w&&PyData.strOk "shift"&&(decide (w="shift")==false))=true)(k2:(PyData.strOk w&&PyData.strOk "pot"&&(decide (w="pot")==false))=true)
  (gm:(s.movers.map Mv.d)[i]?=some m) (sl:jQ (.str w::.int i::r) (some 2) none=r) (mb:b9 [m,.str w,.tup r] M=.ok m2 M) :
  d7 [s.d,.tup (.str w::.int i::r)] M=.ok (.tup [aO s.floor,.tup [.int s.sx,.int s.sy],.tup (s.book.map aO),.tup ((s.movers.map Mv.d).set i m2),.tup (s.pots.map D.int)]) M:=by
 have hi:=(List.getElem?_eq_some_iff.mp gm).1;refine D5 (o:=.ok (.rt (.tup [aO s.floor,.tup [.int s.sx,.int s.sy],.tup (s.book.map aO),.tup ((s.movers.map Mv.d).set i m2),.tup (s.pots.map D.int)])) M) h ?_;unfold Oj;rw[ao ((aS (tW rfl k1)).trans rfl),ao ((aS (tW rfl k2)).trans rfl)];rw[ao (aT (av (f:=aI) (a:=ae 1) (b:=gC (.int 1)) (x:=.tup (.str w::.int i::r)) (y:=.int 1) (o:=.ok (.int i) M) rfl rfl (cJ (k:=1) rfl)))];have c3:oA (ae 1) (dh (gC (.int 2))) bG [some s.d,some (.tup (.str w::.int i::r)),some (aO s.floor),some (.tup [.int s.sx,.int s.sy]),some (.tup (s.book.map aO)),some (.tup (s.movers.map Mv.d)),some (.tup (s.pots.map D.int)),some (.str w),some (.int i),none] M=.ok (.tup r) M:=by
  show bj.ok (D.tup (jQ (.str w::.int i::r) (some 2) none)) M=_;rw[sl]
 show ar _ _ [some s.d,some (.tup (.str w::.int i::r)),some (aO s.floor),some (.tup [.int s.sx,.int s.sy]),some (.tup (s.book.map aO)),some (.tup (s.movers.map Mv.d)),some (.tup (s.pots.map D.int)),some (.str w),some (.int i),none] M=_;rw[ao (aT (ce (b:=ae 7) (av (f:=aI) (a:=ae 5) (b:=ae 8) (x:=.tup (s.movers.map Mv.d)) (y:=.int i) (o:=.ok m M) rfl rfl (cJ gm)) rfl c3 mb))];exact aR (cw (ds:=[aO s.floor,.tup [.int s.sx,.int s.sy],.tup (s.book.map aO),.tup ((s.movers.map Mv.d).set i m2),.tup (s.pots.map D.int)]) (aM rfl (aM rfl (aM rfl (aM (ce (a:=ae 5) (b:=ae 8) (c:=ae 9) rfl rfl rfl (qJ hi hl)) (aM rfl rfl))))) (show 5≤100000 by decide))
theorem Ol {b c d e:D}{w:Str}(h:(ar (bL (az (g2 (aF false) (ae 1) (gC (.str "move")))) (aD (bb (aa (ae 3) (aa (g2 aI (ae 2) (gC (.int 0))) (aa (g2 aI (ae 2) (gC (.int 1))) (aa (ae 6) (aa (ae 7) ag))))))) aA) (ar (bL (az (g2 (aF false) (ae 1) (gC (.str "shape")))) (aD (bb (aa (g2 aI (ae 2) (gC (.int 0))) (aa (ae 4) (aa (ae 5) (aa (ae 6) (aa (ae 7) ag))))))) aA) (ar (bL (az (g2 (aF false) (ae 1) (gC (.str "rank")))) (aD (bb (aa (ae 3) (aa (ae 4) (aa (ae 5) (aa (g2 aI (ae 2) (gC (.int 0))) (aa (ae 7) ag))))))) aA) (aD (bb (aa (ae 3) (aa (ae 4) (aa (ae 5) (aa (ae 6) (aa (g2 aI (ae 2) (gC (.int 0))) ag))))))))))
  [some (.tup [a,b,c,d,e]),some (.str w),some (.tup r),some a,some b,some c,some d,some e] M=o):b9 [.tup [a,b,c,d,e],.str w,.tup r] M=aP o:=by rw[←h];rfl
theorem Gv {b c d e x y:D}:b9 [.tup [a,b,c,d,e],.str "move",.tup [x,y]] M=.ok (.tup [a,x,y,d,e]) M:=
 Ol (o:=.ok (.rt (.tup [a,x,y,d,e])) M) (bn ((bK (tW rfl)).trans (aR (cw rfl (show 5≤100000 by decide)))))
theorem Do {b c d e x:D}:b9 [.tup [a,b,c,d,e],.str "shape",.tup [x]] M=.ok (.tup [x,b,c,d,e]) M:=
 Ol (o:=.ok (.rt (.tup [x,b,c,d,e])) M) ((ao ((aS (tW rfl)).trans rfl)).trans (bn ((bK (tW rfl)).trans (aR (cw rfl (show 5≤100000 by decide))))))
theorem Gn {b c d e x:D}:b9 [.tup [a,b,c,d,e],.str "rank",.tup [x]] M=.ok (.tup [a,b,c,x,e]) M:=
 Ol (o:=.ok (.rt (.tup [a,b,c,x,e])) M) ((ao ((aS (tW rfl)).trans rfl)).trans ((ao ((aS (tW rfl)).trans rfl)).trans (bn ((bK (tW rfl)).trans (aR (cw rfl (show 5≤100000 by decide)))))))
theorem F9 {b c d e x:D}:b9 [.tup [a,b,c,d,e],.str "turn",.tup [x]] M=.ok (.tup [a,b,c,d,x]) M:=
 Ol (o:=.ok (.rt (.tup [a,b,c,d,x])) M) ((ao ((aS (tW rfl)).trans rfl)).trans ((ao ((aS (tW rfl)).trans rfl)).trans ((ao ((aS (tW rfl)).trans rfl)).trans (aR (cw rfl (show 5≤100000 by decide))))))
theorem ze (ok:ck mm s)(hm:mm≤900)(h:iW s dd):d7 [s.d,dd.d] M=.ok (fJ s dd).d M:=by
 have id1:=p7 (M:=M) h;have ml:=ok.ml;have hl:(s.movers.map Mv.d).length≤2000:=by rw[length_map];omega
 have mv:∀(i:Nat) (hi:i<s.movers.length),∃m,s.movers[i]?=some m∧(s.movers.map Mv.d)[i]?=some (.tup [nU m.shape,.int m.x,.int m.y,.int m.rank,.int m.turn]):=fun i hi=>
  ⟨s.movers[i],getElem?_eq_getElem hi,by rw[getElem?_map,getElem?_eq_getElem hi,←BP];rfl⟩
 cases dd with
 | shift x y=>
  refine D5 (w:="shift") (r:=[.int x,.int y]) (o:=.ok (.rt (fJ s (.shift x y)).d) M) id1 ?_;unfold Oj;exact bn ((bK (tW rfl)).trans (aR (cw (ds:=[aO s.floor,.tup [.int x,.int y],.tup (s.book.map aO),.tup (s.movers.map Mv.d),.tup (s.pots.map D.int)]) rfl (show 5≤100000 by decide))))
 | pot k hu=>
  obtain⟨kn,rfl⟩:=Int.eq_ofNat_of_zero_le h.1.1;have hk:kn<16:=by have:=h.1.2;omega
  have w:=qJ (xs:=s.pots.map D.int) (i:=kn) (x:=.int hu) (M:=M) (by rw[length_map,ok.pl];omega) (by rw[length_map,ok.pl];omega);have e:(fJ s (.pot kn hu)).d=.tup [aO s.floor,.tup [.int s.sx,.int s.sy],.tup (s.book.map aO),.tup (s.movers.map Mv.d),.tup ((s.pots.map D.int).set kn (.int hu))]:=by
   show D.tup [aO s.floor,.tup [.int s.sx,.int s.sy],.tup (s.book.map aO),.tup (s.movers.map Mv.d),.tup ((s.pots.set kn hu).map D.int)]=_;rw[map_set]
  rw[e];refine D5 (w:="pot") (r:=[.int kn,.int hu]) (o:=.ok (.rt (.tup [aO s.floor,.tup [.int s.sx,.int s.sy],.tup (s.book.map aO),.tup (s.movers.map Mv.d),.tup ((s.pots.map D.int).set kn (.int hu))])) M) id1 ?_;unfold Oj;rw[ao ((aS (tW rfl)).trans rfl)];exact bn ((bK (tW rfl)).trans (aR (cw (ds:=[aO s.floor,.tup [.int s.sx,.int s.sy],.tup (s.book.map aO),.tup (s.movers.map Mv.d),.tup ((s.pots.map D.int).set kn (.int hu))]) (aM rfl (aM rfl (aM rfl (aM rfl (aM (ce (a:=ae 6) (b:=g2 aI (ae 1) (gC (.int 1))) (c:=g2 aI (ae 1) (gC (.int 2))) rfl rfl rfl w) rfl))))) (show 5≤100000 by decide))))
 | move i x y=>
  obtain⟨m,gm,am⟩:=mv i h.1;show _=bj.ok (i9 s i fun m=>{m with x:=x,y:=y}).d M;rw[rp gm,BP];exact AS (w:="move") (r:=[.int x,.int y]) id1 hl (by decide +kernel) (by decide +kernel) am rfl Gv
 | shape i o=>
  obtain⟨m,gm,am⟩:=mv i h.1;show _=bj.ok (i9 s i fun m=>{m with shape:=o}).d M;rw[rp gm,BP];exact AS (w:="shape") (r:=[nU o]) id1 hl (by decide +kernel) (by decide +kernel) am rfl Do
 | rank i r=>
  obtain⟨m,gm,am⟩:=mv i h.1;show _=bj.ok (i9 s i fun m=>{m with rank:=r}).d M;rw[rp gm,BP];exact AS (w:="rank") (r:=[.int r]) id1 hl (by decide +kernel) (by decide +kernel) am rfl Gn
 | turn i t=>
  obtain⟨m,gm,am⟩:=mv i h.1;show _=bj.ok (i9 s i fun m=>{m with turn:=t}).d M;rw[rp gm,BP];exact AS (w:="turn") (r:=[.int t]) id1 hl (by decide +kernel) (by decide +kernel) am rfl F9
structure Bs where
 st:D
 t:Int
 tk:D
 rows:List (List Int)
 tch:List (List eQ×D)
 grd:List (eQ×D)
 lost:List D
noncomputable def cD (fr:D)(b:Nat)(B:Bs):List (Str×D):=[("frame",fr),("standing",B.st),("ahead",.int B.t),("row_taken",B.tk),("laid_rows",.mr (b+1)),("first_touches",.mr (b+2)),("first_grounds",.mr (b+3)),("lost_pairs",.mr (b+4))]
noncomputable def ff (b n:Nat):List D:=(List.range n).map fun i=>D.mr (b+5+i)
noncomputable def wq (r:List Int):MO:=.lst (r.map D.int)
noncomputable def ur (fr:D)(b:Nat)(B:Bs):aB:=.obj "Beam" (cD fr b B)::.lst (ff b B.rows.length)::.dT B.tch::.dK B.grd::.lst B.lost::B.rows.map wq
noncomputable def ay (M0:aB)(fr:D)(B:Bs):aB:=M0++ur fr M0.length B
variable{b:Nat}
section
variable {M0:aB}{fr:D}{B:Bs}
theorem u9 (k:Nat):(ay M0 fr B)[M0.length+k]?=(ur fr M0.length B)[k]?:=by
 unfold ay;rw[getElem?_append_right (by omega),Nat.add_sub_cancel_left]
theorem n9 (k:Nat)(o:MO):(ay M0 fr B).set (M0.length+k) o=M0++(ur fr M0.length B).set k o:=by
 unfold ay;rw[set_append_right _ _ (by omega),Nat.add_sub_cancel_left]
theorem fE:(ay M0 fr B)[M0.length]?=some (.obj "Beam" (cD fr M0.length B)):=u9 0
theorem BS:(ay M0 fr B)[M0.length+1]?=some (.lst (ff M0.length B.rows.length)):=u9 1
theorem Mj:(ay M0 fr B)[M0.length+2]?=some (.dT B.tch):=u9 2
theorem NL:(ay M0 fr B)[M0.length+3]?=some (.dK B.grd):=u9 3
theorem OZ:(ay M0 fr B)[M0.length+4]?=some (.lst B.lost):=u9 4
theorem vS {r:List Int}(h:B.rows[i]?=some r):(ay M0 fr B)[M0.length+5+i]?=some (wq r):=by
 rw[Nat.add_assoc,u9,show 5+i=i+5 by omega];show(B.rows.map wq)[i]?=_;rw[getElem?_map,h];rfl
theorem vR:(ay M0 fr B).length=M0.length+5+B.rows.length:=by
 unfold ay ur;simp only[length_append,length_cons,length_map];omega
theorem o7 :(cD fr b B).lookup ("frame":Str)=some (fr:D):=rfl
theorem Dl :(cD fr b B).lookup ("standing":Str)=some (B.st:D):=rfl
theorem yV :(cD fr b B).lookup ("ahead":Str)=some ((.int B.t):D):=rfl
theorem HC :(cD fr b B).lookup ("row_taken":Str)=some (B.tk:D):=rfl
theorem rj :(cD fr b B).lookup ("laid_rows":Str)=some ((.mr (b+1)):D):=rfl
theorem Jr :(cD fr b B).lookup ("first_touches":Str)=some ((.mr (b+2)):D):=rfl
theorem KJ :(cD fr b B).lookup ("first_grounds":Str)=some ((.mr (b+3)):D):=rfl
theorem Gz :(cD fr b B).lookup ("lost_pairs":Str)=some ((.mr (b+4)):D):=rfl
theorem NY :(ay M0 fr B).set M0.length (.obj "Beam" (fU "ahead" (.int t) (cD fr M0.length B)))=ay M0 fr {B with t:=t}:=by
 have e:fU "ahead" (.int t) (cD fr M0.length B)=cD fr M0.length {B with t:=t}:=rfl;rw[e];exact n9 0 _
theorem Jf {tk:D}:(ay M0 fr B).set M0.length (.obj "Beam" (fU "row_taken" tk (cD fr M0.length B)))=ay M0 fr {B with tk:=tk}:=by
 have e:fU "row_taken" tk (cD fr M0.length B)=cD fr M0.length {B with tk:=tk}:=rfl;rw[e];exact n9 0 _
theorem JB {st:D}:(ay M0 fr B).set M0.length (.obj "Beam" (fU "standing" st (cD fr M0.length B)))=ay M0 fr {B with st:=st}:=by
 have e:fU "standing" st (cD fr M0.length B)=cD fr M0.length {B with st:=st}:=rfl;rw[e];exact n9 0 _
theorem AW:(ay M0 fr B).set M0.length (.obj "Beam" (fU "lost_pairs" (.mr (M0.length+4)) (cD fr M0.length B)))=ay M0 fr B:=by
 have e:fU "lost_pairs" (.mr (M0.length+4)) (cD fr M0.length B)=cD fr M0.length B:=rfl;rw[e];exact sY fE
theorem E0 {x:List (List eQ×D)}:(ay M0 fr B).set (M0.length+2) (.dT x)=ay M0 fr {B with tch:=x}:=n9 2 _
theorem Fg {x:List (eQ×D)}:(ay M0 fr B).set (M0.length+3) (.dK x)=ay M0 fr {B with grd:=x}:=n9 3 _
theorem Cj {x:List D}:(ay M0 fr B).set (M0.length+4) (.lst x)=ay M0 fr {B with lost:=x}:=n9 4 _
theorem GR {r:List Int}:(ay M0 fr B).set (M0.length+5+i) (wq r)=ay M0 fr {B with rows:=B.rows.set i r}:=by
 rw[Nat.add_assoc,n9,show 5+i=i+5 by omega];show M0++(_::_::_::_::_::(B.rows.map wq).set i (wq r))=_;rw[←map_set];unfold ay ur cD;rw[length_set]
theorem E2:((ay M0 fr B)++[MO.lst []]).set (M0.length+1) (MO.lst (ff M0.length B.rows.length++[D.mr (ay M0 fr B).length]))=ay M0 fr {B with rows:=B.rows++[[]]}:=by
 rw[vR];unfold ay;rw[append_assoc,set_append_right _ _ (by omega),Nat.add_sub_cancel_left];have e:ff M0.length B.rows.length++[D.mr (M0.length+5+B.rows.length)]=ff M0.length (B.rows++[[]]).length:=by
  unfold ff;rw[length_append,length_singleton,range_succ,map_append];rfl
 rw[e];show M0++(_::_::_::_::_::(B.rows.map wq++[.lst []]))=M0++(_::_::_::_::_::((B.rows++[[]]).map wq));rw[map_append];rfl
structure Bs.Pure (B:Bs):Prop where
 st:aX 30 B.st=true
 tk:aX 30 B.tk=true
 tch:∀p∈B.tch,aX 30 p.2=true
 grd:∀p∈B.grd,aX 30 p.2=true
 lost:∀p∈B.lost,aX 30 p=true
theorem m9 (h0:il M0)(hf:aX 30 fr=true)(p:B.Pure):il (ay M0 fr B):=by
 have hl:(ay M0 fr B).length=M0.length+5+B.rows.length:=vR;unfold il;rw[hl];unfold ay;rw[all_append,Bool.and_eq_true];refine⟨all_eq_true.mpr fun x hx=>A7 (by omega) (all_eq_true.mp h0 x hx),?_⟩;unfold ur;simp only[all_cons,Bool.and_eq_true];have f:∀k:Nat,k≤4→ik (M0.length+5+B.rows.length) 30 (.mr (M0.length+k))=true:=fun k hk=>decide_eq_true (by omega)
 refine⟨?_,?_,?_,?_,?_,?_⟩
 ·show(cD fr M0.length B).all (fun p=>ik (M0.length+5+B.rows.length) 30 p.2)=true;unfold cD;simp only[all_cons,all_nil,Bool.and_eq_true];exact⟨dZ 30 _ hf,dZ 30 _ p.st,rfl,dZ 30 _ p.tk,f 1 (by decide),f 2 (by decide),f 3 (by decide),f 4 (by decide),trivial⟩
 ·show(ff M0.length B.rows.length).all (ik (M0.length+5+B.rows.length) 30)=true;refine all_eq_true.mpr fun x hx=>?_
  obtain⟨i,hi,rfl⟩:=mem_map.mp hx;exact decide_eq_true (by have:=mem_range.mp hi;omega)
 ·exact all_eq_true.mpr fun x hx=>dZ 30 _ (p.tch x hx)
 ·exact all_eq_true.mpr fun x hx=>dZ 30 _ (p.grd x hx)
 ·exact all_eq_true.mpr fun x hx=>dZ 30 _ (p.lost x hx)
 ·refine all_eq_true.mpr fun x hx=>?_
  obtain⟨r,_,rfl⟩:=mem_map.mp hx;exact uS (iE 29 r)
end
theorem j9 {w:Int}:eJ [aL w h g m] M=.ok (.int (w+g)) M:=rfl
theorem dH {w:Int}(k:fD w h g m):bx [aL w h g m] M=.ok (.int (h*(w+g))) M:=by
 have mu:=n8 (i:=h) (j:=w+g) (by have:=k.h;omega) (by have:=k.h;omega) M;show aP (lW [some (aL w h g m),none,none,none,none] M)=_;unfold lW;have asg:dC (bJ [1,2,3,4]) (ae 0) [some (aL w h g m),none,none,none,none] M=.ok (.nx [some (aL w h g m),some (.int w),some (.int h),some (.int g),some (.int m)]) M:=rfl;rw[ao asg,aR (av (x:=.int h) rfl (dJ (a:=ae 0) rfl j9) mu)];rfl
noncomputable def nZ (w g t:Int):D:=if t % (w+g)<w then .tup [.int (t / (w+g)),.int (t % (w+g))] else .tup [.int (t / (w+g)),.non]
theorem Es {w:Int}(f:fD w h g m)(h0:0≤t)(h1:t<h*(w+g)):iA [aL w h g m,.int t] M=.ok (nZ w g t) M:=by
 have e:=j9 (w:=w) (h:=h) (g:=g) (m:=m) (M:=M);have e2:=dH (M:=M) f;have p:0<w+g:=by have:=f.w;have:=f.g;omega
 have q:(w+g).natAbs.log2<9000:=aN p (by have:=f.w;have:=f.g;omega);have n1:¬t<0:=by omega
 have n2:¬h*(w+g)≤t:=by omega
 have l2:(2:Nat)≤sizeLine:=ba (by decide);unfold aL at *;unfold iA nW nZ
 by_cases hz:t % (w+g)<w
 ·have hz':¬w≤t % (w+g):=by omega
  simp_arith [e,e2,p,q,n1,n2,l2,hz,hz']
 ·have hz':w≤t % (w+g):=by omega
  simp_arith [e,e2,p,q,n1,n2,l2,hz,hz']
noncomputable def mf (xs:List Int)(lo hi:Option Int):List Int:=(xs.drop (HT.sIx xs.length 0 lo)).take (HT.sIx xs.length xs.length hi-HT.sIx xs.length 0 lo)
theorem rS (xs:List Int)(lo hi:Option Int):jQ (xs.map D.int) lo hi=(mf xs lo hi).map D.int:=by simp[jQ,mf]
theorem si (xs:List Int)(lo hi:Option Int):(mf xs lo hi).length≤xs.length:=by
 unfold mf;rw[length_take,length_drop];omega
theorem C4 {xs:List Int}{lo hi:Option Int}(h:y∈mf xs lo hi):y∈xs:=mem_of_mem_drop (mem_of_mem_take h)
noncomputable def tJ (s:cS)(row n:Int):Sn:=match s.movers[n.toNat]? with
 | some m=>⟨n,m.x,m.rank,oq (s.book.getD (m.shape.getD 0) []) m.turn (row-m.y).toNat⟩
 | none=>⟨n,0,0,[]⟩
noncomputable def fM (s:cS)(m row:Int):List Sn:=(mf (cX s row) none (some m)).map (tJ s row)
theorem DI {n:Int}(h:n∈cX s row):iH s row n=(tJ s row n).d:=by
 obtain⟨i,rfl,hi,m,gm,lz⟩:=sZ h;unfold iH tJ;rw[Int.toNat_natCast,gm];rfl
theorem AV (s:cS)(m row:Int):rH s m row=(fM s m row).map Sn.d:=by
 unfold rH fM;rw[rS,map_map,map_map];apply map_congr_left;intro n hn;exact DI (C4 hn)
noncomputable def ER (s:cS)(w row:Int):List Int:=(List.range w.toNat).map fun(x:Nat)=>ig s row x
theorem uE (s:cS)(w m row:Int):ij s w m row=.tup [.tup ((ER s w row).map D.int),.tup ((fM s m row).map Sn.d)]:=by
 unfold ij;rw[AV];unfold ER;rw[map_map];rfl
theorem zO (ok:ck mm s)(hm:mm≤12):(cX s row).length≤12:=by
 have:=oO s row s.movers.length;have:=ok.ml;unfold cX;omega
theorem Ax (ok:ck mm s)(hm:mm≤12):(fM s m row).length≤12:=by
 unfold fM;rw[length_map];exact Nat.le_trans (si _ _ _) (zO ok hm)
theorem rT (s:cS)(w m row:Int):aX 30 (ij s w m row)=true:=by
 rw[uE];have a:=iE 27 (ER s w row);have b:((fM s m row).map Sn.d).all (aX 28)=true:=all_eq_true.mpr fun x hx=>by
  obtain⟨q,_,rfl⟩:=mem_map.mp hx;unfold Sn.d;have:=iE 25 q.ks;simp only[jA,all_cons,all_nil,this];rfl
 simp only[jA,all_cons,all_nil,a,b];rfl
theorem GQ {w:Int}(ok:ck mm s):∀k∈ER s w row,0≤k∧k≤15:=by
 intro k hk;obtain⟨x,_,rfl⟩:=mem_map.mp hk;obtain⟨f1,f2,fw,f3,f4,f5⟩:=ok.floor;unfold ig;have fr:∀k∈cg s row,0≤k∧k≤15:=by
  intro k hk;unfold cg at hk;rw[List.getD] at hk;cases q:s.floor[((row+s.sy) % (s.floor.length:Int)).toNat]? with
  | none=>rw[q] at hk;cases hk
  | some r=>
   rw[q] at hk;exact(f5 r (mem_of_getElem? q)).2 k hk
 rw[List.getD];cases q:(cg s row)[((↑x+s.sx) % ((cg s row).length:Int)).toNat]? with
 | none=>exact⟨by simp,by simp⟩
 | some r=>exact fr r (mem_of_getElem? q)
theorem A6 (h:∀r∈rs,∀k∈r,0≤k∧k≤15):∀k∈oq rs way n,0≤k∧k≤15:=by
 have g:∀(i:Nat),∀k∈rs.getD i [],0≤k∧k≤15:=by
  intro i k hk;rw[List.getD] at hk;cases q:rs[i]? with
  | none=>rw[q] at hk;cases hk
  | some r=>rw[q] at hk;exact h r (mem_of_getElem? q) k hk
 intro k hk;unfold oq at hk;dsimp only at hk;split at hk
 ·rw[mem_reverse] at hk;split at hk
  ·exact g _ k hk
  ·exact g _ k hk
 ·split at hk
  ·exact g _ k hk
  ·exact g _ k hk
theorem Kn (ok:ck mm s):∀q∈fM s m row,0≤eZ x q∧eZ x q≤15:=by
 intro q hq;obtain⟨n,_,rfl⟩:=mem_map.mp hq;have a:∀k∈(tJ s row n).ks,0≤k∧k≤15:=by
  intro k hk;unfold tJ at hk;split at hk
  ·refine A6 (fun r hr k hk=>?_) k hk;rename_i m' _ _;rw[List.getD] at hr;cases e:s.book[m'.shape.getD 0]? with
   | none=>rw[e] at hr;cases hr
   | some b=>
    rw[e] at hr;obtain⟨b1,b2,bw,b3,b4,b5⟩:=ok.book b (mem_of_getElem? e);exact(b5 r hr).2 k hk
  ·cases hk
 unfold eZ;split
 ·rw[List.getD];cases e:(tJ s row n).ks[(x-(tJ s row n).x).toNat]? with
  | none=>exact⟨by simp,by simp⟩
  | some k=>exact a k (mem_of_getElem? e)
 ·exact⟨by simp,by simp⟩
noncomputable def oG (x fl:Int)(cs:List Sn)(k:Int):Prop:=(cs=[]∧k=fl)∨∃b∈cs,(∀s∈cs,Fm b s)∧k=if 1≤b.r∨fl=0 then eZ x b else fl
theorem CL {fl:Int}:∃k,oG x fl cs k∧cE [.int fl,.lst (cs.map (oz x))] M=.ok (.int k) M:=by
 rcases D6 (x:=x) (fl:=fl) (cs:=cs) (M:=M) with⟨e,h⟩|⟨b,hb,hl,h⟩
 ·exact⟨fl,.inl ⟨e,rfl⟩,h⟩
 ·exact⟨_,.inr ⟨b,hb,hl,rfl⟩,h⟩
theorem oG.rng {fl k:Int}(h:oG x fl cs k)(hf:0≤fl∧fl≤15)(hc:∀q∈cs,0≤eZ x q∧eZ x q≤15):0≤k∧k≤15:=by
 rcases h with⟨_,rfl⟩|⟨b,hb,_,rfl⟩
 ·exact hf
 ·split
  ·exact hc b hb
  ·exact hf
theorem EH {w:Int}(ok:ck mm s)(hm:mm≤12)(hM:il M):iw [aL w h g m,s.d,.int row] M=.ok (.lst ((mf (cX s row) (some m) none).map D.int)) M:=by
 have e:=CU (row:=row) ok (by omega:mm≤900) hM;unfold aL iw pL;simp_arith [e,rS]
variable{fr:D}{B:Bs}
theorem wJ :(cD fr b B).length<1000:=by show 8<1000;decide
noncomputable def l7 (row:Int)(ns:List Int):List D:=ns.map fun n=>D.tup [.int row,.int n]
variable{M0:aB}
theorem Fp {w:Int}(h0:il M0)(p:B.Pure)(hs:B.st=s.d)(ok:ck mm s)(hm:mm≤12)(f:fD w h g m)(hl:B.lost.length≤90000)(hr:B.rows.length<100000) :
  eU [.mr M0.length,.int row] (ay M0 (aL w h g m) B)=.ok .non (ay M0 (aL w h g m) {B with tk:=ij s w m row,rows:=B.rows++[[]],lost:=B.lost++l7 row (mf (cX s row) (some m) none)}):=by
 have pf:aX 30 (aL w h g m)=true:=rfl;have sh:=m9 (fr:=aL w h g m) h0 pf p;have et:=EC (w:=w) (hh:=h) (g:=g) (m:=m) (row:=row) ok (by omega) (by have:=f.w;omega) f.m sh;show aP (gu [some (.mr M0.length),some (.int row)] _)=_;unfold gu;have f1:=fun(B:Bs)=>dG (g:=ae 0) (ρ:=[some (.mr M0.length),some (.int row)]) (M:=ay M0 (aL w h g m) B) (f:="frame") rfl fE o7
 have f2:=fun(B:Bs)=>dG (g:=ae 0) (ρ:=[some (.mr M0.length),some (.int row)]) (M:=ay M0 (aL w h g m) B) (f:="standing") rfl fE Dl
 have f3:=fun(B:Bs)=>dG (g:=ae 0) (ρ:=[some (.mr M0.length),some (.int row)]) (M:=ay M0 (aL w h g m) B) (f:="laid_rows") rfl fE rj
 have c1:=ce (F:=oZ) (o:=.ok (ij s w m row) (ay M0 (aL w h g m) B)) (f1 B) (f2 B) (c:=ae 1) rfl (by rw[hs];exact et);have s1:=wl (c:="Beam") (f:="row_taken") (go:=ae 0) (fs:=cD (aL w h g m) M0.length B) c1 rfl fE wJ;rw[ao s1,Jf];generalize hB1:({B with tk:=ij s w m row}:Bs)=B1;have p1:B1.Pure:=by rw[←hB1];exact⟨p.st,rT s w m row,p.tch,p.grd,p.lost⟩
 have hs1:B1.st=s.d:=by rw[←hB1];exact hs
 have a1:=yz (f3 B1) BS ku (by rw[getElem?_append_left (by rw[vR];omega)];exact BS) (by unfold ff;rw[length_map,length_range,←hB1];show B.rows.length<1000000;omega);rw[E2] at a1;rw[ao (cB a1)];generalize hB2:({B1 with rows:=B1.rows++[[]]}:Bs)=B2;have p2:B2.Pure:=by rw[←hB2];exact⟨p1.st,p1.tk,p1.tch,p1.grd,p1.lost⟩
 have hs2:B2.st=s.d:=by rw[←hB2];exact hs1
 have hl2:B2.lost=B.lost:=by rw[←hB2,←hB1]
 have sh2:=m9 (fr:=aL w h g m) h0 pf p2;have el:=EH (w:=w) (h:=h) (g:=g) (m:=m) (row:=row) ok hm sh2;have ll:(mf (cX s row) (some m) none).length≤12:=Nat.le_trans (si _ _ _) (zO ok hm);have c2:=ce (F:=iw) (o:=.ok (.lst ((mf (cX s row) (some m) none).map D.int)) (ay M0 (aL w h g m) B2)) (f1 B2) (f2 B2) (c:=ae 1) rfl (by rw[hs2];exact el);have ec:=jP (ds0:=(mf (cX s row) (some m) none).map D.int) (ge:=fH) (ρ:=[some (.mr M0.length),some (.int row)]) (f:=fun d=>.tup [.int row,d]) (M:=ay M0 (aL w h g m) B2) ((mf (cX s row) (some m) none).map D.int) (fun d hd=>rfl);have em:((mf (cX s row) (some m) none).map D.int).map (fun d=>D.tup [.int row,d])=l7 row (mf (cX s row) (some m) none):=by rw[map_map];rfl
 rw[em] at ec;generalize mf (cX s row) (some m) none=ls at *;have gi:bY (aj 3 iw (aa (dX "Beam" "frame" (ae 0)) (aa (dX "Beam" "standing" (ae 0)) (aa (ae 1) ag)))) [some (.mr M0.length),some (.int row)] (ay M0 (aL w h g m) B2)=.ok ⟨ls.map D.int,none⟩ (ay M0 (aL w h g m) B2):=by
  unfold bY;rw[c2];rfl
 have gv:br (bY (aj 3 iw (aa (dX "Beam" "frame" (ae 0)) (aa (dX "Beam" "standing" (ae 0)) (aa (ae 1) ag))))) cL fH aZ [some (.mr M0.length),some (.int row)] (ay M0 (aL w h g m) B2)=.ok (.lst (l7 row ls)) (ay M0 (aL w h g m) B2):=by
  unfold br;rw[gi,aq];dsimp only;rw[ec,aq];unfold aZ;rw[if_pos (ba (by unfold l7;rw[length_map];omega))]
 have au:=FY (ys:=l7 row ls) (OZ (M0:=M0) (fr:=aL w h g m) (B:=B2)) (by rw[hl2];unfold l7;rw[length_map];omega);rw[Cj] at au;have s3:=Hs (c:="Beam") (f:="lost_pairs") (go:=ae 0) (ρ:=[some (.mr M0.length),some (.int row)]) rfl fE Gz gv au fE wJ;rw[s3];have fin:=AW (M0:=M0) (fr:=aL w h g m) (B:={B2 with lost:=B2.lost++l7 row ls});show bj.ok D.non ((ay M0 (aL w h g m) {B2 with lost:=B2.lost++l7 row ls}).set M0.length (.obj "Beam" (fU "lost_pairs" (.mr (M0.length+4)) (cD (aL w h g m) M0.length {B2 with lost:=B2.lost++l7 row ls}))))=_;rw[fin,←hB2,←hB1]
theorem mn {κ α:Type}[DecidableEq κ](key:α→κ)(z:D):∀(os:List α) (acc:List (κ×D)),(os.foldl (fun a o=>zt a (key o) z) acc).length≤acc.length+os.length
 | [],acc=>Nat.le_refl _
 | o::os,acc=>by
  rw[foldl_cons];have:=mn key z os (zt acc (key o) z);have:=G2 acc (key o) z;rw[length_cons];omega
theorem Ci {κ:Type}[DecidableEq κ]{acc:List (κ×D)}{k:κ}{z:D}(hz:aX 30 z=true)(h:∀p∈acc,aX 30 p.2=true):∀p∈zt acc k z,aX 30 p.2=true:=by
 unfold zt;split
 ·exact h
 ·intro p hp;rcases mem_append.mp hp with q|q
  ·exact h p q
  ·rw[mem_singleton] at q;rw[q];exact hz
theorem p0 {κ α:Type}[DecidableEq κ](key:α→κ){z:D}(hz:aX 30 z=true):∀(os:List α) (acc:List (κ×D)),(∀p∈acc,aX 30 p.2=true)→∀p∈os.foldl (fun a o=>zt a (key o) z) acc,aX 30 p.2=true
 | [],acc,h=>h
 | o::os,acc,h=>p0 key hz os _ (Ci hz h)
noncomputable def tL (ns:List Int)(z:D)(g:List (eQ×D)):List (eQ×D):=ns.foldl (fun a n=>zt a (Sum.inl n) z) g
noncomputable def l5 (n:Int)(os:List Int)(z:D)(t:List (List eQ×D)):List (List eQ×D):=os.foldl (fun a o=>zt a [Sum.inl n,Sum.inl o] z) t
noncomputable def ja (ns:List Int)(z:D)(t0:List (List eQ×D)):Nat→List (List eQ×D)
 | 0=>t0
 | j+1=>match ns[j]? with
  | some n=>l5 n (ns.drop (j+1)) z (ja ns z t0 j)
  | none=>ja ns z t0 j
theorem p8 (ns:List Int)(z:D)(t0:List (List eQ×D)):∀j,(ja ns z t0 j).length≤t0.length+j*ns.length
 | 0=>by show t0.length≤_;omega
 | j+1=>by
  have ih:=p8 ns z t0 j;have e:(j+1)*ns.length=j*ns.length+ns.length:=Nat.succ_mul _ _;unfold ja;split
  ·rename_i n _;have:=mn (κ:=List eQ) (fun o=>[Sum.inl n,Sum.inl o]) z (ns.drop (j+1)) (ja ns z t0 j);unfold l5;rw[length_drop] at this;omega
  ·omega
theorem sF {ns:List Int}{z:D}{t0:List (List eQ×D)}(hz:aX 30 z=true)(h:∀p∈t0,aX 30 p.2=true):∀j,∀p∈ja ns z t0 j,aX 30 p.2=true
 | 0=>h
 | j+1=>by
  have ih:=sF (ns:=ns) hz h j;unfold ja;split
  ·exact p0 _ hz _ _ ih
  ·exact ih
variable{ns:List Int}
theorem CC (hj:j<ns.length):jQ (ns.map D.int) (some ((j:Int)+1)) none=(ns.drop (j+1)).map D.int:=by
 rw[rS];unfold mf;rw[show((j:Int)+1)=((j+1:Nat):Int) from by omega,HT.sIx_nat,HT.sIx_none,Nat.min_eq_left (by omega)];rw[take_of_length_le (by rw[length_drop];omega)]
theorem zc (hl:B.grd.length+ns.length<1000000) :
  fO [.mr M0.length,.lst (ns.map D.int),.int row,.int x] (ay M0 fr B)=.ok .non (ay M0 fr {B with grd:=tL ns (.tup [.int row,.int x]) B.grd}):=by
 obtain⟨ρ',M',⟨x4,rfl,rfl⟩,ef⟩:=n6 (ds0:=ns.map D.int) (s:=dM 4) (body:=fj)
  (W:=fun i ρ N=>∃x4,ρ=[some (.mr M0.length),some (.lst (ns.map D.int)),some (.int row),some (.int x),x4]∧N=ay M0 fr {B with grd:=tL (ns.take i) (.tup [.int row,.int x]) B.grd})
  (ns.map D.int) 0 (fun j d hd ρ N hW=>by
   obtain⟨x4,rfl,rfl⟩:=hW;rw[Nat.zero_add];rw[getElem?_map] at hd;cases gs:ns[j]? with
   | none=>rw[gs] at hd;cases hd
   | some n=>
   rw[gs] at hd;cases hd;have hj:=(List.getElem?_eq_some_iff.mp gs).1;have e1:tL (ns.take (j+1)) (.tup [.int row,.int x]) B.grd=zt (tL (ns.take j) (.tup [.int row,.int x]) B.grd) (Sum.inl n) (.tup [.int row,.int x]):=by
    unfold tL;rw[take_succ,gs,foldl_append];rfl
   have lb:(tL (ns.take j) (.tup [.int row,.int x]) B.grd).length<1000000:=by
    have:=mn (κ:=eQ) (fun n=>Sum.inl n) (.tup [.int row,.int x]) (ns.take j) B.grd;rw[length_take] at this;unfold tL;omega
   rw[e1];generalize tL (ns.take j) (.tup [.int row,.int x]) B.grd=gd at *;have fl:=dG (g:=ae 0) (ρ:=[some (.mr M0.length),some (.lst (ns.map D.int)),some (.int row),some (.int x),some (.int n)]) (M:=ay M0 fr {B with grd:=gd}) (f:="first_grounds") rfl fE KJ;obtain⟨r,er⟩:=zK (y:=.int n) (z:=.tup [.int row,.int x]) (NL (M0:=M0) (fr:=fr) (B:={B with grd:=gd})) rfl lb;rw[Fg] at er;have tp:=cw (ga:=aa (ae 2) (aa (ae 3) ag)) (ρ:=[some (.mr M0.length),some (.lst (ns.map D.int)),some (.int row),some (.int x),some (.int n)]) (M:=ay M0 fr {B with grd:=gd}) (M1:=ay M0 fr {B with grd:=gd}) (ds:=[.int row,.int x]) rfl (by simp);exact⟨_,_,_,rfl,cB (ux fl (by rw[NL];rfl) rfl tp er),_,rfl,rfl⟩)
  [some (.mr M0.length),some (.lst (ns.map D.int)),some (.int row),some (.int x),none] (ay M0 fr B) ⟨_,rfl,rfl⟩
 rw[length_map,Nat.zero_add,take_length] at ef;show aP (dP [some (.mr M0.length),some (.lst (ns.map D.int)),some (.int row),some (.int x),none] _)=_;unfold dP;rw[jM (lN (i:=1) rfl) ef];rfl
theorem DC {os:List Int}{n at_:Int}{t:List (List eQ×D)}{x6:Option D}(hl:t.length+os.length<1000000) :
  ∃y6,eL ⟨os.map D.int,none⟩ (dM 6) dE (os.map D.int) [some (.mr M0.length),some (.lst (ns.map D.int)),some (.int row),some (.int x),some (.int at_),some (.int n),x6] (ay M0 fr {B with tch:=t}) =
   .ok (.nx [some (.mr M0.length),some (.lst (ns.map D.int)),some (.int row),some (.int x),some (.int at_),some (.int n),y6]) (ay M0 fr {B with tch:=l5 n os (.tup [.int row,.int x]) t}):=by
 obtain⟨ρ',M',⟨y6,rfl,rfl⟩,ef⟩:=n6 (ds0:=os.map D.int) (s:=dM 6) (body:=dE)
  (W:=fun i ρ N=>∃x6,ρ=[some (.mr M0.length),some (.lst (ns.map D.int)),some (.int row),some (.int x),some (.int at_),some (.int n),x6]∧N=ay M0 fr {B with tch:=l5 n (os.take i) (.tup [.int row,.int x]) t})
  (os.map D.int) 0 (fun j d hd ρ N hW=>by
   obtain⟨x6,rfl,rfl⟩:=hW;rw[Nat.zero_add];rw[getElem?_map] at hd;cases gs:os[j]? with
   | none=>rw[gs] at hd;cases hd
   | some o=>
   rw[gs] at hd;cases hd;have hj:=(List.getElem?_eq_some_iff.mp gs).1;have e1:l5 n (os.take (j+1)) (.tup [.int row,.int x]) t=zt (l5 n (os.take j) (.tup [.int row,.int x]) t) [Sum.inl n,Sum.inl o] (.tup [.int row,.int x]):=by
    unfold l5;rw[take_succ,gs,foldl_append];rfl
   have lb:(l5 n (os.take j) (.tup [.int row,.int x]) t).length<1000000:=by
    have:=mn (κ:=List eQ) (fun o=>[Sum.inl n,Sum.inl o]) (.tup [.int row,.int x]) (os.take j) t;rw[length_take] at this;unfold l5;omega
   rw[e1];generalize l5 n (os.take j) (.tup [.int row,.int x]) t=gd at *;have fl:=dG (g:=ae 0) (ρ:=[some (.mr M0.length),some (.lst (ns.map D.int)),some (.int row),some (.int x),some (.int at_),some (.int n),some (.int o)]) (M:=ay M0 fr {B with tch:=gd}) (f:="first_touches") rfl fE Jr;obtain⟨r,er⟩:=yZ (y:=.tup [.int n,.int o]) (k:=[Sum.inl n,Sum.inl o]) (z:=.tup [.int row,.int x]) (Mj (M0:=M0) (fr:=fr) (B:={B with tch:=gd})) rfl lb;rw[E0] at er;have tp:=cw (ga:=aa (ae 2) (aa (ae 3) ag)) (ρ:=[some (.mr M0.length),some (.lst (ns.map D.int)),some (.int row),some (.int x),some (.int at_),some (.int n),some (.int o)]) (M:=ay M0 fr {B with tch:=gd}) (M1:=ay M0 fr {B with tch:=gd}) (ds:=[.int row,.int x]) rfl (by simp);have tp2:=cw (ga:=aa (ae 5) (aa (ae 6) ag)) (ρ:=[some (.mr M0.length),some (.lst (ns.map D.int)),some (.int row),some (.int x),some (.int at_),some (.int n),some (.int o)]) (M:=ay M0 fr {B with tch:=gd}) (M1:=ay M0 fr {B with tch:=gd}) (ds:=[.int n,.int o]) rfl (by simp);exact⟨_,_,_,rfl,cB (ux fl (by rw[Mj];rfl) tp2 tp er),_,rfl,rfl⟩)
  [some (.mr M0.length),some (.lst (ns.map D.int)),some (.int row),some (.int x),some (.int at_),some (.int n),x6] (ay M0 fr {B with tch:=t}) ⟨_,rfl,rfl⟩
 rw[length_map,Nat.zero_add,take_length] at ef;exact⟨y6,ef⟩
theorem zB (hn:ns.length≤12)(hl:B.tch.length<900000) :
  fR [.mr M0.length,.lst (ns.map D.int),.int row,.int x] (ay M0 fr B)=.ok .non (ay M0 fr {B with tch:=ja ns (.tup [.int row,.int x]) B.tch ns.length}):=by
 obtain⟨ρ',M',⟨x4,x5,x6,rfl,rfl⟩,ef⟩:=n6 (ds0:=gR (ns.map D.int)) (s:=bJ [4,5]) (body:=dB)
  (W:=fun i ρ N=>∃x4 x5 x6,ρ=[some (.mr M0.length),some (.lst (ns.map D.int)),some (.int row),some (.int x),x4,x5,x6]∧N=ay M0 fr {B with tch:=ja ns (.tup [.int row,.int x]) B.tch i})
  (gR (ns.map D.int)) 0 (fun j d hd ρ N hW=>by
   obtain⟨x4,x5,x6,rfl,rfl⟩:=hW;obtain⟨dx,ex,rfl⟩:=qw hd;rw[Nat.zero_add];rw[getElem?_map] at ex;cases gs:ns[j]? with
   | none=>rw[gs] at ex;cases ex
   | some n=>
   rw[gs] at ex;cases ex;have hj:=(List.getElem?_eq_some_iff.mp gs).1;have e1:ja ns (.tup [.int row,.int x]) B.tch (j+1)=l5 n (ns.drop (j+1)) (.tup [.int row,.int x]) (ja ns (.tup [.int row,.int x]) B.tch j):=by
    show(match ns[j]? with|some n=>l5 n (ns.drop (j+1)) (.tup [.int row,.int x]) (ja ns (.tup [.int row,.int x]) B.tch j)|none=>_)=_;rw[gs]
   have lb:=p8 ns (.tup [.int row,.int x]) B.tch j;have lj:j*ns.length≤12*12:=Nat.mul_le_mul (by omega) hn;rw[e1];generalize ja ns (.tup [.int row,.int x]) B.tch j=td at *;obtain⟨y6,ei⟩:=DC (M0:=M0) (B:=B) (fr:=fr) (ns:=ns) (os:=ns.drop (j+1)) (n:=n) (row:=row) (x:=x) (at_:=(j:Int)) (t:=td) (x6:=x6) (by rw[length_drop];omega);refine⟨[some (.mr M0.length),some (.lst (ns.map D.int)),some (.int row),some (.int x),some (.int (j:Int)),some (.int n),x6],[some (.mr M0.length),some (.lst (ns.map D.int)),some (.int row),some (.int x),some (.int (j:Int)),some (.int n),y6],_,rfl,?_,_,_,_,rfl,rfl⟩;unfold dB;refine jM (t:=⟨(ns.drop (j+1)).map D.int,none⟩) ?_ ei;have cf:=CC hj;unfold bY;have sl:oA (ae 1) (dh (g2 a9 (ae 4) (gC (.int 1)))) bG [some (.mr M0.length),some (.lst (ns.map D.int)),some (.int row),some (.int x),some (.int (j:Int)),some (.int n),x6] (ay M0 fr {B with tch:=td})=.ok (.lst ((ns.drop (j+1)).map D.int)) (ay M0 fr {B with tch:=td}):=by
    rw[←cf];rfl
   rw[sl];rfl)
  [some (.mr M0.length),some (.lst (ns.map D.int)),some (.int row),some (.int x),none,none,none] (ay M0 fr B) ⟨_,_,_,rfl,rfl⟩
 rw[lq,length_map,Nat.zero_add] at ef;show aP (dQ [some (.mr M0.length),some (.lst (ns.map D.int)),some (.int row),some (.int x),none,none,none] _)=_;unfold dQ;have ge:lZ (aa (ae 1) ag) [some (.mr M0.length),some (.lst (ns.map D.int)),some (.int row),some (.int x),none,none,none] (ay M0 fr B)=.ok ⟨gR (ns.map D.int),none⟩ (ay M0 fr B):=rfl;rw[jM ge ef];rfl
variable{sg:GG}
theorem sJ {g:GE}{ρ1:cC}{d:D}(h:g ρ M=.ok d M1)(h2:sg d ρ=some ρ1):dC sg g ρ M=.ok (.nx ρ1) M1:=by
 unfold dC;rw[h,aq,h2]
theorem pQ {ds0:List D}{n:Nat}{sg:GG}{ge:GE}{ρ:cC}{f:D→D}{M:aB}:∀(ds:List D),(∀d∈ds,∃ρ1,sg d (List.replicate n none++ρ)=some ρ1∧ge ρ1 M=.ok (f d) M)→bN ⟨ds0,none⟩ n sg cL ge ds ρ M=.ok (ds.map f) M
 | [],h=>rfl
 | d::ds,h=>by
  obtain⟨ρ1,e1,e2⟩:=h d mem_cons_self;have ih:=pQ (ds0:=ds0) (n:=n) (sg:=sg) (ge:=ge) (ρ:=ρ) (f:=f) (M:=M) ds fun x hx=>h x (mem_cons_of_mem _ hx)
  unfold bN;rw[vn,if_pos rfl,e1];dsimp only;rw[show cL ρ1 M=.ok true M from rfl];dsimp only;rw[e2];dsimp only;rw[ih];rfl
theorem N8 {k:Nat}{x d:D}{i:Int}(h:M[k]?=some (.lst xs))(ha:ny xs i=some d):aI (.mr k) (.int i) M=.ok d M:=by
 unfold aI bW;dsimp only;rw[h];dsimp only;rw[ha]
theorem B3 :ny (ff b (n+1)) (-1)=some (.mr (b+5+n)):=by
 unfold ff;rw[range_succ,map_append];exact Ff _ _
noncomputable def Bs.laid (B:Bs)(s0:cS)(w m row x hue:Int)(rs:List (List Int))(last:List Int):Bs:=
 {B with rows:=rs++[last++[hue]],tch:=ja ((kX x (fM s0 m row)).map Sn.n) (.tup [.int row,.int x]) B.tch ((kX x (fM s0 m row)).map Sn.n).length,grd:=if(ER s0 w row).getD x.toNat 0=0 then B.grd else tL ((kX x (fM s0 m row)).map Sn.n) (.tup [.int row,.int x]) B.grd}
variable{last:List Int}
theorem Dc {s0:cS}{w:Int}(h0:il M0)(p:B.Pure)(hs:B.st=s.d)(ok:ck mm s)(ok0:ck mm s0)(hm:mm≤12)(f:fD w h g m)
  (htk:B.tk=ij s0 w m row) (hx:0≤x∧x<w) (hr:B.rows=rs++[last]) (hl:last.length<100000) (ht:B.tch.length<900000) (hg:B.grd.length<900000) :
  ∃ink hue,oG x ((ER s0 w row).getD x.toNat 0) (kX x (fM s0 m row)) ink∧s.pots[ink.toNat]?=some hue∧0≤ink∧
   eP [.mr M0.length,.int row,.int x] (ay M0 (aL w h g m) B)=.ok .non (ay M0 (aL w h g m) (B.laid s0 w m row x hue rs last)):=by
 have pf:aX 30 (aL w h g m)=true:=rfl;have sh:=m9 (fr:=aL w h g m) h0 pf p;have fin:=GQ (w:=w) (row:=row) ok0;have sin:=Kn (m:=m) (row:=row) (x:=x) ok0;have sl:=Ax (m:=m) (row:=row) ok0 hm;unfold Bs.laid;rw[uE] at htk;have fll:(ER s0 w row).length=w.toNat:=by unfold ER;rw[length_map,length_range]
 generalize ER s0 w row=fl at *;generalize fM s0 m row=ss at *;obtain⟨xn,rfl⟩:=Int.eq_ofNat_of_zero_le hx.1;have hxl:xn<fl.length:=by omega
 have gx:fl[xn]?=some fl[xn]:=getElem?_eq_getElem hxl;have gxd:fl.getD (xn:Int).toNat 0=fl[xn]:=by rw[Int.toNat_natCast,List.getD,gx];rfl
 rw[gxd];have fkr:=fin _ (getElem_mem hxl);generalize fl[xn]=fk at *;have ax:∀M,aI (.tup (fl.map D.int)) (.int (xn:Int)) M=.ok (.int fk) M:=fun M=>cJ (by rw[getElem?_map,gx];rfl)
 have ecov:=zb (fl:=.tup (fl.map D.int)) (ss:=ss) (x:=(xn:Int)) (by omega) sh;obtain⟨ink,hsh,eink⟩:=CL (x:=(xn:Int)) (fl:=fk) (cs:=kX xn ss) (M:=ay M0 (aL w h g m) B);have csub:∀q∈kX (xn:Int) ss,q∈ss:=fun q hq=>(mem_filter.mp hq).1
 have ir:=hsh.rng fkr (fun q hq=>sin q (csub q hq));have cl:(kX (xn:Int) ss).length≤12:=Nat.le_trans (v7 _ _) sl;generalize kX (xn:Int) ss=cs at *;obtain⟨kn,rfl⟩:=Int.eq_ofNat_of_zero_le ir.1;have hk:kn<s.pots.length:=by rw[ok.pl];omega
 have gp:s.pots[kn]?=some s.pots[kn]:=getElem?_eq_getElem hk;refine⟨kn,s.pots[kn],hsh,by rw[Int.toNat_natCast];exact gp,ir.1,?_⟩;generalize s.pots[kn]=hue at *;have ap:∀M,aI (.tup (s.pots.map D.int)) (.int (kn:Int)) M=.ok (.int hue) M:=fun M=>cJ (by rw[getElem?_map,gp];rfl)
 generalize hfr:aL w h g m=fr at *;show aP (fZ [some (.mr M0.length),some (.int row),some (.int (xn:Int)),none,none,none,none,none,none,none,none,none] _)=_;unfold fZ;have q0:(ay M0 fr B)[M0.length]?=some (.obj "Beam" (cD fr M0.length B)):=fE;have k1:=sJ (sg:=bJ [3,4]) (dG (g:=ae 0) (ρ:=[some (.mr M0.length),some (.int row),some (.int (xn:Int)),none,none,none,none,none,none,none,none,none]) (f:="row_taken") rfl q0 HC)
  (ρ1:=[some (.mr M0.length),some (.int row),some (.int (xn:Int)),some (.tup (fl.map D.int)),some (.tup (ss.map Sn.d)),none,none,none,none,none,none,none]) (by rw[htk];rfl)
 rw[ao k1];have k2:=aT (i:=5) (bp (F:=kB) (o:=.ok (.lst (cs.map (oz xn))) (ay M0 fr B)) (dG (g:=ae 0) (ρ:=[some (.mr M0.length),some (.int row),some (.int (xn:Int)),some (.tup (fl.map D.int)),some (.tup (ss.map Sn.d)),none,none,none,none,none,none,none]) (f:="row_taken") rfl q0 HC) (b:=ae 2) rfl (by rw[htk];exact ecov));rw[ao k2];have k3:=sJ (sg:=bJ [6,7,8,9,10]) (dG (g:=ae 0) (ρ:=[some (.mr M0.length),some (.int row),some (.int (xn:Int)),some (.tup (fl.map D.int)),some (.tup (ss.map Sn.d)),some (.lst (cs.map (oz xn))),none,none,none,none,none,none]) (f:="standing") rfl q0 Dl)
  (ρ1:=[some (.mr M0.length),some (.int row),some (.int (xn:Int)),some (.tup (fl.map D.int)),some (.tup (ss.map Sn.d)),some (.lst (cs.map (oz xn))),some (aO s.floor),some (.tup [.int s.sx,.int s.sy]),some (.tup (s.book.map aO)),some (.tup (s.movers.map Mv.d)),some (.tup (s.pots.map D.int)),none]) (by rw[hs];rfl)
 refine(congrArg aP (ao k3)).trans ?_;generalize hρ:([some (.mr M0.length),some (.int row),some (.int (xn:Int)),some (.tup (fl.map D.int)),some (.tup (ss.map Sn.d)),some (.lst (cs.map (oz xn))),some (aO s.floor),some (.tup [.int s.sx,.int s.sy]),some (.tup (s.book.map aO)),some (.tup (s.movers.map Mv.d)),some (.tup (s.pots.map D.int)),none]:cC)=ρ;have v0:∀M,ae 0 ρ M=.ok (.mr M0.length) M:=fun M=>by rw[←hρ];rfl
 have v2:∀M,ae 2 ρ M=.ok (.int (xn:Int)) M:=fun M=>by rw[←hρ];rfl
 have v3:∀M,ae 3 ρ M=.ok (.tup (fl.map D.int)) M:=fun M=>by rw[←hρ];rfl
 have v5:∀M,ae 5 ρ M=.ok (.lst (cs.map (oz xn))) M:=fun M=>by rw[←hρ];rfl
 have v10:∀M,ae 10 ρ M=.ok (.tup (s.pots.map D.int)) M:=fun M=>by rw[←hρ];rfl
 have hrl:B.rows.length=rs.length+1:=by rw[hr,length_append];rfl
 have grow:B.rows[rs.length]?=some last:=by rw[hr];simp
 have go:=av (f:=aI) (dG (g:=ae 0) (ρ:=ρ) (f:="laid_rows") (v0 _) q0 rj) (b:=mI (gC (.int 1))) (y:=.int (-1)) (M2:=ay M0 fr B) rfl (N8 (x:=.non) BS (by rw[hrl];exact B3));have gi:=av (f:=aI) (v10 _) (bp (F:=cE) (av (f:=aI) (v3 _) (v2 _) (ax _)) (v5 _) eink) (ap _);have k4:=yz go (vS grow) gi (vS grow) (by rw[length_map];omega);have em:last.map D.int++[D.int hue]=(last++[hue]).map D.int:=by rw[map_append];rfl
 have er:B.rows.set rs.length (last++[hue])=rs++[last++[hue]]:=by rw[hr];simp
 have sr:=GR (M0:=M0) (fr:=fr) (B:=B) (i:=rs.length) (r:=last++[hue]);rw[er] at sr;rw[em] at k4;have k4':jW (g2 aI (dX "Beam" "laid_rows" (ae 0)) (mI (gC (D.int 1)))) (g2 aI (ae 10) (aj 2 cE (aa (g2 aI (ae 3) (ae 2)) (aa (ae 5) ag)))) ρ (ay M0 fr B)=.ok .non (ay M0 fr {B with rows:=rs++[last++[hue]]}):=k4.trans (congrArg (bj.ok D.non) sr);rw[ao (cB k4')];generalize hB1:({B with rows:=rs++[last++[hue]]}:Bs)=B1;have t1:B1.tch=B.tch:=by rw[←hB1]
 have g1:B1.grd=B.grd:=by rw[←hB1]
 have gits:bY (ae 5) ρ (ay M0 fr B1)=.ok ⟨cs.map (oz xn),none⟩ (ay M0 fr B1):=by
  unfold bY;rw[v5];rfl
 have ec:=pQ (ds0:=cs.map (oz xn)) (n:=3) (sg:=bJ [0,1,2]) (ge:=fG) (ρ:=ρ) (f:=fun d=>match d with | .tup [_,n,_]=>n|d=>d) (M:=ay M0 fr B1) (cs.map (oz xn)) (fun d hd=>by
  obtain⟨q,_,rfl⟩:=mem_map.mp hd;exact⟨[some (.int q.r),some (.int q.n),some (.int (eZ xn q))]++ρ,rfl,rfl⟩)
 have em2:(cs.map (oz xn)).map (fun d=>match d with | .tup [_,n,_]=>n|d=>d)=(cs.map Sn.n).map D.int:=by
  rw[map_map,map_map];rfl
 rw[em2] at ec;have lns:(cs.map Sn.n).length≤12:=by rw[length_map];exact cl
 generalize cs.map Sn.n=ns at *;have k5:cP (bY (ae 5)) 3 (bJ [0,1,2]) cL fG aZ ρ (ay M0 fr B1)=.ok (.lst (ns.map D.int)) (ay M0 fr B1):=by
  unfold cP;rw[gits,aq];dsimp only;rw[ec,aq];unfold aZ;rw[if_pos (ba (by rw[length_map];omega))]
 rw[ao (aT k5)];generalize hρ2:ρ.set 11 (some (.lst (ns.map D.int)))=ρ2;have u0:∀M,ae 0 ρ2 M=.ok (.mr M0.length) M:=fun M=>by rw[←hρ2,←hρ];rfl
 have u1:∀M,ae 1 ρ2 M=.ok (.int row) M:=fun M=>by rw[←hρ2,←hρ];rfl
 have u2:∀M,ae 2 ρ2 M=.ok (.int (xn:Int)) M:=fun M=>by rw[←hρ2,←hρ];rfl
 have u3:∀M,ae 3 ρ2 M=.ok (.tup (fl.map D.int)) M:=fun M=>by rw[←hρ2,←hρ];rfl
 have u11:∀M,ae 11 ρ2 M=.ok (.lst (ns.map D.int)) M:=fun M=>by rw[←hρ2,←hρ];rfl
 have args:∀M,aa (ae 11) (aa (ae 1) (aa (ae 2) ag)) ρ2 M=.ok [.lst (ns.map D.int),.int row,.int (xn:Int)] M:=fun M=>aM (u11 M) (aM (u1 M) (aM (u2 M) rfl))
 have k6:=iy (c:="Beam") (m:="keep_touches") (n:=4) (u0 _) (fE (M0:=M0) (fr:=fr) (B:=B1)) rfl (args _) rfl (zB (row:=row) (x:=(xn:Int)) lns (by rw[t1];exact ht));rw[ao (cB k6),t1];have tst:∀M,az (g2 (aF true) (g2 aI (ae 3) (ae 2)) (gC (.int 0))) ρ2 M=.ok (!decide (fk=0)) M:=fun M=>aE (av (av (f:=aI) (u3 M) (u2 M) (ax M)) (y:=.int 0) rfl (nJ fk 0 M))
 by_cases hz:fk=0
 ·rw[aS ((tst _).trans (by rw[hz];rfl)),if_pos hz,←hB1];rfl
 ·rw[bK ((tst _).trans (by rw[decide_eq_false hz];rfl)),if_neg hz];have k7:=iy (c:="Beam") (m:="keep_grounds") (n:=4) (u0 _) (fE (M0:=M0) (fr:=fr) (B:={B1 with tch:=ja ns (.tup [.int row,.int (xn:Int)]) B.tch ns.length})) rfl (args _) rfl (zc (row:=row) (x:=(xn:Int)) (ns:=ns) (by show B1.grd.length+_<_;rw[g1];omega));rw[cB k7,←hB1];rfl
theorem xa {p:Int}(hp:0<p):((t+1) / p=t / p∧(t+1) % p=t % p+1)∨(t+1) % p=0:=by
 have a:=Int.emod_add_mul_ediv (t+1) p;have b:=Int.emod_add_mul_ediv t p;have c1:=Int.emod_nonneg t (Int.ne_of_gt hp);have c2:=Int.emod_lt_of_pos t hp;have c3:=Int.emod_nonneg (t+1) (Int.ne_of_gt hp);have c4:=Int.emod_lt_of_pos (t+1) hp;have e1:p*((t+1) / p)-p*(t / p)=1+t % p-(t+1) % p:=by omega
 rw[←Int.mul_sub] at e1;rcases Int.lt_trichotomy ((t+1) / p-t / p) 0 with z|z|z
 ·have:p*((t+1) / p-t / p)≤p*(-1):=Int.mul_le_mul_of_nonneg_left (by omega) (by omega);omega
 ·rw[z] at e1;exact .inl ⟨by omega,by omega⟩
 ·have:p*1≤p*((t+1) / p-t / p):=Int.mul_le_mul_of_nonneg_left (by omega) (by omega);exact .inr (by omega)
structure pW (w g m mm:Int)(s:cS)(t:Int)(B:Bs):Prop where
 te:B.t=t
 st:B.st=s.d
 p:B.Pure
 tch:B.tch.length≤144*t.toNat
 grd:B.grd.length≤12*t.toNat
 lost:B.lost.length≤12*t.toNat
 rl:B.rows.length≤t.toNat
 rr:∀r∈B.rows,r.length≤t.toNat
 row:0<t % (w+g)→t % (w+g)<w→∃s0,ck mm s0∧B.tk=ij s0 w m (t / (w+g))∧B.rows≠[]
theorem wY {M0:aB}{s0:cS}{w hue:Int}{fs:cS}(hm:mm≤12)(ok0:ck mm s0)(h0:0≤t)(hp:0<w+g)
  (i1:B.t=t) (i2:B.st=s.d) (i3:B.Pure) (i4:B.tch.length≤144*t.toNat) (i5:B.grd.length≤12*t.toNat) (i6:B.lost.length≤12*(t.toNat+1)) (i7:B.rows.length≤t.toNat+1) (i8:∀r∈B.rows,r.length≤t.toNat)
  (htk:B.tk=ij s0 w m (t / (w+g))) (hr:B.rows=rs++[last]):pW w g m mm s (t+1) {B.laid s0 w m (t / (w+g)) (t % (w+g)) hue rs last with t:=t+1}:=by
 have e:(t+1).toNat=t.toNat+1:=by omega
 have pz:aX 30 (.tup [.int (t / (w+g)),.int (t % (w+g))])=true:=rfl;have sl:((kX (t % (w+g)) (fM s0 m (t / (w+g)))).map Sn.n).length≤12:=by
  rw[length_map];exact Nat.le_trans (v7 _ _) (Ax ok0 hm)
 refine⟨rfl,i2,⟨i3.st,i3.tk,sF pz i3.tch _,?_,i3.lost⟩,?_,?_,?_,?_,?_,?_⟩
 ·unfold Bs.laid;dsimp only;split
  ·exact i3.grd
  ·exact p0 _ pz _ _ i3.grd
 ·show(ja _ _ B.tch _).length≤_;have:=p8 ((kX (t % (w+g)) (fM s0 m (t / (w+g)))).map Sn.n) (.tup [.int (t / (w+g)),.int (t % (w+g))]) B.tch ((kX (t % (w+g)) (fM s0 m (t / (w+g)))).map Sn.n).length;have b:((kX (t % (w+g)) (fM s0 m (t / (w+g)))).map Sn.n).length*((kX (t % (w+g)) (fM s0 m (t / (w+g)))).map Sn.n).length≤12*12:=Nat.mul_le_mul sl sl;omega
 ·unfold Bs.laid;dsimp only;split
  ·omega
  ·have:=mn (κ:=eQ) (fun n=>Sum.inl n) (.tup [.int (t / (w+g)),.int (t % (w+g))]) ((kX (t % (w+g)) (fM s0 m (t / (w+g)))).map Sn.n) B.grd;unfold tL;omega
 ·show B.lost.length≤_;omega
 ·show(rs++[last++[hue]]).length≤_;rw[hr,length_append] at i7;rw[length_append];simp only[length_singleton] at *;omega
 ·show∀r∈rs++[last++[hue]],_;intro r hr';rcases mem_append.mp hr' with q|q
  ·have:=i8 r (by rw[hr];exact mem_append_left _ q);omega
  ·rw[mem_singleton] at q;have:=i8 last (by rw[hr];simp);rw[q,length_append,length_singleton];omega
 ·intro h1 h2;have d:(t+1) / (w+g)=t / (w+g):=by
   rcases xa (t:=t) hp with⟨q,_⟩|q
   ·exact q
   ·omega
  refine⟨s0,ok0,?_,?_⟩
  ·show B.tk=_;rw[htk,d]
  ·show rs++[last++[hue]]≠[];simp
theorem ki {f:Str}{gv:GE}{fs:List (Str×D)}{L L':aB}{y:D}(hv:gv ρ (M0++(.obj "Beam" fs::L))=.ok y (M0++(.obj "Beam" fs::L')))(hρ:∀M,ae 0 ρ M=.ok (.mr M0.length) M)(hl:fs.length<1000) :
  gQ "Beam" f (ae 0) gv ρ (M0++(.obj "Beam" fs::L))=.ok (.nx ρ) (M0++(.obj "Beam" (fU f y fs)::L')):=by
 have e:(M0++(MO.obj "Beam" fs::L'))[M0.length]?=some (.obj "Beam" fs):=by rw[getElem?_append_right (Nat.le_refl _)];simp
 rw[wl hv (hρ _) e hl];congr 1;rw[set_append_right _ _ (Nat.le_refl _),Nat.sub_self];rfl
theorem AQ {L:aB}:iC ag ρ (M0++L)=.ok (.mr (M0.length+L.length)) (M0++(L++[.lst []])):=by
 rw[ku,length_append,append_assoc]
theorem MZ {L:aB}:xG ρ (M0++L)=.ok (.mr (M0.length+L.length)) (M0++(L++[.dK []])):=by
 show bj.ok (D.mr (M0++L).length) (M0++L++[.dK []])=_;rw[length_append,append_assoc]
theorem MX {L:aB}:xm ρ (M0++L)=.ok (.mr (M0.length+L.length)) (M0++(L++[.dT []])):=by
 show bj.ok (D.mr (M0++L).length) (M0++L++[.dT []])=_;rw[length_append,append_assoc]
noncomputable def uI (st:D):Bs:=⟨st,0,.tup [.tup [],.tup []],[],[],[],[]⟩
theorem GW {st:D}(hc:∀M,bV [fr,st] M=.ok .non M):gE [.mr M0.length,fr,st] (M0++[.obj "Beam" []])=.ok .non (ay M0 fr (uI st)):=by
 show aP (gf [some (.mr M0.length),some fr,some st] _)=_;unfold gf;have hρ:∀M,ae 0 [some (.mr M0.length),some fr,some st] M=.ok (.mr M0.length) M:=fun M=>rfl
 have k0:=cB (bp (F:=bV) (a:=ae 1) (b:=ae 2) (ρ:=[some (.mr M0.length),some fr,some st]) (M:=M0++[MO.obj "Beam" []]) rfl rfl (hc _));rw[ao k0];rw[ao (ki (f:="frame") (gv:=ae 1) (y:=fr) rfl hρ (by decide))];rw[ao (ki (f:="standing") (gv:=ae 2) (y:=st) rfl hρ (Nat.lt_of_lt_of_eq (by decide:1<1000) rfl))];rw[ao (ki (f:="ahead") (gv:=gC (.int 0)) (y:=.int 0) rfl hρ (Nat.lt_of_lt_of_eq (by decide:2<1000) rfl))];rw[ao (ki (f:="row_taken") (y:=.tup [.tup [],.tup []]) (cw (ds:=[.tup [],.tup []]) rfl (by decide)) hρ (Nat.lt_of_lt_of_eq (by decide:3<1000) rfl))];rw[ao (ki (f:="laid_rows") (y:=.mr (M0.length+1)) AQ hρ (Nat.lt_of_lt_of_eq (by decide:4<1000) rfl))];rw[ao (ki (f:="first_touches") (y:=.mr (M0.length+2)) MX hρ (Nat.lt_of_lt_of_eq (by decide:5<1000) rfl))];rw[ao (ki (f:="first_grounds") (y:=.mr (M0.length+3)) MZ hρ (Nat.lt_of_lt_of_eq (by decide:6<1000) rfl))];rw[ki (f:="lost_pairs") (y:=.mr (M0.length+4)) AQ hρ (Nat.lt_of_lt_of_eq (by decide:7<1000) rfl)];rfl
theorem Fk {ga:GA}{st:D}(ha:ga ρ M0=.ok [fr,st] M0)(hc:∀M,bV [fr,st] M=.ok .non M):l8 "Beam" 3 gE ga ρ M0=.ok (.mr M0.length) (ay M0 fr (uI st)):=by
 unfold l8;rw[ha,aq,if_pos (show [fr,st].length+1=3 from rfl),GW hc,aq]
theorem O7 {w:Int}(ps:aX 30 s.d=true):pW w g m mm s 0 (uI s.d):=
 ⟨rfl,rfl,⟨ps,rfl,fun _ h=>(by cases h),fun _ h=>(by cases h),fun _ h=>(by cases h)⟩,Nat.zero_le _,Nat.zero_le _,Nat.zero_le _,Nat.zero_le _,fun _ h=>(by cases h),fun h=>(by simp at h)⟩
theorem oG.uniq {fl k k':Int}(h:oG x fl (kX x (fM s m row)) k)(h':oG x fl (kX x (fM s m row)) k'):k=k':=by
 have nf:∀b∈kX x (fM s m row),b=tJ s row b.n:=fun b hb=>by
  obtain⟨n,_,rfl⟩:=mem_map.mp (mem_filter.mp hb).1;have e:(tJ s row n).n=n:=by
   unfold tJ;split <;> rfl
  rw[e]
 rcases h with⟨e,rfl⟩|⟨b,hb,hl,rfl⟩
 ·rcases h' with⟨_,rfl⟩|⟨b,hb,_⟩
  ·rfl
  ·rw[e] at hb;cases hb
 ·rcases h' with⟨e,rfl⟩|⟨b',hb',hl',rfl⟩
  ·rw[e] at hb;cases hb
  ·have a1:Fm b b':=hl b' hb';have a2:Fm b' b:=hl' b hb;unfold Fm at a1 a2;have e:b.n=b'.n:=by omega
   have e2:b=b':=by rw[nf b hb,nf b' hb',e]
   rw[e2]
theorem AJ {s0:cS}{w:Int}(p:B.Pure)(hs:B.st=s.d)(ok:ck mm s)(ok0:ck mm s0)(hm:mm≤12)(f:fD w h g m)
  (htk:B.tk=ij s0 w m row) (hx:0≤x∧x<w) (hr:B.rows=rs++[last]) (hl:last.length<100000) (ht:B.tch.length<900000) (hg:B.grd.length<900000) :
  ∃ink hue,oG x ((ER s0 w row).getD x.toNat 0) (kX x (fM s0 m row)) ink∧s.pots[ink.toNat]?=some hue∧0≤ink∧
   ∀M0,il M0→eP [.mr M0.length,.int row,.int x] (ay M0 (aL w h g m) B)=.ok .non (ay M0 (aL w h g m) (B.laid s0 w m row x hue rs last)):=by
 obtain⟨ink,hue,h1,h2,h3,_⟩:=Dc (M0:=[]) (row:=row) (x:=x) rfl p hs ok ok0 hm f htk hx hr hl ht hg;refine⟨ink,hue,h1,h2,h3,fun M0 h0=>?_⟩;obtain⟨ink',hue',k1,k2,_,e⟩:=Dc (M0:=M0) (row:=row) (x:=x) h0 p hs ok ok0 hm f htk hx hr hl ht hg;have e1:=oG.uniq h1 k1;subst e1;rw[h2] at k2;cases k2;exact e
section
variable {M0:aB}{B B2:Bs}{w h g m t:Int}
theorem Ef (x1 x2:Option D)(hB:B.t=t):Fy "Beam" "ahead" (ae 0) (gC (.int 1)) [some (.mr M0.length),x1,x2] (ay M0 (aL w h g m) B)=.ok (.nx [some (.mr M0.length),x1,x2]) (ay M0 (aL w h g m) {B with t:=t+1}):=by
 have a:=Hs (c:="Beam") (f:="ahead") (go:=ae 0) (gv:=gC (.int 1)) (ρ:=[some (.mr M0.length),x1,x2]) (M:=ay M0 (aL w h g m) B) (z:=.int (t+1)) rfl fE yV rfl (by rw[hB];rfl) fE wJ;rw[a,NY]
theorem xw (f:fD w h g m)(h0:0≤t)(h1:t<h*(w+g))(te:B.t=t):aj 2 iA (aa (dX "Beam" "frame" (ae 0)) (aa (dX "Beam" "ahead" (ae 0)) ag)) [some (.mr M0.length),none,none] (ay M0 (aL w h g m) B)=.ok (nZ w g t) (ay M0 (aL w h g m) B):=
 bp (F:=iA) (dG (g:=ae 0) (ρ:=[some (.mr M0.length),none,none]) (f:="frame") rfl fE o7) (dG (g:=ae 0) (ρ:=[some (.mr M0.length),none,none]) (f:="ahead") rfl fE yV) (by rw[te];exact Es (M:=ay M0 (aL w h g m) B) f h0 h1)
theorem D2 (f:fD w h g m)(h0:0≤t)(h1:t<h*(w+g))(te:B.t=t)(hz:¬t % (w+g)<w):ft [.mr M0.length] (ay M0 (aL w h g m) B)=.ok .non (ay M0 (aL w h g m) {B with t:=t+1}):=by
 have c1:=xw (M0:=M0) (B:=B) f h0 h1 te;have pl:nZ w g t=.tup [.int (t / (w+g)),.non]:=by unfold nZ;rw[if_neg hz]
 rw[pl] at c1;show aP (dR [some (.mr M0.length),none,none] _)=_;unfold dR;rw[ao (sJ (sg:=bJ [1,2]) c1 (ρ1:=[some (.mr M0.length),some (.int (t / (w+g))),some .non]) rfl)];have tst:∀M,az (g2 (aF false) (ae 2) (gC (.int 0))) [some (.mr M0.length),some (.int (t / (w+g))),some .non] M=.ok false M:=fun M=>rfl
 have tst2:∀M,az (g2 (kW true) (ae 2) (gC .non)) [some (.mr M0.length),some (.int (t / (w+g))),some .non] M=.ok false M:=fun M=>rfl
 rw[ao ((aS (tst _)).trans rfl),ao ((aS (tst2 _)).trans rfl),Ef _ _ te];rfl
theorem AA {B1:Bs}(f:fD w h g m)(h0:0≤t)(h1:t<h*(w+g))(te:B.t=t)(te2:B2.t=t)(hz:t % (w+g)<w)
  (h2:(t % (w+g)=0∧eU [.mr M0.length,.int (t / (w+g))] (ay M0 (aL w h g m) B)=.ok .non (ay M0 (aL w h g m) B1))∨(t % (w+g)≠0∧B1=B))
  (h3:eP [.mr M0.length,.int (t / (w+g)),.int (t % (w+g))] (ay M0 (aL w h g m) B1)=.ok .non (ay M0 (aL w h g m) B2)) :
  ft [.mr M0.length] (ay M0 (aL w h g m) B)=.ok .non (ay M0 (aL w h g m) {B2 with t:=t+1}):=by
 have c1:=xw (M0:=M0) (B:=B) f h0 h1 te;have pl:nZ w g t=.tup [.int (t / (w+g)),.int (t % (w+g))]:=by unfold nZ;rw[if_pos hz]
 rw[pl] at c1;show aP (dR [some (.mr M0.length),none,none] _)=_;unfold dR;rw[ao (sJ (sg:=bJ [1,2]) c1 (ρ1:=[some (.mr M0.length),some (.int (t / (w+g))),some (.int (t % (w+g)))]) rfl)];have tst:∀M,az (g2 (aF false) (ae 2) (gC (.int 0))) [some (.mr M0.length),some (.int (t / (w+g))),some (.int (t % (w+g)))] M=.ok (decide (t % (w+g)=0)) M:=fun M=>aE (av (x:=.int (t % (w+g))) (y:=.int 0) rfl rfl (nD _ 0 M))
 have tst2:∀M,az (g2 (kW true) (ae 2) (gC .non)) [some (.mr M0.length),some (.int (t / (w+g))),some (.int (t % (w+g)))] M=.ok true M:=fun M=>rfl
 have e2:bL (az (g2 (aF false) (ae 2) (gC (.int 0)))) (cK (gT "Beam" "take_row" 2 eU (ae 0) (aa (ae 1) ag))) aA [some (.mr M0.length),some (.int (t / (w+g))),some (.int (t % (w+g)))] (ay M0 (aL w h g m) B)=.ok (.nx [some (.mr M0.length),some (.int (t / (w+g))),some (.int (t % (w+g)))]) (ay M0 (aL w h g m) B1):=by
  rcases h2 with⟨hx,k⟩|⟨hx,k⟩
  ·exact(bK (b:=aA) ((tst (ay M0 (aL w h g m) B)).trans (by rw[decide_eq_true hx]))).trans (cB (iy (c:="Beam") (m:="take_row") (n:=2) (go:=ae 0) (ga:=aa (ae 1) ag) (ρ:=[some (.mr M0.length),some (.int (t / (w+g))),some (.int (t % (w+g)))]) rfl fE rfl (ds:=[.int (t / (w+g))]) rfl rfl k))
  ·rw[k];exact(aS ((tst (ay M0 (aL w h g m) B)).trans (by rw[decide_eq_false hx]))).trans rfl
 rw[ao e2];have k3:=iy (c:="Beam") (m:="lay_spot") (n:=3) (go:=ae 0) (ga:=aa (ae 1) (aa (ae 2) ag)) (ρ:=[some (.mr M0.length),some (.int (t / (w+g))),some (.int (t % (w+g)))]) (M:=ay M0 (aL w h g m) B1) rfl fE rfl (ds:=[.int (t / (w+g)),.int (t % (w+g))]) rfl rfl h3;rw[ao ((bK (b:=aA) (tst2 (ay M0 (aL w h g m) B1))).trans (cB k3)),Ef _ _ te2];rfl
end
theorem CN {w:Int}(ok:ck mm s)(hm:mm≤12)(f:fD w h g m)(ht0:0≤t)(ht1:t<h*(w+g))(ht2:t≤3000)(iv:pW w g m mm s t B) :
  ∃B',pW w g m mm s (t+1) B'∧∀M0,il M0→ft [.mr M0.length] (ay M0 (aL w h g m) B)=.ok .non (ay M0 (aL w h g m) B'):=by
 have hp:0<w+g:=by have:=f.w;have:=f.g;omega
 by_cases hz:t % (w+g)<w
 ·have x0:=Int.emod_nonneg t (Int.ne_of_gt hp)
  by_cases hx:t % (w+g)=0
  ·generalize hB1:({B with tk:=ij s w m (t / (w+g)),rows:=B.rows++[[]],lost:=B.lost++l7 (t / (w+g)) (mf (cX s (t / (w+g))) (some m) none)}:Bs)=B1;have j1:B1.t=t:=by rw[←hB1];exact iv.te
   have j2:B1.st=s.d:=by rw[←hB1];exact iv.st
   have jl:(l7 (t / (w+g)) (mf (cX s (t / (w+g))) (some m) none)).length≤12:=by
    unfold l7;rw[length_map];exact Nat.le_trans (si _ _ _) (zO ok hm)
   have j3:B1.Pure:=by
    rw[←hB1];refine⟨iv.p.st,rT s w m _,iv.p.tch,iv.p.grd,fun p hp'=>?_⟩;rcases mem_append.mp hp' with q|q
    ·exact iv.p.lost p q
    ·obtain⟨n,_,rfl⟩:=mem_map.mp q;rfl
   have j6:B1.lost.length≤12*(t.toNat+1):=by
    rw[←hB1];show(B.lost++_).length≤_;rw[length_append];have:=iv.lost;omega
   have j7:B1.rows.length≤t.toNat+1:=by
    rw[←hB1];show(B.rows++[[]]).length≤_;rw[length_append];have:=iv.rl;simp only[length_singleton];omega
   have j8:∀r∈B1.rows,r.length≤t.toNat:=by
    rw[←hB1];intro r hr;rcases mem_append.mp hr with q|q
    ·exact iv.rr r q
    ·rw[mem_singleton] at q;rw[q];exact Nat.zero_le _
   have jt:B1.tch=B.tch:=by rw[←hB1]
   have jg:B1.grd=B.grd:=by rw[←hB1]
   have jk:B1.tk=ij s w m (t / (w+g)):=by rw[←hB1]
   have jr:B1.rows=B.rows++[[]]:=by rw[←hB1]
   obtain⟨ink,hue,_,_,_,ey⟩:=AJ (row:=t / (w+g)) (x:=t % (w+g)) j3 j2 ok ok hm f jk ⟨x0,hz⟩ jr (by decide) (by rw[jt];have:=iv.tch;omega) (by rw[jg];have:=iv.grd;omega);refine⟨_,wY (M0:=[]) (fs:=s) (hue:=hue) hm ok ht0 hp j1 j2 j3 (by rw[jt];exact iv.tch) (by rw[jg];exact iv.grd) j6 j7 j8 jk jr,fun M0 h0=>?_⟩;have tk:=Fp (row:=t / (w+g)) h0 iv.p iv.st ok hm f (by have:=iv.lost;omega) (by have:=iv.rl;omega);rw[hB1] at tk;exact AA f ht0 ht1 iv.te j1 hz (.inl ⟨hx,tk⟩) (ey M0 h0)
  ·obtain⟨s0,ok0,jk,jn⟩:=iv.row (by omega) hz;obtain⟨rs,last,jr⟩:∃rs last,B.rows=rs++[last]:=⟨B.rows.dropLast,B.rows.getLast jn,(dropLast_concat_getLast jn).symm⟩;have jll:last.length<100000:=by
    have:=iv.rr last (by rw[jr];simp);omega
   obtain⟨ink,hue,_,_,_,ey⟩:=AJ (row:=t / (w+g)) (x:=t % (w+g)) iv.p iv.st ok ok0 hm f jk ⟨x0,hz⟩ jr jll (by have:=iv.tch;omega) (by have:=iv.grd;omega);refine⟨_,wY (M0:=[]) (fs:=s) (hue:=hue) hm ok0 ht0 hp iv.te iv.st iv.p iv.tch iv.grd (by have:=iv.lost;omega) (by have:=iv.rl;omega) iv.rr jk jr,fun M0 h0=>?_⟩;exact AA f ht0 ht1 iv.te iv.te hz (.inr ⟨hx,rfl⟩) (ey M0 h0)
 ·refine⟨{B with t:=t+1},⟨rfl,iv.st,⟨iv.p.st,iv.p.tk,iv.p.tch,iv.p.grd,iv.p.lost⟩,by have:=iv.tch;show B.tch.length≤_;omega,by have:=iv.grd;show B.grd.length≤_;omega,by have:=iv.lost;show B.lost.length≤_;omega,by have:=iv.rl;show B.rows.length≤_;omega,fun r hr=>by have:=iv.rr r hr;omega,?_⟩,fun M0 _=>D2 f ht0 ht1 iv.te hz⟩;intro h1 h2;exfalso;rcases xa (t:=t) hp with⟨_,q⟩|q <;> omega
theorem uz {s:cS}{w h g m mm e:Int}(ok:ck mm s)(hm:mm≤12)(f:fD w h g m)(he:e≤h*(w+g))(he2:e≤3000){x1:Option D}:∀(n fuel:Nat) (t:Int) (B:Bs),0≤t→t+n=e→n<fuel→pW w g m mm s t B→
  ∃B',pW w g m mm s e B'∧∀M0,il M0→cG iz jK fuel [some (.mr M0.length),x1,some (.int e)] (ay M0 (aL w h g m) B)=.ok (.nx [some (.mr M0.length),x1,some (.int e)]) (ay M0 (aL w h g m) B')
 | n,0,t,B,_,_,hf,_=>by omega
 | 0,fuel+1,t,B,h1,h2,_,iv=>by
  have e1:t=e:=by omega
  subst e1;refine⟨B,iv,fun M0 h0=>yI ?_⟩;unfold iz;exact aE (av (f:=jo) (dG (g:=ae 0) (ρ:=[some (.mr M0.length),x1,some (.int t)]) (f:="ahead") rfl fE yV) (b:=ae 2) (y:=.int t) rfl (by rw[iv.te];show bj.ok (D.bl (decide (t<t))) _=_;rw[decide_eq_false (by omega)]))
 | n+1,fuel+1,t,B,h1,h2,hf,iv=>by
  obtain⟨B1,iv1,e1⟩:=CN ok hm f h1 (by omega) (by omega) iv;obtain⟨B',iv',e2⟩:=uz ok hm f he he2 (x1:=x1) n fuel (t+1) B1 (by omega) (by omega) (by omega) iv1;refine⟨B',iv',fun M0 h0=>?_⟩;rw[←e2 M0 h0];refine D0 (M1:=ay M0 (aL w h g m) B) ?_ ?_
  ·unfold iz;exact aE (av (f:=jo) (dG (g:=ae 0) (ρ:=[some (.mr M0.length),x1,some (.int e)]) (f:="ahead") rfl fE yV) (b:=ae 2) (y:=.int e) rfl (by rw[iv.te];show bj.ok (D.bl (decide (t<e))) _=_;rw[decide_eq_true (by omega)]))
  ·unfold jK;exact cB (iy (c:="Beam") (m:="go_tick") (n:=1) (go:=ae 0) (ga:=ag) (ρ:=[some (.mr M0.length),x1,some (.int e)]) rfl fE rfl (ds:=[]) rfl rfl (e1 M0 h0))
theorem Cm {w k:Int}(ok:ck mm s)(hm:mm≤12)(f:fD w h g m)(ht0:0≤t)(hk:0≤k)(he:t+k≤h*(w+g))(iv:pW w g m mm s t B) :
  ∃B',pW w g m mm s (t+k) B'∧∀M0,il M0→m5 [.mr M0.length,.int k] (ay M0 (aL w h g m) B)=.ok .non (ay M0 (aL w h g m) B'):=by
 have hb:h*(w+g)≤40*60:=by
  have a:=f.w;have b:=f.g;have c:=f.h;exact Int.mul_le_mul (by omega) (by omega) (by omega) (by omega)
 obtain⟨B',iv',ew⟩:=uz (x1:=some (.int k)) ok hm f he (by omega) k.toNat 5000 t B ht0 (by omega) (by omega) iv;refine⟨B',iv',fun M0 h0=>?_⟩;show aP (m8 [some (.mr M0.length),some (.int k),none] _)=_;unfold m8;have q0:(ay M0 (aL w h g m) B)[M0.length]?=some (.obj "Beam" (cD (aL w h g m) M0.length B)):=fE;have k1:=aT (i:=2) (av (f:=a9) (o:=.ok (.int (t+k)) (ay M0 (aL w h g m) B)) (dG (g:=ae 0) (ρ:=[some (.mr M0.length),some (.int k),none]) (f:="ahead") rfl q0 yV) (b:=ae 1) (y:=.int k) rfl (by rw[iv.te];rfl));rw[ao k1];have c1:=dJ (F:=bx) (o:=.ok (.int (h*(w+g))) (ay M0 (aL w h g m) B)) (dG (g:=ae 0) (ρ:=[some (.mr M0.length),some (.int k),some (.int (t+k))]) (f:="frame") rfl q0 o7) (dH f);have tst:=aE (x:=false) (av (f:=mj) (a:=ae 2) (ρ:=[some (.mr M0.length),some (.int k),some (.int (t+k))]) (x:=.int (t+k)) rfl c1 (by show bj.ok (D.bl (decide (t+k>h*(w+g)))) _=_;rw[decide_eq_false (by omega)]));refine(congrArg aP (ao ((aS tst).trans rfl))).trans ?_;show aP (cG iz jK 5000 [some (.mr M0.length),some (.int k),some (.int (t+k))] _)=_;rw[ew M0 h0];rfl
theorem FU {w:Int}(f:fD w h g m):jG [.mr M0.length] (ay M0 (aL w h g m) B)=.ok (.bl (decide (B.t=h*(w+g)))) (ay M0 (aL w h g m) B):=by
 show aP (gW [some (.mr M0.length)] _)=_;unfold gW;have q0:(ay M0 (aL w h g m) B)[M0.length]?=some (.obj "Beam" (cD (aL w h g m) M0.length B)):=fE;rw[aR (av (f:=aF false) (dG (g:=ae 0) (ρ:=[some (.mr M0.length)]) (f:="ahead") rfl q0 yV) (dJ (F:=bx) (o:=.ok (.int (h*(w+g))) (ay M0 (aL w h g m) B)) (dG (g:=ae 0) (ρ:=[some (.mr M0.length)]) (f:="frame") rfl q0 o7) (dH f)) (nD _ _ _))];rfl
theorem C7 {w:Int}(ok:ck mm s)(hm:mm≤900)(f:fD w h g m)(hs:B.st=s.d)(hd:iW s dd)(ht:B.t≠h*(w+g)) :
  mS [.mr M0.length,dd.d] (ay M0 (aL w h g m) B)=.ok .non (ay M0 (aL w h g m) {B with st:=(fJ s dd).d}):=by
 show aP (kx [some (.mr M0.length),some dd.d] _)=_;unfold kx;have q0:(ay M0 (aL w h g m) B)[M0.length]?=some (.obj "Beam" (cD (aL w h g m) M0.length B)):=fE;have k1:=bM (iy (c:="Beam") (m:="is_over") (n:=1) (go:=ae 0) (ga:=ag) (ρ:=[some (.mr M0.length),some dd.d]) rfl q0 rfl (ds:=[]) rfl rfl (FU (M0:=M0) (B:=B) f));rw[decide_eq_false ht] at k1;rw[ao ((aS k1).trans rfl)];have k2:=bp (F:=d7) (o:=.ok (fJ s dd).d (ay M0 (aL w h g m) B)) (dG (g:=ae 0) (ρ:=[some (.mr M0.length),some dd.d]) (f:="standing") rfl q0 Dl) (b:=ae 1) (y:=dd.d) (M2:=ay M0 (aL w h g m) B) rfl (by rw[hs];exact ze ok hm hd);rw[wl k2 (rfl:ae 0 [some (.mr M0.length),some dd.d] (ay M0 (aL w h g m) B)=.ok (.mr M0.length) (ay M0 (aL w h g m) B)) q0 wJ,JB];rfl
theorem DJ {w:Int}(iv:pW w g m mm s t B):pW w g m mm (fJ s dd) t {B with st:=(fJ s dd).d}:=
 ⟨iv.te,rfl,⟨yj _,iv.p.tk,iv.p.tch,iv.p.grd,iv.p.lost⟩,iv.tch,iv.grd,iv.lost,iv.rl,iv.rr,iv.row⟩
theorem xf (b:Nat)(n:Nat):kO (ff b n) (ff b n)=true:=jS _
theorem pE {t:tK}{ge:GE}{ρ:cC}{f:D→D}{M:aB}(ht:t.ok M=true):∀(ds:List D),(∀d∈ds,ge (some d::ρ) M=.ok (f d) M)→fT t cL ge ds ρ M=.ok (ds.map f) M
 | [],h=>by
  unfold fT;rw[ht,if_pos rfl];rfl
 | d::ds,h=>by
  have ih:=pE (ge:=ge) (ρ:=ρ) (f:=f) ht ds fun x hx=>h x (mem_cons_of_mem _ hx)
  unfold fT;rw[ht,if_pos rfl,show cL (some d::ρ) M=.ok true M from rfl];dsimp only;rw[h d mem_cons_self];dsimp only;rw[ih];rfl
theorem yP (hr:B.rows.length≤90000):cU [.mr M0.length] (ay M0 fr B)=.ok (.lst (B.rows.map fun r=>.lst (r.map D.int))) (ay M0 fr B):=by
 show aP (dY [some (.mr M0.length)] _)=_;unfold dY;have fl:=dG (g:=ae 0) (ρ:=[some (.mr M0.length)]) (M:=ay M0 fr B) (f:="laid_rows") rfl fE rj;have gi:bY (dX "Beam" "laid_rows" (ae 0)) [some (.mr M0.length)] (ay M0 fr B)=.ok ⟨ff M0.length B.rows.length,some (M0.length+1)⟩ (ay M0 fr B):=by
  unfold bY;rw[fl,aq];unfold uM;dsimp only;rw[BS]
 have ht:(⟨ff M0.length B.rows.length,some (M0.length+1)⟩:tK).ok (ay M0 fr B)=true:=by
  unfold tK.ok;dsimp only;rw[BS];exact xf _ _
 have ec:=pE (ge:=cq) (ρ:=[some (.mr M0.length)]) (f:=fun d=>match d with | .mr k=>.lst ((B.rows.getD (k-(M0.length+5)) []).map D.int)|d=>d) ht (ff M0.length B.rows.length) (fun d hd=>by
  obtain⟨i,hi,rfl⟩:=mem_map.mp hd;have hi:=mem_range.mp hi;have gr:B.rows[i]?=some B.rows[i]:=getElem?_eq_getElem hi;unfold cq;refine gF (a:=ae 0) (x:=.mr (M0.length+5+i)) rfl ?_;unfold gO bW;dsimp only;rw[vS gr];show bj.ok (D.lst (B.rows[i].map D.int)) _=_;have e:(B.rows.getD (M0.length+5+i-(M0.length+5)) [])=B.rows[i]:=by
   rw[Nat.add_sub_cancel_left,List.getD,gr];rfl
  rw[e])
 have em:(ff M0.length B.rows.length).map (fun d=>match d with | .mr k=>.lst ((B.rows.getD (k-(M0.length+5)) []).map D.int)|d=>d)=B.rows.map fun r=>D.lst (r.map D.int):=by
  unfold ff;rw[map_map];apply ext_getElem
  ·simp
  ·intro i q1 q2;simp at q1 q2 ⊢;simp[q2]
 rw[em] at ec;have gc:br (bY (dX "Beam" "laid_rows" (ae 0))) cL cq aZ [some (.mr M0.length)] (ay M0 fr B)=.ok (.lst (B.rows.map fun r=>.lst (r.map D.int))) (ay M0 fr B):=by
  unfold br;rw[gi,aq];dsimp only;rw[ec,aq];unfold aZ;rw[if_pos (ba (by rw[length_map];omega))]
 rw[aR gc];rfl
noncomputable def bD (td:List (Int×Dd)):List D:=td.map fun p=>.tup [.int p.1,p.2.d]
structure pZ (T:Int)(s:cS)(td:List (Int×Dd)):Prop where
 rng:∀p∈td,0≤p.1∧p.1<T
 ord:(td.map (·.1)).Pairwise (·≤·)
 dd:∀p∈td,iW s p.2
 len:td.length<64
theorem u4 {f:D→D}(hi:gi ρ M=.ok ⟨ds,none⟩ M)(hl:ds.length≤100000)(h:∀d∈ds,∃ρ1,sg d (List.replicate n none++ρ)=some ρ1∧ge ρ1 M=.ok (f d) M) :
  cP gi n sg cL ge aZ ρ M=.ok (.lst (ds.map f)) M:=by
 unfold cP;rw[hi,aq];dsimp only;rw[pQ ds h,aq];unfold aZ;rw[if_pos (ba (by rw[length_map];omega))]
theorem uA:∀ns:List Int,yl (ns.map D.int)=some ns
 | []=>rfl
 | n::ns=>by
  show(yl (ns.map D.int)).map (n::·)=_;rw[uA ns];rfl
theorem Bf (h:ns.Pairwise (·≤·)):kR ns=ns:=qq (ow ns) (wQ ns) h
theorem zH (hl:ns.length<64):uC [.lst (ns.map D.int)] M=.ok (.lst ((kR ns).map D.int)) M:=by
 show(match yl (ns.map D.int) with|some ns=>if ns.length<64 then bj.ok (D.lst ((kR ns).map D.int)) M else .bad|none=>.bad)=_;rw[uA];show(if ns.length<64 then _ else _)=_;rw[if_pos hl]
theorem G0 {a b:List Int}:aF false (.lst (a.map D.int)) (.lst (b.map D.int)) M=.ok (.bl (decide (a=b))) M:=by
 have co:∀l:List Int,aG 40 (.lst (l.map D.int))=true:=fun l=>iB (n:=39) fun d hd=>by
  obtain⟨i,_,rfl⟩:=mem_map.mp hd;rfl
 have eb:∀a b:List Int,im (a.map D.int) (b.map D.int)=decide (a=b):=by
  intro a
  induction a with
  | nil=>intro b;cases b with
   | nil=>rfl
   | cons x b=>rw[decide_eq_false (by simp)];rfl
  | cons x a ih=>intro b;cases b with
   | nil=>rw[decide_eq_false (by simp)];rfl
   | cons y b=>
    have e:im ((x::a).map D.int) ((y::b).map D.int)=(decide (x=y)&&im (a.map D.int) (b.map D.int)):=rfl;rw[e,ih,←Bool.decide_and];exact decide_eq_decide.mpr (by simp)
 unfold aF;show(if(aG 40 (.lst (a.map D.int))&&aG 40 (.lst (b.map D.int)))=true then bj.ok (D.bl (gk (.lst (a.map D.int)) (.lst (b.map D.int)) != false)) M else .bad)=_;rw[co,co];have e:gk (.lst (a.map D.int)) (.lst (b.map D.int))=im (a.map D.int) (b.map D.int):=rfl;rw[e,eb];simp
theorem Gf {T:List (Int×Dd)}{w:Int}(f:fD w h g m)(hl:T.length<64) :
  jh [aL w h g m,.lst (bD T)] M=.ok (.bl (decide (T.map (·.1)=kR (T.map (·.1)))&&(T.map (·.1)).all fun t=>decide (0≤t)&&decide (t<h*(w+g)))) M:=by
 show aP (jx [some (aL w h g m),some (.lst (bD T)),none] M)=_;unfold jx;have ll:(bD T).length≤100000:=by unfold bD;rw[length_map];omega
 have c1:=u4 (gi:=bY (ae 1)) (n:=2) (sg:=bJ [0,1]) (ge:=kI) (ρ:=[some (aL w h g m),some (.lst (bD T)),none]) (M:=M) (f:=fun d=>match d with | .tup [t,_]=>t|d=>d) (lN rfl) ll (fun d hd=>by
  obtain⟨p,_,rfl⟩:=mem_map.mp hd;exact⟨[some (.int p.1),some p.2.d,some (aL w h g m),some (.lst (bD T)),none],rfl,rfl⟩)
 have em:(bD T).map (fun d=>match d with | .tup [t,_]=>t|d=>d)=(T.map (·.1)).map D.int:=by
  unfold bD;rw[map_map,map_map];rfl
 rw[em] at c1;rw[ao (aT c1)];generalize hn:T.map (·.1)=ns at *;have nl:ns.length<64:=by rw[←hn,length_map];exact hl
 have k1:g2 (aF false) (ae 2) (aC uC (aa (ae 2) ag)) [some (aL w h g m),some (.lst (bD T)),some (.lst (ns.map D.int))] M=.ok (.bl (decide (ns=kR ns))) M:=
  av (x:=.lst (ns.map D.int)) rfl (gF (a:=ae 2) (x:=.lst (ns.map D.int)) rfl (zH nl)) G0
 have k2:=kE (gi:=bY (ae 2)) (ge:=kG) (ρ:=[some (aL w h g m),some (.lst (bD T)),some (.lst (ns.map D.int))]) (M:=M) (xs:=ns.map D.int) (p:=fun d=>match d with | .int t=>decide (0≤t)&&decide (t<h*(w+g))|_=>true) (lN rfl) (by rw[length_map];omega) (fun d hd=>by
  obtain⟨t,_,rfl⟩:=mem_map.mp hd;have tc:=dJ (F:=bx) (a:=ae 1) (ρ:=[some (D.int t),some (aL w h g m),some (.lst (bD T)),some (.lst (ns.map D.int))]) (M:=M) rfl (dH f);show qH mT jo (gC (.int 0)) (ae 0) (aj 1 bx (aa (ae 1) ag)) [some (D.int t),some (aL w h g m),some (.lst (bD T)),some (.lst (ns.map D.int))] M=_;unfold qH;show(bj.ok (D.int 0) M).bind _=_;rw[aq];show(bj.ok (D.int t) M).bind _=_;rw[aq];show(bj.ok (D.bl (decide (0≤t))) M).bind _=_;rw[aq]
  by_cases q:0≤t
  ·rw[decide_eq_true q];dsimp only;rw[tc,aq];show bj.ok (D.bl (decide (t<h*(w+g)))) M=_;rw[decide_eq_true q,Bool.true_and]
  ·rw[decide_eq_false q];dsimp only;rw[decide_eq_false q,Bool.false_and])
 have ea:(ns.map D.int).all (fun d=>match d with | .int t=>decide (0≤t)&&decide (t<h*(w+g))|_=>true)=ns.all fun t=>decide (0≤t)&&decide (t<h*(w+g)):=by rw[all_map];rfl
 rw[ea] at k2;show aP (aD _ [some (aL w h g m),some (.lst (bD T)),some (.lst (ns.map D.int))] M)=_;rw[aR (bP k1 fun _=>k2)];rfl
variable{td:List (Int×Dd)}
theorem pZ.hold {w:Int}(f:fD w h g m)(p:pZ (h*(w+g)) s td):jh [aL w h g m,.lst (bD td)] M=.ok (.bl true) M:=by
 rw[Gf f p.len,Bf p.ord,decide_eq_true rfl,Bool.true_and];have e:((td.map (·.1)).all fun t=>decide (0≤t)&&decide (t<h*(w+g)))=true:=all_eq_true.mpr fun t ht=>by
  obtain⟨q,hq,rfl⟩:=mem_map.mp ht;have:=p.rng q hq;simp[this.1,this.2]
 rw[e]
theorem xE (h:∀p∈td,iW s p.2)(hl:td.length<64) :
  aC iY (aa (cP (bY (ae 2)) 2 (bJ [0,1]) cL fV aZ) ag) [some fr,some s.d,some (.lst (bD td))] M=.ok (.bl true) M:=by
 have ll:(bD td).length≤100000:=by unfold bD;rw[length_map];omega
 have c1:=u4 (gi:=bY (ae 2)) (n:=2) (sg:=bJ [0,1]) (ge:=fV) (ρ:=[some fr,some s.d,some (.lst (bD td))]) (M:=M) (f:=fun _=>.bl true) (lN rfl) ll (fun d hd=>by
  obtain⟨p,hp,rfl⟩:=mem_map.mp hd;refine⟨[some (.int p.1),some p.2.d,some fr,some s.d,some (.lst (bD td))],rfl,?_⟩;unfold fV;exact bp (a:=ae 3) (b:=ae 1) rfl rfl (p7 (h p hp)))
 refine gF c1 ?_;have bo:∀ds:List D,dN (ds.map fun _=>D.bl true)=some (ds.map fun _=>true):=fun ds=>zX (p:=fun _=>true) ds
 show(match dN ((bD td).map fun _=>D.bl true) with|some bs=>bj.ok (D.bl (bs.all id)) M|none=>.bad)=_;rw[bo];have e:((bD td).map fun _=>true).all id=true:=by simp
 show bj.ok (D.bl (((bD td).map fun _=>true).all id)) M=_;rw[e]
theorem GZ {w:Int}(f:fD w h g m)(ok:ck mm s)(hm:mm≤12)(p:pZ (h*(w+g)) s td):k9 [aL w h g m,s.d,.lst (bD td)] M=.ok .non M:=by
 show aP (jz [some (aL w h g m),some s.d,some (.lst (bD td))] M)=_;unfold jz;have hc:bV [aL w h g m,s.d] M=.ok .non M:=rG nV (rV ok (by omega)) (sH f) (rW ok hm);rw[ao (cB (bp (a:=ae 0) (b:=ae 1) (ρ:=[some (aL w h g m),some s.d,some (.lst (bD td))]) rfl rfl hc))];have k1:=bF (bM (bp (a:=ae 0) (b:=ae 2) (ρ:=[some (aL w h g m),some s.d,some (.lst (bD td))]) rfl rfl (p.hold (M:=M) f)));rw[ao ((aS k1).trans rfl),aS (bF (bM (xE p.dd p.len)))];rfl
theorem zT (s:cS)(dd:Dd):(fJ s dd).movers.length=s.movers.length∧(fJ s dd).book=s.book:=by
 have sm:∀i f,(i9 s i f).movers.length=s.movers.length∧(i9 s i f).book=s.book:=fun i f=>by
  unfold i9;split
  ·exact⟨by simp,rfl⟩
  ·exact⟨rfl,rfl⟩
 cases dd <;> first|exact⟨rfl,rfl⟩|exact sm _ _
theorem Bk {d2:Dd}(h:iW s d2):iW (fJ s dd) d2:=by
 obtain⟨e1,e2⟩:=zT s dd;cases d2 <;> simp only[iW,e1,e2] at*<;> exact h
variable{ds0:List D}
theorem oU {b:GS}{d:D}{ρ1 ρ2:cC}(h1:sg d ρ=some ρ1)(h2:b ρ1 M=.ok (.nx ρ2) M1):eL ⟨ds0,none⟩ sg b (d::ds) ρ M=eL ⟨ds0,none⟩ sg b ds ρ2 M1:=by
 show(match sg d ρ with|none=>bj.bad|some ρ1=>(b ρ1 M).bind fun f M1=>match f with | .nx ρ2=>eL ⟨ds0,none⟩ sg b ds ρ2 M1 | .ct ρ2=>eL ⟨ds0,none⟩ sg b ds ρ2 M1 | .bk ρ2=>.ok (.nx ρ2) M1 | .rt d=>.ok (.rt d) M1)=_;rw[h1];dsimp only;rw[h2,aq]
theorem ve :gP [.mr M0.length] (ay M0 fr B)=.ok (.int B.t) (ay M0 fr B):=by
 show aP (kq [some (.mr M0.length)] _)=_;unfold kq;rw[aR (dG (g:=ae 0) (ρ:=[some (.mr M0.length)]) (f:="ahead") rfl fE yV)];rfl
theorem xv {w h g m mm:Int}(hm:mm≤12)(f:fD w h g m)(x0 x1 x2:Option D)(ds0:List D):∀(td:List (Int×Dd)) (s:cS) (t:Int) (B:Bs),ck mm s→0≤t→t≤h*(w+g)→(∀p∈td,t≤p.1∧p.1<h*(w+g))→(td.map (·.1)).Pairwise (·≤·)→(∀p∈td,iW s p.2)→pW w g m mm s t B→
  ∃B' s' t',ck mm s'∧0≤t'∧t'≤h*(w+g)∧pW w g m mm s' t' B'∧∀M0,il M0→∀x4 x5,∃y4 y5,eL ⟨ds0,none⟩ (bJ [4,5]) m6 (bD td) [x0,x1,x2,some (.mr M0.length),x4,x5] (ay M0 (aL w h g m) B)=.ok (.nx [x0,x1,x2,some (.mr M0.length),y4,y5]) (ay M0 (aL w h g m) B')
 | [],s,t,B,ok,h0,hT,_,_,_,iv=>⟨B,s,t,ok,h0,hT,iv,fun M0 _ x4 x5=>⟨x4,x5,rfl⟩⟩
 | p::td,s,t,B,ok,h0,hT,hr,ho,hd,iv=>by
  obtain⟨a1,a2⟩:=hr p (mem_cons_self ..);obtain⟨o1,o2⟩:=pairwise_cons.mp ho;obtain⟨B1,iv1,e1⟩:=Cm (k:=p.1-t) ok hm f h0 (by omega) (by omega) iv;rw[show t+(p.1-t)=p.1 by omega] at iv1;have d0:=hd p (mem_cons_self ..);have iv2:=DJ (dd:=p.2) iv1;have ok2:=vX ok d0;obtain⟨B',s',t',ok',h0',hl',iv',e2⟩:=xv hm f x0 x1 x2 ds0 td (fJ s p.2) p.1 _ ok2 (by omega) (by omega) (fun q hq=>⟨o1 q.1 (mem_map.mpr ⟨q,hq,rfl⟩),(hr q (mem_cons_of_mem _ hq)).2⟩) o2 (fun q hq=>Bk (hd q (mem_cons_of_mem _ hq))) iv2;refine⟨B',s',t',ok',h0',hl',iv',fun M0 hM x4 x5=>?_⟩;obtain⟨y4,y5,e3⟩:=e2 M0 hM (some (.int p.1)) (some p.2.d);refine⟨y4,y5,?_⟩;rw[←e3];refine oU (ρ1:=[x0,x1,x2,some (.mr M0.length),some (.int p.1),some p.2.d]) rfl ?_;unfold m6;have kt:=iy (c:="Beam") (m:="tick") (n:=1) (go:=ae 3) (ga:=ag) (ρ:=[x0,x1,x2,some (.mr M0.length),some (.int p.1),some p.2.d]) (M:=ay M0 (aL w h g m) B) rfl fE rfl (ds:=[]) rfl rfl (ve (M0:=M0) (B:=B));have ks:=av (f:=eE) (o:=.ok (.int (p.1-t)) (ay M0 (aL w h g m) B)) (a:=ae 4) (x:=.int p.1) rfl kt (by rw[iv.te];rfl);have kg:=iy (c:="Beam") (m:="go") (n:=2) (go:=ae 3) (ga:=aa (g2 eE (ae 4) (gT "Beam" "tick" 1 gP (ae 3) ag)) ag) (ρ:=[x0,x1,x2,some (.mr M0.length),some (.int p.1),some p.2.d]) (M:=ay M0 (aL w h g m) B) rfl fE rfl (ds:=[.int (p.1-t)]) (aM ks rfl) rfl (e1 M0 hM);rw[ao (cB kg)];exact cB (iy (c:="Beam") (m:="deed") (n:=2) (go:=ae 3) (ga:=aa (ae 5) ag) (ρ:=[x0,x1,x2,some (.mr M0.length),some (.int p.1),some p.2.d]) (M:=ay M0 (aL w h g m) B1) rfl fE rfl (ds:=[p.2.d]) rfl rfl (C7 ok (by omega) f iv1.st d0 (by rw[iv1.te];omega)))
theorem Eg {w:Int}(hm:mm≤12)(f:fD w h g m)(ok:ck mm s)(p:pZ (h*(w+g)) s td) :
  ∃B' s',pW w g m mm s' (h*(w+g)) B'∧∀M0,il M0→qh [aL w h g m,s.d,.lst (bD td)] M0=.ok (.mr M0.length) (ay M0 (aL w h g m) B'):=by
 have hp:0≤h*(w+g):=Int.mul_nonneg (by have:=f.h;omega) (by have:=f.w;have:=f.g;omega);have hc:∀M,bV [aL w h g m,s.d] M=.ok .non M:=fun M=>rG nV (rV ok (by omega)) (sH f) (rW ok hm)
 obtain⟨B1,s1,t1,ok1,h1,h2,iv1,e1⟩:=xv hm f (some (aL w h g m)) (some s.d) (some (.lst (bD td))) (bD td) td s 0 (uI s.d) ok (Int.le_refl 0) hp p.rng p.ord p.dd (O7 (yj s));obtain⟨B',iv',e2⟩:=Cm (k:=h*(w+g)-t1) ok1 hm f h1 (by omega) (by omega) iv1;rw[show t1+(h*(w+g)-t1)=h*(w+g) by omega] at iv';refine⟨B',s1,iv',fun M0 h0=>?_⟩;obtain⟨y4,y5,e3⟩:=e1 M0 h0 none none;show aP (wx [some (aL w h g m),some s.d,some (.lst (bD td)),none,none,none] M0)=_;unfold wx;rw[ao (cB (ce (a:=ae 0) (b:=ae 1) (c:=ae 2) (ρ:=[some (aL w h g m),some s.d,some (.lst (bD td)),none,none,none]) rfl rfl rfl (GZ f ok hm p)))];rw[ao (aT (Fk (ga:=aa (ae 0) (aa (ae 1) ag)) (ρ:=[some (aL w h g m),some s.d,some (.lst (bD td)),none,none,none]) rfl hc))];have kf:js (bY (ae 2)) (bJ [4,5]) m6 [some (aL w h g m),some s.d,some (.lst (bD td)),some (.mr M0.length),none,none] (ay M0 (aL w h g m) (uI s.d))=_:=jM (t:=⟨bD td,none⟩) (lN rfl) e3;rw[ao (show js (bY (ae 2)) (bJ [4,5]) m6 ([some (aL w h g m),some s.d,some (.lst (bD td)),none,none,none].set 3 (some (.mr M0.length))) (ay M0 (aL w h g m) (uI s.d))=_ from kf)];have kt:=iy (c:="Beam") (m:="tick") (n:=1) (go:=ae 3) (ga:=ag) (ρ:=[some (aL w h g m),some s.d,some (.lst (bD td)),some (.mr M0.length),y4,y5]) (M:=ay M0 (aL w h g m) B1) rfl fE rfl (ds:=[]) rfl rfl (ve (M0:=M0) (B:=B1));have ks:=av (f:=eE) (o:=.ok (.int (h*(w+g)-t1)) (ay M0 (aL w h g m) B1)) (dJ (a:=ae 0) (ρ:=[some (aL w h g m),some s.d,some (.lst (bD td)),some (.mr M0.length),y4,y5]) rfl (dH (M:=ay M0 (aL w h g m) B1) f)) kt (by rw[iv1.te];rfl);have kg:=iy (c:="Beam") (m:="go") (n:=2) (go:=ae 3) (ρ:=[some (aL w h g m),some s.d,some (.lst (bD td)),some (.mr M0.length),y4,y5]) (M:=ay M0 (aL w h g m) B1) rfl fE rfl (ga:=aa (g2 eE (aj 1 bx (aa (ae 0) ag)) (gT "Beam" "tick" 1 gP (ae 3) ag)) ag) (ds:=[.int (h*(w+g)-t1)]) (aM ks rfl) rfl (e2 M0 h0);rw[ao (cB kg)];rfl
noncomputable def L4:GT:=(az (g2 (aF false) (g2 aI (ae 7) (gC (.int 0))) (gC (.str "do"))))
noncomputable def Pn:GS:=(cK (jW (ae 4) (bb (aa (ae 6) (aa (g2 aI (ae 7) (gC (.int 1))) ag)))))
noncomputable def PP:GS:=(bL L4 Pn aA)
noncomputable def Qy:GS:=(aH 5 (aj 4 gX (aa (ae 0) (aa (ae 7) (aa (ae 5) (aa (ae 6) ag))))))
theorem HR (ρ:cC)(M:aB):iR ρ M=(ar (aH 7 (g2 aI (ae 2) (ae 5))) (ar (aH 6 (aj 3 fo (aa (ae 0) (aa (ae 7) (aa (ae 6) ag))))) (ar (bL (az (g2 rY (ae 6) (aj 1 bx (aa (ae 0) ag)))) (aD (ae 4)) aA) (ar PP (ar Qy (tQ 6 true (ae 3))))))) ρ M:=rfl
noncomputable def Mz:GT:=(dL (az (g2 (aF false) (g2 aI (ae 7) (gC (.int 0))) (gC (.str "wait")))) (az (g2 mj (g2 a9 (g2 cz (g2 aI (ae 7) (gC (.int 1))) (ae 3)) (g2 aI (ae 7) (gC (.int 2)))) (ae 6))))
noncomputable def MQ:GS:=(aH 6 (g2 a9 (g2 cz (g2 aI (ae 7) (gC (.int 1))) (ae 3)) (g2 aI (ae 7) (gC (.int 2)))))
noncomputable def OB:GS:=(bL Mz MQ aA)
noncomputable def LM:GT:=(az (g2 mj (ae 6) (g2 eE (g2 cz (ae 3) (g2 aI (ae 0) (gC (.int 1)))) (gC (.int 1)))))
noncomputable def Oh:GS:=(bL LM (aD (ae 4)) aA)
noncomputable def Nv:GT:=(az (g2 (aF false) (g2 aI (ae 7) (gC (.int 0))) (gC (.str "do"))))
noncomputable def Pi:GS:=(cK (jW (ae 4) (bb (aa (ae 6) (aa (g2 aI (ae 7) (gC (.int 1))) ag)))))
noncomputable def Pe:GS:=(bL Nv Pi aA)
noncomputable def MD:GT:=(az (g2 (aF false) (g2 aI (ae 7) (gC (.int 0))) (gC (.str "to"))))
noncomputable def OQ:GS:=(bL MD (aH 8 (g2 aI (ae 7) (gC (.int 1)))) aA)
noncomputable def L0:GT:=(dL (az (g2 (aF false) (g2 aI (ae 7) (gC (.int 0))) (gC (.str "skip")))) (az (g2 mT (g2 a9 (g2 cz (g2 aI (ae 7) (gC (.int 1))) (ae 3)) (g2 aI (ae 7) (gC (.int 2)))) (ae 6))))
noncomputable def OU:GS:=(bL L0 (aH 8 (g2 a9 (ae 5) (gC (.int 2)))) aA)
theorem Hz (ρ:cC)(M:aB):hV ρ M=(ar (aH 7 (g2 aI (ae 1) (ae 5))) (ar OB (ar Oh (ar (aH 8 (g2 a9 (ae 5) (gC (.int 1)))) (ar Pe (ar OQ (ar OU (ar (aH 5 (ae 8)) (aH 6 (g2 a9 (ae 6) (ae 2))))))))))) ρ M:=rfl
inductive Ln where
 | wait (r s:Int)|skip (r s:Int)|act (d:Dd)|to (k:Int)
noncomputable def Ln.d:Ln→D
 | .wait r s=>.tup [.str "wait",.int r,.int s]
 | .skip r s=>.tup [.str "skip",.int r,.int s]
 | .act d=>.tup [.str "do",d.d]
 | .to k=>.tup [.str "to",.int k]
noncomputable def ue (s:cS)(n:Int):Ln→Prop
 | .wait r q=>(0≤r∧r≤60)∧(0≤q∧q≤60)
 | .skip r q=>(0≤r∧r≤60)∧(0≤q∧q≤60)
 | .act d=>iW s d
 | .to k=>0≤k∧k<n
noncomputable def Ln.tk (row aK:Int):Ln→Int
 | .wait r s=>if aK<r*row+s then r*row+s else aK
 | _=>aK
noncomputable def Ln.later (row here t:Int):Ln→Int
 | .to k=>k
 | .skip r s=>if r*row+s≤t then here+2 else here+1
 | _=>here+1
noncomputable def Ln.told (t:Int):Ln→List D
 | .act d=>[.tup [.int t,d.d]]
 | _=>[]
noncomputable def de (row tot pace:Int)(ls:List Ln):Nat→Int→Int→List D→List D
 | 0,_,_,acc=>acc
 | n+1,here,aK,acc=>match ls[here.toNat]? with
  | none=>acc
  | some l=>if tot≤l.tk row aK then acc else de row tot pace ls n (l.later row here (l.tk row aK)) (l.tk row aK+pace) (acc++l.told (l.tk row aK))
theorem sW:PyData.strOk "wait"=true∧PyData.strOk "skip"=true∧PyData.strOk "do"=true∧PyData.strOk "to"=true∧
  (("wait":Str)=="wait")=true∧(("wait":Str)=="skip")=false∧(("wait":Str)=="do")=false∧(("wait":Str)=="to")=false∧
  (("skip":Str)=="wait")=false∧(("skip":Str)=="skip")=true∧(("skip":Str)=="do")=false∧(("skip":Str)=="to")=false∧
  (("do":Str)=="wait")=false∧(("do":Str)=="skip")=false∧(("do":Str)=="do")=true∧(("do":Str)=="to")=false∧
  (("to":Str)=="wait")=false∧(("to":Str)=="skip")=false∧(("to":Str)=="do")=false∧(("to":Str)=="to")=true:=by decide +kernel
noncomputable def Ln.w:Ln→Str
 | .wait _ _=>"wait"
 | .skip _ _=>"skip"
 | .act _=>"do"
 | .to _=>"to"
noncomputable def Ln.is (l:Ln)(k:Nat):Bool:=match l,k with
 | .wait _ _,0=>true
 | .skip _ _,1=>true
 | .act _,2=>true
 | .to _,3=>true
 | _,_=>false
theorem jY (l:Ln)(M:aB):aF false (.str l.w) (.str "wait") M=.ok (.bl (l.is 0)) M∧aF false (.str l.w) (.str "skip") M=.ok (.bl (l.is 1)) M∧aF false (.str l.w) (.str "do") M=.ok (.bl (l.is 2)) M∧aF false (.str l.w) (.str "to") M=.ok (.bl (l.is 3)) M:=by
 obtain⟨a1,a2,a3,a4,b1,b2,b3,b4,c1,c2,c3,c4,d1,d2,d3,d4,e1,e2,e3,e4⟩:=sW;cases l with
 | wait r q=>exact⟨(iq a1 a1 M).trans (by rw[b1];rfl),(iq a1 a2 M).trans (by rw[b2];rfl),(iq a1 a3 M).trans (by rw[b3];rfl),(iq a1 a4 M).trans (by rw[b4];rfl)⟩
 | skip r q=>exact⟨(iq a2 a1 M).trans (by rw[c1];rfl),(iq a2 a2 M).trans (by rw[c2];rfl),(iq a2 a3 M).trans (by rw[c3];rfl),(iq a2 a4 M).trans (by rw[c4];rfl)⟩
 | act d=>exact⟨(iq a3 a1 M).trans (by rw[d1];rfl),(iq a3 a2 M).trans (by rw[d2];rfl),(iq a3 a3 M).trans (by rw[d3];rfl),(iq a3 a4 M).trans (by rw[d4];rfl)⟩
 | to k=>exact⟨(iq a4 a1 M).trans (by rw[e1];rfl),(iq a4 a2 M).trans (by rw[e2];rfl),(iq a4 a3 M).trans (by rw[e3];rfl),(iq a4 a4 M).trans (by rw[e4];rfl)⟩
theorem Ip (l:Ln)(M:aB):aI l.d (.int 0) M=.ok (.str l.w) M:=by
 cases l <;> rfl
theorem xC {w r s:Int}{x:Str}(hr:0≤r∧r≤60):cN [aL w h g m,.tup [.str x,.int r,.int s]] M=.ok (.int (r*(w+g)+s)) M:=by
 have mu:=n8 (i:=r) (j:=w+g) (by omega) (by omega) M;show aP (jq [some (aL w h g m),some (.tup [.str x,.int r,.int s]),none,none,none] M)=_;unfold jq;have asg:dC (bJ [2,3,4]) (ae 1) [some (aL w h g m),some (.tup [.str x,.int r,.int s]),none,none,none] M=.ok (.nx [some (aL w h g m),some (.tup [.str x,.int r,.int s]),some (.str x),some (.int r),some (.int s)]) M:=rfl;rw[ao asg,aR (av (x:=.int (r*(w+g))) (y:=.int s) (av (x:=.int r) rfl (dJ (a:=ae 0) rfl j9) mu) rfl rfl)];rfl
theorem Br {w aK:Int}{l:Ln}{n:Int}(ok:ue s n l):fo [aL w h g m,l.d,.int aK] M=.ok (.int (l.tk (w+g) aK)) M:=by
 have t:=aE (av (ρ:=[some (aL w h g m),some l.d,some (.int aK)]) (a:=g2 aI (ae 1) (gC (.int 0))) (b:=gC (.str "wait")) (av rfl rfl (Ip l M)) rfl (jY l M).1);show aP (hU [some (aL w h g m),some l.d,some (.int aK)] M)=_;unfold hU;cases l with
 | wait r q=>
  have nm:=xC (w:=w) (h:=h) (g:=g) (m:=m) (r:=r) (s:=q) (x:="wait") (M:=M) ok.1;have mx:aC xu (aa (ae 2) (aa (aj 2 cN (aa (ae 0) (aa (ae 1) ag))) ag)) [some (aL w h g m),some (Ln.wait r q).d,some (.int aK)] M=.ok (.int ((Ln.wait r q).tk (w+g) aK)) M:=by
   have c:=bp (F:=cN) (ρ:=[some (aL w h g m),some (Ln.wait r q).d,some (.int aK)]) (a:=ae 0) (b:=ae 1) rfl rfl nm;unfold aC aa;show((bj.ok (D.int aK) M).bind _).bind _=_;rw[aq];unfold ag at c ⊢;unfold aa at c;rw[c];rfl
  rw[bn ((bK t).trans (aR mx))];rfl
 | skip r q=>rw[ao ((aS t).trans rfl)];rfl
 | act d=>rw[ao ((aS t).trans rfl)];rfl
 | to k=>rw[ao ((aS t).trans rfl)];rfl
theorem sP {w here:Int}{l:Ln}{n:Int}(ok:ue s n l):gX [aL w h g m,l.d,.int here,.int t] M=.ok (.int (l.later (w+g) here t)) M:=by
 have t1:=aE (av (ρ:=[some (aL w h g m),some l.d,some (.int here),some (.int t)]) (a:=g2 aI (ae 1) (gC (.int 0))) (b:=gC (.str "to")) (av rfl rfl (Ip l M)) rfl (jY l M).2.2.2);have t2:=aE (av (ρ:=[some (aL w h g m),some l.d,some (.int here),some (.int t)]) (a:=g2 aI (ae 1) (gC (.int 0))) (b:=gC (.str "skip")) (av rfl rfl (Ip l M)) rfl (jY l M).2.1);show aP (ia [some (aL w h g m),some l.d,some (.int here),some (.int t)] M)=_;unfold ia;cases l with
 | to k=>rw[bn ((bK t1).trans (aR (av rfl rfl (cJ (k:=1) rfl))))];rfl
 | skip r q=>
  have nm:=xC (w:=w) (h:=h) (g:=g) (m:=m) (r:=r) (s:=q) (x:="skip") (M:=M) ok.1;have ge:az (g2 rY (ae 3) (aj 2 cN (aa (ae 0) (aa (ae 1) ag)))) [some (aL w h g m),some (Ln.skip r q).d,some (.int here),some (.int t)] M=.ok (decide (r*(w+g)+q≤t)) M:=
   aE (av (x:=.int t) rfl (bp (a:=ae 0) (b:=ae 1) rfl rfl nm) rfl)
  have a:=cQ t2 fun _=>ge
  rw[ao ((aS t1).trans rfl)]
  by_cases k:r*(w+g)+q≤t
  ·rw[decide_eq_true k] at a;rw[bn ((bK a).trans rfl)];show bj.ok (D.int (here+2)) M=bj.ok (D.int (if r*(w+g)+q≤t then here+2 else here+1)) M;rw[if_pos k]
  ·rw[decide_eq_false k] at a;rw[ao ((aS a).trans rfl)];show bj.ok (D.int (here+1)) M=bj.ok (D.int (if r*(w+g)+q≤t then here+2 else here+1)) M;rw[if_neg k]
 | wait r q=>
  have a:=cQ (b:=az (g2 rY (ae 3) (aj 2 cN (aa (ae 0) (aa (ae 1) ag))))) (y:=false) t2 fun z=>by cases z
  rw[ao ((aS t1).trans rfl),ao ((aS a).trans rfl)];rfl
 | act d=>
  have a:=cQ (b:=az (g2 rY (ae 3) (aj 2 cN (aa (ae 0) (aa (ae 1) ag))))) (y:=false) t2 fun z=>by cases z
  rw[ao ((aS t1).trans rfl),ao ((aS a).trans rfl)];rfl
theorem xj {here n:Int}{l:Ln}(ok:ue s n l)(h:0≤here):0≤l.later row here t:=by
 cases l with
 | to k=>exact ok.1
 | skip r q=>show 0≤(if r*row+q≤t then here+2 else here+1);split <;> omega
 | wait r q=>show 0≤here+1;omega
 | act d=>show 0≤here+1;omega
theorem HB (row aK:Int)(l:Ln):aK≤l.tk row aK:=by
 cases l with
 | wait r q=>show aK≤(if aK<r*row+q then r*row+q else aK);split <;> omega
 | _=>exact Int.le_refl _
theorem yg (t:Int)(l:Ln):(l.told t).length≤1:=by cases l <;> simp[Ln.told]
theorem Am {w h g m pace:Int}{s:cS}{st:Option D}{ls:List Ln}{M:aB}(k:fD w h g m)(hp:1≤pace)(ok:∀l∈ls,ue s ls.length l) :
  ∀(n:Nat) (here aK:Int) (acc:List D) (x7:Option D),0≤here→acc.length+n≤100000→h*(w+g)-aK<n→0<n→
   ∃f,cG gN iR n [some (aL w h g m),st,some (.lst (ls.map Ln.d)),some (.int pace),some (.mr M.length),some (.int here),some (.int aK),x7] (M++[.lst acc])=.ok f (M++[.lst (de (w+g) (h*(w+g)) pace ls n here aK acc)])∧
    (f=.rt (.mr M.length)∨∃h' t' x',f=.nx [some (aL w h g m),st,some (.lst (ls.map Ln.d)),some (.int pace),some (.mr M.length),some (.int h'),some (.int t'),x'])
 | 0,_,_,_,_,_,_,_,hz=>absurd hz (by decide)
 | n+1,here,aK,acc,x7,hh,ha,hn,_=>by
  obtain⟨p,rfl⟩:=Int.eq_ofNat_of_zero_le hh;have lt:gN [some (aL w h g m),st,some (.lst (ls.map Ln.d)),some (.int pace),some (.mr M.length),some (.int p),some (.int aK),x7] (M++[.lst acc])=.ok (decide (p<ls.length)) (M++[.lst acc]):=by
   unfold gN;refine aE (av (M2:=M++[.lst acc]) (x:=.int p) (y:=.int ls.length) rfl (gF (x:=.lst (ls.map Ln.d)) rfl ?_) ?_)
   ·show bj.ok (D.int ((ls.map Ln.d).length)) _=_;rw[length_map]
   ·show bj.ok (D.bl (decide ((p:Int)<ls.length))) _=_;congr 2;exact decide_eq_decide.mpr (by omega)
  by_cases hl:p<ls.length
  ·rw[decide_eq_true hl] at lt;have gl:ls[p]?=some ls[p]:=getElem?_eq_getElem hl;have okl:=ok _ (getElem_mem hl);generalize ls[p]=l at *;have gd:(ls.map Ln.d)[p]?=some l.d:=by rw[getElem?_map,gl];rfl
   have eh:de (w+g) (h*(w+g)) pace ls (n+1) p aK acc=if h*(w+g)≤l.tk (w+g) aK then acc else de (w+g) (h*(w+g)) pace ls n (l.later (w+g) p (l.tk (w+g) aK)) (l.tk (w+g) aK+pace) (acc++l.told (l.tk (w+g) aK)):=by
    show(match ls[(p:Int).toNat]? with|none=>acc|some l=>_)=_;rw[Int.toNat_natCast,gl]
   have s1:(aH 7 (g2 aI (ae 2) (ae 5))) [some (aL w h g m),st,some (.lst (ls.map Ln.d)),some (.int pace),some (.mr M.length),some (.int p),some (.int aK),x7] (M++[.lst acc])=.ok (.nx [some (aL w h g m),st,some (.lst (ls.map Ln.d)),some (.int pace),some (.mr M.length),some (.int p),some (.int aK),some l.d]) (M++[.lst acc]):=
    aT (av rfl rfl (wn gd))
   have tg:=HB (w+g) aK l;have s2:(aH 6 (aj 3 fo (aa (ae 0) (aa (ae 7) (aa (ae 6) ag))))) [some (aL w h g m),st,some (.lst (ls.map Ln.d)),some (.int pace),some (.mr M.length),some (.int p),some (.int aK),some l.d] (M++[.lst acc])=.ok (.nx [some (aL w h g m),st,some (.lst (ls.map Ln.d)),some (.int pace),some (.mr M.length),some (.int p),some (.int (l.tk (w+g) aK)),some l.d]) (M++[.lst acc]):=
    aT (ce (a:=ae 0) (b:=ae 7) (c:=ae 6) rfl rfl rfl (Br okl))
   have pb:=sP (w:=w) (h:=h) (g:=g) (m:=m) (here:=p) (t:=l.tk (w+g) aK) (M:=M++[.lst (acc++l.told (l.tk (w+g) aK))]) okl;have lo:=xj (row:=w+g) (t:=l.tk (w+g) aK) okl hh;generalize l.tk (w+g) aK=t at *;have t3:az (g2 rY (ae 6) (aj 1 bx (aa (ae 0) ag))) [some (aL w h g m),st,some (.lst (ls.map Ln.d)),some (.int pace),some (.mr M.length),some (.int p),some (.int t),some l.d] (M++[.lst acc])=.ok (decide (h*(w+g)≤t)) (M++[.lst acc]):=
    aE (av (x:=.int t) rfl (dJ (a:=ae 0) rfl (dH k)) rfl)
   rw[eh]
   by_cases hb:h*(w+g)≤t
   ·rw[decide_eq_true hb] at t3;rw[if_pos hb];refine⟨.rt (.mr M.length),?_,.inl rfl⟩;rw[cG,lt,aq,if_pos rfl,HR,ao s1,ao s2,bn ((bK t3).trans rfl)];rfl
   ·rw[decide_eq_false hb] at t3;rw[if_neg hb];have la:=yg t l;have s4:PP [some (aL w h g m),st,some (.lst (ls.map Ln.d)),some (.int pace),some (.mr M.length),some (.int p),some (.int t),some l.d] (M++[.lst acc])=.ok (.nx [some (aL w h g m),st,some (.lst (ls.map Ln.d)),some (.int pace),some (.mr M.length),some (.int p),some (.int t),some l.d]) (M++[.lst (acc++l.told t)]):=by
     have tw:L4 [some (aL w h g m),st,some (.lst (ls.map Ln.d)),some (.int pace),some (.mr M.length),some (.int p),some (.int t),some l.d] (M++[.lst acc])=.ok (l.is 2) (M++[.lst acc]):=
      aE (av (a:=g2 aI (ae 7) (gC (.int 0))) (b:=gC (.str "do")) (av rfl rfl (Ip l _)) rfl (jY l _).2.2.1)
     unfold PP;cases l with
     | act d=>
      have two:[D.int t,d.d].length≤sizeLine:=ba (show 2≤1000000 by decide);refine(bK tw).trans (cB (vI rfl (d:=.tup [.int t,d.d]) ?_ (by omega)));show(if [D.int t,d.d].length≤sizeLine then bj.ok (D.tup [.int t,d.d]) _ else .bad)=_;rw[if_pos two]
     | _=>refine(aS tw).trans ?_;simp[aA,Ln.told]
    have s5:Qy [some (aL w h g m),st,some (.lst (ls.map Ln.d)),some (.int pace),some (.mr M.length),some (.int p),some (.int t),some l.d] (M++[.lst (acc++l.told t)])=.ok (.nx [some (aL w h g m),st,some (.lst (ls.map Ln.d)),some (.int pace),some (.mr M.length),some (.int (l.later (w+g) p t)),some (.int t),some l.d]) (M++[.lst (acc++l.told t)]):=
     aT (xy (a:=ae 0) (b:=ae 7) (c:=ae 5) (d:=ae 6) rfl rfl rfl rfl pb)
    have s6:tQ 6 true (ae 3) [some (aL w h g m),st,some (.lst (ls.map Ln.d)),some (.int pace),some (.mr M.length),some (.int (l.later (w+g) p t)),some (.int t),some l.d] (M++[.lst (acc++l.told t)])=.ok (.nx [some (aL w h g m),st,some (.lst (ls.map Ln.d)),some (.int pace),some (.mr M.length),some (.int (l.later (w+g) p t)),some (.int (t+pace)),some l.d]) (M++[.lst (acc++l.told t)]):=rfl;obtain⟨f,e,hf⟩:=Am (M:=M) (st:=st) k hp ok n (l.later (w+g) p t) (t+pace) (acc++l.told t) (some l.d) lo (by rw[length_append];omega) (by omega) (by omega);refine⟨f,?_,hf⟩;rw[cG,lt,aq,if_pos rfl,HR,ao s1,ao s2,ao ((aS t3).trans rfl),ao s4,ao s5,s6,aq];exact e
  ·rw[decide_eq_false hl] at lt;have gl:ls[p]?=none:=getElem?_eq_none (by omega);have eh:de (w+g) (h*(w+g)) pace ls (n+1) p aK acc=acc:=by
    show(match ls[(p:Int).toNat]? with|none=>acc|some l=>_)=_;rw[Int.toNat_natCast,gl]
   rw[eh];exact⟨_,by rw[cG,lt,aq,if_neg Bool.false_ne_true],.inr ⟨_,_,_,rfl⟩⟩
theorem xH {w h g m pace:Int}{s:cS}{ls:List Ln}{M:aB}(k:fD w h g m)(hp:1≤pace)(ok:∀l∈ls,ue s ls.length l) :
  ∀(n:Nat) (here aK:Int) (acc:List D) (x7 x8:Option D),0≤here→acc.length+n≤100000→h*(w+g)-aK<n→0<n→
   ∃f,cG fz hV n [some (aL w h g m),some (.lst (ls.map Ln.d)),some (.int pace),some (.int (w+g)),some (.mr M.length),some (.int here),some (.int aK),x7,x8] (M++[.lst acc])=.ok f (M++[.lst (de (w+g) (h*(w+g)) pace ls n here aK acc)])∧
    (f=.rt (.mr M.length)∨∃h' t' x' y',f=.nx [some (aL w h g m),some (.lst (ls.map Ln.d)),some (.int pace),some (.int (w+g)),some (.mr M.length),some (.int h'),some (.int t'),x',y'])
 | 0,_,_,_,_,_,_,_,_,hz=>absurd hz (by decide)
 | n+1,here,aK,acc,x7,x8,hh,ha,hn,_=>by
  obtain⟨p,rfl⟩:=Int.eq_ofNat_of_zero_le hh;have lt:fz [some (aL w h g m),some (.lst (ls.map Ln.d)),some (.int pace),some (.int (w+g)),some (.mr M.length),some (.int p),some (.int aK),x7,x8] (M++[.lst acc])=.ok (decide (p<ls.length)) (M++[.lst acc]):=by
   unfold fz;refine aE (av (M2:=M++[.lst acc]) (x:=.int p) (y:=.int ls.length) rfl (gF (x:=.lst (ls.map Ln.d)) rfl ?_) ?_)
   ·show bj.ok (D.int ((ls.map Ln.d).length)) _=_;rw[length_map]
   ·show bj.ok (D.bl (decide ((p:Int)<ls.length))) _=_;congr 2;exact decide_eq_decide.mpr (by omega)
  by_cases hl:p<ls.length
  ·rw[decide_eq_true hl] at lt;have gl:ls[p]?=some ls[p]:=getElem?_eq_getElem hl;have okl:=ok _ (getElem_mem hl);generalize ls[p]=l at *;have gd:(ls.map Ln.d)[p]?=some l.d:=by rw[getElem?_map,gl];rfl
   have eh:de (w+g) (h*(w+g)) pace ls (n+1) p aK acc=if h*(w+g)≤l.tk (w+g) aK then acc else de (w+g) (h*(w+g)) pace ls n (l.later (w+g) p (l.tk (w+g) aK)) (l.tk (w+g) aK+pace) (acc++l.told (l.tk (w+g) aK)):=by
    show(match ls[(p:Int).toNat]? with|none=>acc|some l=>_)=_;rw[Int.toNat_natCast,gl]
   have s1:(aH 7 (g2 aI (ae 1) (ae 5))) [some (aL w h g m),some (.lst (ls.map Ln.d)),some (.int pace),some (.int (w+g)),some (.mr M.length),some (.int p),some (.int aK),x7,x8] (M++[.lst acc])=.ok (.nx [some (aL w h g m),some (.lst (ls.map Ln.d)),some (.int pace),some (.int (w+g)),some (.mr M.length),some (.int p),some (.int aK),some l.d,x8]) (M++[.lst acc]):=
    aT (av rfl rfl (wn gd))
   have nm:∀(r q:Int) (x:Str) (t:Int) (y8:Option D),0≤r∧r≤60→l.d=.tup [.str x,.int r,.int q]→∀N,g2 a9 (g2 cz (g2 aI (ae 7) (gC (.int 1))) (ae 3)) (g2 aI (ae 7) (gC (.int 2))) [some (aL w h g m),some (.lst (ls.map Ln.d)),some (.int pace),some (.int (w+g)),some (.mr M.length),some (.int p),some (.int t),some l.d,y8] N=.ok (.int (r*(w+g)+q)) N:=fun r q x t y8 hr e N=>by
    have mu:=n8 (i:=r) (j:=w+g) (by omega) (by omega) N;rw[e];exact av (x:=.int (r*(w+g))) (y:=.int q) (av (x:=.int r) (y:=.int (w+g)) (av rfl rfl (cJ (k:=1) rfl)) rfl mu) (av rfl rfl (cJ (k:=2) rfl)) rfl
   have tg:=HB (w+g) aK l;have s2:OB [some (aL w h g m),some (.lst (ls.map Ln.d)),some (.int pace),some (.int (w+g)),some (.mr M.length),some (.int p),some (.int aK),some l.d,x8] (M++[.lst acc])=.ok (.nx [some (aL w h g m),some (.lst (ls.map Ln.d)),some (.int pace),some (.int (w+g)),some (.mr M.length),some (.int p),some (.int (l.tk (w+g) aK)),some l.d,x8]) (M++[.lst acc]):=by
    have t0:=aE (av (ρ:=[some (aL w h g m),some (.lst (ls.map Ln.d)),some (.int pace),some (.int (w+g)),some (.mr M.length),some (.int p),some (.int aK),some l.d,x8]) (a:=g2 aI (ae 7) (gC (.int 0))) (b:=gC (.str "wait")) (av rfl rfl (Ip l (M++[.lst acc]))) rfl (jY l (M++[.lst acc])).1);unfold OB Mz;cases l with
    | wait r q=>
     have n1:=nm r q "wait" aK x8 okl.1 rfl (M++[.lst acc]);have a:=cQ t0 fun _=>aE (av (f:=mj) (y:=.int aK) (b:=ae 6) n1 rfl rfl)
     by_cases q2:aK<r*(w+g)+q
     ·rw[decide_eq_true q2] at a;have e:(Ln.wait r q).tk (w+g) aK=r*(w+g)+q:=if_pos q2;rw[e];unfold MQ;exact(bK a).trans (aT n1)
     ·rw[decide_eq_false q2] at a;have e:(Ln.wait r q).tk (w+g) aK=aK:=if_neg q2;rw[e];exact(aS a).trans rfl
    | _=>exact(aS (cQ (y:=false) t0 fun z=>by cases z)).trans rfl
   have lo:=xj (row:=w+g) (t:=l.tk (w+g) aK) okl hh;generalize l.tk (w+g) aK=t at *;have t3:LM [some (aL w h g m),some (.lst (ls.map Ln.d)),some (.int pace),some (.int (w+g)),some (.mr M.length),some (.int p),some (.int t),some l.d,x8] (M++[.lst acc])=.ok (decide (h*(w+g)≤t)) (M++[.lst acc]):=by
    have mu:=n8 (i:=w+g) (j:=h) (by have:=k.w;have:=k.g;omega) (by have:=k.w;have:=k.g;omega) (M++[.lst acc]);refine(aE (av (f:=mj) (a:=ae 6) (x:=.int t) (y:=.int ((w+g)*h-1)) rfl (av (f:=eE) (x:=.int ((w+g)*h)) (y:=.int 1) (av (x:=.int (w+g)) (y:=.int h) rfl (av rfl rfl (cJ (k:=1) rfl)) mu) rfl rfl) rfl)).trans ?_;congr 1;rw[Int.mul_comm (w+g) h];exact decide_eq_decide.mpr (by omega)
   rw[eh]
   by_cases hb:h*(w+g)≤t
   ·rw[decide_eq_true hb] at t3;rw[if_pos hb];refine⟨.rt (.mr M.length),?_,.inl rfl⟩;rw[cG,lt,aq,if_pos rfl,Hz,ao s1,ao s2];unfold Oh;rw[bn ((bK t3).trans rfl)];rfl
   ·rw[decide_eq_false hb] at t3;rw[if_neg hb];have la:=yg t l;have s3:Oh [some (aL w h g m),some (.lst (ls.map Ln.d)),some (.int pace),some (.int (w+g)),some (.mr M.length),some (.int p),some (.int t),some l.d,x8] (M++[.lst acc])=.ok (.nx [some (aL w h g m),some (.lst (ls.map Ln.d)),some (.int pace),some (.int (w+g)),some (.mr M.length),some (.int p),some (.int t),some l.d,x8]) (M++[.lst acc]):=by
     unfold Oh;exact(aS t3).trans rfl
    have s4:(aH 8 (g2 a9 (ae 5) (gC (.int 1)))) [some (aL w h g m),some (.lst (ls.map Ln.d)),some (.int pace),some (.int (w+g)),some (.mr M.length),some (.int p),some (.int t),some l.d,x8] (M++[.lst acc])=.ok (.nx [some (aL w h g m),some (.lst (ls.map Ln.d)),some (.int pace),some (.int (w+g)),some (.mr M.length),some (.int p),some (.int t),some l.d,some (.int ((p:Int)+1))]) (M++[.lst acc]):=rfl;have wd:=fun N=>jY l N
    have l0:=fun N=>Ip l N
    have s5:Pe [some (aL w h g m),some (.lst (ls.map Ln.d)),some (.int pace),some (.int (w+g)),some (.mr M.length),some (.int p),some (.int t),some l.d,some (.int ((p:Int)+1))] (M++[.lst acc])=.ok (.nx [some (aL w h g m),some (.lst (ls.map Ln.d)),some (.int pace),some (.int (w+g)),some (.mr M.length),some (.int p),some (.int t),some l.d,some (.int ((p:Int)+1))]) (M++[.lst (acc++l.told t)]):=by
     have tw:Nv [some (aL w h g m),some (.lst (ls.map Ln.d)),some (.int pace),some (.int (w+g)),some (.mr M.length),some (.int p),some (.int t),some l.d,some (.int ((p:Int)+1))] (M++[.lst acc])=.ok (l.is 2) (M++[.lst acc]):=
      aE (av (a:=g2 aI (ae 7) (gC (.int 0))) (b:=gC (.str "do")) (av rfl rfl (l0 _)) rfl (wd _).2.2.1)
     unfold Pe;cases l with
     | act d=>
      have two:[D.int t,d.d].length≤sizeLine:=ba (show 2≤1000000 by decide);refine(bK tw).trans (cB (vI rfl (d:=.tup [.int t,d.d]) ?_ (by omega)));show(if [D.int t,d.d].length≤sizeLine then bj.ok (D.tup [.int t,d.d]) _ else .bad)=_;rw[if_pos two]
     | _=>refine(aS tw).trans ?_;simp[aA,Ln.told]
    have s67:∃z8,(ar OQ OU) [some (aL w h g m),some (.lst (ls.map Ln.d)),some (.int pace),some (.int (w+g)),some (.mr M.length),some (.int p),some (.int t),some l.d,some (.int ((p:Int)+1))] (M++[.lst (acc++l.told t)])=.ok (.nx [some (aL w h g m),some (.lst (ls.map Ln.d)),some (.int pace),some (.int (w+g)),some (.mr M.length),some (.int p),some (.int t),some l.d,some (.int (l.later (w+g) p t))]) (M++[.lst (acc++l.told t)])∧z8=0:=by
     refine⟨0,?_,rfl⟩;have t5:∀y8 N,MD [some (aL w h g m),some (.lst (ls.map Ln.d)),some (.int pace),some (.int (w+g)),some (.mr M.length),some (.int p),some (.int t),some l.d,y8] N=.ok (l.is 3) N:=fun y8 N=>
      aE (av (a:=g2 aI (ae 7) (gC (.int 0))) (b:=gC (.str "to")) (av rfl rfl (l0 _)) rfl (wd _).2.2.2)
     have t6:∀y8 N,az (g2 (aF false) (g2 aI (ae 7) (gC (.int 0))) (gC (.str "skip"))) [some (aL w h g m),some (.lst (ls.map Ln.d)),some (.int pace),some (.int (w+g)),some (.mr M.length),some (.int p),some (.int t),some l.d,y8] N=.ok (l.is 1) N:=fun y8 N=>
      aE (av (a:=g2 aI (ae 7) (gC (.int 0))) (b:=gC (.str "skip")) (av rfl rfl (l0 _)) rfl (wd _).2.1)
     unfold OQ OU L0;cases l with
     | to q=>
      rw[ao ((bK (t5 _ _)).trans (aT (av rfl rfl (cJ (k:=1) rfl))))];exact(aS (cQ (y:=false) (t6 _ _) fun z=>by cases z)).trans rfl
     | skip r q=>
      rw[ao ((aS (t5 _ _)).trans rfl)];have n1:=nm r q "skip" t (some (.int ((p:Int)+1))) okl.1 rfl (M++[.lst (acc++(Ln.skip r q).told t)]);have a:=cQ (t6 (some (.int ((p:Int)+1))) _) fun _=>aE (av (f:=mT) (y:=.int t) (b:=ae 6) n1 rfl rfl)
      by_cases q2:r*(w+g)+q≤t
      ·rw[decide_eq_true q2] at a;have e:(Ln.skip r q).later (w+g) p t=p+2:=if_pos q2;rw[e];exact(bK a).trans rfl
      ·rw[decide_eq_false q2] at a;have e:(Ln.skip r q).later (w+g) p t=p+1:=if_neg q2;rw[e];exact(aS a).trans rfl
     | wait r q=>
      rw[ao ((aS (t5 _ _)).trans rfl)];exact(aS (cQ (y:=false) (t6 _ _) fun z=>by cases z)).trans rfl
     | act d=>
      rw[ao ((aS (t5 _ _)).trans rfl)];exact(aS (cQ (y:=false) (t6 _ _) fun z=>by cases z)).trans rfl
    obtain⟨_,s67,_⟩:=s67;have s8:(ar (aH 5 (ae 8)) (aH 6 (g2 a9 (ae 6) (ae 2)))) [some (aL w h g m),some (.lst (ls.map Ln.d)),some (.int pace),some (.int (w+g)),some (.mr M.length),some (.int p),some (.int t),some l.d,some (.int (l.later (w+g) p t))] (M++[.lst (acc++l.told t)])=.ok (.nx [some (aL w h g m),some (.lst (ls.map Ln.d)),some (.int pace),some (.int (w+g)),some (.mr M.length),some (.int (l.later (w+g) p t)),some (.int (t+pace)),some l.d,some (.int (l.later (w+g) p t))]) (M++[.lst (acc++l.told t)]):=rfl;obtain⟨f,e,hf⟩:=xH (M:=M) k hp ok n (l.later (w+g) p t) (t+pace) (acc++l.told t) (some l.d) (some (.int (l.later (w+g) p t))) lo (by rw[length_append];omega) (by omega) (by omega);refine⟨f,?_,hf⟩;rw[cG,lt,aq,if_pos rfl,Hz,ao s1,ao s2,ao s3,ao s4,ao s5,NP,ao s67,s8,aq];exact e
  ·rw[decide_eq_false hl] at lt;have gl:ls[p]?=none:=getElem?_eq_none (by omega);have eh:de (w+g) (h*(w+g)) pace ls (n+1) p aK acc=acc:=by
    show(match ls[(p:Int).toNat]? with|none=>acc|some l=>_)=_;rw[Int.toNat_natCast,gl]
   rw[eh];exact⟨_,by rw[cG,lt,aq,if_neg Bool.false_ne_true],.inr ⟨_,_,_,_,rfl⟩⟩
theorem xr:PyData.strOk "shift"=true∧PyData.strOk "pot"=true∧PyData.strOk "move"=true∧PyData.strOk "shape"=true∧PyData.strOk "rank"=true∧PyData.strOk "turn"=true∧PyData.strOk "deed"=true:=by decide +kernel
theorem zi {i:Int}(h:lo≤i∧i≤hi):bv [.int i,.int lo,.int hi] M=.ok (.bl true) M:=by
 rw[cH ⟨_,rfl⟩,bA h]
theorem BY {l:Ln}(ok:ue s n l):pY [s.d,.int n,l.d] M=.ok (.bl true) M:=by
 have wd:=fun N=>jY l N
 obtain⟨a1,a2,a3,a4,_⟩:=sW;have two:(2:Nat)≤sizeLine:=ba (by decide);have g1:ej "tuple" (ae 2) [some s.d,some (.int n),some l.d,none,none] M=.ok (.bl true) M:=by cases l <;> rfl
 show aP (nh [some s.d,some (.int n),some l.d,none,none] M)=_;unfold nh;cases l with
 | wait r q=>
  have t1:=bE (bF (bM g1)) (b:=az (g2 jo (aC aV (aa (ae 2) ag)) (gC (.int 2)))) (y:=false) fun _=>rfl
  rw[ao ((aS t1).trans rfl)];have par:qX 3 4 (aa (g2 aI (ae 2) (gC (.int 0))) (aa (oA (ae 2) (dh (gC (.int 1))) bG) ag)) [some s.d,some (.int n),some (Ln.wait r q).d,none,none] M=.ok (.nx [some s.d,some (.int n),some (Ln.wait r q).d,some (.str "wait"),some (.tup [.int r,.int q])]) M:=rfl;rw[ao par];have t2:=bE (ρ:=[some s.d,some (.int n),some (Ln.wait r q).d,some (.str "wait"),some (.tup [.int r,.int q])]) (b:=az (g2 (aF false) (ae 3) (gC (.str "skip")))) (y:=false) (aE (av (a:=ae 3) (b:=gC (.str "wait")) rfl rfl (wd M).1)) fun z=>by cases z
  have al:=kE (ge:=iu) (p:=bc 0 60) (jp (i:=4) (ρ:=[some s.d,some (.int n),some (Ln.wait r q).d,some (.str "wait"),some (.tup [.int r,.int q])]) (M:=M) rfl) (by simp) fun x hm=>by
   unfold iu;refine ce (x:=x) (y:=.int 0) (z:=.int 60) rfl rfl rfl (cH ?_);simp only[mem_cons,not_mem_nil,or_false] at hm;rcases hm with rfl|rfl <;> exact⟨_,rfl⟩
  have e:[D.int r,.int q].all (bc 0 60)=true:=by simp[bA ok.1,bA ok.2]
  rw[e] at al;rw[bn ((bK t2).trans (aR (bP (x:=true) (av (x:=.int 2) (y:=.int 2) rfl rfl (nD 2 2 M)) fun _=>al)))];rfl
 | skip r q=>
  have t1:=bE (bF (bM g1)) (b:=az (g2 jo (aC aV (aa (ae 2) ag)) (gC (.int 2)))) (y:=false) fun _=>rfl
  rw[ao ((aS t1).trans rfl)];have par:qX 3 4 (aa (g2 aI (ae 2) (gC (.int 0))) (aa (oA (ae 2) (dh (gC (.int 1))) bG) ag)) [some s.d,some (.int n),some (Ln.skip r q).d,none,none] M=.ok (.nx [some s.d,some (.int n),some (Ln.skip r q).d,some (.str "skip"),some (.tup [.int r,.int q])]) M:=rfl;rw[ao par];have t2:=bE (ρ:=[some s.d,some (.int n),some (Ln.skip r q).d,some (.str "skip"),some (.tup [.int r,.int q])]) (aE (av (a:=ae 3) (b:=gC (.str "wait")) rfl rfl (wd M).1)) fun _=>aE (av (a:=ae 3) (b:=gC (.str "skip")) rfl rfl (wd M).2.1)
  have al:=kE (ge:=iu) (p:=bc 0 60) (jp (i:=4) (ρ:=[some s.d,some (.int n),some (Ln.skip r q).d,some (.str "skip"),some (.tup [.int r,.int q])]) (M:=M) rfl) (by simp) fun x hm=>by
   unfold iu;refine ce (x:=x) (y:=.int 0) (z:=.int 60) rfl rfl rfl (cH ?_);simp only[mem_cons,not_mem_nil,or_false] at hm;rcases hm with rfl|rfl <;> exact⟨_,rfl⟩
  have e:[D.int r,.int q].all (bc 0 60)=true:=by simp[bA ok.1,bA ok.2]
  rw[e] at al;rw[bn ((bK t2).trans (aR (bP (x:=true) (av (x:=.int 2) (y:=.int 2) rfl rfl (nD 2 2 M)) fun _=>al)))];rfl
 | act d=>
  have t1:=bE (bF (bM g1)) (b:=az (g2 jo (aC aV (aa (ae 2) ag)) (gC (.int 2)))) (y:=false) fun _=>rfl
  rw[ao ((aS t1).trans rfl)];have par:qX 3 4 (aa (g2 aI (ae 2) (gC (.int 0))) (aa (oA (ae 2) (dh (gC (.int 1))) bG) ag)) [some s.d,some (.int n),some (Ln.act d).d,none,none] M=.ok (.nx [some s.d,some (.int n),some (Ln.act d).d,some (.str "do"),some (.tup [d.d])]) M:=rfl;rw[ao par];have t2:=bE (ρ:=[some s.d,some (.int n),some (Ln.act d).d,some (.str "do"),some (.tup [d.d])]) (aE (av (a:=ae 3) (b:=gC (.str "wait")) rfl rfl (wd M).1)) fun _=>aE (av (a:=ae 3) (b:=gC (.str "skip")) rfl rfl (wd M).2.1)
  have t3:=aE (av (f:=aF true) (ρ:=[some s.d,some (.int n),some (Ln.act d).d,some (.str "do"),some (.tup [d.d])]) (a:=aC aV (aa (ae 4) ag)) (b:=gC (.int 1)) rfl rfl (nJ 1 1 M));have t4:=aE (av (ρ:=[some s.d,some (.int n),some (Ln.act d).d,some (.str "do"),some (.tup [d.d])]) (a:=ae 3) (b:=gC (.str "do")) rfl rfl (wd M).2.2.1);have dd:=p7 (M:=M) ok;rw[ao ((aS t2).trans rfl),ao ((aS t3).trans rfl),bn ((bK t4).trans (aR (bp (a:=ae 0) rfl (av rfl rfl (cJ (k:=0) rfl)) dd)))];rfl
 | to k=>
  have t1:=bE (bF (bM g1)) (b:=az (g2 jo (aC aV (aa (ae 2) ag)) (gC (.int 2)))) (y:=false) fun _=>rfl
  rw[ao ((aS t1).trans rfl)];have par:qX 3 4 (aa (g2 aI (ae 2) (gC (.int 0))) (aa (oA (ae 2) (dh (gC (.int 1))) bG) ag)) [some s.d,some (.int n),some (Ln.to k).d,none,none] M=.ok (.nx [some s.d,some (.int n),some (Ln.to k).d,some (.str "to"),some (.tup [.int k])]) M:=rfl;rw[ao par];have t2:=bE (ρ:=[some s.d,some (.int n),some (Ln.to k).d,some (.str "to"),some (.tup [.int k])]) (aE (av (a:=ae 3) (b:=gC (.str "wait")) rfl rfl (wd M).1)) fun _=>aE (av (a:=ae 3) (b:=gC (.str "skip")) rfl rfl (wd M).2.1)
  have t3:=aE (av (f:=aF true) (ρ:=[some s.d,some (.int n),some (Ln.to k).d,some (.str "to"),some (.tup [.int k])]) (a:=aC aV (aa (ae 4) ag)) (b:=gC (.int 1)) rfl rfl (nJ 1 1 M));have t4:=aE (av (ρ:=[some s.d,some (.int n),some (Ln.to k).d,some (.str "to"),some (.tup [.int k])]) (a:=ae 3) (b:=gC (.str "do")) rfl rfl (wd M).2.2.1);have e:=av (ρ:=[some s.d,some (.int n),some (Ln.to k).d,some (.str "to"),some (.tup [.int k])]) (a:=ae 3) (b:=gC (.str "to")) rfl rfl (wd M).2.2.2;have wi:=zi (lo:=0) (hi:=(n:Int)-1) (i:=k) (M:=M) ⟨ok.1,by have:=ok.2;omega⟩;rw[ao ((aS t2).trans rfl),ao ((aS t3).trans rfl),ao ((aS t4).trans rfl),aR (bP e fun _=>ce (x:=.int k) (y:=.int 0) (z:=.int ((n:Int)-1)) (av rfl rfl (cJ (k:=0) rfl)) rfl rfl wi)];rfl
variable{ls:List Ln}
theorem zQ (ok:∀l∈ls,ue s ls.length l)(hl:ls.length≤100):oi [s.d,.lst (ls.map Ln.d)] M=.ok (.bl true) M:=by
 show aP (lS [some s.d,some (.lst (ls.map Ln.d))] M)=_;unfold lS;have ln:∀i ρ,ρ[i]?=some (some (D.lst (ls.map Ln.d)))→aC aV (aa (ae i) ag) ρ M=.ok (.int ls.length) M:=fun i ρ e=>by
  refine gF (x:=.lst (ls.map Ln.d)) (by unfold ae;rw[e]) ?_;show bj.ok (D.int (ls.map Ln.d).length) M=_;rw[length_map]
 have t2:az (g2 mj (aC aV (aa (ae 1) ag)) (gC (.int 100))) [some s.d,some (.lst (ls.map Ln.d))] M=.ok false M:=by
  refine(aE (av (ln 1 _ rfl) rfl rfl)).trans ?_;congr 1;exact decide_eq_false (by omega)
 have t1:=bE (a:=bI (cn (ej "list" (ae 1)))) (x:=false) (ρ:=[some s.d,some (.lst (ls.map Ln.d))]) (M:=M) rfl fun _=>t2
 rw[ao ((aS t1).trans rfl)];have al:=kE (ge:=jZ) (p:=fun _=>true) (lN (i:=1) (ρ:=[some s.d,some (.lst (ls.map Ln.d))]) (M:=M) rfl) (by rw[length_map];omega) fun x hm=>by
  obtain⟨l,hm',rfl⟩:=mem_map.mp hm;unfold jZ;exact ce (a:=ae 1) (c:=ae 0) rfl (ln 2 _ rfl) rfl (BY (ok l hm'))
 rw[aR al];show bj.ok (D.bl _) M=_;simp
noncomputable def due (w h g pace:Int)(ls:List Ln):List D:=de (w+g) (h*(w+g)) pace ls 5000 0 0 []
theorem sC {w:Int}(k:fD w h g m):h*(w+g)≤2400:=by
 have h1:=k.h;have h2:=k.w;have h3:=k.g;have a:h*(w+g)≤40*(w+g):=Int.mul_le_mul_of_nonneg_right h1.2 (by omega);omega
variable{pace:Int}
theorem Gp {w:Int}(k:fD w h g m)(hp:1≤pace)(ok:∀l∈ls,ue s ls.length l)(pd:(due w h g pace ls).all (aX 29)=true)(pM:M.all m3=true) :
  kr [aL w h g m,.lst (ls.map Ln.d),.int pace] M=.ok (.lst (due w h g pace ls)) M:=by
 have tl:=sC k;obtain⟨f,e,hf⟩:=xH (M:=M) k hp ok 5000 0 0 [] none none (by decide) (by simp) (by omega) (by decide);show jV M.length (aP (iS [some (aL w h g m),some (.lst (ls.map Ln.d)),some (.int pace),none,none,none,none,none,none] M))=_;unfold iS;have z0:(0:Nat)≤sizeLine:=Nat.zero_le _;have s3:(aH 3 (g2 a9 (g2 aI (ae 0) (gC (.int 0))) (g2 aI (ae 0) (gC (.int 2))))) [some (aL w h g m),some (.lst (ls.map Ln.d)),some (.int pace),none,none,none,none,none,none] M=.ok (.nx [some (aL w h g m),some (.lst (ls.map Ln.d)),some (.int pace),some (.int (w+g)),none,none,none,none,none]) M:=rfl;have mu:(aH 4 (iC ag)) [some (aL w h g m),some (.lst (ls.map Ln.d)),some (.int pace),some (.int (w+g)),none,none,none,none,none] M=.ok (.nx [some (aL w h g m),some (.lst (ls.map Ln.d)),some (.int pace),some (.int (w+g)),some (.mr M.length),none,none,none,none]) (M++[.lst []]):=by
  exact aT ku
 have s5:(aH 5 (gC (.int 0))) [some (aL w h g m),some (.lst (ls.map Ln.d)),some (.int pace),some (.int (w+g)),some (.mr M.length),none,none,none,none] (M++[.lst []])=.ok (.nx [some (aL w h g m),some (.lst (ls.map Ln.d)),some (.int pace),some (.int (w+g)),some (.mr M.length),some (.int 0),none,none,none]) (M++[.lst []]):=rfl;have s6:(aH 6 (gC (.int 0))) [some (aL w h g m),some (.lst (ls.map Ln.d)),some (.int pace),some (.int (w+g)),some (.mr M.length),some (.int 0),none,none,none] (M++[.lst []])=.ok (.nx [some (aL w h g m),some (.lst (ls.map Ln.d)),some (.int pace),some (.int (w+g)),some (.mr M.length),some (.int 0),some (.int 0),none,none]) (M++[.lst []]):=rfl;have ew:mH 5000 fz hV [some (aL w h g m),some (.lst (ls.map Ln.d)),some (.int pace),some (.int (w+g)),some (.mr M.length),some (.int 0),some (.int 0),none,none] (M++[.lst []])=.ok f (M++[.lst (due w h g pace ls)]):=e;rw[ao s3,ao mu,ao s5,ao s6];have r:=AR (M:=M) (xs:=due w h g pace ls) pd pM;rcases hf with rfl|⟨h',t',x',y',rfl⟩
 ·rw[bn ew];exact r
 ·rw[ao ew];exact r
theorem KO (d:Dd):aG 38 d.d=true:=by
 obtain⟨k1,k2,k3,k4,k5,k6,_⟩:=xr;cases d with
 | shape i o=>cases o <;> simp[Dd.d,nU,aG,cr,k4]
 | _=>simp[Dd.d,aG,cr,k1,k2,k3,k5,k6]
noncomputable def Ce (d:D):Prop:=∃t dd,d=.tup [.int t,Dd.d dd]
theorem Af {row tot pace:Int}{ls:List Ln}:∀(n:Nat) (here aK:Int) (acc:List D),(∀d∈acc,Ce d)→∀d∈de row tot pace ls n here aK acc,Ce d
 | 0,_,_,acc,h=>h
 | n+1,here,aK,acc,h=>by
  unfold de;split
  ·exact h
  ·rename_i l _;split
   ·exact h
   ·refine Af n _ _ _ fun d hd=>?_
    rcases mem_append.mp hd with q|q
    ·exact h d q
    ·cases l with
     | act dd=>rw[mem_singleton.mp (show d∈[_] from q)];exact⟨_,dd,rfl⟩
     | _=>cases q
theorem C3 {w:Int}:∀d∈due w h g pace ls,Ce d:=Af 5000 0 0 [] fun d h=>by cases h
theorem vV {d:D}(h:Ce d):aX 29 d=true:=by
 obtain⟨t,dd,rfl⟩:=h;show([D.int t,dd.d].all (aX 28))=true;have:aX 28 dd.d=true:=by
  cases dd with
  | shape i o=>cases o <;> rfl
  | _=>rfl
 simp[this]
theorem J9 {d:D}(h:Ce d):aG 39 d=true:=by
 obtain⟨t,dd,rfl⟩:=h;show(aG 38 (.int t)&&(aG 38 dd.d&&true))=true;rw[KO];rfl
theorem Ki {i c i1 c1:Int}{d:D}{go:GE}(h1:go ρ (tp l i c::(rest++[.lst E]))=.ok (.mr (rest.length+1)) (tp l i c::(rest++[.lst E])))(h3:ge ρ (tp l i c::(rest++[.lst E]))=.ok d (tp l i1 c1::(rest++[.lst E])))(h:E.length<1000000) :
  jW go ge ρ (tp l i c::(rest++[.lst E]))=.ok .non (tp l i1 c1::(rest++[.lst (E++[d])])):=by
 have e:=yz (k:=rest.length+1) (E:=E) (E1:=E) h1 (by simp) h3 (by simp) h;rw[e];simp
theorem AM {i c:Int}(hr:rest.all m3=true):(tp l i c::rest).all m3=true:=by
 have h:m3 (tp l i c)=true:=by
  show(D.lst (l.map D.int)::[D.int i,D.int c]).all (aX 30)=true;have:=iE 28 l;simp[B5,this,aX]
 rw[all_cons,h,hr];rfl
theorem O8 {F:FD}{a b:GE}{M2:aB}{x y:D}{o:bj D}(ha:a ρ M=.ok x M1)(hb:b ρ M1=.ok y M2)(h:F [x,y] M2=o):aC F (aa a (aa b ag)) ρ M=o:=by
 unfold aC;rw[aM ha (aM hb rfl),aq,h]
theorem C8 {x:Str}(hx:xs.all (aX 28)=true)(hM:il M):jV M.length (.ok (.tup [.str x,.mr M.length]) (M++[.lst xs]))=.ok (.tup [.str x,.lst xs]) M:=by
 have f1:=jJ (n:=M.length) (M:=M++[.lst xs]) hM;have f3:frz M.length (M++[.lst xs]) 29 (.mr M.length)=some (.lst xs):=by
  have o:bH (frz M.length (M++[.lst xs]) 28) xs=some xs:=cp fun x h=>fg 28 x (all_eq_true.mp hx x h)
  show(if M.length<M.length then some (D.mr M.length) else match (M++[MO.lst xs])[M.length]? with|some (MO.lst ys)=>(bH (frz M.length (M++[MO.lst xs]) 28) ys).map D.lst|_=>none)=_;rw[if_neg (Nat.lt_irrefl _)];simp;rw[o]
 have f2:frz M.length (M++[.lst xs]) 30 (.tup [.str x,.mr M.length])=some (.tup [.str x,.lst xs]):=by
  show(bH (frz M.length (M++[.lst xs]) 29) [.str x,.mr M.length]).map D.tup=_;have e:bH (frz M.length (M++[.lst xs]) 29) [.str x,.mr M.length]=some [.str x,.lst xs]:=by
   simp only[bH];rw[f3];rfl
  rw[e];rfl
 show(if(M++[MO.lst xs]).length=M.length then bj.ok (D.tup [.str x,.mr M.length]) (M++[MO.lst xs]) else match frz M.length (M++[MO.lst xs]) 30 (.tup [.str x,.mr M.length]),gG M.length (M++[MO.lst xs]) ((M++[MO.lst xs]).take M.length) with|some d',some M'=>.ok d' M'|_,_=>.bad)=_;rw[if_neg (by simp),take_left,f1,f2]
noncomputable def wO (p due aK pace:Int):Option (List Ln):=if aK=due then some [] else if due≤aK-pace then some [.wait ((aK-pace) / p) ((aK-pace) % p)] else none
noncomputable def Qi:Option (List Ln)→D
 | some ls=>.lst (ls.map Ln.d)
 | none=>.non
theorem L8 {w due aK:Int}(f:fD w h g m)(ht:aK<h*(w+g)):fX [aL w h g m,.int due,.int aK,.int pace] M=.ok (Qi (wO (w+g) due aK pace)) M:=by
 show aP (iG [some (aL w h g m),some (.int due),some (.int aK),some (.int pace),none,none,none] M)=_;unfold iG wO;have hp:0<w+g:=by have:=f.w;have:=f.g;omega
 have tc:∀x4,az (g2 jo (ae 2) (aj 1 bx (aa (ae 0) ag))) [some (aL w h g m),some (.int due),some (.int aK),some (.int pace),x4,none,none] M=.ok true M:=fun x4=>
  aE (av (f:=jo) (a:=ae 2) (x:=.int aK) rfl (dJ (F:=bx) (a:=ae 0) rfl (dH f)) (by show bj.ok (D.bl (decide (aK<h*(w+g)))) M=_;rw[decide_eq_true ht]))
 have t1:=cQ (aE (av (f:=aF false) (a:=ae 2) (b:=ae 1) (ρ:=[some (aL w h g m),some (.int due),some (.int aK),some (.int pace),none,none,none]) (x:=.int aK) (y:=.int due) rfl rfl (nD aK due M))) fun _=>tc none
 by_cases e:aK=due
 ·rw[decide_eq_true e] at t1;rw[if_pos e,bn ((bK t1).trans (aR (d9 (ds:=[]) rfl (by decide))))];rfl
 ·rw[decide_eq_false e] at t1;rw[if_neg e,ao ((aS t1).trans rfl)];have s4:∀b:GS,ar (aH 4 (g2 eE (ae 2) (ae 3))) b [some (aL w h g m),some (.int due),some (.int aK),some (.int pace),none,none,none] M=b [some (aL w h g m),some (.int due),some (.int aK),some (.int pace),some (.int (aK-pace)),none,none] M:=fun b=>ao rfl
  rw[s4];generalize aK-pace=r at *;have t2:=cQ (aE (av (f:=mT) (a:=ae 1) (b:=ae 4) (ρ:=[some (aL w h g m),some (.int due),some (.int aK),some (.int pace),some (.int r),none,none]) (M:=M) (o:=.ok (.bl (decide (due≤r))) M) (x:=.int due) (y:=.int r) rfl rfl rfl)) fun _=>tc (some (.int r))
  by_cases e2:due≤r
  ·rw[decide_eq_true e2] at t2;rw[if_pos e2];have dv:rX [.int r,.int (w+g)] M=.ok (.tup [.int (r / (w+g)),.int (r % (w+g))]) M:=by
    unfold rX;dsimp only;rw[if_pos ⟨hp,aN hp (by have:=f.w;have:=f.g;omega)⟩]
   have k1:=sJ (sg:=bJ [5,6]) (O8 (F:=rX) (a:=ae 4) (b:=aj 1 eJ (aa (ae 0) ag)) (ρ:=[some (aL w h g m),some (.int due),some (.int aK),some (.int pace),some (.int r),none,none]) (x:=.int r) rfl (dJ (F:=eJ) (a:=ae 0) rfl j9) dv)
    (ρ1:=[some (aL w h g m),some (.int due),some (.int aK),some (.int pace),some (.int r),some (.int (r / (w+g))),some (.int (r % (w+g)))]) rfl
   have k2:=(ao (b:=aD (dD (aa (bb (aa (gC (.str "wait")) (aa (ae 5) (aa (ae 6) ag)))) ag))) k1).trans (aR (d9 (ds:=[.tup [.str "wait",.int (r / (w+g)),.int (r % (w+g))]]) (aM (cw (ds:=[.str "wait",.int (r / (w+g)),.int (r % (w+g))]) rfl (by simp)) rfl) (by simp)));rw[bn ((bK t2).trans k2)];rfl
  ·rw[decide_eq_false e2] at t2;rw[if_neg e2,ao ((aS t2).trans rfl)];rfl
noncomputable def io (p pace:Int):List (Int×Dd)→Int→Nat→List Ln→Nat ⊕ List Ln
 | [],_,_,acc=>.inr acc
 | q::td,due,k,acc=>match wO p due q.1 pace with
  | none=>.inl k
  | some ls=>io p pace td (q.1+pace) (k+1) (acc++(ls++[Ln.act q.2]))
noncomputable def xP:Nat ⊕ List Ln→D
 | .inl k=>.tup [.str "late",.int k]
 | .inr ls=>.tup [.str "score",.lst (ls.map Ln.d)]
theorem vU {p due aK:Int}(h:wO p due aK pace=some ls):ls.length≤1:=by
 unfold wO at h;split at h
 ·cases h;decide
 ·split at h
  ·cases h;simp
  ·cases h
theorem Fo {g:GE}{zs:List D}(hi:ρ[i]?=some (some (.mr M.length)))(hg:g ρ (M++[.lst E])=.ok (.lst zs) (M++[.lst E]))(hl:E.length+zs.length≤1000000) :
  sV i g ρ (M++[.lst E])=.ok (.nx (ρ.set i (some (.mr M.length)))) (M++[.lst (E++zs)]):=by
 have v:ae i ρ (M++[.lst E])=.ok (.mr M.length) (M++[.lst E]):=by
  unfold ae;rw[hi]
 have a:qP (.mr M.length) (.lst zs) (M++[.lst E])=.ok (.mr M.length) (M++[.lst (E++zs)]):=by
  unfold qP;dsimp only;rw[AO];dsimp only;have e:sv (.lst zs) (M++[MO.lst E])=some zs:=rfl;rw[e];dsimp only;rw[if_pos (ba hl),C5]
 unfold sV;rw[v,aq,hg,aq,a,aq]
theorem GP {w due aK:Int}{k:Nat}{acc:List Ln}{x1 x8:Option D}(f:fD w h g m)(ht:aK<h*(w+g))(ha:acc.length≤98) :
  (wO (w+g) due aK pace=none∧eM [some (aL w h g m),x1,some (.int pace),some (.mr M.length),some (.int due),some (.int k),some (.int aK),some dd.d,x8] (M++[.lst (acc.map Ln.d)])=.ok (.rt (.tup [.str "late",.int k])) (M++[.lst (acc.map Ln.d)]))∨
  ∃ls y8,wO (w+g) due aK pace=some ls∧eM [some (aL w h g m),x1,some (.int pace),some (.mr M.length),some (.int due),some (.int k),some (.int aK),some dd.d,x8] (M++[.lst (acc.map Ln.d)]) =
   .ok (.nx [some (aL w h g m),x1,some (.int pace),some (.mr M.length),some (.int (aK+pace)),some (.int k),some (.int aK),some dd.d,y8]) (M++[.lst ((acc++(ls++[Ln.act dd])).map Ln.d)]):=by
 have k1:∀b:GS,ar (aH 8 (aj 4 fX (aa (ae 0) (aa (ae 4) (aa (ae 6) (aa (ae 2) ag)))))) b [some (aL w h g m),x1,some (.int pace),some (.mr M.length),some (.int due),some (.int k),some (.int aK),some dd.d,x8] (M++[.lst (acc.map Ln.d)]) =
   b [some (aL w h g m),x1,some (.int pace),some (.mr M.length),some (.int due),some (.int k),some (.int aK),some dd.d,some (Qi (wO (w+g) due aK pace))] (M++[.lst (acc.map Ln.d)]):=fun b=>ao (aT (xy (F:=fX) (a:=ae 0) (b:=ae 4) (c:=ae 6) (d:=ae 2) rfl rfl rfl rfl (L8 f ht)))
 unfold eM;rw[k1];cases q:wO (w+g) due aK pace with
 | none=>
  refine .inl ⟨rfl,?_⟩;have t:cx (az (g2 (kW false) (ae 8) (gC .non))) (az (g2 mj (g2 a9 (g2 a9 (aC aV (aa (ae 3) ag)) (aC aV (aa (ae 8) ag))) (gC (.int 1))) (gC (.int 100)))) [some (aL w h g m),x1,some (.int pace),some (.mr M.length),some (.int due),some (.int k),some (.int aK),some dd.d,some .non] (M++[.lst (acc.map Ln.d)])=.ok true (M++[.lst (acc.map Ln.d)]):=
   bE (x:=true) (y:=true) rfl (fun z=>by cases z)
  exact bn ((bK t).trans (aR (cw (ds:=[.str "late",.int k]) rfl (by simp))))
 | some ls=>
  refine .inr ⟨ls,some (.lst (ls.map Ln.d)),rfl,?_⟩;have l1:=vU q;have n1:aC aV (aa (ae 3) ag) [some (aL w h g m),x1,some (.int pace),some (.mr M.length),some (.int due),some (.int k),some (.int aK),some dd.d,some (.lst (ls.map Ln.d))] (M++[.lst (acc.map Ln.d)])=.ok (.int acc.length) (M++[.lst (acc.map Ln.d)]):=by
   refine gF (a:=ae 3) (x:=.mr M.length) rfl ?_;show(match bW (.mr M.length) (M++[MO.lst (acc.map Ln.d)]) with|some xs=>bj.ok (D.int xs.length) (M++[MO.lst (acc.map Ln.d)])|none=>.bad)=_;have e:bW (.mr M.length) (M++[MO.lst (acc.map Ln.d)])=some (acc.map Ln.d):=by
    show(match (M++[MO.lst (acc.map Ln.d)])[M.length]? with|some (.lst xs)=>some xs|_=>none)=_;rw[AO]
   rw[e];dsimp only;rw[length_map]
  have n2:aC aV (aa (ae 8) ag) [some (aL w h g m),x1,some (.int pace),some (.mr M.length),some (.int due),some (.int k),some (.int aK),some dd.d,some (.lst (ls.map Ln.d))] (M++[.lst (acc.map Ln.d)])=.ok (.int ls.length) (M++[.lst (acc.map Ln.d)]):=by
   refine gF (a:=ae 8) (x:=.lst (ls.map Ln.d)) rfl ?_;show bj.ok (D.int ((ls.map Ln.d).length:Int)) _=_;rw[length_map]
  have t:cx (az (g2 (kW false) (ae 8) (gC .non))) (az (g2 mj (g2 a9 (g2 a9 (aC aV (aa (ae 3) ag)) (aC aV (aa (ae 8) ag))) (gC (.int 1))) (gC (.int 100)))) [some (aL w h g m),x1,some (.int pace),some (.mr M.length),some (.int due),some (.int k),some (.int aK),some dd.d,some (.lst (ls.map Ln.d))] (M++[.lst (acc.map Ln.d)])=.ok false (M++[.lst (acc.map Ln.d)]):=
   bE (x:=false) (y:=false) rfl fun _=>aE (av (f:=mj) (av (f:=a9) (av (f:=a9) n1 n2 rfl) (b:=gC (.int 1)) (y:=.int 1) rfl rfl) (b:=gC (.int 100)) (y:=.int 100) rfl (by
    show bj.ok (D.bl (decide ((acc.length:Int)+ls.length+1>100))) _=_;rw[decide_eq_false (by omega)]))
  refine(ao ((aS t).trans rfl)).trans ?_;have ad:g2 a9 (ae 8) (dD (aa (bb (aa (gC (.str "do")) (aa (ae 7) ag))) ag)) [some (aL w h g m),x1,some (.int pace),some (.mr M.length),some (.int due),some (.int k),some (.int aK),some dd.d,some (.lst (ls.map Ln.d))] (M++[.lst (acc.map Ln.d)])=.ok (.lst ((ls++[Ln.act dd]).map Ln.d)) (M++[.lst (acc.map Ln.d)]):=by
   refine av (f:=a9) (a:=ae 8) (x:=.lst (ls.map Ln.d)) (y:=.lst [.tup [.str "do",dd.d]]) rfl (d9 (aM (cw (ds:=[.str "do",dd.d]) rfl (by simp)) rfl) (by simp)) ?_;show(if(ls.map Ln.d).length+1≤sizeLine then bj.ok (D.lst (ls.map Ln.d++[.tup [.str "do",dd.d]])) _ else .bad)=_;rw[if_pos (ba (by rw[length_map];omega)),map_append];rfl
  have k2:=Fo (i:=3) (ρ:=[some (aL w h g m),x1,some (.int pace),some (.mr M.length),some (.int due),some (.int k),some (.int aK),some dd.d,some (.lst (ls.map Ln.d))]) (E:=acc.map Ln.d) (M:=M) rfl ad (by rw[length_map,length_map,length_append,length_singleton];omega);rw[←map_append] at k2;refine(ao k2).trans ?_;rfl
theorem Ai {b:GS}{d r:D}{ρ1:cC}(h1:sg d ρ=some ρ1)(h2:b ρ1 M=.ok (.rt r) M1):eL ⟨ds0,none⟩ sg b (d::ds) ρ M=.ok (.rt r) M1:=by
 show(match sg d ρ with|none=>bj.bad|some ρ1=>(b ρ1 M).bind fun f M1=>match f with | .nx ρ2=>eL ⟨ds0,none⟩ sg b ds ρ2 M1 | .ct ρ2=>eL ⟨ds0,none⟩ sg b ds ρ2 M1 | .bk ρ2=>.ok (.nx ρ2) M1 | .rt d=>.ok (.rt d) M1)=_;rw[h1];dsimp only;rw[h2,aq]
theorem Cr {w h g m pace:Int}{M:aB}{x1:Option D}(f:fD w h g m)(ds0:List D):∀(td:List (Int×Dd)) (due:Int) (k:Nat) (acc:List Ln) (x5 x6 x7 x8:Option D),(∀q∈td,q.1<h*(w+g))→acc.length≤2*k→k+td.length≤50→
  ∃r E,eL ⟨ds0,none⟩ (oS [(dM 5),(bJ [6,7])]) eM (((List.range td.length).map fun i=>D.tup [.int ((k+i:Nat):Int),.tup [.int (td.getD i (0,.pot 0 0)).1,(td.getD i (0,.pot 0 0)).2.d]])) [some (aL w h g m),x1,some (.int pace),some (.mr M.length),some (.int due),x5,x6,x7,x8] (M++[.lst (acc.map Ln.d)])=.ok r (M++[.lst E])∧
   ((∃j,io (w+g) pace td due k acc=.inl j∧r=.rt (.tup [.str "late",.int j]))∨∃ls y4 y5 y6 y7 y8,io (w+g) pace td due k acc=.inr ls∧E=ls.map Ln.d∧r=.nx [some (aL w h g m),x1,some (.int pace),some (.mr M.length),y4,y5,y6,y7,y8])
 | [],due,k,acc,x5,x6,x7,x8,_,_,_=>⟨_,_,rfl,.inr ⟨acc,_,_,_,_,_,rfl,rfl,rfl⟩⟩
 | q::td,due,k,acc,x5,x6,x7,x8,hr,ha,hk=>by
  have hk':k+(td.length+1)≤50:=hk;have e0:(List.range (q::td).length).map (fun i=>D.tup [.int ((k+i:Nat):Int),.tup [.int ((q::td).getD i (0,.pot 0 0)).1,((q::td).getD i (0,.pot 0 0)).2.d]]) =
    D.tup [.int (k:Int),.tup [.int q.1,q.2.d]]::(List.range td.length).map (fun i=>D.tup [.int ((k+1+i:Nat):Int),.tup [.int (td.getD i (0,.pot 0 0)).1,(td.getD i (0,.pot 0 0)).2.d]]):=by
   rw[length_cons,range_succ_eq_map,map_cons,map_map];congr 1;apply map_congr_left;intro i _;show D.tup [.int ((k+(i+1):Nat):Int),_]=_;rw[show k+(i+1)=k+1+i by omega];rfl
  rw[e0];have tg:oS [(dM 5),(bJ [6,7])] (D.tup [.int (k:Int),.tup [.int q.1,q.2.d]]) [some (aL w h g m),x1,some (.int pace),some (.mr M.length),some (.int due),x5,x6,x7,x8]=some [some (aL w h g m),x1,some (.int pace),some (.mr M.length),some (.int due),some (.int k),some (.int q.1),some q.2.d,x8]:=rfl;rcases GP (M:=M) (x1:=x1) (x8:=x8) (dd:=q.2) (k:=k) (pace:=pace) (due:=due) (acc:=acc) f (hr q (mem_cons_self ..)) (by omega) with⟨e1,e2⟩|⟨ls,y8,e1,e2⟩
  ·refine⟨.rt (.tup [.str "late",.int k]),acc.map Ln.d,?_,.inl ⟨k,by unfold io;rw[e1],rfl⟩⟩;exact Ai tg e2
  ·obtain⟨r,E,e3,hE⟩:=Cr f ds0 td (q.1+pace) (k+1) (acc++(ls++[Ln.act q.2])) (some (.int k)) (some (.int q.1)) (some q.2.d) y8 (fun p hp=>hr p (mem_cons_of_mem _ hp)) (by have:=vU e1;rw[length_append,length_append,length_singleton];omega) (by omega);refine⟨r,E,(oU tg e2).trans e3,?_⟩;have e4:io (w+g) pace (q::td) due k acc=io (w+g) pace td (q.1+pace) (k+1) (acc++(ls++[Ln.act q.2])):=by
    show(match wO (w+g) due q.1 pace with|none=>Sum.inl k|some ls=>io (w+g) pace td (q.1+pace) (k+1) (acc++(ls++[Ln.act q.2])))=_;rw[e1]
   rw[e4];exact hE
theorem Hl (td:List (Int×Dd)):gR (bD td)=(List.range td.length).map fun i=>D.tup [.int ((0+i:Nat):Int),.tup [.int (td.getD i (0,.pot 0 0)).1,(td.getD i (0,.pot 0 0)).2.d]]:=by
 apply ext_getElem?;intro i;rw[getElem?_map]
 by_cases hi:i<td.length
 ·have e:(gR (bD td))[i]?=some (D.tup [.int (i:Int),.tup [.int td[i].1,td[i].2.d]]):=by
   unfold gR bD;rw[getElem?_zipWith,length_map,getElem?_range hi,getElem?_map,getElem?_eq_getElem hi];rfl
  rw[e,getElem?_range hi];show _=some (D.tup [.int ((0+i:Nat):Int),.tup [.int (td.getD i (0,.pot 0 0)).1,(td.getD i (0,.pot 0 0)).2.d]]);rw[Nat.zero_add,List.getD,getElem?_eq_getElem hi];rfl
 ·rw[getElem?_eq_none (by unfold gR bD;simp;omega),getElem?_eq_none (by simp;omega)];rfl
theorem xk {w:Int}(f:fD w h g m)(hr:∀q∈td,q.1<h*(w+g))(hl:td.length≤50)(hM:il M) :
  kl [aL w h g m,.lst (bD td),.int pace] M=.ok (xP (io (w+g) pace td 0 0 [])) M:=by
 obtain⟨r,E,e1,hE⟩:=Cr (M:=M) (pace:=pace) (x1:=some (.lst (bD td))) f (gR (bD td)) td 0 0 [] none none none none hr (by simp) (by omega);rw[←Hl] at e1;show jV M.length (aP (iU [some (aL w h g m),some (.lst (bD td)),some (.int pace),none,none,none,none,none,none] M))=_;unfold iU;have s3:∀b:GS,ar (aH 3 (iC ag)) b [some (aL w h g m),some (.lst (bD td)),some (.int pace),none,none,none,none,none,none] M=b [some (aL w h g m),some (.lst (bD td)),some (.int pace),some (.mr M.length),none,none,none,none,none] (M++[.lst []]):=fun b=>ao (aT ku)
 have s4:∀b:GS,ar (aH 4 (gC (.int 0))) b [some (aL w h g m),some (.lst (bD td)),some (.int pace),some (.mr M.length),none,none,none,none,none] (M++[.lst []])=b [some (aL w h g m),some (.lst (bD td)),some (.int pace),some (.mr M.length),some (.int 0),none,none,none,none] (M++[.lst []]):=fun b=>ao rfl
 have ef:js (lZ (aa (ae 1) ag)) (oS [(dM 5),(bJ [6,7])]) eM [some (aL w h g m),some (.lst (bD td)),some (.int pace),some (.mr M.length),some (.int 0),none,none,none,none] (M++[.lst []])=.ok r (M++[.lst E]):=jM (t:=⟨gR (bD td),none⟩) rfl e1;rw[s3,s4];rcases hE with⟨j,e2,rfl⟩|⟨ls,y4,y5,y6,y7,y8,e2,rfl,rfl⟩
 ·rw[e2,bn ef];exact An (d:=.tup [.str "late",.int j]) rfl hM
 ·rw[e2,ao ef,aR (cw (ds:=[.str "score",.mr M.length]) rfl (by simp))];exact C8 (all_eq_true.mpr fun d hd=>by
   obtain⟨x,_,rfl⟩:=mem_map.mp hd;cases x with
   | act dd=>cases dd with
    | shape i o=>cases o <;> rfl
    | _=>rfl
   | _=>rfl) hM
theorem xg {p pace:Int}:∀{td:List (Int×Dd)} {due:Int} {k:Nat} {acc ls:List Ln},io p pace td due k acc=.inr ls→∃more,ls=acc++more
 | [],due,k,acc,ls,h=>by cases h;exact⟨[],by simp⟩
 | q::td,due,k,acc,ls,h=>by
  unfold io at h;split at h
  ·cases h
  ·obtain⟨more,e⟩:=xg h;exact⟨_,by rw[e,append_assoc]⟩
noncomputable def B7 (s:cS):Ln→Prop
 | .wait r q=>(0≤r∧r≤60)∧(0≤q∧q≤60)
 | .act d=>iW s d
 | _=>False
theorem xL {w h g m pace:Int}{s:cS}(f:fD w h g m)(hp:1≤pace):∀{td:List (Int×Dd)} {due:Int} {k:Nat} {acc ls:List Ln},io (w+g) pace td due k acc=.inr ls→0≤due→(∀q∈td,(0≤q.1∧q.1<h*(w+g))∧iW s q.2)→(∀l∈acc,B7 s l)→(∀l∈ls,B7 s l)∧ls.length≤acc.length+2*td.length
 | [],due,k,acc,ls,e,_,_,ha=>by cases e;exact⟨ha,by simp⟩
 | q::td,due,k,acc,ls,e,hd,hq,ha=>by
  unfold io at e;cases el:wO (w+g) due q.1 pace with
  | none=>rw[el] at e;cases e
  | some us=>
   rw[el] at e;have q0:=hq q (mem_cons_self ..);have pw:0<w+g:=by have:=f.w;have:=f.g;omega
   have hu:∀l∈us,B7 s l:=by
    unfold wO at el;split at el
    ·cases el;intro l hl;cases hl
    ·split at el
     ·rename_i _ hle;cases el;intro l hl;rw[mem_singleton] at hl;subst hl;have h1:(q.1-pace) / (w+g)<h:=Int.ediv_lt_of_lt_mul pw (by omega);have h2:0≤(q.1-pace) / (w+g):=Int.ediv_nonneg (by omega) (by omega);have h3:=Int.emod_nonneg (q.1-pace) (Int.ne_of_gt pw);have h4:=Int.emod_lt_of_pos (q.1-pace) pw;have:=f.h;have:=f.w;have:=f.g;exact⟨⟨h2,by omega⟩,⟨h3,by omega⟩⟩
     ·cases el
   obtain⟨r1,r2⟩:=xL f hp e (by omega) (fun p hp'=>hq p (mem_cons_of_mem _ hp')) (fun l hl=>by
    rcases mem_append.mp hl with z|z
    ·exact ha l z
    ·rcases mem_append.mp z with z|z
     ·exact hu l z
     ·rw[mem_singleton] at z;subst z;exact q0.2)
   refine⟨r1,?_⟩;have:=vU el;rw[length_append,length_append,length_singleton] at r2;rw[length_cons];omega
theorem B7.ok {n:Int}{l:Ln}(h:B7 s l):ue s n l:=by
 cases l with
 | wait r q=>exact h
 | skip r q=>exact h.elim
 | act d=>exact h
 | to k=>exact h.elim
theorem AE {p T pace:Int}(pw:0<p)(hp:1≤pace){ls:List Ln}:∀(td:List (Int×Dd)) (due:Int) (k:Nat) (pre:List Ln) (acc:List D) (n:Nat),io p pace td due k pre=.inr ls→(∀q∈td,0≤q.1∧q.1<T)→0≤due→2*td.length<n→de p T pace ls n pre.length due acc=acc++bD td
 | [],due,k,pre,acc,n+1,e,_,_,_=>by
  cases e;unfold de;rw[Int.toNat_natCast,getElem?_eq_none (Nat.le_refl _)];simp[bD]
 | q::td,due,k,pre,acc,n,e,hq,hd,hn=>by
  rw[length_cons] at hn;unfold io at e;cases el:wO p due q.1 pace with
  | none=>rw[el] at e;cases e
  | some us=>
   rw[el] at e;obtain⟨more,em⟩:=xg e;have q0:=hq q (mem_cons_self ..);have act:∀(j:Nat) (acc:List D) (n:Nat),ls[j]?=some (.act q.2)→de p T pace ls (n+1) (j:Int) q.1 acc=de p T pace ls n ((j+1:Nat):Int) (q.1+pace) (acc++[.tup [.int q.1,q.2.d]]):=fun j acc n hj=>by
    conv=>lhs;unfold de
    rw[Int.toNat_natCast,hj];show(if T≤q.1 then acc else de p T pace ls n ((j:Int)+1) (q.1+pace) (acc++[.tup [.int q.1,q.2.d]]))=_;rw[if_neg (by omega)];rfl
   have hrec:=fun(acc:List D) (n:Nat) (hn:2*td.length<n)=>AE pw hp td (q.1+pace) (k+1) (pre++(us++[Ln.act q.2])) acc n e (fun r hr=>hq r (mem_cons_of_mem _ hr)) (by omega) hn
   have fin:acc++[D.tup [.int q.1,q.2.d]]++bD td=acc++bD (q::td):=by rw[append_assoc];rfl
   unfold wO at el;split at el
   ·rename_i he;cases el;obtain⟨n1,rfl⟩:∃n1,n=n1+1:=⟨n-1,by omega⟩;rw[←he,act pre.length acc n1 (by rw[em];simp),←fin,←hrec _ n1 (by omega)];simp
   ·split at el
    ·rename_i hne hle;cases el;obtain⟨n1,rfl⟩:∃n1,n=n1+1+1:=⟨n-2,by omega⟩;have e1:ls[pre.length]?=some (.wait ((q.1-pace) / p) ((q.1-pace) % p)):=by rw[em];simp
     have e2:ls[pre.length+1]?=some (.act q.2):=by rw[em];simp
     have x:(q.1-pace) / p*p+(q.1-pace) % p=q.1-pace:=by rw[Int.mul_comm];exact Int.mul_ediv_add_emod _ _
     have st:de p T pace ls (n1+1+1) (pre.length:Int) due acc=de p T pace ls (n1+1) ((pre.length+1:Nat):Int) q.1 acc:=by
      conv=>lhs;unfold de
      rw[Int.toNat_natCast,e1];show(if T≤(if due<(q.1-pace) / p*p+(q.1-pace) % p then(q.1-pace) / p*p+(q.1-pace) % p else due) then acc else de p T pace ls (n1+1) ((pre.length:Int)+1) ((if due<(q.1-pace) / p*p+(q.1-pace) % p then(q.1-pace) / p*p+(q.1-pace) % p else due)+pace) (acc++[]))=_;rw[x];have y:(if due<q.1-pace then q.1-pace else due)=q.1-pace:=by split <;> omega
      rw[y,if_neg (by omega),append_nil,show q.1-pace+pace=q.1 by omega];rfl
     rw[st,act (pre.length+1) acc n1 e2,←fin,←hrec _ n1 (by omega)];rw[show(pre++([Ln.wait ((q.1-pace) / p) ((q.1-pace) % p)]++[Ln.act q.2])).length=pre.length+1+1 by simp]
    ·cases el
theorem yo (k n:Nat):bq (k:Int) (n+1)=.int (k:Int)::bq ((k+1:Nat):Int) n:=by
 unfold bq;rw[range_succ_eq_map,map_cons,map_map];have e:D.int ((k:Int)+((0:Nat):Int))=D.int (k:Int):=by simp
 rw[e];congr 1;apply map_congr_left;intro i _;show D.int ((k:Int)+((i+1:Nat):Int))=D.int (((k+1:Nat):Int)+(i:Int));congr 1;omega
noncomputable def oe:Nat ⊕ List Ln→D
 | .inl k=>.lst [.str "late",.int k]
 | .inr ls=>.lst [.str "score",.int ls.length]
theorem AC {p pace:Int}{full:List (Int×Dd)}{M:aB}(ds0:List D):∀(td:List (Int×Dd)) (due:Int) (k:Nat) (acc:List Ln) (x4 x5:Option D),(∀i,td[i]?=full[k+i]?)→
  ∃r,eL ⟨ds0,none⟩ (dM 4) gL (bq (k:Int) td.length) [some (.lst (bD full)),some (.int pace),some (.int acc.length),some (.int due),x4,x5] M=.ok r M∧
   ((∃j,io p pace td due k acc=.inl j∧r=.rt (.lst [.str "late",.int j]))∨∃ls y3 y4 y5,io p pace td due k acc=.inr ls∧r=.nx [some (.lst (bD full)),some (.int pace),some (.int ls.length),y3,y4,y5])
 | [],due,k,acc,x4,x5,_=>⟨_,rfl,.inr ⟨acc,_,_,_,rfl,rfl⟩⟩
 | q::td,due,k,acc,x4,x5,hf=>by
  rw[length_cons,yo];have hk:full[k]?=some q:=(hf 0).symm;have s5:∀b:GS,ar (aH 5 (g2 aI (g2 aI (ae 0) (ae 4)) (gC (.int 0)))) b [some (.lst (bD full)),some (.int pace),some (.int acc.length),some (.int due),some (.int k),x5] M=b [some (.lst (bD full)),some (.int pace),some (.int acc.length),some (.int due),some (.int k),some (.int q.1)] M:=fun b=>
   ao (aT (av (f:=aI) (av (f:=aI) (a:=ae 0) (b:=ae 4) (x:=.lst (bD full)) (y:=.int k) rfl rfl (wn (k:=k) (d:=.tup [.int q.1,q.2.d]) (by unfold bD;rw[getElem?_map,hk];rfl))) (b:=gC (.int 0)) (y:=.int 0) rfl (cJ (k:=0) rfl)))
  have ne:∀M,g2 (aF true) (ae 5) (ae 3) [some (.lst (bD full)),some (.int pace),some (.int acc.length),some (.int due),some (.int k),some (.int q.1)] M=.ok (.bl (!decide (q.1=due))) M:=fun M=>av (f:=aF true) (a:=ae 5) (b:=ae 3) (x:=.int q.1) (y:=.int due) rfl rfl (nJ q.1 due M)
  have t1:=cQ (aE (ne M)) fun _=>aE (av (f:=jo) (o:=.ok (.bl (decide (q.1-due<pace))) M) (av (f:=eE) (a:=ae 5) (b:=ae 3) (ρ:=[some (.lst (bD full)),some (.int pace),some (.int acc.length),some (.int due),some (.int k),some (.int q.1)]) (M:=M) (o:=.ok (.int (q.1-due)) M) (x:=.int q.1) (y:=.int due) rfl rfl rfl) (b:=ae 1) (y:=.int pace) rfl rfl)
  have tg:∀x,dM 4 (.int (k:Int)) [some (.lst (bD full)),some (.int pace),some (.int acc.length),some (.int due),x,x5]=some [some (.lst (bD full)),some (.int pace),some (.int acc.length),some (.int due),some (.int k),x5]:=fun x=>rfl
  cases el:wO p due q.1 pace with
  | none=>
   have c:q.1≠due∧q.1-due<pace:=by
    unfold wO at el;split at el
    ·cases el
    ·split at el
     ·cases el
     ·exact⟨by assumption,by omega⟩
   rw[decide_eq_false c.1,decide_eq_true c.2] at t1;refine⟨.rt (.lst [.str "late",.int k]),Ai (tg x4) ?_,.inl ⟨k,by unfold io;rw[el],rfl⟩⟩;unfold gL;rw[s5];exact bn ((bK t1).trans (aR (d9 (ds:=[.str "late",.int k]) rfl (by simp))))
  | some us=>
   have c:(!decide (q.1=due)&&decide (q.1-due<pace))=false∧(us.length:Int)=if q.1=due then 0 else 1:=by
    unfold wO at el;split at el
    ·rename_i he;cases el;rw[decide_eq_true he,if_pos he];exact⟨rfl,rfl⟩
    ·split at el
     ·rename_i he h2;cases el;rw[decide_eq_false he,if_neg he,decide_eq_false (by omega)];exact⟨rfl,rfl⟩
     ·cases el
   rw[c.1] at t1;obtain⟨r,e3,hE⟩:=AC (p:=p) (full:=full) (M:=M) ds0 td (q.1+pace) (k+1) (acc++(us++[Ln.act q.2])) (some (.int k)) (some (.int q.1)) (fun i=>by
    have:=hf (i+1);rw[getElem?_cons_succ] at this;rw[this,show k+(i+1)=k+1+i by omega])
   have e4:io p pace (q::td) due k acc=io p pace td (q.1+pace) (k+1) (acc++(us++[Ln.act q.2])):=by
    show(match wO p due q.1 pace with|none=>Sum.inl k|some ls=>io p pace td (q.1+pace) (k+1) (acc++(ls++[Ln.act q.2])))=_;rw[el]
   rw[e4];refine⟨r,(oU (tg x4) ?_).trans e3,hE⟩;unfold gL;rw[s5,ao ((aS t1).trans rfl)];have ii:aC wc (aa (g2 (aF true) (ae 5) (ae 3)) ag) [some (.lst (bD full)),some (.int pace),some (.int acc.length),some (.int due),some (.int k),some (.int q.1)] M=.ok (.int us.length) M:=by
    refine gF (ne M) ?_;rw[c.2]
    by_cases he:q.1=due
    ·rw[decide_eq_true he,if_pos he];rfl
    ·rw[decide_eq_false he,if_neg he];rfl
   have k2:=aT (i:=2) (av (f:=a9) (o:=.ok (.int ((acc.length:Int)+1+us.length)) M) (av (f:=a9) (a:=ae 2) (b:=gC (.int 1)) (ρ:=[some (.lst (bD full)),some (.int pace),some (.int acc.length),some (.int due),some (.int k),some (.int q.1)]) (M:=M) (o:=.ok (.int ((acc.length:Int)+1)) M) (x:=.int acc.length) (y:=.int 1) rfl rfl rfl) ii rfl);rw[ao k2];have el2:((acc++(us++[Ln.act q.2])).length:Int)=(acc.length:Int)+1+us.length:=by
    rw[length_append,length_append,length_singleton];omega
   rw[el2];rfl
theorem IZ {p:Int}(hl:td.length≤50):lU [.lst (bD td),.int pace] M=.ok (oe (io p pace td 0 0 [])) M:=by
 obtain⟨r,e1,hE⟩:=AC (p:=p) (pace:=pace) (full:=td) (M:=M) (bq 0 td.length) td 0 0 [] none none (fun i=>by rw[Nat.zero_add]);show aP (lB [some (.lst (bD td)),some (.int pace),none,none,none,none] M)=_;unfold lB;have s2:∀b:GS,ar (aH 2 (gC (.int 0))) b [some (.lst (bD td)),some (.int pace),none,none,none,none] M=b [some (.lst (bD td)),some (.int pace),some (.int 0),none,none,none] M:=fun b=>ao rfl
 have s3:∀b:GS,ar (aH 3 (gC (.int 0))) b [some (.lst (bD td)),some (.int pace),some (.int 0),none,none,none] M=b [some (.lst (bD td)),some (.int pace),some (.int 0),some (.int 0),none,none] M:=fun b=>ao rfl
 have ln:aC aV (aa (ae 0) ag) [some (.lst (bD td)),some (.int pace),some (.int 0),some (.int 0),none,none] M=.ok (.int (td.length:Int)) M:=by
  refine gF (a:=ae 0) (x:=.lst (bD td)) rfl ?_;show bj.ok (D.int ((bD td).length:Int)) _=_;unfold bD;rw[length_map]
 have ef:js (gK (aa (aC aV (aa (ae 0) ag)) ag)) (dM 4) gL [some (.lst (bD td)),some (.int pace),some (.int 0),some (.int 0),none,none] M=.ok r M:=jM (t:=⟨bq 0 td.length,none⟩) (nj (n:=td.length) (aM ln rfl) (by omega)) e1;rw[s2,s3];rcases hE with⟨j,e2,rfl⟩|⟨ls,y3,y4,y5,e2,rfl⟩
 ·rw[e2,bn ef];rfl
 ·rw[e2,ao ef,aR (d9 (ds:=[.str "score",.int ls.length]) rfl (by simp))];rfl
theorem mL {d:D}(h:nw d):aY [d,.int lo,.int hi] M=.ok (.bl (bc lo hi d)) M:=by
 obtain⟨t,ht⟩:=h;unfold aY lx;cases d with
 | int i=>
  by_cases h0:lo≤i
  ·simp_arith [bc,h0]
  ·simp_arith [bc,h0]
 | non=>simp_arith [bc]
 | bl _=>simp_arith [bc]
 | str _=>simp_arith [bc]
 | tup _=>simp_arith [bc]
 | lst _=>simp_arith [bc]
 | ro _=>simp_arith [bc]
 | _=>cases ht
noncomputable def OW:GS:=(bL (bI (cn (aj 3 aY (aa (g2 aI (ae 1) (gC (.int 1))) (aa (gC (.int 0)) (aa (g2 eE (aC aV (aa (g2 aI (ae 0) (gC (.int 3))) ag)) (gC (.int 1))) ag)))))) (aD (gC (.bl false))) aA)
noncomputable def LQ:GS:=(ar (bL (az (g2 (aF false) (g2 aI (ae 1) (gC (.int 0))) (gC (.str "move")))) (aD (cV (g2 (aF false) (aC aV (aa (ae 1) ag)) (gC (.int 4))) (aC iY (aa (br (bY (oA (ae 1) (dh (gC (.int 2))) bG)) cL f9 aZ) ag)))) aA) (ar (bL (cx (az (g2 (aF true) (aC aV (aa (ae 1) ag)) (gC (.int 3)))) (az (g2 (iD true) (g2 aI (ae 1) (gC (.int 0))) (dD (aa (gC (.str "shape")) (aa (gC (.str "rank")) (aa (gC (.str "turn")) ag))))))) (aD (gC (.bl false))) aA) (ar (bL (az (g2 (aF false) (g2 aI (ae 1) (gC (.int 0))) (gC (.str "shape")))) (aD (EN (g2 (kW false) (g2 aI (ae 1) (gC (.int 2))) (gC .non)) (aj 3 aY (aa (g2 aI (ae 1) (gC (.int 2))) (aa (gC (.int 0)) (aa (g2 eE (aC aV (aa (g2 aI (ae 0) (gC (.int 2))) ag)) (gC (.int 1))) ag)))))) aA) (aD (aj 3 aY (aa (g2 aI (ae 1) (gC (.int 2))) (aa (gC (.int 0)) (aa (gC (.int 3)) ag))))))))
noncomputable def HD:GS:=(ar (bL (az (g2 (aF false) (g2 aI (ae 1) (gC (.int 0))) (gC (.str "shift")))) (aD (cV (g2 (aF false) (aC aV (aa (ae 1) ag)) (gC (.int 3))) (aC iY (aa (br (bY (oA (ae 1) (dh (gC (.int 1))) bG)) cL gD aZ) ag)))) aA) (ar (bL (az (g2 (aF false) (g2 aI (ae 1) (gC (.int 0))) (gC (.str "pot")))) (aD (cV (g2 (aF false) (aC aV (aa (ae 1) ag)) (gC (.int 3))) (cV (aj 3 aY (aa (g2 aI (ae 1) (gC (.int 1))) (aa (gC (.int 0)) (aa (gC (.int 15)) ag)))) (aj 3 aY (aa (g2 aI (ae 1) (gC (.int 2))) (aa (gC (.int 0)) (aa (gC (.int 63)) ag))))))) aA) (ar OW LQ)))
theorem NF {s:D}{w:Str}{b:D}:bB [s,.tup [.str w,a,b]] M=aP (HD [some s,some (.tup [.str w,a,b])] M):=rfl
theorem QV {s:D}{w:Str}{b c:D}:bB [s,.tup [.str w,a,b,c]] M=aP (HD [some s,some (.tup [.str w,a,b,c])] M):=rfl
theorem tV {s:D}{w v:Str}{r:List D}{b:Bool}{M:aB}(k:(PyData.strOk w&&PyData.strOk v&&(decide (w=v)==b))=true:=by decide +kernel):az (g2 (aF false) (g2 aI (ae 1) (gC (.int 0))) (gC (.str v))) [some s,some (.tup (.str w::r))] M=.ok b M:=
 aE (av (x:=.str w) (y:=.str v) (M1:=M) (M2:=M) (av (f:=aI) (a:=ae 1) (b:=gC (.int 0)) (x:=.tup (.str w::r)) (y:=.int 0) rfl rfl (cJ (k:=0) rfl)) rfl (PV k))
theorem lw (h:lo≤x∧x≤hi):aY [.int x,.int lo,.int hi] M=.ok (.bl true) M:=by
 rw[mL (yh x),wB h]
theorem vJ {w:Str}(h:i<s.movers.length):OW [some s.d,some (.tup (.str w::.int i::r))] M=.ok (.nx [some s.d,some (.tup (.str w::.int i::r))]) M:=by
 unfold OW;have ln:aC aV (aa (g2 aI (ae 0) (gC (.int 3))) ag) [some s.d,some (.tup (.str w::.int i::r))] M=.ok (.int (s.movers.length:Int)) M:=by
  refine gF (x:=.tup (s.movers.map Mv.d)) rfl ?_;show bj.ok (D.int ((s.movers.map Mv.d).length:Int)) M=_;rw[length_map]
 exact(aS (bF (bM (ce (b:=gC (.int 0)) (av (f:=aI) (a:=ae 1) (b:=gC (.int 1)) (x:=.tup (.str w::.int i::r)) (y:=.int 1) rfl rfl (cJ (k:=1) rfl)) rfl (av (f:=eE) ln (b:=gC (.int 1)) (y:=.int 1) rfl rfl) (lw (x:=i) ⟨by omega,by omega⟩))))).trans rfl
theorem N3 (h1:ge (some (.int x)::ρ) M=.ok (.bl true) M)(h2:ge (some (.int y)::ρ) M=.ok (.bl true) M)(hi:gi ρ M=.ok ⟨[.int x,.int y],none⟩ M):aC iY (aa (br gi cL ge aZ) ag) ρ M=.ok (.bl true) M:=by
 have c:=jP (ds0:=[.int x,.int y]) (ge:=ge) (ρ:=ρ) (f:=fun _=>D.bl true) (M:=M) [.int x,.int y] fun d hd=>by
  rcases mem_cons.mp hd with e|e
  ·rw[e];exact h1
  ·rw[mem_singleton.mp e];exact h2
 refine gF (x:=.lst [.bl true,.bl true]) (M1:=M) ?_ rfl;unfold br;rw[hi,aq];dsimp only;rw[c,aq];unfold aZ;rw[if_pos (show([D.int x,D.int y].map fun _=>D.bl true).length≤sizeLine from ba (show 2≤1000000 by decide))];rfl
theorem PZ {s:D}{w:Str}{b:D}(h:iD true (.str w) (.lst [.str "shape",.str "rank",.str "turn"]) M=.ok (.bl false) M):(bL (cx (az (g2 (aF true) (aC aV (aa (ae 1) ag)) (gC (.int 3)))) (az (g2 (iD true) (g2 aI (ae 1) (gC (.int 0))) (dD (aa (gC (.str "shape")) (aa (gC (.str "rank")) (aa (gC (.str "turn")) ag))))))) (aD (gC (.bl false))) aA) [some s,some (.tup [.str w,a,b])] M=.ok (.nx [some s,some (.tup [.str w,a,b])]) M:=
 (aS (bE (x:=false) (y:=false) rfl fun _=>aE (av (f:=iD true) (a:=g2 aI (ae 1) (gC (.int 0))) (x:=.str w) rfl (d9 (ds:=[.str "shape",.str "rank",.str "turn"]) rfl (by simp)) h))).trans rfl
theorem we (h:iW s dd):bB [s.d,dd.d] M=.ok (.bl true) M:=by
 cases dd with
 | shift x y=>
  show bB [s.d,.tup [.str "shift",.int x,.int y]] M=_;rw[NF];unfold HD;rw[bn ((bK tV).trans (aR (bP (x:=true) (y:=true) rfl fun _=>N3 (ge:=gD) (ce (a:=ae 0) (b:=mI (gC (.int 1000))) (c:=gC (.int 1000)) rfl rfl rfl (lw h.1)) (ce (a:=ae 0) (b:=mI (gC (.int 1000))) (c:=gC (.int 1000)) rfl rfl rfl (lw h.2)) rfl)))];rfl
 | pot k hu=>
  show bB [s.d,.tup [.str "pot",.int k,.int hu]] M=_;rw[NF];unfold HD;rw[ao ((aS tV).trans rfl),bn ((bK tV).trans (aR (bP (x:=true) (y:=true) rfl fun _=>bP (x:=true) (y:=true) (ce (a:=g2 aI (ae 1) (gC (.int 1))) (b:=gC (.int 0)) (c:=gC (.int 15)) rfl rfl rfl (lw h.1)) fun _=>ce (a:=g2 aI (ae 1) (gC (.int 2))) (b:=gC (.int 0)) (c:=gC (.int 63)) rfl rfl rfl (lw h.2))))];rfl
 | move i x y=>
  show bB [s.d,.tup [.str "move",.int i,.int x,.int y]] M=_;rw[QV];unfold HD;rw[ao ((aS tV).trans rfl),ao ((aS tV).trans rfl),ao (vJ h.1)];unfold LQ;rw[bn ((bK tV).trans (aR (bP (x:=true) (y:=true) rfl fun _=>N3 (ge:=f9) (ce (a:=ae 0) (b:=mI (gC (.int 1000))) (c:=gC (.int 1000)) rfl rfl rfl (lw h.2.1)) (ce (a:=ae 0) (b:=mI (gC (.int 1000))) (c:=gC (.int 1000)) rfl rfl rfl (lw h.2.2)) rfl)))];rfl
 | shape i o=>
  show bB [s.d,.tup [.str "shape",.int i,nU o]] M=_;rw[NF];unfold HD;rw[ao ((aS tV).trans rfl),ao ((aS tV).trans rfl),ao (vJ h.1)];unfold LQ;rw[ao ((aS tV).trans rfl),ao (PZ rfl)];have ln:aC aV (aa (g2 aI (ae 0) (gC (.int 2))) ag) [some s.d,some (.tup [.str "shape",.int i,nU o])] M=.ok (.int (s.book.length:Int)) M:=by
   refine gF (x:=.tup (s.book.map aO)) rfl ?_;show bj.ok (D.int ((s.book.map aO).length:Int)) M=_;rw[length_map]
  cases o with
  | none=>rw[bn ((bK tV).trans (aR (HA (x:=true) (y:=true) rfl fun z=>by cases z)))];rfl
  | some k=>
   have:=h.2 k rfl;rw[bn ((bK tV).trans (aR (HA (x:=false) (y:=true) rfl fun _=>ce (a:=g2 aI (ae 1) (gC (.int 2))) (b:=gC (.int 0)) (x:=.int k) rfl rfl (av (f:=eE) ln (b:=gC (.int 1)) (y:=.int 1) rfl rfl) (lw ⟨by omega,by omega⟩))))];rfl
 | rank i r=>
  show bB [s.d,.tup [.str "rank",.int i,.int r]] M=_;rw[NF];unfold HD;rw[ao ((aS tV).trans rfl),ao ((aS tV).trans rfl),ao (vJ h.1)];unfold LQ;rw[ao ((aS tV).trans rfl),ao (PZ rfl),ao ((aS tV).trans rfl),aR (ce (a:=g2 aI (ae 1) (gC (.int 2))) (b:=gC (.int 0)) (c:=gC (.int 3)) rfl rfl rfl (lw h.2))];rfl
 | turn i r=>
  show bB [s.d,.tup [.str "turn",.int i,.int r]] M=_;rw[NF];unfold HD;rw[ao ((aS tV).trans rfl),ao ((aS tV).trans rfl),ao (vJ h.1)];unfold LQ;rw[ao ((aS tV).trans rfl),ao (PZ rfl),ao ((aS tV).trans rfl),aR (ce (a:=g2 aI (ae 1) (gC (.int 2))) (b:=gC (.int 0)) (c:=gC (.int 3)) rfl rfl rfl (lw h.2))];rfl
theorem JV {w:Int}(k:fD w h g m)(sk:ck mm s)(hm:mm≤12)(hp:1≤pace)(ok:∀l∈ls,ue s ls.length l)(hl:ls.length≤100)(pd:(due w h g pace ls).all (aX 29)=true)(hM:il M) :
  nR [aL w h g m,s.d,.lst (ls.map Ln.d),.int pace] M=.ok (.lst (due w h g pace ls)) M:=by
 have b:=rG (M:=M) (nV (n:=0) (w:=w) (h:=h) (g:=g) (m:=m)) (rV sk (by omega)) (sH k) (rW sk hm);have sc:=zQ (M:=M) ok hl;have tl:=sC k;obtain⟨f,e,hf⟩:=Am (M:=M) (st:=some s.d) k hp ok 5000 0 0 [] none (by decide) (by simp) (by omega) (by decide);show jV M.length (aP (jI [some (aL w h g m),some s.d,some (.lst (ls.map Ln.d)),some (.int pace),none,none,none,none] M))=_;unfold jI;have z0:(0:Nat)≤sizeLine:=Nat.zero_le _;have mu:(aH 4 (iC ag)) [some (aL w h g m),some s.d,some (.lst (ls.map Ln.d)),some (.int pace),none,none,none,none] M=.ok (.nx [some (aL w h g m),some s.d,some (.lst (ls.map Ln.d)),some (.int pace),some (.mr M.length),none,none,none]) (M++[.lst []]):=by
  exact aT ku
 have s5:(aH 5 (gC (.int 0))) [some (aL w h g m),some s.d,some (.lst (ls.map Ln.d)),some (.int pace),some (.mr M.length),none,none,none] (M++[.lst []])=.ok (.nx [some (aL w h g m),some s.d,some (.lst (ls.map Ln.d)),some (.int pace),some (.mr M.length),some (.int 0),none,none]) (M++[.lst []]):=rfl;have s6:(aH 6 (gC (.int 0))) [some (aL w h g m),some s.d,some (.lst (ls.map Ln.d)),some (.int pace),some (.mr M.length),some (.int 0),none,none] (M++[.lst []])=.ok (.nx [some (aL w h g m),some s.d,some (.lst (ls.map Ln.d)),some (.int pace),some (.mr M.length),some (.int 0),some (.int 0),none]) (M++[.lst []]):=rfl;rw[ao (cB (bp (a:=ae 0) (b:=ae 1) rfl rfl b)),ao ((aS (bF (bM (bp (a:=ae 1) (b:=ae 2) rfl rfl sc)))).trans rfl),ao mu,ao s5,ao s6];have ew:mH 5000 gN iR [some (aL w h g m),some s.d,some (.lst (ls.map Ln.d)),some (.int pace),some (.mr M.length),some (.int 0),some (.int 0),none] (M++[.lst []])=.ok f (M++[.lst (due w h g pace ls)]):=e;rcases hf with rfl|⟨h',t',x',rfl⟩
 ·rw[bn ew];exact o3 pd hM
 ·rw[ao ew];exact o3 pd hM
theorem HI (M:aB):iD true (.str "wait") (.lst [.str "wait",.str "do"]) M=.ok (.bl false) M∧iD true (.str "do") (.lst [.str "wait",.str "do"]) M=.ok (.bl false) M∧iD true (.str "wait") (.lst [.str "wait",.str "skip"]) M=.ok (.bl false) M:=by
 have a:(e7 (.str "wait")&&([D.str "wait",.str "do"].all e7))=true:=by decide +kernel
 have b:(e7 (.str "do")&&([D.str "wait",.str "do"].all e7))=true:=by decide +kernel
 have c:(e7 (.str "wait")&&([D.str "wait",.str "skip"].all e7))=true:=by decide +kernel
 have d:(([D.str "wait",.str "do"].any fun y=>gk y (.str "wait")) != true)=false:=by decide +kernel
 have e:(([D.str "wait",.str "do"].any fun y=>gk y (.str "do")) != true)=false:=by decide +kernel
 have f:(([D.str "wait",.str "skip"].any fun y=>gk y (.str "wait")) != true)=false:=by decide +kernel
 refine⟨?_,?_,?_⟩
 ·show(if(e7 (.str "wait")&&([D.str "wait",.str "do"].all e7))=true then bj.ok (D.bl (([D.str "wait",.str "do"].any fun y=>gk y (.str "wait")) != true)) M else .bad)=_;rw[if_pos a,d]
 ·show(if(e7 (.str "do")&&([D.str "wait",.str "do"].all e7))=true then bj.ok (D.bl (([D.str "wait",.str "do"].any fun y=>gk y (.str "do")) != true)) M else .bad)=_;rw[if_pos b,e]
 ·show(if(e7 (.str "wait")&&([D.str "wait",.str "skip"].all e7))=true then bj.ok (D.bl (([D.str "wait",.str "skip"].any fun y=>gk y (.str "wait")) != true)) M else .bad)=_;rw[if_pos c,f]
theorem Jg (M:aB):iD true (.int 2) (.lst [.int 2,.int 3]) M=.ok (.bl false) M∧iD true (.int 3) (.lst [.int 2,.int 3]) M=.ok (.bl false) M:=⟨rfl,rfl⟩
theorem zf {l:Ln}{th:Option D}(h:B7 s l):dS [some s.d,th,some l.d] M=.ok (.nx [some s.d,th,some l.d]) M:=by
 obtain⟨w1,w2,w3⟩:=HI M;obtain⟨n2,n3⟩:=Jg M;unfold dS;cases l with
 | skip r q=>exact h.elim
 | to k=>exact h.elim
 | wait r q=>
  have t1:cx (bI (cn (ej "tuple" (ae 2)))) (cx (az (g2 (iD true) (aC aV (aa (ae 2) ag)) (dD (aa (gC (.int 2)) (aa (gC (.int 3)) ag))))) (bI (cn (ej "str" (g2 aI (ae 2) (gC (.int 0))))))) [some s.d,th,some (Ln.wait r q).d] M=.ok false M:=
   bE (x:=false) (y:=false) rfl fun _=>bE (x:=false) (y:=false) (aE (av (x:=.int 3) rfl (d9 (ds:=[.int 2,.int 3]) rfl (by simp)) n3)) fun _=>rfl
  have t2:az (g2 (aF false) (aC aV (aa (ae 2) ag)) (gC (.int 3))) [some s.d,th,some (Ln.wait r q).d] M=.ok true M:=aE (av (x:=.int 3) (y:=.int 3) rfl rfl (nD 3 3 M));have k1:=ce (F:=aY) (a:=g2 aI (ae 2) (gC (.int 1))) (b:=gC (.int 0)) (c:=gC (.int 60)) (ρ:=[some s.d,th,some (Ln.wait r q).d]) (M:=M) (x:=.int r) (y:=.int 0) (z:=.int 60) rfl rfl rfl (mL ⟨_,rfl⟩);have k2:=ce (F:=aY) (a:=g2 aI (ae 2) (gC (.int 2))) (b:=gC (.int 0)) (c:=gC (.int 60)) (ρ:=[some s.d,th,some (Ln.wait r q).d]) (M:=M) (x:=.int q) (y:=.int 0) (z:=.int 60) rfl rfl rfl (mL ⟨_,rfl⟩);rw[bA h.1] at k1;rw[bA h.2] at k2;have t3:=bE (x:=false) (y:=false) (aE (av (f:=iD true) (a:=g2 aI (ae 2) (gC (.int 0))) (b:=dD (aa (gC (.str "wait")) (aa (gC (.str "skip")) ag))) (ρ:=[some s.d,th,some (Ln.wait r q).d]) (M:=M) (x:=.str "wait") rfl (d9 (ds:=[.str "wait",.str "skip"]) rfl (by simp)) w3)) fun _=>bE (x:=false) (y:=false) (bF (bM k1)) fun _=>bF (bM k2)
  rw[ao ((aS t1).trans rfl),bK t2];exact(aS t3).trans rfl
 | act d=>
  have t1:cx (bI (cn (ej "tuple" (ae 2)))) (cx (az (g2 (iD true) (aC aV (aa (ae 2) ag)) (dD (aa (gC (.int 2)) (aa (gC (.int 3)) ag))))) (bI (cn (ej "str" (g2 aI (ae 2) (gC (.int 0))))))) [some s.d,th,some (Ln.act d).d] M=.ok false M:=
   bE (x:=false) (y:=false) rfl fun _=>bE (x:=false) (y:=false) (aE (av (x:=.int 2) rfl (d9 (ds:=[.int 2,.int 3]) rfl (by simp)) n2)) fun _=>rfl
  have t2:az (g2 (aF false) (aC aV (aa (ae 2) ag)) (gC (.int 3))) [some s.d,th,some (Ln.act d).d] M=.ok false M:=aE (av (x:=.int 2) (y:=.int 3) rfl rfl (nD 2 3 M));have t3:az (g2 (aF false) (g2 aI (ae 2) (gC (.int 0))) (gC (.str "do"))) [some s.d,th,some (Ln.act d).d] M=.ok true M:=aE (av (x:=.str "do") (y:=.str "do") rfl rfl (jY (.act d) M).2.2.1);have k1:=bp (F:=bB) (a:=ae 0) (b:=g2 aI (ae 2) (gC (.int 1))) (ρ:=[some s.d,th,some (Ln.act d).d]) (M:=M) (x:=s.d) (y:=d.d) rfl rfl (we (show iW s d from h));rw[ao ((aS t1).trans rfl),aS t2,bK t3];exact(aS (bF (bM k1))).trans rfl
theorem xl (h:∀l∈ls,B7 s l)(hl:ls.length≤100):gj [s.d,.lst (ls.map Ln.d)] M=.ok (.bl true) M:=by
 have go:∀(ks:List Ln) (x2:Option D),(∀l∈ks,B7 s l)→∃y2,eL ⟨ls.map Ln.d,none⟩ (dM 2) dS (ks.map Ln.d) [some s.d,some (.lst (ls.map Ln.d)),x2] M=.ok (.nx [some s.d,some (.lst (ls.map Ln.d)),y2]) M:=by
  intro ks
  induction ks with
  | nil=>intro x2 _;exact⟨x2,rfl⟩
  | cons k ks ih=>
   intro x2 hk;obtain⟨y2,e⟩:=ih (some k.d) fun l hl=>hk l (mem_cons_of_mem _ hl)
   exact⟨y2,(oU (ρ1:=[some s.d,some (.lst (ls.map Ln.d)),some k.d]) rfl (zf (hk k (mem_cons_self ..)))).trans e⟩
 obtain⟨y2,e⟩:=go ls none h;show aP (gw [some s.d,some (.lst (ls.map Ln.d)),none] M)=_;unfold gw;have ln:aC aV (aa (ae 1) ag) [some s.d,some (.lst (ls.map Ln.d)),none] M=.ok (.int (ls.length:Int)) M:=by
  refine gF (a:=ae 1) (x:=.lst (ls.map Ln.d)) rfl ?_;show bj.ok (D.int ((ls.map Ln.d).length:Int)) _=_;rw[length_map]
 have t1:cx (bI (cn (ej "list" (ae 1)))) (az (g2 mj (aC aV (aa (ae 1) ag)) (gC (.int 100)))) [some s.d,some (.lst (ls.map Ln.d)),none] M=.ok false M:=
  bE (x:=false) (y:=false) rfl fun _=>aE (av (f:=mj) ln (b:=gC (.int 100)) (y:=.int 100) rfl (by show bj.ok (D.bl (decide ((ls.length:Int)>100))) M=_;rw[decide_eq_false (by omega)]))
 rw[ao ((aS t1).trans rfl),ao (jM (t:=⟨ls.map Ln.d,none⟩) (lN rfl) e)];rfl
theorem FJ (h:∀l∈ls,B7 s l)(hi:gi ρ M=.ok ⟨ls.map Ln.d,none⟩ M):br gi kF mD aZ ρ M=.ok (.lst []) M:=by
 have go:∀(ks:List Ln),(∀l∈ks,B7 s l)→fT ⟨ls.map Ln.d,none⟩ kF mD (ks.map Ln.d) ρ M=.ok [] M:=by
  intro ks
  induction ks with
  | nil=>intro _;rfl
  | cons k ks ih=>
   intro hk;have e:kF (some k.d::ρ) M=.ok false M:=by
    obtain⟨w1,w2,_⟩:=HI M;unfold kF;have i0:g2 aI (ae 0) (gC (.int 0)) (some k.d::ρ) M=.ok (.str k.w) M:=av (x:=k.d) (y:=.int 0) rfl rfl (Ip k M);refine aE (av i0 (d9 (ds:=[.str "wait",.str "do"]) rfl (by simp)) ?_);have hk:=hk k (mem_cons_self ..);cases k with
    | wait r q=>exact w1
    | act d=>exact w2
    | skip r q=>exact hk.elim
    | to k=>exact hk.elim
   show(match kF (some k.d::ρ) M with | .ok true M1=>(match mD (some k.d::ρ) M1 with | .ok e M2=>(fT ⟨ls.map Ln.d,none⟩ kF mD (ks.map Ln.d) ρ M2).bind fun es M3=>.ok (e::es) M3|_=>.bad) | .ok false M1=>fT ⟨ls.map Ln.d,none⟩ kF mD (ks.map Ln.d) ρ M1|_=>.bad)=_;rw[e];exact ih fun l hl=>hk l (mem_cons_of_mem _ hl)
 unfold br;rw[hi,aq];dsimp only;rw[go ls h,aq];unfold aZ;rw[if_pos (ba (by decide))]
theorem zC {N:aB}(h0:N[M0.length]?=some (.obj "Beam" (cD fr M0.length B)))(h1:N[M0.length+1]?=some (.lst (ff M0.length B.rows.length)))(h2:∀i r,B.rows[i]?=some r→N[M0.length+5+i]?=some (wq r))(hr:B.rows.length≤90000):cU [.mr M0.length] N=.ok (.lst (B.rows.map fun r=>.lst (r.map D.int))) N:=by
 show aP (dY [some (.mr M0.length)] _)=_;unfold dY;have fl:=dG (g:=ae 0) (ρ:=[some (.mr M0.length)]) (M:=N) (f:="laid_rows") rfl h0 rj;have gi:bY (dX "Beam" "laid_rows" (ae 0)) [some (.mr M0.length)] N=.ok ⟨ff M0.length B.rows.length,some (M0.length+1)⟩ N:=by
  unfold bY;rw[fl,aq];unfold uM;dsimp only;rw[h1]
 have ht:(⟨ff M0.length B.rows.length,some (M0.length+1)⟩:tK).ok N=true:=by
  unfold tK.ok;dsimp only;rw[h1];exact xf _ _
 have ec:=pE (ge:=cq) (ρ:=[some (.mr M0.length)]) (f:=fun d=>match d with | .mr k=>.lst ((B.rows.getD (k-(M0.length+5)) []).map D.int)|d=>d) ht (ff M0.length B.rows.length) (fun d hd=>by
  obtain⟨i,hi,rfl⟩:=mem_map.mp hd;have hi:=mem_range.mp hi;have gr:B.rows[i]?=some B.rows[i]:=getElem?_eq_getElem hi;unfold cq;refine gF (a:=ae 0) (x:=.mr (M0.length+5+i)) rfl ?_;unfold gO bW;dsimp only;rw[h2 i _ gr];show bj.ok (D.lst (B.rows[i].map D.int)) _=_;have e:(B.rows.getD (M0.length+5+i-(M0.length+5)) [])=B.rows[i]:=by
   rw[Nat.add_sub_cancel_left,List.getD,gr];rfl
  rw[e])
 have em:(ff M0.length B.rows.length).map (fun d=>match d with | .mr k=>.lst ((B.rows.getD (k-(M0.length+5)) []).map D.int)|d=>d)=B.rows.map fun r=>D.lst (r.map D.int):=by
  unfold ff;rw[map_map];apply ext_getElem
  ·simp
  ·intro i q1 q2;simp at q1 q2 ⊢;simp[q2]
 rw[em] at ec;have gc:br (bY (dX "Beam" "laid_rows" (ae 0))) cL cq aZ [some (.mr M0.length)] N=.ok (.lst (B.rows.map fun r=>.lst (r.map D.int))) N:=by
  unfold br;rw[gi,aq];dsimp only;rw[ec,aq];unfold aZ;rw[if_pos (ba (by rw[length_map];omega))]
 rw[aR gc];rfl
noncomputable def wK (B:Bs):D:=.lst (B.rows.map fun r=>.lst (r.map D.int))
theorem JN :aF false (wK B) (wK B) M=.ok (.bl true) M:=by
 have c:aG 40 (wK B)=true:=iB (n:=39) fun d hd=>by
  obtain⟨r,_,rfl⟩:=mem_map.mp hd;exact iB (n:=38) fun d hd=>by
   obtain⟨i,_,rfl⟩:=mem_map.mp hd;rfl
 unfold aF;show(if(aG 40 (wK B)&&aG 40 (wK B))=true then bj.ok (D.bl (gk (wK B) (wK B) != false)) M else .bad)=_;rw[c,mz _ _ c];rfl
theorem BO {w:Int}{N:aB}(hm:mm≤12)(f:fD w h g m)(ok:ck mm s)(hp:1≤pace)(lw:∀l∈ls,B7 s l)(hl:ls.length≤100)(hd:due w h g pace ls=bD td)(hM:il M)
  (e:qh [aL w h g m,s.d,.lst (bD td)] M=.ok (.mr M.length) N):oH [aL w h g m,s.d,.lst (ls.map Ln.d),.int pace] M=.ok (.mr M.length) N:=by
 have b:=JV (M:=M) f ok hm hp (fun l hl=>(lw l hl).ok (n:=ls.length)) hl (all_eq_true.mpr fun d hd=>vV (C3 d hd)) hM;rw[hd] at b;show aP (ph [some (aL w h g m),some s.d,some (.lst (ls.map Ln.d)),some (.int pace)] M)=_;unfold ph;rw[aR (ce (a:=ae 0) (b:=ae 1) (ρ:=[some (aL w h g m),some s.d,some (.lst (ls.map Ln.d)),some (.int pace)]) rfl rfl (xy (a:=ae 0) (b:=ae 1) (c:=ae 2) (d:=ae 3) rfl rfl rfl rfl b) e)];rfl
theorem CS {w:Int}(hm:mm≤12)(f:fD w h g m)(ok:ck mm s)(p:pZ (h*(w+g)) s td)(hp:1≤pace)(lw:∀l∈ls,B7 s l)(hl:ls.length≤100)(hd:due w h g pace ls=bD td)(hM:il M) :
  eY [aL w h g m,s.d,.lst (ls.map Ln.d),.int pace,.lst (bD td)] M=.ok (.bl true) M:=by
 obtain⟨B,s',iv,e⟩:=Eg hm f ok p;have tl:=sC f;have rl:B.rows.length≤90000:=by have:=iv.rl;omega
 have k1:=BO hm f ok hp lw hl hd hM (e M hM);have sh:il (ay M (aL w h g m) B):=m9 hM rfl iv.p;have k2:=e _ sh;generalize hN:ay (ay M (aL w h g m) B) (aL w h g m) B=N at k2;have lt:∀k,k<(ay M (aL w h g m) B).length→N[k]?=(ay M (aL w h g m) B)[k]?:=fun k hk=>by
  rw[←hN];exact getElem?_append_left hk
 have bl:(ay M (aL w h g m) B).length=M.length+5+B.rows.length:=vR;have p1:cU [.mr M.length] N=.ok (wK B) N:=zC (fr:=aL w h g m) ((lt _ (by omega)).trans fE) ((lt _ (by omega)).trans BS) (fun i r hi=>(lt _ (by have:=(List.getElem?_eq_some_iff.mp hi).1;omega)).trans (vS hi)) rl;have p2:cU [.mr (ay M (aL w h g m) B).length] N=.ok (wK B) N:=by rw[←hN];exact yP rl
 have q1:N[M.length]?=some (.obj "Beam" (cD (aL w h g m) M.length B)):=(lt _ (by omega)).trans fE;have q2:N[(ay M (aL w h g m) B).length]?=some (.obj "Beam" (cD (aL w h g m) (ay M (aL w h g m) B).length B)):=by rw[←hN];exact fE
 have eN:∃E,N=M++E:=⟨_,by rw[←hN];exact append_assoc ..⟩;obtain⟨E,eN⟩:=eN;show jV M.length (aP (dm [some (aL w h g m),some s.d,some (.lst (ls.map Ln.d)),some (.int pace),some (.lst (bD td)),none,none] M))=_;unfold dm;have s1:∀b:GS,ar (aH 5 (aj 4 oH (aa (ae 0) (aa (ae 1) (aa (aC gO (aa (ae 2) ag)) (aa (ae 3) ag)))))) b [some (aL w h g m),some s.d,some (.lst (ls.map Ln.d)),some (.int pace),some (.lst (bD td)),none,none] M=b [some (aL w h g m),some s.d,some (.lst (ls.map Ln.d)),some (.int pace),some (.lst (bD td)),some (.mr M.length),none] (ay M (aL w h g m) B):=fun b=>
  ao (aT (xy (a:=ae 0) (b:=ae 1) (d:=ae 3) rfl rfl (gF (F:=gO) (a:=ae 2) (x:=.lst (ls.map Ln.d)) rfl rfl) rfl k1))
 rw[s1];generalize hk:(ay M (aL w h g m) B).length=k at *;have s2:∀b:GS,ar (aH 6 (aj 3 qh (aa (ae 0) (aa (ae 1) (aa (aC gO (aa (ae 4) ag)) ag))))) b [some (aL w h g m),some s.d,some (.lst (ls.map Ln.d)),some (.int pace),some (.lst (bD td)),some (.mr M.length),none] (ay M (aL w h g m) B)=b [some (aL w h g m),some s.d,some (.lst (ls.map Ln.d)),some (.int pace),some (.lst (bD td)),some (.mr M.length),some (.mr k)] N:=fun b=>
  ao (aT (ce (a:=ae 0) (b:=ae 1) rfl rfl (gF (F:=gO) (a:=ae 4) (x:=.lst (bD td)) rfl rfl) k2))
 rw[s2];have r1:=iy (c:="Beam") (m:="picture") (n:=1) (go:=ae 5) (ga:=ag) (ρ:=[some (aL w h g m),some s.d,some (.lst (ls.map Ln.d)),some (.int pace),some (.lst (bD td)),some (.mr M.length),some (.mr k)]) (M:=N) rfl q1 rfl (ds:=[]) rfl rfl p1;have r2:=iy (c:="Beam") (m:="picture") (n:=1) (go:=ae 6) (ga:=ag) (ρ:=[some (aL w h g m),some s.d,some (.lst (ls.map Ln.d)),some (.int pace),some (.lst (bD td)),some (.mr M.length),some (.mr k)]) (M:=N) rfl q2 rfl (ds:=[]) rfl rfl p2;rw[aR (av (f:=aF false) r1 r2 JN),eN];exact An (d:=.bl true) rfl hM
theorem Na {a b:List D}(h:a.length+b.length≤1000000):a9 (.lst a) (.lst b) M=.ok (.lst (a++b)) M:=by
 show(if a.length+b.length≤sizeLine then bj.ok (D.lst (a++b)) M else .bad)=_;rw[if_pos (ba h)]
noncomputable def OO:GS:=(bL (az (g2 jo (ae 6) (ae 4))) (cK (jW (ae 5) (bb (aa (ae 6) (aa (aj 3 ke (aa (ae 0) (aa (ae 1) (aa (ae 2) ag)))) ag))))) aA)
noncomputable def OG:GS:=(aH 9 (dD (aa (ae 3) (aa (ae 3) (aa (g2 a9 (g2 cz (gC (.int 2)) (ae 3)) (aj 2 aw (aa (ae 0) (aa (gC (.int 9)) ag)))) (aa (g2 a9 (g2 cz (gC (.int 2)) (ae 3)) (aj 2 aw (aa (ae 0) (aa (ae 4) ag)))) ag))))))
noncomputable def Pw:GS:=(aH 9 (g2 a9 (ae 9) (dD (aa (g2 cz (ae 3) (g2 a9 (gC (.int 1)) (aj 2 aw (aa (ae 0) (aa (gC (.int 4)) ag))))) (aa (g2 cz (gC (.int 2)) (ae 3)) ag)))))
noncomputable def Pp:GS:=(bL (cn (ae 7)) (aH 9 (g2 a9 (ae 9) (dD (aa (aj 2 aw (aa (ae 0) (aa (g2 cz (gC (.int 2)) (ae 3)) ag))) ag)))) aA)
noncomputable def Qw:GS:=(aH 6 (g2 a9 (ae 6) (g2 aI (ae 9) (aj 2 aw (aa (ae 0) (aa (aC aV (aa (ae 9) ag)) ag))))))
theorem MW (ρ:cC)(M:aB):eV ρ M=ar OO (ar OG (ar Pw (ar Pp Qw))) ρ M:=rfl
theorem ET {w aK:Int}{early:Bool}{x8 x9:Option D}(f:fD w h g m)(ok:ck mm s)(hm:mm≤12)(hp:1≤pace∧pace≤8)(ht:0≤aK)(hl:td.length≤1000)(t:dU l (rest++[.lst (bD td)]) M) :
  ∃td' tick' M' y9,((td'=td∧h*(w+g)≤aK)∨∃dd,td'=td++[(aK,dd)]∧aK<h*(w+g)∧iW s dd)∧aK≤tick'∧dU l (rest++[.lst (bD td')]) M'∧
   eV [some (.mr 0),some (aL w h g m),some s.d,some (.int pace),some (.int (h*(w+g))),some (.mr (rest.length+1)),some (.int aK),some (.bl early),x8,x9] M =
    .ok (.nx [some (.mr 0),some (aL w h g m),some s.d,some (.int pace),some (.int (h*(w+g))),some (.mr (rest.length+1)),some (.int tick'),some (.bl early),x8,y9]) M':=by
 have kw:=f.w;have kh:=f.h;have kg:=f.g;have tl:=sC f;have tp1:1≤h*(w+g):=Int.le_trans (by omega:1≤1*(w+g)) (Int.mul_le_mul_of_nonneg_right (by omega) (by omega));generalize hT:h*(w+g)=T at *;have A:∃td' M1,((td'=td∧T≤aK)∨∃dd,td'=td++[(aK,dd)]∧aK<T∧iW s dd)∧dU l (rest++[.lst (bD td')]) M1∧OO [some (.mr 0),some (aL w h g m),some s.d,some (.int pace),some (.int T),some (.mr (rest.length+1)),some (.int aK),some (.bl early),x8,x9] M=.ok (.nx [some (.mr 0),some (aL w h g m),some s.d,some (.int pace),some (.int T),some (.mr (rest.length+1)),some (.int aK),some (.bl early),x8,x9]) M1:=by
  have tt:az (g2 jo (ae 6) (ae 4)) [some (.mr 0),some (aL w h g m),some s.d,some (.int pace),some (.int T),some (.mr (rest.length+1)),some (.int aK),some (.bl early),x8,x9] M=.ok (decide (aK<T)) M:=aE (av (x:=.int aK) (y:=.int T) rfl rfl rfl)
  by_cases hlt:aK<T
  ·rw[decide_eq_true hlt] at tt;obtain⟨dd,M4,dk,t4,e4⟩:=yM (w:=w) (hh:=h) (more:=[.int g,.int m]) ok (by omega) (by omega) (by omega) t;obtain⟨i,c,hi,rfl⟩:=t;obtain⟨i4,c4,hi4,rfl⟩:=t4;refine⟨td++[(aK,dd)],tp l i4 c4::(rest++[.lst (bD td++[.tup [.int aK,dd.d]])]),.inr ⟨dd,rfl,hlt,dk⟩,⟨i4,c4,hi4,by unfold bD;rw[map_append];rfl⟩,?_⟩;unfold OO;exact(bK tt).trans (cB (Ki (go:=ae 5) rfl (cw (ds:=[.int aK,dd.d]) (aM rfl (aM (ce (a:=ae 0) (b:=ae 1) (c:=ae 2) rfl rfl rfl e4) rfl)) (by simp)) (by unfold bD;rw[length_map];omega)))
  ·rw[decide_eq_false hlt] at tt;exact⟨td,M,.inl ⟨rfl,by omega⟩,t,(aS tt).trans rfl⟩
 obtain⟨td',M1,htd,t1,eA⟩:=A;obtain⟨f1,M2,a1,b1,t2,e1⟩:=bg (many:=9) (by decide) (aN (by decide) (by decide)) t1;obtain⟨f2,M3,a2,b2,t3,e2⟩:=bg (many:=T) (by omega) (aN (by omega) (by omega)) t2;obtain⟨f3,M4,a3,b3,t4,e3⟩:=bg (many:=4) (by decide) (aN (by decide) (by decide)) t3;have mu2:∀(x9:Option D) (M:aB),g2 cz (gC (.int 2)) (ae 3) [some (.mr 0),some (aL w h g m),some s.d,some (.int pace),some (.int T),some (.mr (rest.length+1)),some (.int aK),some (.bl early),x8,x9] M=.ok (.int (2*pace)) M:=fun x9 M=>av (x:=.int 2) (y:=.int pace) rfl rfl (n8 (by decide) (by decide) M)
 have eB:OG [some (.mr 0),some (aL w h g m),some s.d,some (.int pace),some (.int T),some (.mr (rest.length+1)),some (.int aK),some (.bl early),x8,x9] M1=.ok (.nx [some (.mr 0),some (aL w h g m),some s.d,some (.int pace),some (.int T),some (.mr (rest.length+1)),some (.int aK),some (.bl early),x8,some (.lst [.int pace,.int pace,.int (2*pace+f1),.int (2*pace+f2)])]) M3:=by
  unfold OG;exact aT (d9 (ds:=[.int pace,.int pace,.int (2*pace+f1),.int (2*pace+f2)]) (aM rfl (aM rfl (aM (av (f:=a9) (mu2 x9 M1) (bp (a:=ae 0) (b:=gC (.int 9)) rfl rfl e1) rfl) (aM (av (f:=a9) (mu2 x9 M2) (bp (a:=ae 0) (b:=ae 4) rfl rfl e2) rfl) rfl)))) (by simp))
 have eC:Pw [some (.mr 0),some (aL w h g m),some s.d,some (.int pace),some (.int T),some (.mr (rest.length+1)),some (.int aK),some (.bl early),x8,some (.lst [.int pace,.int pace,.int (2*pace+f1),.int (2*pace+f2)])] M3=.ok (.nx [some (.mr 0),some (aL w h g m),some s.d,some (.int pace),some (.int T),some (.mr (rest.length+1)),some (.int aK),some (.bl early),x8,some (.lst [.int pace,.int pace,.int (2*pace+f1),.int (2*pace+f2),.int (pace*(1+f3)),.int (2*pace)])]) M4:=by
  unfold Pw;refine aT (av (f:=a9) (a:=ae 9) (x:=.lst [.int pace,.int pace,.int (2*pace+f1),.int (2*pace+f2)]) (y:=.lst [.int (pace*(1+f3)),.int (2*pace)]) rfl (d9 (aM (av (f:=cz) (a:=ae 3) (x:=.int pace) rfl (av (f:=a9) (a:=gC (.int 1)) (x:=.int 1) rfl (bp (a:=ae 0) (b:=gC (.int 4)) rfl rfl e3) rfl) (n8 (by omega) (by omega) M4)) (aM (mu2 _ M4) rfl)) (by simp)) ?_);exact Na (by simp)
 have pf3:0≤pace*(1+f3):=Int.mul_nonneg (by omega) (by omega);have D:∃(ms:List Int) (M5:aB),1≤ms.length∧ms.length≤10∧(∀v∈ms,0≤v)∧dU l (rest++[.lst (bD td')]) M5∧Pp [some (.mr 0),some (aL w h g m),some s.d,some (.int pace),some (.int T),some (.mr (rest.length+1)),some (.int aK),some (.bl early),x8,some (.lst [.int pace,.int pace,.int (2*pace+f1),.int (2*pace+f2),.int (pace*(1+f3)),.int (2*pace)])] M4=.ok (.nx [some (.mr 0),some (aL w h g m),some s.d,some (.int pace),some (.int T),some (.mr (rest.length+1)),some (.int aK),some (.bl early),x8,some (.lst (ms.map D.int))]) M5:=by
  have six:∀v∈[pace,pace,2*pace+f1,2*pace+f2,pace*(1+f3),2*pace],0≤v:=by
   intro v hv;simp only[mem_cons,not_mem_nil,or_false] at hv;omega
  unfold Pp;cases early with
  | false=>exact⟨[pace,pace,2*pace+f1,2*pace+f2,pace*(1+f3),2*pace],M4,by simp,by simp,six,t4,(aS (bM (x:=false) rfl)).trans rfl⟩
  | true=>
   obtain⟨f5,M5,a5,b5,t5,e5⟩:=bg (many:=2*pace) (by omega) (aN (by omega) (by omega)) t4;refine⟨[pace,pace,2*pace+f1,2*pace+f2,pace*(1+f3),2*pace]++[f5],M5,by simp,by simp,fun v hv=>?_,t5,(bK (bM (x:=true) rfl)).trans ?_⟩
   ·rcases mem_append.mp hv with z|z
    ·exact six v z
    ·rw[mem_singleton.mp z];exact a5
   ·exact aT (av (f:=a9) (a:=ae 9) (x:=.lst [.int pace,.int pace,.int (2*pace+f1),.int (2*pace+f2),.int (pace*(1+f3)),.int (2*pace)]) (y:=.lst [.int f5]) rfl (d9 (aM (bp (a:=ae 0) (b:=g2 cz (gC (.int 2)) (ae 3)) rfl (mu2 _ M4) e5) rfl) (by simp)) (Na (by simp)))
 obtain⟨ms,M5,m1,m2,mv,t5,eD⟩:=D;obtain⟨f6,M6,a6,b6,t6,e6⟩:=bg (many:=(ms.length:Int)) (by omega) (aN (by omega) (by omega)) t5;obtain⟨k,rfl⟩:=Int.eq_ofNat_of_zero_le a6;have hk:k<ms.length:=by omega
 refine⟨td',aK+ms[k],M6,some (.lst (ms.map D.int)),htd,by have:=mv _ (getElem_mem hk);omega,t6,?_⟩;rw[MW,ao eA,ao eB,ao eC,ao eD];unfold Qw;have ln:aC aV (aa (ae 9) ag) [some (.mr 0),some (aL w h g m),some s.d,some (.int pace),some (.int T),some (.mr (rest.length+1)),some (.int aK),some (.bl early),x8,some (.lst (ms.map D.int))] M5=.ok (.int (ms.length:Int)) M5:=by
  refine gF (a:=ae 9) (x:=.lst (ms.map D.int)) rfl ?_;show bj.ok (D.int ((ms.map D.int).length:Int)) _=_;rw[length_map]
 exact aT (av (f:=a9) (a:=ae 6) (x:=.int aK) rfl (av (f:=aI) (a:=ae 9) (x:=.lst (ms.map D.int)) rfl (bp (a:=ae 0) rfl ln e6) (wn (k:=k) (by rw[getElem?_map,getElem?_eq_getElem hk];rfl))) rfl)
noncomputable def OC:GS:=(aH 6 (g2 aI (dD (aa (gC (.int 0)) (aa (ae 3) (aa (aj 2 aw (aa (ae 0) (aa (gC (.int 12)) ag))) ag)))) (aj 2 aw (aa (ae 0) (aa (gC (.int 3)) ag)))))
noncomputable def PF:GS:=(aH 7 (g2 (aF false) (aj 2 aw (aa (ae 0) (aa (gC (.int 3)) ag))) (gC (.int 0))))
noncomputable def P8:GE:=(g2 aI (dD (aa (aj 2 aw (aa (ae 0) (aa (gC (.int 6)) ag))) (aa (aj 2 aw (aa (ae 0) (aa (gC (.int 51)) ag))) ag))) (g2 e9 (aj 2 aw (aa (ae 0) (aa (gC (.int 4)) ag))) (gC (.int 3))))
theorem Ka (ρ:cC)(M:aB):g5 ρ M=ar (aH 4 (g2 cz (g2 aI (ae 1) (gC (.int 1))) (g2 a9 (g2 aI (ae 1) (gC (.int 0))) (g2 aI (ae 1) (gC (.int 2)))))) (ar (aH 5 (iC ag)) (ar OC (ar PF (ar (js (gK (aa P8 ag)) (dM 8) eV) (aD (ae 5)))))) ρ M:=rfl
theorem CO {w:Int}(f:fD w h g m)(ok:ck mm s)(hm:mm≤12)(hp:1≤pace∧pace≤8)(pr:rest.all m3=true)(t:dU l rest M) :
  ∃td M',pZ (h*(w+g)) s td∧td.length≤50∧dU l rest M'∧ju [.mr 0,aL w h g m,s.d,.int pace] M=.ok (.lst (bD td)) M':=by
 have kw:=f.w;have kh:=f.h;have kg:=f.g;have tl:=sC f;have s4:∀b:GS,ar (aH 4 (g2 cz (g2 aI (ae 1) (gC (.int 1))) (g2 a9 (g2 aI (ae 1) (gC (.int 0))) (g2 aI (ae 1) (gC (.int 2)))))) b [some (.mr 0),some (aL w h g m),some s.d,some (.int pace),none,none,none,none,none,none] M=b [some (.mr 0),some (aL w h g m),some s.d,some (.int pace),some (.int (h*(w+g))),none,none,none,none,none] M:=fun b=>
  ao (aT (av (f:=cz) (x:=.int h) (y:=.int (w+g)) rfl rfl (n8 (by omega) (by omega) M)))
 have s5:∀b:GS,ar (aH 5 (iC ag)) b [some (.mr 0),some (aL w h g m),some s.d,some (.int pace),some (.int (h*(w+g))),none,none,none,none,none] M=b [some (.mr 0),some (aL w h g m),some s.d,some (.int pace),some (.int (h*(w+g))),some (.mr M.length),none,none,none,none] (M++[.lst []]):=fun b=>ao (aT ku)
 have lM:M.length=rest.length+1:=by obtain⟨i,c,_,rfl⟩:=t;rfl
 have t0:dU l (rest++[.lst (bD [])]) (M++[.lst []]):=by obtain⟨i,c,hi,rfl⟩:=t;exact⟨i,c,hi,rfl⟩
 obtain⟨f1,M1,a1,b1,t1,e1⟩:=bg (many:=12) (by decide) (aN (by decide) (by decide)) t0;obtain⟨f2,M2,a2,b2,t2,e2⟩:=bg (many:=3) (by decide) (aN (by decide) (by decide)) t1;obtain⟨f3,M3,a3,b3,t3,e3⟩:=bg (many:=3) (by decide) (aN (by decide) (by decide)) t2;obtain⟨f4,M4,a4,b4,t4,e4⟩:=bg (many:=6) (by decide) (aN (by decide) (by decide)) t3;obtain⟨f5,M5,a5,b5,t5,e5⟩:=bg (many:=51) (by decide) (aN (by decide) (by decide)) t4;obtain⟨f6,M6,a6,b6,t6,e6⟩:=bg (many:=4) (by decide) (aN (by decide) (by decide)) t5;obtain⟨aK,ht,em⟩:∃aK:Int,0≤aK∧aI (.lst [.int 0,.int pace,.int f1]) (.int f2) M2=.ok (.int aK) M2:=by
  have:f2=0∨f2=1∨f2=2:=by omega
  rcases this with q|q|q <;> rw[q]
  ·exact⟨0,by decide,rfl⟩
  ·exact⟨pace,by omega,rfl⟩
  ·exact⟨f1,a1,rfl⟩
 obtain⟨many,hmany,en⟩:∃n:Nat,n≤50∧aI (.lst [.int f4,.int f5]) (.int (f6 / 3)) M6=.ok (.int n) M6:=by
  have:f6 / 3=0∨f6 / 3=1:=by omega
  obtain⟨n1,rfl⟩:=Int.eq_ofNat_of_zero_le a4;obtain⟨n2,rfl⟩:=Int.eq_ofNat_of_zero_le a5;rcases this with q|q <;> rw[q]
  ·exact⟨n1,by omega,rfl⟩
  ·exact⟨n2,by omega,rfl⟩
 have eH:OC [some (.mr 0),some (aL w h g m),some s.d,some (.int pace),some (.int (h*(w+g))),some (.mr (rest.length+1)),none,none,none,none] (M++[.lst []])=.ok (.nx [some (.mr 0),some (aL w h g m),some s.d,some (.int pace),some (.int (h*(w+g))),some (.mr (rest.length+1)),some (.int aK),none,none,none]) M2:=by
  unfold OC;exact aT (av (d9 (ds:=[.int 0,.int pace,.int f1]) (aM rfl (aM rfl (aM (bp (a:=ae 0) (b:=gC (.int 12)) rfl rfl e1) rfl))) (by simp)) (bp (a:=ae 0) (b:=gC (.int 3)) rfl rfl e2) em)
 have eI:PF [some (.mr 0),some (aL w h g m),some s.d,some (.int pace),some (.int (h*(w+g))),some (.mr (rest.length+1)),some (.int aK),none,none,none] M2=.ok (.nx [some (.mr 0),some (aL w h g m),some s.d,some (.int pace),some (.int (h*(w+g))),some (.mr (rest.length+1)),some (.int aK),some (.bl (decide (f3=0))),none,none]) M3:=by
  unfold PF;exact aT (av (bp (a:=ae 0) (b:=gC (.int 3)) rfl rfl e3) (b:=gC (.int 0)) (y:=.int 0) rfl (nD f3 0 M3))
 have eN:P8 [some (.mr 0),some (aL w h g m),some s.d,some (.int pace),some (.int (h*(w+g))),some (.mr (rest.length+1)),some (.int aK),some (.bl (decide (f3=0))),none,none] M3=.ok (.int (many:Int)) M6:=by
  unfold P8;exact av (d9 (ds:=[.int f4,.int f5]) (aM (bp (a:=ae 0) (b:=gC (.int 6)) rfl rfl e4) (aM (bp (a:=ae 0) (b:=gC (.int 51)) rfl rfl e5) rfl)) (by simp)) (av (f:=e9) (bp (a:=ae 0) (b:=gC (.int 4)) rfl rfl e6) (b:=gC (.int 3)) (y:=.int 3) rfl (wt (by decide) (by decide) M6)) en
 generalize decide (f3=0)=early at *;obtain⟨ρ',M7,⟨td,tick',y8,y9,p1,p2,p3,p4,p5,p6,rfl⟩,ef⟩:=n6 (ds0:=bq 0 many) (s:=dM 8) (body:=eV)
  (W:=fun j ρ N=>∃(td:List (Int×Dd)) (tick':Int) (y8 y9:Option D),td.length≤j∧0≤tick'∧(∀q∈td,(0≤q.1∧q.1<h*(w+g))∧q.1≤tick')∧(td.map (·.1)).Pairwise (·≤·)∧(∀q∈td,iW s q.2)∧dU l (rest++[.lst (bD td)]) N∧ρ=[some (.mr 0),some (aL w h g m),some s.d,some (.int pace),some (.int (h*(w+g))),some (.mr (rest.length+1)),some (.int tick'),some (.bl early),y8,y9])
  (bq 0 many) 0 (fun j d hd ρ N hW=>by
   obtain⟨td,tick',y8,y9,p1,p2,p3,p4,p5,p6,rfl⟩:=hW;obtain⟨hj,hd'⟩:=zw hd;subst hd';obtain⟨td',tk2,M',z9,c1,c2,c3,c4⟩:=ET (x8:=some (.int (0+(j:Int)))) (x9:=y9) (early:=early) f ok hm hp p2 (by omega) p6;refine⟨_,_,M',rfl,c4,td',tk2,some (.int (0+(j:Int))),z9,?_,by omega,?_,?_,?_,c3,rfl⟩
   ·rcases c1 with⟨e,_⟩|⟨dd,e,_⟩
    ·rw[e];omega
    ·rw[e,length_append,length_singleton];omega
   ·rcases c1 with⟨e,_⟩|⟨dd,e,hlt,_⟩
    ·rw[e];exact fun q hq=>⟨(p3 q hq).1,by have:=(p3 q hq).2;omega⟩
    ·rw[e];intro q hq;rcases mem_append.mp hq with z|z
     ·exact⟨(p3 q z).1,by have:=(p3 q z).2;omega⟩
     ·rw[mem_singleton] at z;rw[z];exact⟨⟨p2,hlt⟩,c2⟩
   ·rcases c1 with⟨e,_⟩|⟨dd,e,_⟩
    ·rw[e];exact p4
    ·rw[e,map_append,pairwise_append];refine⟨p4,by simp,fun a ha b hb=>?_⟩;obtain⟨q,hq,rfl⟩:=mem_map.mp ha;rw[map_singleton,mem_singleton] at hb;rw[hb];exact(p3 q hq).2
   ·rcases c1 with⟨e,_⟩|⟨dd,e,_,dk⟩
    ·rw[e];exact p5
    ·rw[e];intro q hq;rcases mem_append.mp hq with z|z
     ·exact p5 q z
     ·rw[mem_singleton] at z;rw[z];exact dk) [some (.mr 0),some (aL w h g m),some s.d,some (.int pace),some (.int (h*(w+g))),some (.mr (rest.length+1)),some (.int aK),some (.bl early),none,none] M6
  ⟨[],aK,none,none,by simp,ht,(fun q hq=>by cases hq),List.Pairwise.nil,(fun q hq=>by cases hq),t6,rfl⟩
 rw[cy,Nat.zero_add] at p1;obtain⟨i7,c7,hi7,rfl⟩:=p6;refine⟨td,tp l i7 c7::rest,⟨fun q hq=>(p3 q hq).1,p4,p5,by omega⟩,by omega,⟨i7,c7,hi7,rfl⟩,?_⟩;have sf:=jM (t:=⟨bq 0 many,none⟩) (nj (n:=many) (aM (r:=ag) eN rfl) (by omega)) ef;show jV M.length (aP (g5 [some (.mr 0),some (aL w h g m),some s.d,some (.int pace),none,none,none,none,none,none] M))=_;rw[Ka,s4,s5,lM,ao eH,ao eI,ao sf];have pl:(bD td).all (aX 29)=true:=all_eq_true.mpr fun x hx=>by
  obtain⟨q,_,rfl⟩:=mem_map.mp hx;exact vV ⟨q.1,q.2,rfl⟩
 exact AR (M:=tp l i7 c7::rest) pl (AM pr)
noncomputable def OE:GS:=(aH 3 (aj 2 gU (aa (ae 1) (aa (g2 aI (dD (aa (gC (.int 6)) (aa (gC (.int 40)) ag))) (g2 e9 (aj 2 aw (aa (ae 1) (aa (gC (.int 4)) ag))) (gC (.int 3)))) ag))))
noncomputable def Ql:GS:=(aH 4 (aj 3 jd (aa (ae 1) (aa (ae 3) (aa (gC (.int 3)) ag)))))
noncomputable def Qp:GS:=(aH 5 (g2 a9 (gC (.int 1)) (aj 2 aw (aa (ae 1) (aa (gC (.int 8)) ag)))))
noncomputable def Qm:GS:=(aH 6 (aj 4 ju (aa (ae 1) (aa (ae 3) (aa (ae 4) (aa (ae 5) ag))))))
noncomputable def Qs:GS:=(aH 7 (aC gO (aa (ae 6) ag)))
noncomputable def Qx:GS:=(aH 8 (aj 3 kl (aa (ae 3) (aa (ae 7) (aa (ae 5) ag)))))
noncomputable def Qq:GS:=(aH 9 (aj 2 lU (aa (ae 6) (aa (ae 5) ag))))
noncomputable def PY:GT:=(cx (bI (cn (ej "tuple" (ae 8)))) (cx (az (g2 (aF true) (aC aV (aa (ae 8) ag)) (gC (.int 2)))) (cx (az (g2 (aF true) (g2 aI (ae 8) (gC (.int 0))) (g2 aI (ae 9) (gC (.int 0))))) (az (g2 (aF true) (ae 7) (ae 6))))))
noncomputable def Qh:GT:=(cx (az (g2 (aF true) (g2 aI (ae 8) (gC (.int 1))) (g2 aI (ae 9) (gC (.int 1))))) (cn (ej "bool" (g2 aI (ae 8) (gC (.int 1))))))
noncomputable def Qj:GT:=(cx (bI (cn (aj 2 gj (aa (ae 4) (aa (g2 aI (ae 8) (gC (.int 1))) ag))))) (az (g2 (aF true) (aC aV (aa (g2 aI (ae 8) (gC (.int 1))) ag)) (g2 aI (ae 9) (gC (.int 1))))))
noncomputable def Qu:GT:=(az (g2 (aF true) (br (bY (g2 aI (ae 8) (gC (.int 1)))) kF mD aZ) (dD ag)))
noncomputable def Qt:GT:=(az (g2 (aF true) (aj 3 kr (aa (ae 3) (aa (g2 aI (ae 8) (gC (.int 1))) (aa (ae 5) ag)))) (ae 6)))
noncomputable def Nx:GT:=(dL (az (g2 jo (g2 aI (ae 3) (gC (.int 0))) (gC (.int 9)))) (bI (cn (aj 5 eY (aa (ae 3) (aa (ae 4) (aa (g2 aI (ae 8) (gC (.int 1))) (aa (ae 5) (aa (ae 6) ag)))))))))
theorem NJ (ρ:cC)(M:aB):sU ρ M=(ar OE (ar Ql (ar Qp (ar Qm (ar Qs (ar Qx (ar Qq (ar (bL PY (aD (gC (.bl false))) aA) (bL (az (g2 (aF false) (g2 aI (ae 9) (gC (.int 0))) (gC (.str "late")))) (bL Qh (aD (gC (.bl false))) aA) (bL Qj (aD (gC (.bl false))) (bL Qu (aD (gC (.bl false))) (bL Qt (aD (gC (.bl false))) (bL Nx (aD (gC (.bl false))) aA))))))))))))) ρ M:=rfl
theorem NG {F:FD}{a b c d e:GE}{x y z u v:D}{o:bj D}(ha:a ρ M=.ok x M)(hb:b ρ M=.ok y M)(hc:c ρ M=.ok z M)(hd:d ρ M=.ok u M)(he:e ρ M=.ok v M)(h:F [x,y,z,u,v] M=o):aj 5 F (aa a (aa b (aa c (aa d (aa e ag))))) ρ M=o:=by
 unfold aj;rw[aM ha (aM hb (aM hc (aM hd (aM he rfl)))),aq];exact(if_pos (show [x,y,z,u,v].length=5 from rfl)).trans h
theorem FI (M:aB):aF false (.str "late") (.str "late") M=.ok (.bl true) M∧aF false (.str "score") (.str "late") M=.ok (.bl false) M∧aF true (.str "late") (.str "late") M=.ok (.bl false) M∧aF true (.str "score") (.str "score") M=.ok (.bl false) M:=by
 have a:PyData.strOk "late"=true:=by decide +kernel
 have b:PyData.strOk "score"=true:=by decide +kernel
 have c:(("late":Str)=="late")=true:=by decide +kernel
 have d:(("score":Str)=="late")=false:=by decide +kernel
 have e:(("score":Str)=="score")=true:=by decide +kernel
 have ca:aG 40 (.str "late")=true:=a;have cb:aG 40 (.str "score")=true:=b;exact⟨(iq a a M).trans (by rw[c]),(iq b a M).trans (by rw[d]),wa ca (mz _ _ ca) (fun _=>rfl) M,wa cb (mz _ _ cb) (fun _=>rfl) M⟩
theorem E3 {x0 x2 x3 x4 x5 x6 x7 x8 x9:Option D}(t0:dU ns rest M)(pr:rest.all m3=true) :
  ∃y3 y4 y5 y6 y7 y8 y9 M',dU ns rest M'∧sU [x0,some (.mr 0),x2,x3,x4,x5,x6,x7,x8,x9] M=.ok (.nx [x0,some (.mr 0),x2,y3,y4,y5,y6,y7,y8,y9]) M':=by
 obtain⟨f0,M0,a0,b0,t0',e0⟩:=bg (many:=4) (by decide) (aN (by decide) (by decide)) t0;obtain⟨most,m1,m2,em⟩:∃most:Int,1≤most∧most≤40∧∀N,aI (.lst [.int 6,.int 40]) (.int (f0 / 3)) N=.ok (.int most) N:=by
  have:f0 / 3=0∨f0 / 3=1:=by omega
  rcases this with q|q <;> rw[q]
  ·exact⟨6,by decide,by decide,fun _=>rfl⟩
  ·exact⟨40,by decide,by decide,fun _=>rfl⟩
 obtain⟨w,h,g,m,M1,kw,kh,kg,km,t1,e1⟩:=Cd m1 (by omega) t0';have fk:fD w h g m:=⟨⟨kw.1,by omega⟩,⟨kh.1,by omega⟩,kg,km⟩;obtain⟨s,M2,sk,t2,e2⟩:=DS (w:=w) (hh:=h) (more:=[.int g,.int m]) (mm:=3) ⟨by omega,by omega⟩ ⟨by omega,by omega⟩ (by decide) t1;obtain⟨f4,M3,a4,b4,t3,e3⟩:=bg (many:=8) (by decide) (aN (by decide) (by decide)) t2;obtain⟨td,M4,pk,tl,t4,e4⟩:=CO (pace:=1+f4) fk sk (by decide) ⟨by omega,by omega⟩ pr t3;have s0:OE [x0,some (.mr 0),x2,x3,x4,x5,x6,x7,x8,x9] M=.ok (.nx [x0,some (.mr 0),x2,some (aL w h g m),x4,x5,x6,x7,x8,x9]) M1:=by
  unfold OE;exact aT (bp (a:=ae 1) rfl (av (d9 rfl (by simp)) (av (f:=e9) (bp (a:=ae 1) (b:=gC (.int 4)) rfl rfl e0) (b:=gC (.int 3)) (y:=.int 3) rfl (wt (by decide) (by decide) M0)) (em _)) e1)
 have s1:Ql [x0,some (.mr 0),x2,some (aL w h g m),x4,x5,x6,x7,x8,x9] M1=.ok (.nx [x0,some (.mr 0),x2,some (aL w h g m),some s.d,x5,x6,x7,x8,x9]) M2:=aT (ce (a:=ae 1) (b:=ae 3) (c:=gC (.int 3)) rfl rfl rfl e2);have s2:Qp [x0,some (.mr 0),x2,some (aL w h g m),some s.d,x5,x6,x7,x8,x9] M2=.ok (.nx [x0,some (.mr 0),x2,some (aL w h g m),some s.d,some (.int (1+f4)),x6,x7,x8,x9]) M3:=aT (av (x:=.int 1) (y:=.int f4) rfl (bp (a:=ae 1) (b:=gC (.int 8)) rfl rfl e3) rfl);have s3:Qm [x0,some (.mr 0),x2,some (aL w h g m),some s.d,some (.int (1+f4)),x6,x7,x8,x9] M3=.ok (.nx [x0,some (.mr 0),x2,some (aL w h g m),some s.d,some (.int (1+f4)),some (.lst (bD td)),x7,x8,x9]) M4:=aT (xy (a:=ae 1) (b:=ae 3) (c:=ae 4) (d:=ae 5) rfl rfl rfl rfl e4);have s4:Qs [x0,some (.mr 0),x2,some (aL w h g m),some s.d,some (.int (1+f4)),some (.lst (bD td)),x7,x8,x9] M4=.ok (.nx [x0,some (.mr 0),x2,some (aL w h g m),some s.d,some (.int (1+f4)),some (.lst (bD td)),some (.lst (bD td)),x8,x9]) M4:=aT (gF (F:=gO) (a:=ae 6) (x:=.lst (bD td)) rfl rfl);have pM:M4.all m3=true:=by
  obtain⟨i,c,_,rfl⟩:=t4;exact AM pr
 have sM:il M4:=il.pure pM;have sf:=xk (pace:=1+f4) (M:=M4) fk (fun q hq=>(pk.rng q hq).2) tl sM;have dO:=IZ (p:=w+g) (pace:=1+f4) (M:=M4) tl;have s5:Qx [x0,some (.mr 0),x2,some (aL w h g m),some s.d,some (.int (1+f4)),some (.lst (bD td)),some (.lst (bD td)),x8,x9] M4=.ok (.nx [x0,some (.mr 0),x2,some (aL w h g m),some s.d,some (.int (1+f4)),some (.lst (bD td)),some (.lst (bD td)),some (xP (io (w+g) (1+f4) td 0 0 [])),x9]) M4:=aT (ce (a:=ae 3) (b:=ae 7) (c:=ae 5) rfl rfl rfl sf);have s6:Qq [x0,some (.mr 0),x2,some (aL w h g m),some s.d,some (.int (1+f4)),some (.lst (bD td)),some (.lst (bD td)),some (xP (io (w+g) (1+f4) td 0 0 [])),x9] M4=.ok (.nx [x0,some (.mr 0),x2,some (aL w h g m),some s.d,some (.int (1+f4)),some (.lst (bD td)),some (.lst (bD td)),some (xP (io (w+g) (1+f4) td 0 0 [])),some (oe (io (w+g) (1+f4) td 0 0 []))]) M4:=aT (bp (a:=ae 6) (b:=ae 5) rfl rfl dO);have ct:aG 40 (.lst (bD td))=true:=iB (n:=39) fun d hd=>by
  obtain⟨q,_,rfl⟩:=mem_map.mp hd;exact J9 ⟨q.1,q.2,rfl⟩
 have et:∀M,aF true (.lst (bD td)) (.lst (bD td)) M=.ok (.bl false) M:=fun M=>wa ct (mz _ _ ct) (fun _=>rfl) M
 obtain⟨l1,l2,l3,l4⟩:=FI M4;refine⟨some (aL w h g m),some s.d,some (.int (1+f4)),some (.lst (bD td)),some (.lst (bD td)),some (xP (io (w+g) (1+f4) td 0 0 [])),some (oe (io (w+g) (1+f4) td 0 0 [])),M4,t4,?_⟩;rw[NJ,ao s0,ao s1,ao s2,ao s3,ao s4,ao s5,ao s6];cases er:io (w+g) (1+f4) td 0 0 [] with
 | inl j=>
  have T:PY [x0,some (.mr 0),x2,some (aL w h g m),some s.d,some (.int (1+f4)),some (.lst (bD td)),some (.lst (bD td)),some (xP (.inl j)),some (oe (.inl j))] M4=.ok false M4:=
   bE (x:=false) (y:=false) rfl fun _=>bE (x:=false) (y:=false) (aE (av (x:=.int 2) (y:=.int 2) rfl rfl rfl)) fun _=>bE (x:=false) (y:=false) (aE (av (x:=.str "late") (y:=.str "late") rfl rfl l3)) fun _=>aE (av (x:=.lst (bD td)) (y:=.lst (bD td)) rfl rfl (et M4))
  have L:Qh [x0,some (.mr 0),x2,some (aL w h g m),some s.d,some (.int (1+f4)),some (.lst (bD td)),some (.lst (bD td)),some (xP (.inl j)),some (oe (.inl j))] M4=.ok false M4:=
   bE (x:=false) (y:=false) (aE (av (x:=.int j) (y:=.int j) rfl rfl ((nJ j j M4).trans (by rw[decide_eq_true rfl];rfl)))) fun _=>rfl
  have P:az (g2 (aF false) (g2 aI (ae 9) (gC (.int 0))) (gC (.str "late"))) [x0,some (.mr 0),x2,some (aL w h g m),some s.d,some (.int (1+f4)),some (.lst (bD td)),some (.lst (bD td)),some (xP (.inl j)),some (oe (.inl j))] M4=.ok true M4:=aE (av (x:=.str "late") (y:=.str "late") rfl rfl l1);rw[ao ((aS T).trans rfl),bK P,aS L];rfl
 | inr ls=>
  obtain⟨lw,ll⟩:=xL (s:=s) fk (by omega) er (Int.le_refl 0) (fun q hq=>⟨pk.rng q hq,pk.dd q hq⟩) (fun l hl=>by cases hl);have l100:ls.length≤100:=by simp at ll;omega
  have hd:due w h g (1+f4) ls=bD td:=by
   have:=AE (p:=w+g) (T:=h*(w+g)) (pace:=1+f4) (by omega) (by omega) td 0 0 [] [] 5000 er (fun q hq=>pk.rng q hq) (Int.le_refl 0) (by omega);exact this
  have hh:=Gp (s:=s) (M:=M4) fk (by omega:1≤1+f4) (fun l hl=>(lw l hl).ok (n:=ls.length)) (all_eq_true.mpr fun d hd=>vV (C3 d hd)) pM;rw[hd] at hh;have al:=CS (M:=M4) (by decide) fk sk pk (by omega:1≤1+f4) lw l100 hd sM;have T:PY [x0,some (.mr 0),x2,some (aL w h g m),some s.d,some (.int (1+f4)),some (.lst (bD td)),some (.lst (bD td)),some (xP (.inr ls)),some (oe (.inr ls))] M4=.ok false M4:=
   bE (x:=false) (y:=false) rfl fun _=>bE (x:=false) (y:=false) (aE (av (x:=.int 2) (y:=.int 2) rfl rfl rfl)) fun _=>bE (x:=false) (y:=false) (aE (av (x:=.str "score") (y:=.str "score") rfl rfl l4)) fun _=>aE (av (x:=.lst (bD td)) (y:=.lst (bD td)) rfl rfl (et M4))
  have P:az (g2 (aF false) (g2 aI (ae 9) (gC (.int 0))) (gC (.str "late"))) [x0,some (.mr 0),x2,some (aL w h g m),some s.d,some (.int (1+f4)),some (.lst (bD td)),some (.lst (bD td)),some (xP (.inr ls)),some (oe (.inr ls))] M4=.ok false M4:=aE (av (x:=.str "score") (y:=.str "late") rfl rfl l2);have f1:g2 aI (ae 8) (gC (.int 1)) [x0,some (.mr 0),x2,some (aL w h g m),some s.d,some (.int (1+f4)),some (.lst (bD td)),some (.lst (bD td)),some (xP (.inr ls)),some (oe (.inr ls))] M4=.ok (.lst (ls.map Ln.d)) M4:=rfl;have ln:aC aV (aa (g2 aI (ae 8) (gC (.int 1))) ag) [x0,some (.mr 0),x2,some (aL w h g m),some s.d,some (.int (1+f4)),some (.lst (bD td)),some (.lst (bD td)),some (xP (.inr ls)),some (oe (.inr ls))] M4=.ok (.int (ls.length:Int)) M4:=by
   refine gF f1 ?_;show bj.ok (D.int ((ls.map Ln.d).length:Int)) _=_;rw[length_map]
  have A:Qj [x0,some (.mr 0),x2,some (aL w h g m),some s.d,some (.int (1+f4)),some (.lst (bD td)),some (.lst (bD td)),some (xP (.inr ls)),some (oe (.inr ls))] M4=.ok false M4:=
   bE (x:=false) (y:=false) (bF (bM (bp (a:=ae 4) rfl f1 (xl lw l100)))) fun _=>aE (av (f:=aF true) ln (y:=.int (ls.length:Int)) rfl ((nJ _ _ M4).trans (by rw[decide_eq_true rfl];rfl)))
  have gi:bY (g2 aI (ae 8) (gC (.int 1))) [x0,some (.mr 0),x2,some (aL w h g m),some s.d,some (.int (1+f4)),some (.lst (bD td)),some (.lst (bD td)),some (xP (.inr ls)),some (oe (.inr ls))] M4=.ok ⟨ls.map Ln.d,none⟩ M4:=by
   unfold bY;rw[f1];rfl
  have B:Qu [x0,some (.mr 0),x2,some (aL w h g m),some s.d,some (.int (1+f4)),some (.lst (bD td)),some (.lst (bD td)),some (xP (.inr ls)),some (oe (.inr ls))] M4=.ok false M4:=aE (av (f:=aF true) (FJ lw gi) (d9 (ds:=[]) rfl (by decide)) rfl);have C:Qt [x0,some (.mr 0),x2,some (aL w h g m),some s.d,some (.int (1+f4)),some (.lst (bD td)),some (.lst (bD td)),some (xP (.inr ls)),some (oe (.inr ls))] M4=.ok false M4:=aE (av (f:=aF true) (ce (a:=ae 3) (c:=ae 5) rfl f1 rfl hh) (b:=ae 6) (y:=.lst (bD td)) rfl (et M4));have E:Nx [x0,some (.mr 0),x2,some (aL w h g m),some s.d,some (.int (1+f4)),some (.lst (bD td)),some (.lst (bD td)),some (xP (.inr ls)),some (oe (.inr ls))] M4=.ok false M4:=
   (cQ (y:=false) (aE (av (f:=jo) (a:=g2 aI (ae 3) (gC (.int 0))) (x:=.int w) (b:=gC (.int 9)) (y:=.int 9) rfl rfl rfl)) fun _=>bF (bM (NG (a:=ae 3) (b:=ae 4) (d:=ae 5) (e:=ae 6) rfl rfl f1 rfl rfl al))).trans (by rw[Bool.and_false])
  rw[ao ((aS T).trans rfl),aS P,aS A,aS B,aS C,aS E];rfl
theorem law_true (ns:List Int)(hl:ns.length≤63):∃M',AT [.ro (ns.map D.int)] []=.ok (.bl true) M':=by
 have go:∀(ds:List D) (M:aB) (x2 x3 x4 x5 x6 x7 x8 x9:Option D),dU ns [] M→∃y2 y3 y4 y5 y6 y7 y8 y9 M',eL ⟨bq 0 4,none⟩ (dM 2) sU ds [some (.ro (ns.map D.int)),some (.mr 0),x2,x3,x4,x5,x6,x7,x8,x9] M=.ok (.nx [some (.ro (ns.map D.int)),some (.mr 0),y2,y3,y4,y5,y6,y7,y8,y9]) M':=by
  intro ds
  induction ds with
  | nil=>intro M x2 x3 x4 x5 x6 x7 x8 x9 t;exact⟨_,_,_,_,_,_,_,_,M,rfl⟩
  | cons d ds ih=>
   intro M x2 x3 x4 x5 x6 x7 x8 x9 t;obtain⟨y3,y4,y5,y6,y7,y8,y9,M',t',e⟩:=E3 (x0:=some (.ro (ns.map D.int))) (x2:=some d) (x3:=x3) (x4:=x4) (x5:=x5) (x6:=x6) (x7:=x7) (x8:=x8) (x9:=x9) t rfl;obtain⟨z2,z3,z4,z5,z6,z7,z8,z9,M2,e2⟩:=ih M' (some d) y3 y4 y5 y6 y7 y8 y9 t';exact⟨z2,z3,z4,z5,z6,z7,z8,z9,M2,(oU rfl e).trans e2⟩
 obtain⟨y2,y3,y4,y5,y6,y7,y8,y9,M',ef⟩:=go (bq 0 4) [tp ns 0 0] none none none none none none none none ⟨0,0,by decide,rfl⟩;refine⟨M',?_⟩;show aP (Al [some (.ro (ns.map D.int)),none,none,none,none,none,none,none,none,none] [])=_;unfold Al;have l3:[D.lst (ns.map D.int),D.int 0,D.int 0].length≤sizeLine:=ba (by simp);have s1:∀b:GS,ar (aH 1 (iC (aa (aC gO (aa (ae 0) ag)) (aa (gC (.int 0)) (aa (gC (.int 0)) ag))))) b [some (.ro (ns.map D.int)),none,none,none,none,none,none,none,none,none] []=b [some (.ro (ns.map D.int)),some (.mr 0),none,none,none,none,none,none,none,none] [tp ns 0 0]:=fun b=>by
  refine ao (aT (d:=.mr 0) ?_);unfold iC;rw[aM (d:=.lst (ns.map D.int)) (M1:=[]) (ds:=[.int 0,.int 0]) (M2:=[]) rfl rfl,aq];unfold fq;rw[if_pos l3];rfl
 rw[s1,ao (jM (t:=⟨bq 0 4,none⟩) (nj (n:=4) (aM (d:=.int 4) rfl rfl) (by decide)) ef)];rfl
end K28
theorem PySem.Challenge.cw_glowrow_k28_scores_for_deeds_holds : PySem.Challenge.rw_glowrow_k28_scores_for_deeds.Holds :=
 K28.pre K28.law_true
